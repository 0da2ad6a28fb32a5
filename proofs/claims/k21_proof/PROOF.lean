import PyProof.Rows.All
import Wide.All
import OpenK.AllK
import Wide.FinOn
import Lean
import PyProof.EqAt
import PyProof.EqKinds
import PyProof.TupleCall
import PyProof.ExcAttrAll.ValueError
import PyProof.ZipIter
import PyProof.TupleIter
import PyProof.P3In
import PyProof.Rows.SeqMore2
import PyProof.FactsAll.tuple_3
import PyProof.FactsAll.list_3
import PyProof.Rows.Range3
import KE.KRevIter
import PyProof.Rows.FactsT2
import PySem.Builtin.Int.W1All
import PyProof.SetScanFacts
import PyProof.SetKind
import PyProof.DictKinds
import PyProof.DictStraight
import PyProof.Rows.SetFrom
import PyProof.CollectWalk
import PyProof.Seq
import PyProof.DictIter
import PyProof.Rows.Tup
import PyProof.FactsAll.set_1
import PyProof.FactsAll.set_2
import PyProof.Rows.SortWalk
import PyProof.ConsumeWalk
import PyProof.Rows.SumAny
import PySem.Syntax
import PySem.Eval
import PyProof.DictTable
import PyProof.ListRange
import PyProof.EnumMake
import PyProof.DictItems
import PyProof.DictItemsLoops
import PyProof.MeetsDict
import PyProof.DictWalks
import PyProof.RulesTry
import KE.KPairComp
import PySem.Challenge.RW_talkleast_k21_bits_papers
set_option Elab.async false
set_option linter.all false
set_option bootstrap.genMatcherCode false
set_option genSizeOfSpec false
set_option compiler.extract_closed false
set_option maxRecDepth 100000
set_option maxHeartbeats 4000000
section
open PySem PySem.Spec PyProof.Rows
abbrev b6:=@wpAny_bind
abbrev b9:=@Bool.and_eq_true
abbrev d5:=@List.length_map
abbrev d9:=@List.getElem?_set_ne
abbrev i6:=@List.mem_cons_of_mem
abbrev d4:=@wpAny_pure
abbrev j2:=@Heap.get?_push_of_some
abbrev e8:=@List.mem_cons
abbrev i8:=@List.mem_cons_self
abbrev d8:=@beq_iff_eq
abbrev f9:=@List.mem_map
abbrev b8:=@if_pos
abbrev p7:=@List.getElem?_eq_getElem
abbrev e9:=@Nat.le_refl
abbrev i7:=@Nat.le_trans
abbrev u5:=@List.getElem?_eq_some_iff
abbrev d7:=@if_neg
abbrev n9:=@List.getElem?_map
abbrev p8:=@Heap.get?_push_size
abbrev i9:=@Heap.lt_size
abbrev u7:=@Option.map_eq_some_iff
abbrev p9:=@List.length_append
abbrev j4:=@List.map_map
abbrev o9:=@List.size_toArray
abbrev t7:=@beq_eq_false_iff_ne
abbrev u4:=@Nat.lt_of_lt_of_le
abbrev t8:=@Bool.not_eq_true'
abbrev u8:=@List.mem_singleton
abbrev v9:=@Bool.false_ne_true
abbrev y9:=@List.mem_append_right
abbrev x3:=@Array.length_toList
abbrev z8:=@List.mem_append_left
abbrev o4:=@Nat.ne_of_lt
abbrev s9:=@List.mem_range
abbrev w6:=@List.length_range
abbrev D2:=@List.getD_eq_getElem?_getD
abbrev u9:=@List.mem_filter
abbrev v4:=@List.length_set
abbrev B7:=@List.getElem?_set_self
abbrev x9:=@Int.toNat_natCast
abbrev x4:=@List.length_cons
abbrev A2:=@decide_eq_true_eq
abbrev z9:=@List.map_append
abbrev B2:=@wpAny_newObj_type
abbrev A3:=@List.mem_append
abbrev y0:=@List.map_cons
abbrev B3:=@List.append_nil
abbrev F4:=@Array.getElem?_toList
abbrev D3:=@Nat.lt_succ_of_lt
abbrev D6:=@Int.natCast_nonneg
abbrev C6:=@Option.some.inj
abbrev C7:=@Bool.or_eq_true
abbrev B8:=@decide_eq_true
abbrev D7:=@List.lookup_cons
abbrev D4:=@decide_eq_false
abbrev F5:=@List.pairwise_cons
abbrev F6:=@decide_eq_true_iff
abbrev M1:=@List.getElem?_append_left
abbrev G5:=@List.map_congr_left
abbrev K7:=@Array.getElem?_eq_none
abbrev N5:=@List.getElem?_append_right
abbrev A7:=@Nat.zero_le
abbrev N6:=@Array.getElem?_eq_getElem
abbrev F7:=@wpAny_call_entry
abbrev K8:=@Bool.or_eq_false_iff
abbrev M2:=@List.contains_iff_mem
abbrev D8:=@List.any_cons
abbrev J3:=@List.append_assoc
abbrev B4:=@wpAny_mono
abbrev E9:=@wpAny_holding
abbrev J4:=@List.length_take
abbrev J7:=@Option.bind_some
abbrev J8:=@List.all_eq_true
abbrev M3:=@PySem.mem_of_lookup
abbrev N7:=@List.length_singleton
abbrev G6:=@Bool.false_and
abbrev J9:=@Option.map_some
abbrev N8:=@Nat.pow_le_pow_right
abbrev K0:=@Heap.size_push
abbrev N9:=@Bool.false_eq_true
abbrev O0:=@Nat.lt_of_le_of_lt
abbrev U4:=@wpAny_callSpecial?_slot
abbrev M4:=@List.any_eq_true
abbrev P8:=@List.replicate_succ
abbrev P9:=@Heap.SameBut.update
abbrev U5:=@List.getElem?_eq_none
abbrev w1y:=@List.exists_mem_of_length_pos
abbrev Y1:=@Option.isSome_iff_exists
abbrev Q0:=@wpAny_setField_rec
abbrev Y2:=@List.getElem?_replicate
abbrev O1:=@List.nodup_cons
abbrev w1D:=@Array.getD_eq_getD_getElem?
abbrev O3:=@Nat.two_pow_pos
abbrev Y3:=@Calls.callWith_builtin
abbrev Q2:=@List.length_drop
abbrev Y4:=@Heap.get?_update_self
abbrev Y5:=@List.mem_iff_getElem?
abbrev K9:=@sizeLine_eq
abbrev Q3:=@PySem.W.kia_one
abbrev U6:=@List.flatten_cons
abbrev O4:=@Nat.lt_irrefl
abbrev w1N:=@List.filter_cons_of_pos
abbrev w1O:=@List.length_eq_zero_iff
abbrev U7:=@Nat.lt_succ_self
abbrev w1Q:=@PyProof.Rows.callWith_type1
abbrev U8:=@codeAny_builtin
abbrev U9:=@Bool.eq_iff_iff
abbrev w1T:=@List.length_filter_le
abbrev Q4:=@wpAny_attempt
abbrev Q5:=@List.map_take
abbrev w1W:=@PySem.F.excBase_ValueError
abbrev Y6:=@wpAny_truthy_bool
abbrev Y7:=@wpAny_setState_of
abbrev Y8:=@bne_self_eq_false
abbrev Y9:=@Heap.get?_push_ne
abbrev w11:=@Around.under_plainId
abbrev Q6:=@Nat.ne_of_gt
abbrev w13:=@List.getElem?_take_of_lt
abbrev Q7:=@codeAny_mono
abbrev Z0:=@beq_self_eq_true
abbrev Q8:=@Nat.lt_or_ge
abbrev Z1:=@List.getElem_mem
abbrev Z2:=@wpAny_askSetting
abbrev Q9:=@List.any_map
abbrev Z3:=@List.filter_cons
abbrev w2b:=@wpAny_setEntries_of
abbrev w2c:=@List.getElem?_range
abbrev w2d:=@List.flatMap_append
abbrev w2e:=@List.map_eq_nil_iff
abbrev w2f:=@List.filter_cons_of_neg
abbrev w2g:=@PySem.F.plainAttrs_list
abbrev w2h:=@PySem.F.slot_dict_items
abbrev V1:=@Bool.true_and
abbrev Z4:=@List.range_succ
abbrev Z5:=@List.find?_cons
abbrev w2l:=@wpAny_typeNameOfWhole_itemiter
abbrev w2m:=@PySem.W.cellsFrom_some
abbrev w2n:=@Heap.get?_update_other
abbrev w2o:=@List.length_pos_of_mem
abbrev w2p:=@wpAny_typeNameOfWhole_keyiter
abbrev Z6:=@wpAny_fieldsOf
abbrev Z7:=@wpAny_setField
abbrev K1:=@Iff.rfl
abbrev w2t:=@Heap.get?_none_of_le
abbrev w2u:=@List.mem_of_getElem?
abbrev w2v:=@Calls.evalArgs_plain
abbrev w2w:=@wpAny_isInstance
abbrev w2x:=@Heap.size_update
abbrev w2y:=@List.not_mem_nil
abbrev w2z:=@Option.getD_some
abbrev w2A:=@List.flatMap_nil
abbrev Z8:=@List.cons.inj
abbrev V2:=@wpAny_field
abbrev w2D:=@PySem.W.hideAll_get
abbrev w2E:=@List.filterMap_cons
abbrev w2F:=@List.drop_succ_cons
abbrev w2G:=@wpAny_passesOwn
abbrev w2H:=@Nat.min_eq_left
abbrev w2I:=@Nat.ge_two_pow_of_testBit
abbrev w2J:=@List.mem_filterMap
abbrev w2K:=@wpAny_Call_Name_kw
abbrev w2L:=@Obj.data_mapFields
abbrev w2M:=@tupleKind_room_in1
abbrev Z9:=@Int.le_trans
abbrev w2O:=@Int.emod_lt_of_pos
abbrev w2P:=@List.drop_zero
abbrev w2Q:=@F.plain_set_update_loop
abbrev w2R:=@decide_eq_false_iff_not
abbrev w2S:=@wpAny_pyIter_slot
abbrev w2T:=@wpAny_dictEntries
abbrev w2U:=@List.flatMap_cons
abbrev w2V:=@List.pairwise_lt_range
abbrev w2W:=@Nat.lt_of_succ_lt_succ
abbrev w2X:=@wpAny_isOneOf_itemiter
abbrev w2Y:=@plainId_quiet
abbrev w2Z:=@wpAny_eqBool_int
abbrev w20:=@List.length_replicate
abbrev V3:=@eq_of_beq
abbrev w22:=@PyProof.Rows.slot_tuple_getitem
abbrev w23:=@Nat.le_of_lt
abbrev w24:=@wpAny_execs_nil
abbrev w25:=@List.foldl_cons
abbrev w26:=@List.nil_append
abbrev w27:=@codeAny_call_builtin
abbrev w28:=@List.pairwise_append
abbrev w29:=@wpAny_dictEpoch
abbrev w3a:=@bne_iff_ne
abbrev w3b:=@List.mem_of_mem_take
abbrev w3c:=@List.mem_of_mem_drop
abbrev w3d:=@Int.emod_nonneg
abbrev w3e:=@F.slot_dict_itemiterator_next
abbrev w3f:=@PySem.evalArgs_none
abbrev w3g:=@List.length_pos_iff
abbrev w3h:=@Bool.and_false
abbrev w3i:=@isSubtype_stop
abbrev w3j:=@F.slot_dict_keyiterator_next
abbrev w3k:=@Nat.mul_le_mul
abbrev w3l:=@Nat.add_le_add
abbrev w3m:=@Nat.le_succ
abbrev w3n:=@wpAny_of_eq
abbrev w3o:=@Calls.spliced_cons
abbrev w3p:=@Nat.eq_zero_or_pos
abbrev w3q:=@List.getElem?_drop
abbrev w3r:=@wpAny_letOwnedTupleGo_items
abbrev w3s:=@Int.lt_of_le_of_lt
abbrev w3t:=@Paired.length
abbrev w3u:=@Calls.Name_function_global
abbrev w3v:=@Int.fdiv_eq_ediv_of_nonneg
abbrev w3w:=@Bool.or_false
abbrev w3x:=@listUpdate_at
abbrev w3y:=@List.map_drop
abbrev w3z:=@Calls.spliced_nil
abbrev w3A:=@fits_of_scanBound
abbrev w3B:=@List.ext_getElem?
abbrev w3C:=@List.map_inj_left
abbrev w3D:=@wpAny_load
abbrev w3E:=@List.pairwise_iff_getElem
abbrev w3F:=@Calls.call_function_entry
abbrev w3G:=@size_push'
abbrev w3H:=@List.drop_eq_getElem_cons
abbrev w3I:=@PySem.F.args_dict_items_1
abbrev w3J:=@wpAny_typeOf
abbrev w3K:=@Nat.succ_mul
abbrev w3L:=@Nat.le_of_not_lt
abbrev w3M:=@wpAny_comprehension_free
abbrev w3N:=@PySem.F.slot_tuple_index
abbrev w3O:=@Nat.lt_trans
abbrev w3P:=@numAt_eq
abbrev w3Q:=@List.drop_length
abbrev w3R:=@PySem.F.entry_dict_items
abbrev w3S:=@decide_eq_decide
abbrev w3T:=@Nat.min_eq_right
abbrev w3U:=@wpAny_Call_method0_late
abbrev w3V:=@PySem.F.slot_list_index
abbrev w3W:=@F.entry_set_update_loop
abbrev w3X:=@List.pairwise_singleton
abbrev w3Y:=@PySem.F.plainAttrs_dict
abbrev w3Z:=@PySem.F.type_dict_items
abbrev w30:=@List.of_mem_zip
abbrev w31:=@wpAny_loadPart'
abbrev w32:=@pushCells_keeps
abbrev w33:=@List.length_nil
abbrev w34:=@wpAny_ite_split
abbrev w35:=@wpAny_pyNext_range_end
abbrev w36:=@wpAny_pyIter_rangeiter
abbrev w37:=@subscriptTail_builtinR
abbrev w38:=@wpAny_Call_method_late
abbrev w39:=@intItems_at
abbrev w4a:=@Prod.mk.inj
abbrev w4b:=@Nat.log2_lt
abbrev w4c:=@Int.le_refl
abbrev w4d:=@F.slot_dict_items_iter
abbrev w4e:=@List.length_eq_one_iff
abbrev w4f:=@Nat.add_mul
abbrev w4g:=@Nat.one_mul
abbrev w4h:=@List.take_of_length_le
abbrev w4i:=@wpAny_isTrue_Compare1
abbrev w4j:=@builtinLookup_eq_fast
abbrev w4k:=@isSubtype_type
abbrev w4l:=@Obj.isFreed_of_fields
abbrev w4m:=@List.nodup_nil
abbrev w4n:=@wpAny_notOrdered_dict
abbrev w4o:=@wpAny_isOneOf_keyiter
abbrev w4p:=@call_meets
abbrev w4q:=@or_false
abbrev w4r:=@wpAny_standAt
abbrev w4s:=@wpAny_newList
abbrev w4t:=@nums_intItems
abbrev w4u:=@Bool.false_or
abbrev w4v:=@seqIndex_neg
abbrev w4w:=@List.map_nil
abbrev w4x:=@listItems_at
end
noncomputable section
namespace L2
open PySem
section
def F8(s:Stmt):Arguments:=match s with
 | .FunctionDef _ a _ _ _ _ _ _ _ _=>a
 | _=>{posonlyargs:=[],args:=[],vararg:=none,kwonlyargs:=[],kw_defaults:=[],kwarg:=none,defaults:=[]}
def B9(s:Stmt):List Stmt:=match s with
 | .FunctionDef _ _ b _ _ _ _ _ _ _=>b
 | _=>[]
def o5(s:Stmt):Scope:=match s with
 | .FunctionDef _ _ _ _ _ _ sc _ _ _=>sc
 | _=>{kind:=.function,names:=[],isGenerator:=false,isCoroutine:=false}
end
end L2
namespace k21
open PySem PySem.W L2 PySem.Spec PyProof.Rows
section
def top(i:Nat):Stmt:=PySem.Challenge.pw_talkleast_k21_bits_papers.main.body.getD i (.Pass ⟨0,0,0,0⟩)
def fo(n:Str)(i:Nat)(dV pm:Value)(cd:Addr):Obj:=⟨.type "function",none,.func (fnOf n n (F8 (top i)) (B9 (top i)) (o5 (top i)) dV .none .none pm none (.ref cd) .none),#[]⟩
def en(P:Params)(s:Str)(t:Nat)(v:Value):DictEntry:=⟨PyData.keyHash P s,.str s t,v⟩
def co(n:Str)(t:Nat)(ln na fl:Int)(a b c d e:Value)(q:Int)(r:Nat):Obj:=⟨.type "code",none,.fields #[.str n t,.str n (t+1),.str "/claim/cut.py" (t+2),.int ln 0,.int na 0,.int 0 0,.int 0 0,.int fl 0,a,.bool true,.int 181 0,b,.none,c,d,e,.int q 0,.int ln 0,.str "/claim/cut.py" r],#[]⟩
def kK(P:Params):Frag:=[(2,⟨.none,none,.dict #[] 0,#[]⟩),
 (3,⟨.type "dict",none,.dict #[en P "__name__" 165 (.str "law_talkleast_k21_bits_papers" 406),en P "__doc__" 166 .none,en P "__package__" 167 .none,en P "__loader__" 168 (.builtin "__main__.__loader__#opaque"),en P "__spec__" 169 .none,en P "__annotations__" 170 (.ref 6),en P "__builtins__" 171 (.ref 4),en P "__file__" 173 (.str "/claim/cut.py" 172),en P "__cached__" 174 .none,en P "is_int" 197 (.ref 21),en P "TalkError" 217 (.ref 31),en P "NoTable" 233 (.ref 44),en P "NoCard" 249 (.ref 56),en P "TooGreat" 265 (.ref 68),en P "SMALL_LINES" 269 (.int 5 268),en P "flipped" 275 (.ref 75),en P "cut" 284 (.ref 82),en P "check_cards" 292 (.ref 89),en P "cards_in" 298 (.ref 94),en P "crossing" 304 (.ref 99),en P "row_kinds" 310 (.ref 104),en P "column_kinds" 317 (.ref 111),en P "trimmed" 324 (.ref 118),en P "is_small" 332 (.ref 125),en P "check_small" 339 (.ref 132),en P "words_in" 348 (.ref 139),en P "bits_paper" 357 (.ref 146),en P "paper" 363 (.ref 151),en P "bits_numbers" 370 (.ref 158),en P "joined_bits" 378 (.ref 165),en P "least_numbers" 384 (.ref 170),en P "splits" 390 (.ref 175),en P "halves" 396 (.ref 180),en P "least_bits" 405 (.ref 187),en P "_law_int" 414 (.ref 194),en P "_law_cell_at" 422 (.ref 201),en P "_law_stream" 433 (.ref 208),en P "_law_core" 439 (.ref 213),en P "_law_table" 445 (.ref 218),en P "_law_trimmed" 451 (.ref 223),en P "_law_power" 460 (.ref 230),en P "_law_halves" 466 (.ref 235),en P "_law_splits" 472 (.ref 240),en P "_law_one_word" 484 (.ref 247),en P "_law_known" 490 (.ref 252),en P "_law_great" 496 (.ref 257),en P "_law_refused" 506 (.ref 264),en P "_law_obeys" 512 (.ref 269),en P "law" 526 (.ref 276)] 49,#[]⟩),
 (20,co "is_int" 189 2 3 3 (.ref 15) (.ref 16) (.ref 17) (.ref 18) (.ref 19) 195 196),
 (21,fo "is_int" 1 .none (.str "talkleast.checks" 187) 20),
 (30,⟨.type "dict",none,.dict #[en P "__module__" 207 (.str "talkleast.errors" 198),en P "__firstlineno__" 211 (.int 5 210),en P "__static_attributes__" 212 (.ref 29),en P "__weakref__" 214 (.ref 32),en P "__doc__" 215 .none] 3,#[]⟩),
 (31,⟨.type "type",none,.cls ⟨"TalkError",[.type "ValueError"],[.ref 31,.type "ValueError",.type "Exception",.type "BaseException",.type "object"],30,"TalkError",true,[],[.ref 44,.ref 56,.ref 68],false,none,false⟩,#[some (.ref 22),none,some (.str "TalkError" 200),some (.str "TalkError" 208),some (.builtin "ValueError.__new__"),some (.bool true)]⟩),
 (32,⟨.type "getset_descriptor",none,.fields #[.str "__weakref__" 213,.ref 31,.builtin "ExceptionGroup.__weakref__",.none],#[]⟩),
 (43,⟨.type "dict",none,.dict #[en P "__module__" 225 (.str "talkleast.errors" 198),en P "__firstlineno__" 229 (.int 7 228),en P "__static_attributes__" 230 (.ref 42),en P "__doc__" 231 .none] 2,#[]⟩),
 (44,⟨.type "type",none,.cls ⟨"NoTable",[.ref 31],[.ref 44,.ref 31,.type "ValueError",.type "Exception",.type "BaseException",.type "object"],43,"NoTable",true,[],[],false,none,false⟩,#[some (.ref 35),none,some (.str "NoTable" 218),some (.str "NoTable" 226),some (.builtin "ValueError.__new__"),some (.bool true)]⟩),
 (55,⟨.type "dict",none,.dict #[en P "__module__" 241 (.str "talkleast.errors" 198),en P "__firstlineno__" 245 (.int 9 244),en P "__static_attributes__" 246 (.ref 54),en P "__doc__" 247 .none] 2,#[]⟩),
 (56,⟨.type "type",none,.cls ⟨"NoCard",[.ref 31],[.ref 56,.ref 31,.type "ValueError",.type "Exception",.type "BaseException",.type "object"],55,"NoCard",true,[],[],false,none,false⟩,#[some (.ref 47),none,some (.str "NoCard" 234),some (.str "NoCard" 242),some (.builtin "ValueError.__new__"),some (.bool true)]⟩),
 (67,⟨.type "dict",none,.dict #[en P "__module__" 257 (.str "talkleast.errors" 198),en P "__firstlineno__" 261 (.int 11 260),en P "__static_attributes__" 262 (.ref 66),en P "__doc__" 263 .none] 2,#[]⟩),
 (68,⟨.type "type",none,.cls ⟨"TooGreat",[.ref 31],[.ref 68,.ref 31,.type "ValueError",.type "Exception",.type "BaseException",.type "object"],67,"TooGreat",true,[],[],false,none,false⟩,#[some (.ref 59),none,some (.str "TooGreat" 250),some (.str "TooGreat" 258),some (.builtin "ValueError.__new__"),some (.bool true)]⟩),
 (74,co "flipped" 270 15 1 3 (.ref 71) (.ref 72) .none .none (.ref 73) 273 274),
 (75,fo "flipped" 9 .none (.str "talkleast.tables" 266) 74),
 (81,co "cut" 276 17 3 3 (.ref 76) (.ref 77) (.ref 78) (.ref 79) (.ref 80) 282 283),
 (82,fo "cut" 10 .none (.str "talkleast.tables" 266) 81),
 (88,co "check_cards" 285 21 2 3 (.ref 83) (.ref 84) (.ref 85) (.ref 86) (.ref 87) 290 291),
 (89,fo "check_cards" 11 .none (.str "talkleast.tables" 266) 88),
 (93,co "cards_in" 293 24 1 3 (.ref 90) (.ref 91) .none .none (.ref 92) 296 297),
 (94,fo "cards_in" 12 .none (.str "talkleast.tables" 266) 93),
 (98,co "crossing" 299 26 3 3 (.ref 95) (.ref 96) .none .none (.ref 97) 302 303),
 (99,fo "crossing" 13 .none (.str "talkleast.tables" 266) 98),
 (103,co "row_kinds" 305 28 1 3 (.ref 100) (.ref 101) .none .none (.ref 102) 308 309),
 (104,fo "row_kinds" 14 .none (.str "talkleast.tables" 266) 103),
 (110,co "column_kinds" 311 30 1 3 (.ref 105) (.ref 106) (.ref 107) (.ref 108) (.ref 109) 315 316),
 (111,fo "column_kinds" 15 .none (.str "talkleast.tables" 266) 110),
 (117,co "trimmed" 318 32 1 3 (.ref 112) (.ref 113) (.ref 114) (.ref 115) (.ref 116) 322 323),
 (118,fo "trimmed" 16 .none (.str "talkleast.tables" 266) 117),
 (124,co "is_small" 325 34 1 3 (.ref 119) (.ref 120) (.ref 121) (.ref 122) (.ref 123) 330 331),
 (125,fo "is_small" 17 .none (.str "talkleast.tables" 266) 124),
 (131,co "check_small" 333 37 1 3 (.ref 126) (.ref 127) (.ref 128) (.ref 129) (.ref 130) 337 338),
 (132,fo "check_small" 18 .none (.str "talkleast.tables" 266) 131),
 (138,co "words_in" 340 40 1 3 (.ref 133) (.ref 134) (.ref 135) (.ref 136) (.ref 137) 346 347),
 (139,fo "words_in" 19 .none (.str "talkleast.tables" 266) 138),
 (145,co "bits_paper" 351 46 1 3 (.ref 140) (.ref 141) (.ref 142) (.ref 143) (.ref 144) 355 356),
 (146,fo "bits_paper" 21 .none (.str "talkleast.parts" 349) 145),
 (150,co "paper" 358 48 1 3 (.ref 147) (.ref 148) .none .none (.ref 149) 361 362),
 (151,fo "paper" 22 .none (.str "talkleast.parts" 349) 150),
 (157,co "bits_numbers" 364 50 1 3 (.ref 152) (.ref 153) (.ref 154) (.ref 155) (.ref 156) 368 369),
 (158,fo "bits_numbers" 23 .none (.str "talkleast.parts" 349) 157),
 (164,co "joined_bits" 371 52 2 3 (.ref 159) (.ref 160) (.ref 161) (.ref 162) (.ref 163) 376 377),
 (165,fo "joined_bits" 24 .none (.str "talkleast.parts" 349) 164),
 (169,co "least_numbers" 379 54 3 3 (.ref 166) (.ref 167) .none .none (.ref 168) 382 383),
 (170,fo "least_numbers" 25 .none (.str "talkleast.parts" 349) 169),
 (174,co "splits" 385 66 2 3 (.ref 171) (.ref 172) .none .none (.ref 173) 388 389),
 (175,fo "splits" 26 .none (.str "talkleast.parts" 349) 174),
 (179,co "halves" 391 70 1 3 (.ref 176) (.ref 177) .none .none (.ref 178) 394 395),
 (180,fo "halves" 27 .none (.str "talkleast.parts" 349) 179),
 (186,co "least_bits" 399 73 1 3 (.ref 181) (.ref 182) (.ref 183) (.ref 184) (.ref 185) 403 404),
 (187,fo "least_bits" 29 .none (.str "talkleast.least" 397) 186),
 (193,co "_law_int" 408 76 1 3 (.ref 188) (.ref 189) (.ref 190) (.ref 191) (.ref 192) 412 413),
 (194,fo "_law_int" 31 .none (.str "law_talkleast_k21_bits_papers" 406) 193),
 (200,co "_law_cell_at" 415 78 2 3 (.ref 195) (.ref 196) (.ref 197) (.ref 198) (.ref 199) 420 421),
 (201,fo "_law_cell_at" 32 .none (.str "law_talkleast_k21_bits_papers" 406) 200),
 (207,co "_law_stream" 423 82 2 3 (.ref 202) (.ref 203) (.ref 204) (.ref 205) (.ref 206) 431 432),
 (208,fo "_law_stream" 33 .none (.str "law_talkleast_k21_bits_papers" 406) 207),
 (212,co "_law_core" 434 89 3 3 (.ref 209) (.ref 210) .none .none (.ref 211) 437 438),
 (213,fo "_law_core" 34 .none (.str "law_talkleast_k21_bits_papers" 406) 212),
 (217,co "_law_table" 440 105 2 3 (.ref 214) (.ref 215) .none .none (.ref 216) 443 444),
 (218,fo "_law_table" 35 .none (.str "law_talkleast_k21_bits_papers" 406) 217),
 (222,co "_law_trimmed" 446 117 1 3 (.ref 219) (.ref 220) .none .none (.ref 221) 449 450),
 (223,fo "_law_trimmed" 36 .none (.str "law_talkleast_k21_bits_papers" 406) 222),
 (229,co "_law_power" 452 122 1 3 (.ref 224) (.ref 225) (.ref 226) (.ref 227) (.ref 228) 458 459),
 (230,fo "_law_power" 37 .none (.str "law_talkleast_k21_bits_papers" 406) 229),
 (234,co "_law_halves" 461 127 1 3 (.ref 231) (.ref 232) .none .none (.ref 233) 464 465),
 (235,fo "_law_halves" 38 .none (.str "law_talkleast_k21_bits_papers" 406) 234),
 (239,co "_law_splits" 467 129 2 3 (.ref 236) (.ref 237) .none .none (.ref 238) 470 471),
 (240,fo "_law_splits" 39 .none (.str "law_talkleast_k21_bits_papers" 406) 239),
 (246,co "_law_one_word" 473 132 3 3 (.ref 241) (.ref 242) (.ref 243) (.ref 244) (.ref 245) 482 483),
 (247,fo "_law_one_word" 40 .none (.str "law_talkleast_k21_bits_papers" 406) 246),
 (251,co "_law_known" 485 139 2 3 (.ref 248) (.ref 249) .none .none (.ref 250) 488 489),
 (252,fo "_law_known" 41 .none (.str "law_talkleast_k21_bits_papers" 406) 251),
 (256,co "_law_great" 491 154 1 3 (.ref 253) (.ref 254) .none .none (.ref 255) 494 495),
 (257,fo "_law_great" 42 .none (.str "law_talkleast_k21_bits_papers" 406) 256),
 (263,co "_law_refused" 497 162 2 3 (.ref 258) (.ref 259) (.ref 260) (.ref 261) (.ref 262) 504 505),
 (264,fo "_law_refused" 43 .none (.str "law_talkleast_k21_bits_papers" 406) 263),
 (268,co "_law_obeys" 507 174 2 3 (.ref 265) (.ref 266) .none .none (.ref 267) 510 511),
 (269,fo "_law_obeys" 44 .none (.str "law_talkleast_k21_bits_papers" 406) 268),
 (275,co "law" 513 182 1 3 (.ref 270) (.ref 271) (.ref 272) (.ref 273) (.ref 274) 524 525),
 (276,fo "law" 45 .none (.str "law_talkleast_k21_bits_papers" 406) 275)]
def kA:List Addr:=[2,3,20,21,30,31,32,43,44,55,56,67,68,74,75,81,82,88,89,93,94,98,99,103,104,110,111,117,118,124,125,131,132,138,139,145,146,150,151,157,158,164,165,169,170,174,175,179,180,186,187,193,194,200,201,207,208,212,213,217,218,222,223,229,230,234,235,239,240,246,247,251,252,256,257,263,264,268,269,275,276]
theorem kE:∀P,kA=(kK P).map (·.1):=λ_=>by kernel_rfl
def kQ:Program:=view PySem.Challenge.pw_talkleast_k21_bits_papers [1,3,4,5,6,8,9,10,11,12,13,14,15,16,17,18,19,21,22,23,24,25,26,27,29,31,32,33,34,35,36,37,38,39,40,41,42,43,44,45]
def kL:List Str:=[]
set_option maxHeartbeats 0 in
theorem kLeft:LeftO PySem.Challenge.pw_talkleast_k21_bits_papers kQ kL (λs=>xlAt kQ [] s&&recOk (RowW.records (OpenRow.toRowW (OpenLaw.row PySem.Challenge.rw_talkleast_k21_bits_papers))) s) (kHook kK kA kE).obs (kHook kK kA kE).val 3898:=by
 intro w
 kernel_rfl
end
end k21
end
noncomputable section
namespace L2
open PySem PySem.Spec PyProof.Rows
section
abbrev Key:=Sum Int Str
def q9P:Key->Value->Bool
 | .inl k,v=>Value.isInt k v
 | .inr x,v=>Value.isStrOf x v
def keyH(w:World):Key->Int
 | .inl k=>hashInt k
 | .inr x=>hashStr w x
theorem O5:∀{k:Key} {v:Value},q9P k v=true->(∃i t,k=Sum.inl i/\v=Value.int i t)\/(∃x t,k=Sum.inr x/\v=Value.str x t)
 | .inl i,v,h=>by obtain⟨t,e⟩:=Value.isInt_shape (k:=i) (v:=v) h;exact .inl ⟨i,t,rfl,e⟩
 | .inr x,v,h=>by obtain⟨t,e⟩:=Value.isStrOf_shape (x:=x) (v:=v) h;exact .inr ⟨x,t,rfl,e⟩
theorem z0P(i:Int)(t:Tok):q9P (.inl i) (.int i t)=true:=by simp[q9P,Value.isInt]
theorem z1Q(x:Str)(t:Tok):q9P (.inr x) (.str x t)=true:=by simp[q9P,Value.isStrOf]
theorem z9o(a b:Int):decide ((Sum.inl a:Key)=Sum.inl b)=(a==b):=by
 by_cases e:a=b
 ·subst e;simp
 ·have h:¬(Sum.inl a:Key)=Sum.inl b:=λq=>e (Sum.inl.inj q);rw[D4 h];exact(t7.mpr e).symm
theorem z8E(a b:Str):decide ((Sum.inr a:Key)=Sum.inr b)=decide (a=b):=by
 by_cases e:a=b
 ·subst e;simp
 ·have h:¬(Sum.inr a:Key)=Sum.inr b:=λq=>e (Sum.inr.inj q);rw[D4 h,D4 e]
theorem z9s(a:Int)(b:Str):decide ((Sum.inl a:Key)=Sum.inr b)=false:=D4 (λq=>nomatch q)
theorem z9Y(a:Str)(b:Int):decide ((Sum.inr a:Key)=Sum.inl b)=false:=D4 (λq=>nomatch q)
def A8(prog:Program)(w:World):PySem.KeyKind prog w Key where
 is:=q9P
 hash:=keyH w
 inj:=λv a b ha hb=>by
  rcases O5 ha with⟨i,t,rfl,rfl⟩ | ⟨x,t,rfl,rfl⟩
  ·rcases O5 hb with⟨j,u,rfl,e⟩ | ⟨y,u,rfl,e⟩
   ·injection e with e1 _;rw[e1]
   ·exact nomatch e
  ·rcases O5 hb with⟨j,u,rfl,e⟩ | ⟨y,u,rfl,e⟩
   ·exact nomatch e
   ·injection e with e1 _;rw[e1]
 byValue:=λk v h=>by rcases O5 h with⟨i,t,rfl,rfl⟩ | ⟨x,t,rfl,rfl⟩<;>rfl
 pyHash:=λhv h=>by
  rcases O5 hv with⟨i,t,rfl,rfl⟩ | ⟨x,t,rfl,rfl⟩
  ·exact wpAny_pyHash_int h
  ·exact wpAny_pyHash_str h
 eqBool:=λhu hv h=>by
  rcases O5 hu with⟨i,t,rfl,rfl⟩ | ⟨x,t,rfl,rfl⟩
  ·rcases O5 hv with⟨j,u,rfl,rfl⟩ | ⟨y,u,rfl,rfl⟩
   ·rw[z9o]at h;exact w2Z h
   ·rw[z9s]at h;exact SeqAt.EqAt.int_str i t y u _ _ _ _ h
  ·rcases O5 hv with⟨j,u,rfl,rfl⟩ | ⟨y,u,rfl,rfl⟩
   ·rw[z9Y]at h;exact SeqAt.EqAt.str_int x t j u _ _ _ _ h
   ·rw[z8E]at h;exact wpAny_eqBool_str h
 «strs»:=λk x t v h=>by
  rcases O5 h with⟨i,u,rfl,e⟩ | ⟨y,u,rfl,e⟩
  ·exact nomatch e
  ·injection e with e1 _
   subst e1;cases v<;>rfl
theorem q8l(prog:Program)(w:World)(i:Int)(t:Tok):(A8 prog w).is (.inl i) (.int i t)=true:=z0P i t
theorem q8u(prog:Program)(w:World)(x:Str)(t:Tok):(A8 prog w).is (.inr x) (.str x t)=true:=z1Q x t
end
section
inductive V where
 | non | bl (b:Bool) | int (i:Int) | str (x:Str) | byt (b:Array UInt8) | flt (b:UInt64) | ref (a:Addr) | ty (n:String)
 deriving DecidableEq
def RelV:V->Value->Prop
 | .non,u=>u=Value.none
 | .bl b,u=>u=Value.bool b
 | .int i,u=>∃t,u=Value.int i t
 | .str x,u=>∃t,u=Value.str x t
 | .byt b,u=>∃t,u=Value.bytes b t
 | .flt b,u=>∃t,u=Value.float b t
 | .ref a,u=>u=Value.ref a
 | .ty n,u=>u=Value.type n
abbrev Vals:List V->List Value->Prop:=Paired RelV
theorem Vals.length(r:Vals xs us):xs.length=us.length:=w3t r
theorem Vals.get:∀{xs:List V} {us:List Value} {i:Nat} {x:V},Vals xs us->xs[i]? = some x->∃u,us[i]? = some u/\RelV x u
 | _,_,_,_,.nil,e=>by simp at e
 | _,_,0,_,.cons r _,e=>by simp at e;subst e;exact⟨_,rfl,r⟩
 | _,_,i+1,x,.cons _ t,e=>by obtain⟨u,h1,h2⟩:=Vals.get (i:=i) (x:=x) t (by simpa using e);exact⟨u,by simpa using h1,h2⟩
theorem Vals.set(r:RelV x u):∀{xs:List V} {us:List Value} (i:Nat),Vals xs us->Vals (xs.set i x) (us.set i u)
 | _,_,_,.nil=>.nil
 | _,_,0,.cons _ t=>.cons r t
 | _,_,i+1,.cons q t=>.cons q (Vals.set r i t)
theorem Vals.append:∀{xs ys:List V} {us ws:List Value},Vals xs us->Vals ys ws->Vals (xs++ys) (us++ws)
 | _,_,_,_,.nil,s=>s
 | _,_,_,_,.cons r t,s=>.cons r (Vals.append t s)
theorem Vals.take:∀{xs:List V} {us:List Value} (n:Nat),Vals xs us->Vals (xs.take n) (us.take n)
 | _,_,0,_=>.nil
 | _,_,_+1,.nil=>.nil
 | _,_,n+1,.cons r t=>.cons r (Vals.take n t)
theorem Vals.drop:∀{xs:List V} {us:List Value} (n:Nat),Vals xs us->Vals (xs.drop n) (us.drop n)
 | _,_,0,r=>r
 | _,_,_+1,.nil=>.nil
 | _,_,n+1,.cons _ t=>Vals.drop n t
def RelO:Option V->Option Value->Prop
 | some v,some u=>RelV v u
 | none,none=>True
 | _,_=>False
def KV{κ:Type}:List (κ×V)->List (κ×Value)->Prop:=Paired λ(p:κ×V) (q:κ×Value)=>p.1=q.1/\RelV p.2 q.2
def kV:Key->V
 | .inl i=>.int i
 | .inr x=>.str x
inductive HO where
 | lst (xs:List V)
 | tup (xs:List V)
 | dK (kvs:List (Key×V)) | dT (kvs:List (List Key×V))
 | set (S:Int->Bool) (n:Nat)
 | ins (C dx:Addr) (fs:List (Str×V))
 | own (x:Addr)
 | xd (fs:List (Str×V))
 | met (f x:Addr)
 | rng (lo hi:Int)
 | frz (o:Obj) (u:HO)
 | tbl (ps:Array Value)
 | ext (φ:Heap->Prop)
abbrev Hp:=Addr->Option HO
def upd(H:Hp)(a:Addr)(o:HO):Hp:=λb=>if b=a then some o else H b
theorem y6:upd H a o a=some o:=by unfold upd;rw[b8 rfl]
theorem j6(h:b≠a):upd H a o b=H b:=by unfold upd;rw[d7 h]
theorem y1m{H:Hp}{a b:Addr}{o u:HO}(h:H a=some o)(h':H b=some u)(d:o≠u):a≠b:=by
 intro e;subst e;rw[h]at h';exact d (C6 h')
theorem D9{H:Hp}{a b:Addr}{o:HO}(h:H a=some o)(h':H b=none):a≠b:=by
 intro e;subst e;rw[h]at h';cases h'
def O6(h:Heap)(a:Addr)(items:Array Value):Prop:=∃o,h.get? a=some o/\(o.cls=.type "tuple" /\ o.dict=none)/\∃n,o.data=.seq items n
theorem O6.tup{a items}(x:O6 h a items):IsTup h a items:=let ⟨o,ho,hc,r⟩:=x;⟨o,ho,hc.1,r⟩
theorem O6.lt{h:Heap}{a items}(x:O6 h a items):a<h.objs.size:=let ⟨_,ho,_⟩:=x;i9 ho
theorem O6.new(h:Heap)(items:Array Value):O6 (h.push {cls:=.type "tuple",data:=.seq items}) h.objs.size items:=⟨_,p8 _ rfl,⟨rfl,rfl⟩,_,rfl⟩
section
variable (P:Program) (w:World)
def n4(H:Hp)(h:Heap)(a:Addr):HO->Prop
 | .lst xs=>xs.length<=sizeLine/\∃(its:List Value) (n:Nat),Vals xs its/\h.get? a=some {cls:=.type "list",data:=.seq its.toArray n}
 | .tup xs=>xs.length<=sizeLine/\∃its:List Value,Vals xs its/\O6 h a its.toArray
 | .dK kvs=>kvs.length<=sizeLine/\(a==sysModules)=false/\∃vs,KV kvs vs/\h.DictOf (A8 P w) a vs
 | .dT kvs=>kvs.length<=sizeLine/\(a==sysModules)=false/\∃xs:List (List Key×Addr×Value),
   Paired (λ(p:List Key×V) (q:List Key×Addr×Value)=>p.1=q.1/\H q.2.1=some (.tup (p.1.map kV))/\RelV p.2 q.2.2) kvs xs /\
   ∃o es ep,h.get? a=some o/\o.ExactDict/\o.data=.dict es ep/\es.toList=xs.map (entryOfKey (tupleKind (A8 P w)))/\(xs.map (·.1)).Nodup
 | .set S n=>h.SetOf (intKind P w) a S n
 | .ins C dx fs=>H dx=some (.own a)/\fs.length<=1000/\dx≠a/\h.get? a=some (PySem.W.instObj C dx) /\
   ∃mA,h.Ns1 dx mA/\(∀f,RelO (fs.lookup f) (mA f))/\PySem.Within mA (fs.map (·.1))
 | .own _=>∃o,h.get? a=some o
 | .xd fs=>∃mA,h.Ns1 a mA/\∀f,RelO (fs.lookup f) (mA f)
 | .rng lo hi=>∃t u v,h.get? a=some {cls:=.type "range",data:=.fields #[.int lo t,.int hi u,.int 1 v]}
 | .frz o u=>h.get? a=some o/\n4 H h a u
 | .tbl ps=>h.get? a=some {cls:=.none,data:=.fields ps}
 | .met f x=>h.get? a=some (PySem.W.methodObj (.ref f) (.ref x))
 | .ext φ=>φ h/\(∃o,h.get? a=some o)/\∀h1 h2:Heap,φ h1->(∀o,h1.get? a=some o->h2.get? a=some o)->φ h2
def HOk(H:Hp)(h:Heap):Prop:=∀a o,H a=some o->n4 P w H h a o
end
section
variable {P:Program} {w:World} {H H':Hp} {h h':Heap} {a:Addr} {o:HO}
theorem n4.lt(x:n4 P w H h a o):a<h.objs.size:=by
 cases o with
 | lst xs=>obtain⟨_,_,_,_,e⟩:=x;exact i9 e
 | tup xs=>obtain⟨_,_,_,p⟩:=x;exact p.lt
 | dK kvs=>obtain⟨_,_,_,_,o,_,_,e,_⟩:=x;exact i9 e
 | dT kvs=>obtain⟨_,_,_,_,o,_,_,e,_⟩:=x;exact i9 e
 | set S n=>obtain⟨o,_,_,_,e,_⟩:=x;exact i9 e
 | ins C dx fs=>obtain⟨_,_,_,e,_⟩:=x;exact i9 e
 | own y=>obtain⟨_,e⟩:=x;exact i9 e
 | xd fs=>obtain⟨_,⟨_,_,_,e,_⟩,_⟩:=x;exact i9 e
 | rng lo hi=>obtain⟨_,_,_,e⟩:=x;exact i9 e
 | frz ob u=>obtain⟨e,_⟩:=x;exact i9 e
 | tbl ps=>exact i9 (show h.get? a=some _ from x)
 | met f y=>exact i9 (show h.get? a=some _ from x)
 | ext φ=>obtain⟨_,⟨_,e⟩,_⟩:=x;exact i9 e
theorem Paired.mapP:∀{l₁:List α} {l₂:List β},Paired F l₁ l₂->(∀a b,F a b->G a b)->Paired G l₁ l₂
 | _,_,.nil,_=>.nil
 | _,_,.cons r t,f=>.cons (f _ _ r) (Paired.mapP t f)
theorem n4.stay(x:n4 P w H h a o)(k:∀b u,(b=a\/H b=some (.own a))->h.get? b=some u->h'.get? b=some u)
  (ho:∀b,H b=some (.own a)->H' b=some (.own a)) (ht:∀b xs,H b=some (.tup xs)->H' b=some (.tup xs)):n4 P w H' h' a o:=by
 induction o with
 | lst xs=>obtain⟨z,its,n,r,e⟩:=x;exact⟨z,its,n,r,k _ _ (.inl rfl) e⟩
 | tup xs=>obtain⟨z,its,r,ob,e,c⟩:=x;exact⟨z,its,r,ob,k _ _ (.inl rfl) e,c⟩
 | dK kvs=>obtain⟨z,y,vs,r,ob,es,ep,e,c⟩:=x;exact⟨z,y,vs,r,ob,es,ep,k _ _ (.inl rfl) e,c⟩
 | dT kvs=>
  obtain⟨z,y,xs,r,ob,es,ep,e,c⟩:=x;exact⟨z,y,xs,Paired.mapP r λp q z=>⟨z.1,ht _ _ z.2.1,z.2.2⟩,ob,es,ep,k _ _ (.inl rfl) e,c⟩
 | set S n=>obtain⟨ob,es,ep,t,e,c⟩:=x;exact⟨ob,es,ep,t,k _ _ (.inl rfl) e,c⟩
 | ins C dx fs=>
  obtain⟨d,z,ne,e,mA,⟨od,es,ep,e2,c⟩,r⟩:=x;exact⟨ho _ d,z,ne,k _ _ (.inl rfl) e,mA,⟨od,es,ep,k _ _ (.inr d) e2,c⟩,r⟩
 | own y=>obtain⟨ob,e⟩:=x;exact⟨ob,k _ _ (.inl rfl) e⟩
 | xd fs=>obtain⟨mA,⟨od,es,ep,e,c⟩,r⟩:=x;exact⟨mA,⟨od,es,ep,k _ _ (.inl rfl) e,c⟩,r⟩
 | rng lo hi=>obtain⟨t,u,v,e⟩:=x;exact⟨t,u,v,k _ _ (.inl rfl) e⟩
 | frz ob u ih=>obtain⟨e,q⟩:=x;exact⟨k _ _ (.inl rfl) e,ih q⟩
 | tbl ps=>
  have e:h.get? a=some {cls:=.none,data:=.fields ps}:=x;show h'.get? a=some {cls:=.none,data:=.fields ps};exact k a _ (.inl rfl) e
 | met f y=>
  have e:h.get? a=some (PySem.W.methodObj (.ref f) (.ref y)):=x;show h'.get? a=some (PySem.W.methodObj (.ref f) (.ref y));exact k a _ (.inl rfl) e
 | ext φ=>obtain⟨p,⟨o,e⟩,st⟩:=x;exact⟨st _ _ p λo q=>k _ _ (.inl rfl) q,⟨o,k _ _ (.inl rfl) e⟩,st⟩
theorem HOk.lt(x:HOk P w H h)(e:H a=some o):a<h.objs.size:=(x a o e).lt
theorem HOk.fresh(x:HOk P w H h)(e:h.objs.size<=a):H a=none:=by
 cases q:H a with
 | none=>rfl
 | some u=>exact absurd (u4 (x.lt q) e) (O4 _)
theorem HOk.kept(x:HOk P w H h)(k:∀b u,h.get? b=some u->h'.get? b=some u):HOk P w H h':=λa o e=>
 (x a o e).stay (λb u _ q=>k b u q) (λ_ q=>q) λ_ _ q=>q
theorem HOk.laid(x:HOk P w H h)(k:∀b u,h.get? b=some u->h'.get? b=some u)(hp:h.objs.size<=a)(new:n4 P w (upd H a o) h' a o):HOk P w (upd H a o) h':=λb u e=>by
 have hn:=x.fresh hp;by_cases hb:b=a
 ·subst hb;rw[y6]at e;cases e;exact new
 ·rw[j6 hb]at e;exact(x b u e).stay (λc v _ q=>k c v q) (λc q=>by rw[j6 (D9 q hn)];exact q) λc xs q=>by rw[j6 (D9 q hn)];exact q
end
def Rd(H:Hp)(a:Addr)(u:HO):Prop:=H a=some u\/∃o,H a=some (.frz o u)
theorem Rd.ok(r:Rd H a u)(x:HOk P w H h):n4 P w H h a u:=by
 rcases r with r | ⟨o,r⟩
 ·exact x a u r
 ·obtain⟨_,q⟩:=x a _ r;exact q
def Mut:Option HO->Prop
 | some (.lst _)=>True
 | some (.dK _)=>True
 | some (.dT _)=>True
 | some (.set _ _)=>True
 | some (.ins _ _ _)=>True
 | some (.ext _)=>True
 | _=>False
section
variable {P:Program} {w:World} {H:Hp} {h h':Heap} {x e:Addr} {o':HO}
theorem HOk.write(ok:HOk P w H h)(mu:Mut (H x))(he:e=x\/H e=some (.own x))(k:∀b u,b≠e->h.get? b=some u->h'.get? b=some u)(heo:∃u,h'.get? e=some u)
  (new:n4 P w (upd H x o') h' x o'):HOk P w (upd H x o') h':=λb u q=>by
 have nown:∀c y,H c=some (.own y)->c≠x:=λc y r z=>by subst z;rw[r]at mu;exact mu
 have ntup:∀c xs,H c=some (.tup xs)->c≠x:=λc xs r z=>by subst z;rw[r]at mu;exact mu
 by_cases hb:b=x
 ·subst hb;rw[y6]at q;cases q;exact new
 ·rw[j6 hb]at q;by_cases hbe:b=e
  ·have q':H b=some (.own x):=by
    rcases he with z | z
    ·exact absurd (hbe.trans z) hb
    ·rw[hbe];exact z
   rw[q]at q';cases q';obtain⟨v,hv⟩:=heo;exact⟨v,by rw[hbe];exact hv⟩
  ·refine(ok b u q).stay (λc v hc r=>k c v ?_ r) (λc r=>by rw[j6 (nown c b r)];exact r) λc xs r=>by rw[j6 (ntup c xs r)];exact r
   rcases hc with rfl | hc
   ·exact hbe
   ·rintro rfl
    rcases he with z | z
    ·exact nown c b hc z
    ·rw[hc]at z;cases z;exact hb rfl
end
structure Un(fs ex:List Addr)(H H':Hp)(h h':Heap):Prop where
 keep:∀b o,h.get? b=some o->H b=none->b∉fs->b∉ex->h'.get? b=some o
 slot:∀b o,h.get? b=some o->H b=none->b∈fs->b∉ex->∃sl,h'.get? b=some {o with slots:=sl}
 free:∀b o,h.get? b=some o->H b=none->b∉ex->H' b=none
 there:∀b o,h.get? b=some o->b∉ex->∃o',h'.get? b=some o'
 tups:∀b xs,H b=some (.tup xs)->H' b=some (.tup xs)
 frzs:∀b o u,H b=some (.frz o u)->H' b=some (.frz o u)
 tbls:∀b ps,H b=some (.tbl ps)->∃more,H' b=some (.tbl (ps++more))
section
variable {fs fs' ex ex':List Addr} {H H1 H2:Hp} {h h1 h2 h':Heap} {a x e:Addr} {o:HO}
theorem Un.any(u:Un fs ex H H1 h h1)(q:h.get? b=some ob)(n:H b=none)(hx:b∉ex):∃sl,h1.get? b=some {ob with slots:=sl}:=by
 by_cases hb:b∈fs
 ·exact u.slot b ob q n hb hx
 ·exact⟨ob.slots,u.keep b ob q n hb hx⟩
theorem Un.kept(k:∀b u,h.get? b=some u->h'.get? b=some u):Un fs ex H H h h':=
 ⟨λb ob q _ _ _=>k b ob q,λb ob q _ _ _=>⟨ob.slots,k b ob q⟩,λ_ _ _ n _=>n,λb ob q _=>⟨ob,k b ob q⟩,λ_ _ q=>q,λ_ _ _ q=>q,λ_ ps q=>⟨#[],by rw[q];simp⟩⟩
theorem Un.refl:Un fs ex H H h h:=Un.kept λ_ _ q=>q
theorem Un.laid(k:∀b u,h.get? b=some u->h'.get? b=some u)(hp:h.objs.size<=a)(hn:H a=none):Un fs ex H (upd H a o) h h' where
 keep:=λb u q _ _ _=>k b u q
 slot:=λb u q _ _ _=>⟨u.slots,k b u q⟩
 free:=λb u q n _=>by rw[j6 (o4 (u4 (i9 q) hp))];exact n
 there:=λb u q _=>⟨u,k b u q⟩
 tups:=λb xs q=>by rw[j6 (D9 q hn)];exact q
 frzs:=λb u xs q=>by rw[j6 (D9 q hn)];exact q
 tbls:=λb ps q=>⟨#[],by rw[j6 (D9 q hn),q];simp⟩
theorem Un.write(mu:Mut (H x))(he:e=x\/H e=some (.own x))(k:∀b u,b≠e->h.get? b=some u->h'.get? b=some u)(heo:∃u,h'.get? e=some u):Un fs ex H (upd H x o) h h':=by
 have hx:∀b,H b=none->b≠x:=λb n z=>by subst z;rw[n]at mu;exact mu
 have hb:∀b,H b=none->b≠e:=λb n z=>by
  subst z;rcases he with r | r
  ·exact hx b n r
  ·rw[n]at r;cases r
 have hm:∀b u,H b=some u->¬Mut (some u)->b≠x:=λb u q nm z=>by subst z;rw[q]at mu;exact nm mu
 refine⟨λb u q n _ _=>k b u (hb b n) q,λb u q n _ _=>⟨u.slots,k b u (hb b n) q⟩,λb u q n _=>by rw[j6 (hx b n)];exact n,λb u q _=>?_,
  λb xs q=>by rw[j6 (hm b _ q λz=>z)];exact q,λb u xs q=>by rw[j6 (hm b _ q λz=>z)];exact q,λb ps q=>⟨#[],by rw[j6 (hm b _ q λz=>z),q];simp⟩⟩
 by_cases hbe:b=e
 ·subst hbe;exact heo
 ·exact⟨u,k b u hbe q⟩
end
def trk(h:Heap)(H:Hp):List Addr:=(List.range h.objs.size).filter λa=>(H a).isSome
def hidT(h:Heap)(H:Hp):Heap:=PySem.W.hideAll h (trk h H)
theorem z2g(h:Heap)(H:Hp):(hidT h H).objs.size=h.objs.size:=PySem.W.hideAll_size _ _
theorem z4n(e:h.get? b=some o)(n:H b=none):(hidT h H).get? b=some o:=
 w2D _ e λhm=>by have q:(H b).isSome=true:=(u9.mp hm).2;rw[n]at q;simp at q
theorem z7t(e:(hidT h H).get? b=some o):h.get? b=some o/\H b=none:=by
 have e':h.get? b=some o:=PySem.W.of_hideAll (trk h H) e;refine⟨e',?_⟩;cases q:H b with
 | none=>rfl
 | some x=>
  have hm:b∈trk h H:=u9.mpr ⟨s9.mpr (i9 e'),by simp[q]⟩;have z:(hidT h H).get? b=none:=PySem.W.hideAll_none (trk h H) hm;rw[z]at e;cases e
def z6e(g h:Heap)(L:Addr):List (Addr×Obj):=(List.range h.objs.size).filterMap λa=>if a=L\/(g.get? a).isSome=true then none else(h.get? a).map λo=>(a,o)
def rest(g h:Heap)(L d:Addr):List (Addr×Obj):=(z6e g h L).filter λp=>decide (p.1≠d)
end
section
structure Mod(K:PySem.W.Frag)(mg:Str->Option Value)(base:Heap):Prop where
 kin:K.In base
 glob:base.Ns mainGlobals mg
 blt:∃mb,base.Ns builtinsNs mb/\∀x:Str,x ≠ "__name__" -> mb x=bootBuiltins x
 nolimit:base.NoLimit
structure Cx where
 prog:Program
 w:World
 K:PySem.W.Frag
 mg:Str->Option Value
 base:Heap
 A:Around
 N:List Str
 s₀:Shared
 H₀:Hp
 env:Env
 outer:List Env
 stack:List Env
 ex:List Addr
 fn:Str->Bool
 calm:Bool
 pn:List (Addr×Obj)
 xe:Value->Shared->Prop
def frs(l:List Env):List Addr:=l.filterMap (·.frame)
abbrev Cx.fs(X:Cx):List Addr:=frs X.outer
def Vis(sc:Scope)(x:Str):Prop:=sc.names.lookup x=some .local\/sc.names.lookup x=some .cell\/sc.names.lookup x=some .free
def Loc(sc:Scope)(x:Str):Prop:=sc.names.lookup x=some .local\/sc.names.lookup x=some .cell
def Look(env:Env)(h:Heap)(m:Str->Option Value)(x:Str)(u:Value):Prop:=
 (env.kindOf x=some .local/\m x=some u)\/((env.kindOf x=some .cell\/env.kindOf x=some .free)/\∃c,env.cells.lookup x=some c/\h.IsCell c (some u))
structure Cx.Ok(X:Cx):Prop where
 mod:Mod X.K X.mg X.base
 kind:X.env.scope.kind=.function
 glob:X.env.globals=mainGlobals
 blt:X.env.builtins=builtinsNs
 above:X.s₀.heap.objs.size<=X.env.locals
 inj:∀x y c,X.env.cells.lookup x=some c->X.env.cells.lookup y=some c->x=y
 has:∀x,(X.env.kindOf x=some .cell\/X.env.kindOf x=some .free)->∃c,X.env.cells.lookup x=some c
 cab:∀x c,X.fn x=true->X.env.cells.lookup x=some c->X.s₀.heap.objs.size<=c
 hd:X.calm=true->X.A.handled=none
 frames:X.A.frames=some X.stack
 stk:X.stack=X.outer\/(X.stack=X.env::X.outer/\X.env.frame=some X.env.locals)
 exf:∀b∈X.ex,b≠X.env.locals/\∀x c,X.env.cells.lookup x=some c->c≠b
 bs:∀b o,X.base.get? b=some o->X.s₀.heap.get? b=some o/\X.H₀ b=none
 bsz:X.base.objs.size<=X.s₀.heap.objs.size
 noex:∀b o,X.base.get? b=some o->b∉X.ex
 exfs:∀b∈X.ex,b∉X.fs
 funs:X.s₀.heap.FunFrames X.base X.outer
 frf:∀b∈X.fs,X.H₀ b=none
structure Inv(X:Cx)(pins:List (Addr×Obj))(σ:List (Option V))(H:Hp)(s:Shared):Prop where
 ok:X.Ok
 os:s.os=X.s₀.os
 bare:AllBare s.gens
 base:Un X.fs X.ex X.H₀ H X.s₀.heap s.heap
 loc:∃m,s.heap.Ns X.env.locals m/\∀(i:Nat) (x:Str) (v:V),X.N[i]? = some x->σ[i]? = some (some v)->Vis X.env.scope x->∃u,RelV v u/\Look X.env s.heap m x u
 cell:∀x c,X.env.cells.lookup x=some c->∃v,s.heap.IsCell c v
 free:H X.env.locals=none
 freeC:∀x c,X.env.cells.lookup x=some c->H c=none
 pin:∀p∈X.pn++pins,s.heap.get? p.1=some p.2/\H p.1=none/\p.1≠X.env.locals/\p.1∉X.fs/\∀v,p.2.data ≠ .cell v
 hok:HOk X.prog X.w H s.heap
 len:σ.length=X.N.length
section
variable {X:Cx} {pins:List (Addr×Obj)} {σ:List (Option V)} {H H':Hp} {s:Shared} {h':Heap}
theorem Cx.Ok.nofr(ok:X.Ok)(e:X.base.get? b=some o):b∉X.fs:=λhb=>by
 have:=(ok.funs.mem hb).1;rw[e]at this;cases this
theorem Inv.bs(I:Inv X pins σ H s):∀b o,X.base.get? b=some o->s.heap.get? b=some o/\H b=none:=λb o e=>
 ⟨I.base.keep b o (I.ok.bs b o e).1 (I.ok.bs b o e).2 (I.ok.nofr e) (I.ok.noex b o e),I.base.free b o (I.ok.bs b o e).1 (I.ok.bs b o e).2 (I.ok.noex b o e)⟩
theorem Inv.bk(I:Inv X pins σ H s):∀b o,X.base.get? b=some o->s.heap.get? b=some o:=λb o e=>(I.bs b o e).1
theorem Inv.mod(I:Inv X pins σ H s):Mod X.K X.mg X.base:=I.ok.mod
theorem Inv.kIn(I:Inv X pins σ H s):X.K.In s.heap:=I.ok.mod.kin.keeps I.bk
theorem Inv.lt(I:Inv X pins σ H s):X.env.locals<s.heap.objs.size:=let ⟨_,hn,_⟩:=I.loc;hn.lt
theorem Inv.sz(I:Inv X pins σ H s):X.s₀.heap.objs.size<=s.heap.objs.size:=i7 I.ok.above (w23 I.lt)
theorem Inv.nofs(I:Inv X pins σ H s){a:Addr}(h:s.heap.objs.size<=a):a∉X.fs:=λhb=>by
 obtain⟨_,o,ho,_⟩:=I.ok.funs.mem hb
 exact absurd (u4 (i9 ho) (i7 I.sz h)) (O4 _)
theorem Inv.cne(I:Inv X pins σ H s):∀x c,X.env.cells.lookup x=some c->c≠X.env.locals:=λx c e z=>by
 obtain⟨v,o,ho,hd⟩:=I.cell x c e;obtain⟨m,⟨o',es,ep,ho',hd',_⟩,_⟩:=I.loc;rw[z,ho']at ho;cases ho;rw[hd']at hd;cases hd
theorem Inv.funs(I:Inv X pins σ H s):s.heap.FunFrames X.base X.outer:=by
 have all:∀(l:List Env),(∀b∈frs l,b∈X.fs)->X.s₀.heap.FunFrames X.base l->s.heap.FunFrames X.base l:=by
  intro l
  induction l with
  | nil=>intro _ _;trivial
  | cons env r ih=>
   intro hs hl;obtain⟨hk,⟨L,o,hf,hn,ho,hd⟩,hr⟩:=hl;have hL:L∈X.fs:=hs L (by unfold frs;rw[w2E,hf];exact i8);obtain⟨sl,e⟩:=I.base.slot L o ho (I.ok.frf L hL) hL λz=>I.ok.exfs L z hL
   exact⟨hk,⟨L,_,hf,hn,e,hd⟩,ih (λb hb=>hs b (by unfold frs;rw[w2E,hf];exact i6 _ hb)) hr⟩
 exact all X.outer (λ_ hb=>hb) I.ok.funs
theorem Inv.stack(I:Inv X pins σ H s):s.heap.FunFrames X.base X.stack:=by
 rcases I.ok.stk with e | ⟨e,hf⟩
 ·rw[e];exact I.funs
 ·rw[e];obtain⟨m,hn,_⟩:=I.loc;refine .cons (by rw[I.ok.kind];decide) hf hn ?_ I.funs
  exact w2t (i7 I.ok.bsz I.ok.above)
theorem Inv.stkSub(I:Inv X pins σ H s):∀b∈frs X.stack,b∈X.env.locals::X.fs:=λb hb=>by
 rcases I.ok.stk with e | ⟨e,hf⟩
 ·rw[e]at hb;exact i6 _ hb
 ·rw[e]at hb;unfold frs at hb;rw[w2E,hf]at hb;exact hb
theorem Inv.stkFree(I:Inv X pins σ H s):∀b∈frs X.stack,H b=none:=λb hb=>by
 rcases e8.mp (I.stkSub b hb)with e | hb
 ·rw[e];exact I.free
 ·obtain⟨_,o,ho,_⟩:=I.ok.funs.mem hb
  exact I.base.free b o ho (I.ok.frf b hb) λz=>I.ok.exfs b z hb
theorem Inv.step{g':Array GenState}{t':Nat}{d':Drawn}{ch:List Addr}(I:Inv X pins σ H s)
  (hch:∀b∈ch,(b∈X.ex\/X.s₀.heap.objs.size<=b)/\b≠X.env.locals/\(∀x c,X.env.cells.lookup x=some c->c≠b)/\∀p∈X.pn++pins,p.1≠b)
  (keep:∀b o,b≠X.env.locals->b∉X.fs->b∉ch->s.heap.get? b=some o->H b=none->h'.get? b=some o)
  (slot:∀b o,b≠X.env.locals->b∈X.fs->b∉ch->s.heap.get? b=some o->H b=none->∃sl,h'.get? b=some {o with slots:=sl}) (free:∀b o,b∉ch->s.heap.get? b=some o->H b=none->H' b=none)
  (there:∀b o,b∉ch->s.heap.get? b=some o->∃o',h'.get? b=some o')
  (tups:∀b xs,H b=some (.tup xs)->H' b=some (.tup xs)) (frzs:∀b o u,H b=some (.frz o u)->H' b=some (.frz o u)) (tbls:∀b ps,H b=some (.tbl ps)->∃more,H' b=some (.tbl (ps++more)))
  (ns:∀m,s.heap.Ns X.env.locals m->h'.Ns X.env.locals m) (hok:HOk X.prog X.w H' h') (hg:AllBare g') :
  Inv X pins σ H' {s with heap:=h',gens:=g',drawn:=d',toks:=t'}:=by
 have neL:∀b o,X.s₀.heap.get? b=some o->b≠X.env.locals:=λb o e=>o4 (u4 (i9 e) I.ok.above);have neC:∀b o,X.s₀.heap.get? b=some o->b∉X.ex->b∉ch:=λb o e hx hb=>by
  rcases(hch b hb).1 with z | z
  ·exact hx z
  ·exact absurd (u4 (i9 e) z) (O4 _)
 have cellK:∀x c,X.env.cells.lookup x=some c->∀v,s.heap.IsCell c v->h'.IsCell c v:=λx c e v ⟨o,ho,hd⟩=>by
  have nch:c∉ch:=λz=>(hch c z).2.2.1 x c e rfl;by_cases hc:c∈X.fs
  ·obtain⟨sl,q⟩:=slot c o (I.cne x c e) hc nch ho (I.freeC x c e);exact⟨_,q,hd⟩
  ·exact⟨o,keep c o (I.cne x c e) hc nch ho (I.freeC x c e),hd⟩
 refine⟨I.ok,I.os,hg,⟨λb o e n hb hx=>?_,λb o e n hb hx=>?_,λb o e n hx=>?_,λb o e hx=>?_,λb xs e=>tups b xs (I.base.tups b xs e),λb o xs e=>frzs b o xs (I.base.frzs b o xs e),λb ps e=>?_⟩,?_,λx c e=>?_,?_,λx c e=>?_,λp hp=>?_,hok,I.len⟩
 ·exact keep b o (neL b o e) hb (neC b o e hx) (I.base.keep b o e n hb hx) (I.base.free b o e n hx)
 ·obtain⟨sl,e1⟩:=I.base.slot b o e n hb hx;obtain⟨sl',e2⟩:=slot b _ (neL b o e) hb (neC b o e hx) e1 (I.base.free b o e n hx);exact⟨sl',e2⟩
 ·obtain⟨o',e1⟩:=I.base.there b o e hx;exact free b o' (neC b o e hx) e1 (I.base.free b o e n hx)
 ·obtain⟨o',e1⟩:=I.base.there b o e hx;exact there b o' (neC b o e hx) e1
 ·obtain⟨m1,e1⟩:=I.base.tbls b ps e;obtain⟨m2,e2⟩:=tbls b _ e1;exact⟨m1++m2,by rw[e2,Array.append_assoc]⟩
 ·obtain⟨m,hn,hl⟩:=I.loc;refine⟨m,ns m hn,λi x v e1 e2 e3=>?_⟩;obtain⟨u,r,l⟩:=hl i x v e1 e2 e3;refine⟨u,r,?_⟩;rcases l with l | ⟨k,c,e,z⟩
  ·exact .inl l
  ·exact .inr ⟨k,c,e,cellK x c e _ z⟩
 ·obtain⟨v,z⟩:=I.cell x c e;exact⟨v,cellK x c e v z⟩
 ·obtain⟨m,⟨o,_,_,ho,_⟩,_⟩:=I.loc;exact free _ o (λz=>(hch _ z).2.1 rfl) ho I.free
 ·obtain⟨v,o,ho,hd⟩:=I.cell x c e;exact free c o (λz=>(hch c z).2.2.1 x c e rfl) ho (I.freeC x c e)
 ·obtain⟨e,n,ne,nf,d⟩:=I.pin p hp;have nch:p.1∉ch:=λz=>(hch p.1 z).2.2.2 p hp rfl
  exact⟨keep p.1 p.2 ne nf nch e n,free p.1 p.2 nch e n,ne,nf,d⟩
theorem Inv.un(I:Inv X pins σ H s)(u:Un X.fs [] H H' s.heap h')(hok:HOk X.prog X.w H' h'):Inv X pins σ H' {s with heap:=h',toks:=t'}:=by
 obtain⟨m,⟨o,es,ep,ho,r⟩,_⟩:=id I.loc;obtain⟨sl,hL⟩:=u.any ho I.free (by simp);exact I.step (g':=s.gens) (d':=s.drawn) (ch:=[]) (λ_ z=>nomatch z) (λb o _ hb _ e n=>u.keep b o e n hb (by simp)) (λb o _ hb _ e n=>u.slot b o e n hb (by simp)) (λb o _ e n=>u.free b o e n (by simp)) (λb o _ e=>u.there b o e (by simp)) u.tups u.frzs u.tbls (λm' hm=>by
  obtain⟨o',es',ep',ho',r'⟩:=hm;rw[ho]at ho';cases ho';exact⟨_,es',ep',hL,r'⟩) hok I.bare
theorem Inv.call(I:Inv X pins σ H s)(u:Un (frs X.stack) ch H H' s.heap h')(hok:HOk X.prog X.w H' h')(hg:AllBare g')
  (hch:∀b∈ch,(b∈X.ex\/X.s₀.heap.objs.size<=b)/\b≠X.env.locals/\(∀x c,X.env.cells.lookup x=some c->c≠b)/\∀p∈X.pn++pins,p.1≠b) :
  Inv X pins σ H' {s with heap:=h',gens:=g',drawn:=d',toks:=t'}:=by
 obtain⟨m,⟨o,es,ep,ho,r⟩,_⟩:=id I.loc;obtain⟨sl,hL⟩:=u.any ho I.free λz=>(hch _ z).2.1 rfl
 exact I.step (ch:=ch) hch (λb o hL hb hc e n=>u.keep b o e n (λz=>(e8.mp (I.stkSub b z)).elim hL hb) hc) (λb o _ _ hc e n=>u.any e n hc) (λb o hc e n=>u.free b o e n hc) (λb o hc e=>u.there b o e hc) u.tups u.frzs u.tbls (λm' hm=>by
  obtain⟨o',es',ep',ho',r'⟩:=hm;rw[ho]at ho';cases ho';exact⟨_,es',ep',hL,r'⟩) hok hg
theorem Inv.turned(I:Inv X pins σ H s)(k:∀b o,b≠it->s.heap.get? b=some o->h'.get? b=some o)(hn:H it=none)(hL:it≠X.env.locals)
  (h1:it∈X.ex\/X.s₀.heap.objs.size<=it) (h2:∀x c,X.env.cells.lookup x=some c->c≠it) (h3:∀p∈X.pn++pins,p.1≠it):Inv X pins σ H {s with heap:=h',toks:=t'}:=by
 have nit:∀b u,H b=some u->b≠it:=λb u e z=>by rw[z,hn]at e;cases e
 refine I.step (g':=s.gens) (d':=s.drawn) (ch:=[it]) (λb hb=>?_) (λb o _ _ hc e _=>k b o (λz=>hc (by simp[z])) e) (λb o _ _ hc e _=>⟨o.slots,k b o (λz=>hc (by simp[z])) e⟩) (λ_ _ _ _ n=>n)
  (λb o hc e=>⟨o,k b o (λz=>hc (by simp[z])) e⟩) (λ_ _ e=>e) (λ_ _ _ e=>e) (λb ps e=>⟨#[],by rw[e];simp⟩) (λm hm=>?_) (λb u e=>?_) I.bare
 ·have e:b=it:=by simpa using hb
  subst e;exact⟨h1,hL,h2,h3⟩
 ·obtain⟨o,es,ep,ho,r⟩:=hm;exact⟨o,es,ep,k _ o (Ne.symm hL) ho,r⟩
 ·refine(I.hok b u e).stay (λc v hc q=>k c v ?_ q) (λ_ q=>q) λ_ _ q=>q;rcases hc with z | z
  ·rw[z];exact nit b u e
  ·exact nit c _ z
theorem Inv.tok(I:Inv X pins σ H s)(t:Nat):Inv X pins σ H {s with toks:=t}:=I.un (h':=s.heap) (t':=t) Un.refl I.hok
theorem Inv.kept(I:Inv X pins σ H s)(k:∀b u,s.heap.get? b=some u->h'.get? b=some u):Inv X pins σ H {s with heap:=h',toks:=t'}:=I.un (Un.kept k) (I.hok.kept k)
theorem Inv.laid{a:Addr}(I:Inv X pins σ H s)(k:∀b u,s.heap.get? b=some u->h'.get? b=some u)(hp:s.heap.objs.size<=a)(new:n4 X.prog X.w (upd H a o) h' a o) :
  Inv X pins σ (upd H a o) {s with heap:=h',toks:=t'}:=I.un (Un.laid k hp (I.hok.fresh hp)) (I.hok.laid k hp new)
theorem Inv.write(I:Inv X pins σ H s)(mu:Mut (H x))(he:e=x\/H e=some (.own x))(k:∀b u,b≠e->s.heap.get? b=some u->h'.get? b=some u)(heo:∃u,h'.get? e=some u)
  (new:n4 X.prog X.w (upd H x o) h' x o):Inv X pins σ (upd H x o) {s with heap:=h',toks:=t'}:=I.un (Un.write mu he k heo) (I.hok.write mu he k heo new)
theorem Inv.pins_of(I:Inv X pins σ H s)(h:∀p∈pins',s.heap.get? p.1=some p.2/\H p.1=none/\p.1≠X.env.locals/\p.1∉X.fs/\∀v,p.2.data ≠ .cell v):Inv X pins' σ H s:=
 ⟨I.ok,I.os,I.bare,I.base,I.loc,I.cell,I.free,I.freeC,λp hp=>(A3.mp hp).elim (λz=>I.pin p (z8 _ z)) (h p),I.hok,I.len⟩
theorem q4E{N:List Str}(hN:N.Nodup){i j:Nat}{x:Str}(a:N[i]? = some x)(b:N[j]? = some x):i=j:=by
 obtain⟨h1,e1⟩:=u5.mp a;obtain⟨h2,e2⟩:=u5.mp b;exact(List.getElem_inj hN).mp (e1.trans e2.symm)
theorem q7p(I:Inv X pins σ H s)(hN:X.N.Nodup)(hi:X.N[i]? = some x)(hx:Loc X.env.scope x)(r:RelV v u)
  (h:∀s',Inv X pins (σ.set i (some v)) H s'->(∃a,Heap.SameBut a s.heap s'.heap/\(a=X.env.locals\/X.env.cells.lookup x=some a))->Q () s') (hf:X.fn x=true\/X.env.scope.names.lookup x=some .local:=by first | exact .inl rfl | exact .inr rfl | assumption):wpAny M A (storeName X.env x u) Q E s:=by
 obtain⟨m,hn,hl⟩:=id I.loc;have hcls:(X.env.scope.kind == .class||(X.env.scope.kind == .module&&X.env.locals != X.env.globals))=false:=by rw[I.ok.kind];rfl
 have hiσ:i<σ.length:=by rw[I.len];exact(u5.mp hi).1
 have cne:=I.cne;have tracked:∀{a:Addr} {h':Heap},(∃o,s.heap.get? a=some o/\H a=none)->Heap.SameBut a s.heap h'->HOk X.prog X.w H h':=λ{a h'} ha hs b ob e=>by
  obtain⟨_,_,hfree⟩:=ha;refine(I.hok b ob e).stay (λc w' hc q=>(hs.2 c ?_).trans q) (λ_ q=>q) λ_ _ q=>q
  rintro rfl
  rcases hc with rfl | hc
  ·rw[hfree]at e;cases e
  ·rw[hfree]at hc;cases hc
 rcases hx with hk | hk
 ·refine wpAny_storeName_local hk hn (λh' hn' hs=>?_) hcls;obtain⟨oL,_,_,hoL,_⟩:=id hn;refine h _ ⟨I.ok,I.os,I.bare,⟨λb o e n hb hx=>?_,λb o e n hb hx=>?_,I.base.free,λb o e hx=>?_,I.base.tups,I.base.frzs,I.base.tbls⟩,⟨_,hn',λj y v' e1 e2 e3=>?_⟩,λy c e=>?_,I.free,I.freeC,λp hp=>?_,tracked ⟨oL,hoL,I.free⟩ hs,by simpa using I.len⟩ ⟨_,hs,.inl rfl⟩
  ·exact(hs.2 b (o4 (u4 (i9 e) I.ok.above))).trans (I.base.keep b o e n hb hx)
  ·obtain⟨sl,e1⟩:=I.base.slot b o e n hb hx;exact⟨sl,(hs.2 b (o4 (u4 (i9 e) I.ok.above))).trans e1⟩
  ·obtain⟨o',e1⟩:=I.base.there b o e hx;exact⟨o',(hs.2 b (o4 (u4 (i9 e) I.ok.above))).trans e1⟩
  ·by_cases hj:j=i
   ·subst hj;rw[hi]at e1;cases e1;rw[B7 hiσ]at e2;cases e2;exact⟨u,r,.inl ⟨hk,by simp⟩⟩
   ·rw[d9 (Ne.symm hj)]at e2;obtain⟨u',r',q⟩:=hl j y v' e1 e2 e3;refine⟨u',r',?_⟩;rcases q with⟨k,e⟩ | ⟨k,c,e,z⟩
    ·refine .inl ⟨k,?_⟩;have:y≠x:=λe=>hj (q4E hN e1 (e▸hi));simp[this,e]
    ·exact .inr ⟨k,c,e,z.sameBut hs (cne y c e)⟩
  ·obtain⟨w',z⟩:=I.cell y c e;exact⟨w',z.sameBut hs (cne y c e)⟩
  ·obtain⟨e,n,ne,nf,d⟩:=I.pin p hp;exact⟨(hs.2 p.1 ne).trans e,n,ne,nf,d⟩
 ·have hfn:X.fn x=true:=by
   rcases hf with z | z
   ·exact z
   ·rw[z]at hk;cases hk
  obtain⟨c,hc⟩:=I.ok.has x (.inl hk);obtain⟨w',z⟩:=I.cell x c hc;refine wpAny_storeName_cell I.ok.kind hk hc z (λh' hc' hs=>?_);obtain⟨oc,hoc,hocd⟩:=id z;refine h {s with heap:=h'} ⟨I.ok,I.os,I.bare,⟨λb o e n hb hx=>?_,λb o e n hb hx=>?_,I.base.free,λb o e hx=>?_,I.base.tups,I.base.frzs,I.base.tbls⟩,⟨m,hn.sameBut hs (Ne.symm (cne x c hc)),λj y v' e1 e2 e3=>?_⟩,λy c' e=>?_,I.free,I.freeC,λp hp=>?_,tracked ⟨oc,hoc,I.freeC x c hc⟩ hs,by simpa using I.len⟩ ⟨c,hs,.inr hc⟩
  ·exact(hs.2 b (o4 (u4 (i9 e) (I.ok.cab x c hfn hc)))).trans (I.base.keep b o e n hb hx)
  ·obtain⟨sl,e1⟩:=I.base.slot b o e n hb hx;exact⟨sl,(hs.2 b (o4 (u4 (i9 e) (I.ok.cab x c hfn hc)))).trans e1⟩
  ·obtain⟨o',e1⟩:=I.base.there b o e hx;exact⟨o',(hs.2 b (o4 (u4 (i9 e) (I.ok.cab x c hfn hc)))).trans e1⟩
  ·by_cases hj:j=i
   ·subst hj;rw[hi]at e1;cases e1;rw[B7 hiσ]at e2;cases e2;exact⟨u,r,.inr ⟨.inl hk,c,hc,hc'⟩⟩
   ·rw[d9 (Ne.symm hj)]at e2;obtain⟨u',r',q⟩:=hl j y v' e1 e2 e3;refine⟨u',r',?_⟩;rcases q with q | ⟨k,c',e,z'⟩
    ·exact .inl q
    ·refine .inr ⟨k,c',e,z'.sameBut hs ?_⟩
     rintro rfl
     exact hj (q4E hN e1 (I.ok.inj _ _ _ e hc▸hi))
  ·by_cases hcc:c'=c
   ·subst hcc;exact⟨_,hc'⟩
   ·obtain⟨w2,z2⟩:=I.cell y c' e;exact⟨w2,z2.sameBut hs hcc⟩
  ·obtain⟨e,n,ne,nf,d⟩:=I.pin p hp;refine⟨(hs.2 p.1 ?_).trans e,n,ne,nf,d⟩;intro q;rw[q,hoc]at e;have q':oc=p.2:=C6 e;exact d w' (by rw[←q'];exact hocd)
theorem q6o(I:Inv X pins σ H s)(hN:X.N.Nodup)(hi:X.N[i]? = some x)(hx:Loc X.env.scope x)(r:RelV v u)
  (h:∀s',Inv X pins (σ.set i (some v)) H s'->Q () s') (hf:X.fn x=true\/X.env.scope.names.lookup x=some .local:=by first | exact .inl rfl | exact .inr rfl | assumption):wpAny M A (storeName X.env x u) Q E s:=
 q7p I hN hi hx r (λs' I' _=>h s' I') hf
theorem Inv.call'(I:Inv X pins σ H s)(ho:s'.os=s.os)(u:Un (frs X.stack) ch H H' s.heap s'.heap)(hok:HOk X.prog X.w H' s'.heap)(hg:AllBare s'.gens)
  (hch:∀b∈ch,(b∈X.ex\/X.s₀.heap.objs.size<=b)/\b≠X.env.locals/\(∀x c,X.env.cells.lookup x=some c->c≠b)/\∀p∈X.pn++pins,p.1≠b):Inv X pins σ H' s':=by
 obtain⟨h',g',d',t',o'⟩:=s';have e:o'=s.os:=ho;subst e;exact I.call (g':=g') (t':=t') (d':=d') u hok hg hch
end
abbrev XK:=Value->Option Addr->Hp->Prop
abbrev St:=List (Option V)
abbrev VK:=V->Hp->Prop
abbrev TE:=St->Hp->VK->Prop
abbrev TT:=St->Hp->(Bool->Hp->Prop)->Prop
abbrev TA:=St->Hp->(List V->Hp->Prop)->Prop
structure Ends where
 nx:St->Hp->Prop
 rt:VK
 bk:St->Hp->Prop:=λ_ _=>False
 ct:St->Hp->Prop:=λ_ _=>False
abbrev TS:=Ends->St->Hp->Prop
def EP(X:Cx)(pins:List (Addr×Obj))(σ:St)(Q:VK)(u:Value)(s':Shared):Prop:=∃v H',Inv X pins σ H' s'/\RelV v u/\Q v H'
def TP(X:Cx)(pins:List (Addr×Obj))(σ:St)(Q:Bool->Hp->Prop)(b:Bool)(s':Shared):Prop:=∃H',Inv X pins σ H' s'/\Q b H'
def AP(X:Cx)(pins:List (Addr×Obj))(σ:St)(Q:List V->Hp->Prop)(us:List Value)(s':Shared):Prop:=∃vs H',Inv X pins σ H' s'/\Vals vs us/\Q vs H'
def SP(X:Cx)(pins:List (Addr×Obj))(D:Ends)(f:Flow)(s':Shared):Prop:=
 match f with
 | .next=>∃σ' H',Inv X pins σ' H' s'/\D.nx σ' H'
 | .brk=>∃σ' H',Inv X pins σ' H' s'/\D.bk σ' H'
 | .cont=>∃σ' H',Inv X pins σ' H' s'/\D.ct σ' H'
 | .ret u=>∃v σ' H',Inv X pins σ' H' s'/\RelV v u/\D.rt v H'
def PE(X:Cx)(e:Expr)(t:TE):Prop:=
 ∀(pins:List (Addr×Obj)) (s:Shared) (σ:St) (H:Hp) (Q:VK),Inv X pins σ H s->t σ H Q->wpAny (model X.prog X.w) X.A (eval e X.env) (EP X pins σ Q) X.xe s
def PT(X:Cx)(e:Expr)(t:TT):Prop:=
 ∀(pins:List (Addr×Obj)) (s:Shared) (σ:St) (H:Hp) (Q:Bool->Hp->Prop),Inv X pins σ H s->t σ H Q->wpAny (model X.prog X.w) X.A (isTrue e X.env (eval e X.env)) (TP X pins σ Q) X.xe s
def PW(X:Cx)(e:Expr)(t:TT):Prop:=
 ∀(whole:Sem Value) (pins:List (Addr×Obj)) (s:Shared) (σ:St) (H:Hp) (Q:Bool->Hp->Prop),Inv X pins σ H s->t σ H Q->wpAny (model X.prog X.w) X.A (isTrue e X.env whole) (TP X pins σ Q) X.xe s
theorem PW.pt(h:PW X e t):PT X e t:=h _
def PA(X:Cx)(es:List Expr)(t:TA):Prop:=
 ∀(pos:Pos) (pins:List (Addr×Obj)) (s:Shared) (σ:St) (H:Hp) (Q:List V->Hp->Prop),Inv X pins σ H s->t σ H Q->wpAny (model X.prog X.w) X.A (spliced (backTo pos (starEach es X.env))) (AP X pins σ Q) X.xe s
def PS(X:Cx)(st:Stmt)(t:TS):Prop:=
 ∀(pins:List (Addr×Obj)) (s:Shared) (σ:St) (H:Hp) (D:Ends),Inv X pins σ H s->t D σ H->wpAny (model X.prog X.w) X.A (exec st X.env) (SP X pins D) X.xe s
def PSs(X:Cx)(st:List Stmt)(t:TS):Prop:=
 ∀(pins:List (Addr×Obj)) (s:Shared) (σ:St) (H:Hp) (D:Ends),Inv X pins σ H s->t D σ H->wpAny (model X.prog X.w) X.A (execs st X.env) (SP X pins D) X.xe s
theorem thn{α:Type}{t:Sem α}{Q Q':α->Shared->Prop}{M:Model}{A:Around}{E:Value->Shared->Prop}{s:Shared}(h:wpAny M A t Q E s)(hQ:∀a s,Q a s->Q' a s):wpAny M A t Q' E s:=B4 h hQ λ_ _ x=>x
end
section
section
variable {X:Cx}
theorem bin{a b:Expr}{ta tb:TE}(ha:PE X a ta)(hb:PE X b tb){pins:List (Addr×Obj)}{s:Shared}{σ:St}{H:Hp}{R:V->V->Hp->Prop}(I:Inv X pins σ H s)(h:ta σ H λx H1=>tb σ H1 λy H2=>R x y H2)
  {α:Type} {Q:α->Shared->Prop} {f:Value->Value->Sem α}
  (hf:∀v u s2 x y H2,Inv X pins σ H2 s2->RelV x v->RelV y u->R x y H2->wpAny (model X.prog X.w) X.A (f v u) Q X.xe s2) :
  wpAny (model X.prog X.w) X.A (eval a X.env) (λv s₁=>wpAny (model X.prog X.w) X.A (eval b X.env) (λu s₂=>wpAny (model X.prog X.w) X.A (f v u) Q X.xe s₂) X.xe s₁) X.xe s:=by
 refine thn (ha pins s σ H _ I h) λv s1 ⟨x,H1,I1,r1,q1⟩=>?_;refine thn (hb pins s1 σ H1 _ I1 q1) λu s2 ⟨y,H2,I2,r2,q2⟩=>?_;exact hf v u s2 x y H2 I2 r1 r2 q2
def tVar(i:Nat):TE:=λσ H Q=>∃v,σ[i]? = some (some v)/\Q v H
def tC(v:V):TE:=λ_ H Q=>Q v H
theorem K2(hN:X.N[i]? = some x)(hv:Vis X.env.scope x)(hd:(x==("__debug__" : Str))=false:=by decide)(hcd:(x==("__classdict__" : Str))=false:=by decide):PE X (.Name x pos) (tVar i):=by
 intro pins s σ H Q I h;obtain⟨v,e,h⟩:=h;obtain⟨m,hn,hl⟩:=I.loc;obtain⟨u,r,l⟩:=hl i x v hN e hv;have fin:EP X pins σ Q u s:=⟨v,H,I,r,h⟩;rcases l with⟨hk,hm⟩ | ⟨hk,c,hc,hcell⟩
 ·exact wpAny_Name (wpAny_loadName_local I.ok.kind hk hn hm fin) hd
 ·rcases hk with hk | hk
  ·exact wpAny_Name (wpAny_loadName_cell I.ok.kind hk hc hcell fin) hd
  ·exact wpAny_Name (wpAny_loadName_free I.ok.kind hk hc hcell fin hcd) hd
theorem y0n{i j pos}:PE X (.Constant (.int i) j pos) (tC (.int i)):=λ_ _ _ H _ I h=>wpAny_Constant_int ⟨.int i,H,I.tok _,⟨_,rfl⟩,h⟩
theorem y1e{b j pos}:PE X (.Constant (.bool b) j pos) (tC (.bl b)):=λ_ _ _ H _ I h=>Constant_bool ⟨.bl b,H,I,rfl,h⟩
theorem z8J{j pos}:PE X (.Constant .none j pos) (tC .non):=λ_ _ _ H _ I h=>Constant_none ⟨.non,H,I,rfl,h⟩
theorem z9X{x j pos}:PE X (.Constant (.str x) j pos) (tC (.str x)):=λ_ _ _ H _ I h=>Calls.Constant_str ⟨.str x,H,I.tok _,⟨_,rfl⟩,h⟩
def Gl(X:Cx)(x:Str):Prop:=X.env.kindOf x=some .globalImplicit
theorem q6H{σ:St}(I:Inv X pins σ H s)(hg:Gl X x)(hm:X.mg x=some u)(h:Q u s)
  (hd:(x==("__debug__" : Str))=false:=by decide):wpAny (model X.prog X.w) X.A (eval (.Name x pos) X.env) Q E s:=
 w3u I.ok.kind hg (Calls.loadGlobal_global (by rw[I.ok.glob];exact I.mod.glob.keeps I.bk) hm h) hd
theorem q5M{σ:St}(I:Inv X pins σ H s)(hg:Gl X x)(hm:X.mg x=none)(hv:bootBuiltins x=some u)(h:Q u s)
  (hn:x ≠ "__name__":=by decide) (hd:(x==("__debug__" : Str))=false:=by decide):wpAny (model X.prog X.w) X.A (eval (.Name x pos) X.env) Q E s:=by
 obtain⟨mb,h1,h2⟩:=I.mod.blt;exact w3u I.ok.kind hg (Calls.loadGlobal_builtin (by rw[I.ok.glob];exact I.mod.glob.keeps I.bk) hm (by rw[I.ok.blt];exact h1.keeps I.bk) ((h2 x hn).trans hv) h) hd
theorem z1C(hg:Gl X x)(hm:X.mg x=some u)(r:RelV v u)(hd:(x==("__debug__" : Str))=false:=by decide):PE X (.Name x pos) (tC v):=
 λ_ _ _ H _ I h=>q6H I hg hm ⟨v,H,I,r,h⟩ hd
theorem z2k(hg:Gl X x)(hm:X.mg x=none)(hv:bootBuiltins x=some u)(r:RelV v u)(hn:x ≠ "__name__":=by decide)(hd:(x==("__debug__" : Str))=false:=by decide):PE X (.Name x pos) (tC v):=
 λ_ _ _ H _ I h=>q5M I hg hm hv ⟨v,H,I,r,h⟩ hn hd
variable {a b:Expr} {ta tb:TE} {pos:Pos}
def PC(X:Cx)(op:CmpOp)(a b:Expr)(t:TE):Prop:=
 ∀(pins:List (Addr×Obj)) (s:Shared) (σ:St) (H:Hp) (Q:VK),Inv X pins σ H s->t σ H Q ->
  wpAny (model X.prog X.w) X.A (eval a X.env) (λv s₁=>wpAny (model X.prog X.w) X.A (eval b X.env) (λu s₂=>wpAny (model X.prog X.w) X.A (compareOp op v u) (EP X pins σ Q) X.xe s₂) X.xe s₁) X.xe s
theorem q9r(b:Expr)(h:op ≠ .In)(h2:op ≠ .NotIn):behindInMarks op b=false:=by
 have e1:(op==CmpOp.In)=false:=by cases op<;>first | rfl | exact absurd rfl h
 have e2:(op==CmpOp.NotIn)=false:=by cases op<;>first | rfl | exact absurd rfl h2
 cases b<;>simp[behindInMarks,e1,e2]
def tB(t:TE):TT:=λσ H Q=>t σ H λx H1=>∃c,x=.bl c/\Q c H1
theorem z9a(h:PC X op a b t)(h1:behindInMarks op b=false:=by first | exact q9r _ (by decide) (by decide) | rfl):PE X (.Compare a [op] [b] pos) t:=λpins s σ H Q I hw=>wpAny_Compare1 (h pins s σ H Q I hw) h1
theorem z8X(h:PC X op a b t)(h1:behindInMarks op b=false:=by first | exact q9r _ (by decide) (by decide) | rfl):PT X (.Compare a [op] [b] pos) (tB t):=by
 intro pins s σ H Q I hw;refine w4i (thn (h pins s σ H _ I hw) λv s1 h1=>thn h1 λu s2 h2=>thn h2 λc s3 ⟨x,H1,I1,r1,q1⟩=>?_) h1;obtain⟨d,rfl,q⟩:=q1;cases r1;exact Y6 ⟨H1,I1,q⟩
variable {tA tB':TT} {rest:List Expr}
def tAnd(t u:TT):TT:=λσ H Q=>t σ H λc H1=>if c=true then u σ H1 Q else Q false H1
def tOr(t u:TT):TT:=λσ H Q=>t σ H λc H1=>if c=true then Q true H1 else u σ H1 Q
def tNot(t:TT):TT:=λσ H Q=>t σ H λc H1=>Q (!c) H1
theorem z7J(ha:PT X a tA):PW X (.BoolOp .And [a] pos) tA:=by
 intro wh pins s σ H Q I h;refine isTrue_and (thn (ha pins s σ H Q I h) λc s1 e=>?_);cases c with
 | true=>exact isTrue_and_nil e
 | false=>exact e
theorem z9E(ha:PT X a tA):PW X (.BoolOp .Or [a] pos) tA:=by
 intro wh pins s σ H Q I h;refine isTrue_or (thn (ha pins s σ H Q I h) λc s1 e=>?_);cases c with
 | false=>exact isTrue_or_nil e
 | true=>exact e
theorem z3f(ha:PT X a tA)(hb:PW X (.BoolOp .And (b::rest) pos) tB'):PW X (.BoolOp .And (a::b::rest) pos) (tAnd tA tB'):=by
 intro wh pins s σ H Q I h;refine isTrue_and (thn (ha pins s σ H _ I h) λc s1 ⟨H1,I1,q1⟩=>?_);cases c with
 | true=>exact hb wh pins s1 σ H1 Q I1 q1
 | false=>exact⟨H1,I1,q1⟩
theorem z6C(ha:PT X a tA)(hb:PW X (.BoolOp .Or (b::rest) pos) tB'):PW X (.BoolOp .Or (a::b::rest) pos) (tOr tA tB'):=by
 intro wh pins s σ H Q I h;refine isTrue_or (thn (ha pins s σ H _ I h) λc s1 ⟨H1,I1,q1⟩=>?_);cases c with
 | true=>exact⟨H1,I1,q1⟩
 | false=>exact hb wh pins s1 σ H1 Q I1 q1
theorem z5A(ha:PT X a tA):PT X (.UnaryOp .Not a pos) (tNot tA):=by
 intro pins s σ H Q I h;exact isTrue_not (ha pins s σ H (λc H1=>Q (!c) H1) I h)
theorem z4R{op}(h:PE X a t):PE X (.BoolOp op [a] pos) t:=λpins s σ H Q I hw=>BoolOp_one (h pins s σ H Q I hw)
end
end
section
def SqL(K:PySem.W.Frag)(H:Hp)(a:Addr)(xs:List V):Prop:=
 Rd H a (.lst xs) \/
  ∃(o:Obj) (its:Array Value) (n:Nat),K.lookup a=some o/\o.cls=.type "list" /\ o.dict=none/\o.data=.seq its n/\its.size<=sizeLine/\Vals xs its.toList
def SqT(K:PySem.W.Frag)(H:Hp)(a:Addr)(xs:List V):Prop:=
 Rd H a (.tup xs) \/
  ∃(o:Obj) (its:Array Value) (n:Nat),K.lookup a=some o/\(o.cls=.type "tuple" /\ o.dict=none)/\o.data=.seq its n/\its.size<=sizeLine/\Vals xs its.toList
def absV:Value->Option V
 | .none=>some .non
 | .bool b=>some (.bl b)
 | .int i _=>some (.int i)
 | .str x _=>some (.str x)
 | .bytes b _=>some (.byt b)
 | .float b _=>some (.flt b)
 | .ref a=>some (.ref a)
 | .type n=>some (.ty n)
 | _=>none
theorem RelV.abs(r:RelV x u):absV u=some x:=by
 cases x with
 | non=>cases r;rfl
 | bl _=>cases r;rfl
 | int _=>obtain⟨t,rfl⟩:=r;rfl
 | str _=>obtain⟨t,rfl⟩:=r;rfl
 | byt _=>obtain⟨t,rfl⟩:=r;rfl
 | flt _=>obtain⟨t,rfl⟩:=r;rfl
 | ref _=>cases r;rfl
 | ty _=>cases r;rfl
theorem RelV.inj(r:RelV x u)(q:RelV y u):x=y:=C6 (r.abs.symm.trans q.abs)
theorem Vals.inj(h:Vals xs us):Vals ys us->xs=ys:=by
 induction h generalizing ys with
 | nil=>intro t;cases t;rfl
 | cons r _ ih=>intro t;cases t with | cons r' t'=>rw[r.inj r',ih t']
section
variable {X:Cx} {pins:List (Addr×Obj)} {σ:St} {H:Hp} {s:Shared} {a:Addr} {xs ys:List V}
theorem SqL.of{K:PySem.W.Frag}(h:H a=some (.lst xs)):SqL K H a xs:=.inl (.inl h)
theorem SqT.of{K:PySem.W.Frag}(h:H a=some (.tup xs)):SqT K H a xs:=.inl (.inl h)
theorem Inv.list(I:Inv X pins σ H s)(h:SqL X.K H a xs):∃its:List Value,Vals xs its/\PlainL s.heap a its.toArray/\xs.length<=sizeLine:=by
 rcases h with h | ⟨o,its,n,hk,hc,hd,hs,hz,r⟩
 ·obtain⟨z,its,n,r,e⟩:=h.ok I.hok;exact⟨its,r,⟨_,n,e,rfl,rfl,rfl⟩,z⟩
 ·refine⟨its.toList,r,⟨o,n,I.kIn a o hk,hc,hd,by simpa using hs⟩,?_⟩;have e:=r.length;simp only[x3]at e;omega
theorem Inv.tuple(I:Inv X pins σ H s)(h:SqT X.K H a xs):∃its:List Value,Vals xs its/\IsTup s.heap a its.toArray/\xs.length<=sizeLine:=by
 rcases h with h | ⟨o,its,n,hk,hc,hs,hz,r⟩
 ·obtain⟨z,its,r,p⟩:=h.ok I.hok;exact⟨its,r,p.tup,z⟩
 ·refine⟨its.toList,r,⟨o,I.kIn a o hk,hc.1,n,by simpa using hs⟩,?_⟩;have e:=r.length;simp only[x3]at e;omega
theorem Inv.tupleN(I:Inv X pins σ H s)(h:SqT X.K H a xs):∃o,s.heap.get? a=some o/\o.cls=.type "tuple" /\ o.dict=none:=by
 rcases h with h | ⟨o,its,n,hk,hc,hs,hz,r⟩
 ·obtain⟨z,its,r,o,e,c,_⟩:=h.ok I.hok;exact⟨o,e,c.1,c.2⟩
 ·exact⟨o,I.kIn a o hk,hc.1,hc.2⟩
theorem Inv.list_inj(I:Inv X pins σ H s)(h:SqL X.K H a xs)(h':SqL X.K H a ys):xs=ys:=by
 obtain⟨its,r,⟨o,n,e,_,_,d⟩,_⟩:=I.list h;obtain⟨its',r',⟨o',n',e',_,_,d'⟩,_⟩:=I.list h';rw[e]at e';cases e';rw[d]at d';injection d' with d1 _
 have:its=its':=by simpa using congrArg Array.toList d1
 subst this;exact r.inj r'
theorem Inv.tuple_inj(I:Inv X pins σ H s)(h:SqT X.K H a xs)(h':SqT X.K H a ys):xs=ys:=by
 obtain⟨its,r,⟨o,e,_,n,d⟩,_⟩:=I.tuple h;obtain⟨its',r',⟨o',e',_,n',d'⟩,_⟩:=I.tuple h';rw[e]at e';cases e';rw[d]at d';injection d' with d1 _
 have:its=its':=by simpa using congrArg Array.toList d1
 subst this;exact r.inj r'
end
section
variable {X:Cx} {pins:List (Addr×Obj)} {σ:St} {H:Hp} {s:Shared} {E:Value->Shared->Prop}
end
section
variable {X:Cx} {st:Stmt} {rest:List Stmt} {t u:TS} {e:Expr} {te:TE} {pos:Pos}
def y0Z:TS:=λD σ H=>D.nx σ H
def tSeq(t u:TS):TS:=λD σ H=>t {D with nx:=u D} σ H
theorem z5U:PSs X [] y0Z:=λ_ _ σ H _ I h=>w24 ⟨σ,H,I,h⟩
theorem q4G(h1:PS X st t)(h2:PSs X rest u):PSs X (st::rest) (tSeq t u):=by
 intro pins s σ H D I h;refine wpAny_execs_cons (thn (h1 pins s σ H {D with nx:=u D} I h) λf s1 q=>?_);cases f with
 | next=>
  obtain⟨σ',H',I',q⟩:=q;exact h2 pins s1 σ' H' D I' q
 | ret v=>exact q
 | brk=>exact q
 | cont=>exact q
theorem z7y(h1:PS X st t):PSs X [st] t:=by
 intro pins s σ H D I h;refine wpAny_execs_cons (thn (h1 pins s σ H D I h) λf s1 q=>?_);cases f with
 | next=>exact w24 q
 | ret v=>exact q
 | brk=>exact q
 | cont=>exact q
theorem Inv.quiet{σ:St}(I:Inv X pins σ H s):interactive X.env=false:=by simp[interactive,I.ok.kind]
def y1W(te:TE):TS:=λD σ H=>te σ H λ_ H1=>D.nx σ H1
theorem q5a(he:PE X e te)(hs:swapsWith e none pos.line X.env=pure false:=by rfl):PS X (.Expr e pos) (y1W te):=by
 intro pins s σ H D I h;exact wpAny_Expr_any (thn (he pins s σ H _ I h) λv s1 ⟨x,H1,I1,r1,q1⟩=>⟨σ,H1,I1,q1⟩) I.quiet hs
def tRet(te:TE):TS:=λD σ H=>te σ H D.rt
theorem q9u(he:PE X e te):PS X (.Return (some e) pos) (tRet te):=by
 intro pins s σ H D I h;exact wpAny_Return_some (thn (he pins s σ H _ I h) λv s1 ⟨x,H1,I1,r1,q1⟩=>⟨x,σ,H1,I1,r1,q1⟩)
def tIfS(c:TT)(t u:TS):TS:=λD σ H=>c σ H λb H1=>if b=true then t D σ H1 else u D σ H1
theorem z7g(hc:PT X c tc)(ha:PSs X a t)(hb:PSs X b u):PS X (.If c a b pos) (tIfS tc t u):=by
 intro pins s σ H D I h;refine wpAny_If (thn (hc pins s σ H _ I h) λd s1 ⟨H1,I1,q1⟩=>?_);cases d with
 | true=>exact ha pins s1 σ H1 D I1 q1
 | false=>exact hb pins s1 σ H1 D I1 q1
def z9t:TS:=λ_ _ _=>False
theorem V4:PSs X sts z9t:=λ_ _ _ _ _ _ h=>h.elim
end
abbrev TG:=V->St->Hp->(St->Hp->Prop)->Prop
abbrev TGs:=List V->St->Hp->(St->Hp->Prop)->Prop
def PG(X:Cx)(target:Expr)(t:TG):Prop:=
 ∀(pins:List (Addr×Obj)) (s:Shared) (σ:St) (H:Hp) (v:V) (u:Value) (Q:St->Hp->Prop),Inv X pins σ H s->RelV v u->t v σ H Q ->
  wpAny (model X.prog X.w) X.A (assign target X.env u) (λ_ s'=>∃σ' H',Inv X pins σ' H' s'/\Q σ' H') X.xe s
def PGs(X:Cx)(ts:List Expr)(t:TGs):Prop:=
 ∀(pins:List (Addr×Obj)) (s:Shared) (σ:St) (H:Hp) (vs:List V) (us:List Value) (Q:St->Hp->Prop),Inv X pins σ H s->Vals vs us->t vs σ H Q ->
  wpAny (model X.prog X.w) X.A (assignInOrder ((assignEach ts X.env).map (·.2)) us) (λ_ s'=>∃σ' H',Inv X pins σ' H' s'/\Q σ' H') X.xe s
abbrev TSet:=V->V->V->Hp->(Hp->Prop)->Prop
def PSet(X:Cx)(t:TSet):Prop:=
 ∀(pins:List (Addr×Obj)) (s:Shared) (σ:St) (H:Hp) (o i v:V) (ov iv u:Value) (Q:Hp->Prop),Inv X pins σ H s->RelV o ov->RelV i iv->RelV v u->t o i v H Q ->
  wpAny (model X.prog X.w) X.A (setItem ov iv u) (λ_ s'=>∃H',Inv X pins σ H' s'/\Q H') X.xe s
section
variable {X:Cx} {pos:Pos}
def q9F(i:Nat):TG:=λv σ H Q=>Q (σ.set i (some v)) H
theorem z1K(hN:X.N.Nodup)(hi:X.N[i]? = some x)(hx:Loc X.env.scope x)(hf:X.fn x=true\/X.env.scope.names.lookup x=some .local:=by first | exact .inl rfl | exact .inr rfl | assumption):PG X (.Name x pos) (q9F i):=by
 intro pins s σ H v u Q I r h;exact wpAny_assign_Name (q6o I hN hi hx r (λs' I'=>⟨_,H,I',h⟩) hf)
def gNil:TGs:=λvs σ H Q=>vs=[]/\Q σ H
def z9x(t:TG)(u:TGs):TGs:=λvs σ H Q=>∃v r,vs=v::r/\t v σ H λσ' H'=>u r σ' H' Q
theorem z7b:PGs X [] gNil:=by
 intro pins s σ H vs us Q I r h;obtain⟨e,h⟩:=h;subst e;cases r;exact assignInOrder_nil ⟨σ,H,I,h⟩
theorem z4t(h1:PG X e t)(h2:PGs X es u)
  (hs:(assignEach (e::es) X.env).map (·.2)=assign e X.env::(assignEach es X.env).map (·.2):=by rfl):PGs X (e::es) (z9x t u):=by
 intro pins s σ H vs us Q I r h;obtain⟨v,vr,e1,h⟩:=h;subst e1;cases r with
 | cons r rr=>
  rw[hs];refine assignInOrder_cons (thn (h1 pins s σ H _ _ _ I r h) λ_ s1 ⟨σ1,H1,I1,q1⟩=>?_);exact h2 pins s1 σ1 H1 _ _ Q I1 rr q1
def gTup(K:PySem.W.Frag)(n:Nat)(t:TGs):TG:=λv σ H Q=>∃a xs,v=.ref a/\SqT K H a xs/\xs.length=n/\t xs σ H Q
theorem z8T(hc:X.calm=true)(h:PGs X es t)
  (hn:(assignEach es X.env).length=n:=by rfl) (hst:(assignEach es X.env).findIdx? (·.1)=none:=by rfl):PG X (.Tuple es k pos) (gTup X.K n t):=by
 intro pins s σ H v u Q I r hw;obtain⟨a,xs,e1,hq,hl,hw⟩:=hw;subst e1;cases r;obtain⟨its,rv,ht,hz⟩:=I.tuple hq;refine assign_Tuple_tuple (I.ok.hd hc) ht (by simp[hn,←hl,rv.length]) hst λh' hx=>?_
 have I1:Inv X pins σ H {s with heap:=h'}:=I.kept (t':=s.toks) λb o e=>hx b o (o4 (i9 e)) e;exact h pins _ σ H xs _ Q I1 (by simpa using rv) hw
def gSub(to ti:TE)(t:TSet):TG:=λv σ H Q=>to σ H λo H1=>ti σ H1 λi H2=>t o i v H2 λH3=>Q σ H3
theorem y0B(ho:PE X o to)(hi:PE X i ti)(hs:PSet X t)
  (ha:∀v,assign (.Subscript o i pos) X.env v=(do
   let ov ←holding [v] (eval o X.env)
   let iv ←holding [v,ov] (eval i X.env)
   standAt pos
   holding [v,ov,iv] (setItem ov iv v)
   release [v,ov,iv] []):=by intro _;rfl):PG X (.Subscript o i pos) (gSub to ti t):=by
 intro pins s σ H v u Q I r h;rw[ha];refine b6 (E9 (thn (ho pins s σ H _ I h) λov s1 ⟨x,H1,I1,r1,q1⟩=>?_));refine b6 (E9 (thn (hi pins s1 σ H1 _ I1 q1) λiv s2 ⟨y,H2,I2,r2,q2⟩=>?_));refine b6 (w4r (b6 (E9 (thn (hs pins s2 σ H2 x y v ov iv u _ I2 r1 r2 r q2) λ_ s3 ⟨H3,I3,q3⟩=>?_))));exact wpAny_release ⟨σ,H3,I3,q3⟩
def tAsg(te:TE)(g:TG):TS:=λD σ H=>te σ H λx H1=>g x σ H1 D.nx
theorem z8O(he:PE X e te)(hg:PG X tg g)(hs:swapsWithSole [tg] e pos.line X.env=pure false:=by rfl)(hw:swappedStores [tg] e X.env=pure none:=by rfl)
  (h1:(assignEach [tg] X.env).map (·.2)=[assign tg X.env]:=by rfl):PS X (.Assign [tg] e pos) (tAsg te g):=by
 intro pins s σ H D I h;refine wpAny_Assign_stores (thn (he pins s σ H _ I h) λv s1 ⟨x,H1,I1,r1,q1⟩=>?_) hs hw;rw[h1];exact thn (hg pins s1 σ H1 x v _ I1 r1 q1) λ_ s2 q=>q
theorem q9v(hN:X.N.Nodup)(hi:X.N[i]? = some x)(hx:Loc X.env.scope x)(he:PE X e te)(hs:swapsWith e (some (.Name x pos')) pos.line X.env=pure false:=by rfl)(hf:X.fn x=true\/X.env.scope.names.lookup x=some .local:=by first | exact .inl rfl | exact .inr rfl | assumption) :
  PS X (.Assign [.Name x pos'] e pos) (tAsg te (q9F i)):=by
 intro pins s σ H D I h;refine wpAny_Assign_Name (thn (he pins s σ H _ I h) λv s1 ⟨y,H1,I1,r1,q1⟩=>?_) hs;exact q6o I1 hN hi hx r1 (λs2 I2=>⟨_,H1,I2,q1⟩) hf
end
section
variable {X:Cx} {pos:Pos}
end
structure It where
 go:Nat->Hp->Prop
 yld:Nat->Hp->V->Hp->Prop
 stop:Nat->Hp->Prop
def FpOk(X:Cx)(pins:List (Addr×Obj))(H:Hp)(b:Addr):Prop:=
 H b=none/\b≠X.env.locals/\b∉X.fs/\(b∈X.ex\/X.s₀.heap.objs.size<=b)/\(∀x c,X.env.cells.lookup x=some c->c≠b)/\∀p∈X.pn++pins,p.1≠b
theorem Inv.fpOk{σ:St}{b:Addr}(I:Inv X pins σ H s)(hb:s.heap.objs.size<=b)(hn:H' b=none):FpOk X pins H' b:=by
 refine⟨hn,Q6 (u4 I.lt hb),I.nofs hb,.inr (i7 I.sz hb),λx c e z=>?_,λp hp z=>?_⟩
 ·obtain⟨v,q⟩:=I.cell x c e;exact absurd (u4 q.lt (by rw[z];exact hb)) (O4 _)
 ·exact absurd (u4 (i9 (I.pin p hp).1) (by rw[z];exact hb)) (O4 _)
structure Turn(P:Program)(w:World)(K:PySem.W.Frag)(tg:Expr)(J:It)(fp:List Addr)(it:Addr)(tn:Nat->Heap->Prop):Prop where
 mem:it∈fp
 obj:∀i h,tn i h->∀b∈fp,∃o,h.get? b=some o/\∀v,o.data ≠ .cell v
 keep:∀i h h',tn i h->(∀b∈fp,∀o,h.get? b=some o->h'.get? b=some o)->tn i h'
 item:∀(X:Cx),X.prog=P->X.w=w->X.K=K->X.calm=true->∀(i:Nat) (pins:List (Addr×Obj)) (s:Shared) (σ:St) (H:Hp) (E:Value->Shared->Prop),Inv X pins σ H s->(∀b∈fp,FpOk X pins H b)->tn i s.heap->J.go i H ->
  wpAny (model P w) X.A (pyNext (.ref it)) (λr s1=>∃u,r=some u /\
   wpAny (model P w) X.A (letOwnedTupleGo tg (.ref it) u) (λ_ s2=>∃x H',Inv X pins σ H' s2/\RelV x u/\J.yld i H x H'/\tn (i+1) s2.heap/\∀b∈fp,H' b=none) E s1) E s
 done:∀(X:Cx),X.prog=P->X.w=w->X.K=K->X.calm=true->∀(i:Nat) (pins:List (Addr×Obj)) (s:Shared) (σ:St) (H:Hp) (E:Value->Shared->Prop),Inv X pins σ H s->(∀b∈fp,FpOk X pins H b)->tn i s.heap->J.stop i H ->
  wpAny (model P w) X.A (pyNext (.ref it)) (λr s1=>r=none/\Inv X pins σ H s1) E s
 self:∀(A:Around) (i:Nat) (s:Shared) (Q:Value->Shared->Prop) (E:Value->Shared->Prop),tn i s.heap->Q (.ref it) s->wpAny (model P w) A (pyIter (.ref it)) Q E s
abbrev TI:=St->Hp->(It->Hp->Prop)->Prop
def PIE(X:Cx)(pins:List (Addr×Obj))(σ:St)(tg:Expr)(R:It->Hp->Prop)(itv:Value)(s2:Shared):Prop:=
 ∃(it:Addr) (fp:List Addr) (tn:Nat->Heap->Prop) (J:It) (H':Hp),itv=.ref it/\Inv X pins σ H' s2/\Turn X.prog X.w X.K tg J fp it tn/\tn 0 s2.heap/\(∀b∈fp,FpOk X pins H' b)/\R J H'
def PI(X:Cx)(tg iter:Expr)(wi:TI):Prop:=
 ∀(pins:List (Addr×Obj)) (s:Shared) (σ:St) (H:Hp) (R:It->Hp->Prop),Inv X pins σ H s->wi σ H R ->
  wpAny (model X.prog X.w) X.A (eval iter X.env) (λv s1=>wpAny (model X.prog X.w) X.A (pyIter v) (PIE X pins σ tg R) X.xe s1) X.xe s
theorem z2d(ho:s.heap.get? it=some o)(hc:o.cls=.type n)(hd:o.data=.fields vs)
    (hn : ["enumerate","zip","dict_itemiterator","dict_reverseitemiterator","odict_iterator","itertools.zip_longest","itertools.pairwise"].contains n=false) (hQ:Q () s):wpAny M A (letOwnedTupleGo tg (.ref it) u) Q E s:=by
  unfold letOwnedTupleGo;cases tg<;>first
    | exact d4 hQ
    | (cases u<;>first
        | exact d4 hQ
        | (refine b6 (w3D ho ?_)
           rw[hc,hd];show wpAny M A (if(["enumerate","zip","dict_itemiterator","dict_reverseitemiterator","odict_iterator","itertools.zip_longest","itertools.pairwise"].contains n&&vs[0]? == some (rawInt _))=true then _ else _) Q E s;rw[d7 (by intro h;rw[hn,G6]at h;cases h)];exact d4 hQ))
def Itl(K:PySem.W.Frag)(a:Addr):It:=
 ⟨λi H=>∃xs x,SqL K H a xs/\xs[i]? = some x,λi H x H'=>H'=H/\∀xs,SqL K H a xs->xs[i]? = some x,λi H=>∃xs,SqL K H a xs/\xs.length<=i⟩
def Itt(K:PySem.W.Frag)(a:Addr):It:=
 ⟨λi H=>∃xs x,SqT K H a xs/\xs[i]? = some x,λi H x H'=>H'=H/\∀xs,SqT K H a xs->xs[i]? = some x,λi H=>∃xs,SqT K H a xs/\xs.length<=i⟩
def Itr(lo:Int)(n:Nat):It:=⟨λi _=>i<n,λi H x H'=>H'=H/\x=.int (lo+i),λi _=>n<=i⟩
theorem z1J{P:Program}{w:World}{K:PySem.W.Frag}{tg:Expr}(a it:Addr):Turn P w K tg (Itl K a) [it] it (λi h=>h.IsListIter it a i) where
 mem:=by simp
 obj:=λi h st b hb=>by
  have e:b=it:=by simpa using hb
  subst e;obtain⟨o,e,c,d⟩:=st;exact⟨o,e,λv z=>by rw[d]at z;cases z⟩
 keep:=λi h h' st k=>st.at λo e=>k it (by simp) o e
 item:=by
  intro X hP hw hK hc i pins s σ H E I hf st hg;subst hP hw hK;obtain⟨xs,x,hq,hx⟩:=hg;obtain⟨its,rv,p,hz⟩:=I.list hq;obtain⟨u,hu,ru⟩:=rv.get hx;obtain⟨f0,f1,f2,f3,f4,f5⟩:=hf it (by simp);refine wpAny_pyNext_list_item st p.isList (x:=u) (by simpa using hu) λh' st' sb=>?_
  have I1:Inv X pins σ H {s with heap:=h'}:=I.turned (t':=s.toks) (λb o hb e=>(sb.2 b hb).trans e) f0 f1 f3 f4 f5;obtain⟨o,e,c,d⟩:=id st';exact⟨u,rfl,z2d (s:={s with heap:=h'}) e c d (by decide) ⟨x,H,I1,ru,⟨rfl,λys hy=>by rw[I.list_inj hy hq];exact hx⟩,st',λb hb=>(hf b hb).1⟩⟩
 done:=by
  intro X hP hw hK hc i pins s σ H E I hf st hg;subst hP hw hK;obtain⟨xs,hq,hx⟩:=hg;obtain⟨its,rv,p,hz⟩:=I.list hq;obtain⟨f0,f1,f2,f3,f4,f5⟩:=hf it (by simp);have hl:=rv.length;exact wpAny_pyNext_list_end (I.ok.hd hc) st p.isList (by simp;omega) λh' eb=>⟨rfl,I.turned (t':=s.toks) (λb o hb e=>eb b o hb e) f0 f1 f3 f4 f5⟩
 self:=λ_ _ _ _ _ st h=>wpAny_pyIter_listiter st h
theorem z0b{P:Program}{w:World}{K:PySem.W.Frag}{tg:Expr}(a it:Addr):Turn P w K tg (Itt K a) [it] it (λi h=>h.IsTupleIter it a i) where
 mem:=by simp
 obj:=λi h st b hb=>by
  have e:b=it:=by simpa using hb
  subst e;obtain⟨o,e,c,d⟩:=st;exact⟨o,e,λv z=>by rw[d]at z;cases z⟩
 keep:=λi h h' st k=>st.at λo e=>k it (by simp) o e
 item:=by
  intro X hP hw hK hc i pins s σ H E I hf st hg;subst hP hw hK;obtain⟨xs,x,hq,hx⟩:=hg;obtain⟨its,rv,p,hz⟩:=I.tuple hq;obtain⟨u,hu,ru⟩:=rv.get hx;obtain⟨f0,f1,f2,f3,f4,f5⟩:=hf it (by simp);refine wpAny_pyNext_tuple_item st (show s.heap.IsTuple a its.toArray from p) (x:=u) (by simpa using hu) λh' st' sb=>?_
  have I1:Inv X pins σ H {s with heap:=h'}:=I.turned (t':=s.toks) (λb o hb e=>(sb.2 b hb).trans e) f0 f1 f3 f4 f5;obtain⟨o,e,c,d⟩:=id st';exact⟨u,rfl,z2d (s:={s with heap:=h'}) e c d (by decide) ⟨x,H,I1,ru,⟨rfl,λys hy=>by rw[I.tuple_inj hy hq];exact hx⟩,st',λb hb=>(hf b hb).1⟩⟩
 done:=by
  intro X hP hw hK hc i pins s σ H E I hf st hg;subst hP hw hK;obtain⟨xs,hq,hx⟩:=hg;obtain⟨its,rv,p,hz⟩:=I.tuple hq;obtain⟨f0,f1,f2,f3,f4,f5⟩:=hf it (by simp);have hl:=rv.length;exact wpAny_pyNext_tuple_end (I.ok.hd hc) st (show s.heap.IsTuple a its.toArray from p) (by simp;omega) λh' eb=>⟨rfl,I.turned (t':=s.toks) (λb o hb e=>eb b o hb e) f0 f1 f3 f4 f5⟩
 self:=λ_ _ _ _ _ st h=>wpAny_pyIter_tupleiter st h
theorem q9L{P:Program}{w:World}{K:PySem.W.Frag}{tg:Expr}(it:Addr)(lo:Int)(n:Nat):Turn P w K tg (Itr lo n) [it] it (λi h=>IsRangeIter h it (lo+(i:Nat)*1) ((n:Int) - (i:Nat)) 1) where
 mem:=by simp
 obj:=λi h st b hb=>by
  have e:b=it:=by simpa using hb
  subst e;exact⟨_,st,λv z=>by
   have z':Data.fields _=Data.cell v:=z;cases z'⟩
 keep:=λi h h' st k=>k it (by simp) _ st
 item:=by
  intro X hP hw hK hc i pins s σ H E I hf st hg;subst hP hw hK;obtain⟨f0,f1,f2,f3,f4,f5⟩:=hf it (by simp);have W:=Walks.range (prog:=X.prog) (w:=X.w) (I.ok.hd hc) it lo 1 n;refine W.item i s _ _ hg st λv h' tk hv st' kk=>?_
  obtain⟨t,rfl⟩:=hv;have I1:Inv X pins σ H {s with heap:=h',toks:=tk}:=I.turned (λb o hb e=>kk b o (by simpa using hb) e) f0 f1 f3 f4 f5;refine⟨_,rfl,z2d (s:={s with heap:=h',toks:=tk}) (n:="range_iterator") st' rfl rfl (by decide) ⟨.int (lo+i),H,I1,⟨t,?_⟩,⟨rfl,rfl⟩,st',λb hb=>(hf b hb).1⟩⟩;rw[Int.mul_one]
 done:=by
  intro X hP hw hK hc i pins s σ H E I hf st hg;subst hP hw hK;obtain⟨f0,f1,f2,f3,f4,f5⟩:=hf it (by simp);exact w35 (I.ok.hd hc) st (by have:n<=i:=hg;omega) λh' eb=>⟨rfl,I.turned (t':=s.toks) (λb o hb e=>eb b o hb e) f0 f1 f3 f4 f5⟩
 self:=λ_ _ _ _ _ st h=>w36 st h
end
section
section
variable {X:Cx} {tg:Expr}
def y0Q(K:PySem.W.Frag)(tl:TE):TI:=λσ H R=>tl σ H λx H1=>∃a,x=.ref a/\(∃xs,SqL K H1 a xs)/\R (Itl K a) H1
def iTup(K:PySem.W.Frag)(tl:TE):TI:=λσ H R=>tl σ H λx H1=>∃a,x=.ref a/\(∃xs,SqT K H1 a xs)/\R (Itt K a) H1
theorem q7K(hl:PE X l tl):PI X tg l (y0Q X.K tl):=by
 intro pins s σ H R I h;refine thn (hl pins s σ H _ I h) λv s1 ⟨x,H1,I1,r1,q1⟩=>?_
 obtain⟨a,e,⟨xs,hq⟩,q⟩:=q1;subst e;cases r1;obtain⟨its,rv,p,hz⟩:=I1.list hq;refine wpAny_pyIter_list p.isList ?_;refine⟨s1.heap.objs.size,[s1.heap.objs.size],_,_,H1,rfl,I1.kept (t':=s1.toks) λb o e=>j2 _ e,z1J a _,⟨_,p8 _ rfl,rfl,rfl⟩,λb hb=>?_,q⟩;have e:b=s1.heap.objs.size:=by simpa using hb
 subst e;exact I1.fpOk (e9 _) (I1.hok.fresh (e9 _))
theorem z9Q(hl:PE X l tl):PI X tg l (iTup X.K tl):=by
 intro pins s σ H R I h;refine thn (hl pins s σ H _ I h) λv s1 ⟨x,H1,I1,r1,q1⟩=>?_
 obtain⟨a,e,⟨xs,hq⟩,q⟩:=q1;subst e;cases r1;obtain⟨its,rv,p,hz⟩:=I1.tuple hq;refine wpAny_pyIter_tuple (show s1.heap.IsTuple a its.toArray from p) ?_;refine⟨s1.heap.objs.size,[s1.heap.objs.size],_,_,H1,rfl,I1.kept (t':=s1.toks) λb o e=>j2 _ e,z0b a _,⟨_,p8 _ rfl,rfl,rfl⟩,λb hb=>?_,q⟩;have e:b=s1.heap.objs.size:=by simpa using hb
 subst e;exact I1.fpOk (e9 _) (I1.hok.fresh (e9 _))
theorem q8N{pins:List (Addr×Obj)}{σ:St}{H:Hp}{s:Shared}{R:It->Hp->Prop}{E:Value->Shared->Prop}{lo hi:Int}{t u v:Tok}{tk:Nat}(I:Inv X pins σ H s)(h1 : -(2^62)<=lo)(h2:lo<2^62)(h3 : -(2^62)<=hi)(h4:hi<2^62)
  (q:R (Itr lo (hi - lo).toNat) H):wpAny (model X.prog X.w) X.A (pyIter (.ref s.heap.objs.size)) (PIE X pins σ tg R) E {s with heap:=s.heap.push {cls:=.type "range",data:=.fields #[.int lo t,.int hi u,.int 1 v]},toks:=tk}:=by
 refine wpAny_pyIter_range (IsRange.new ..) (small_one h1 h2 h3 h4) ?_;have I1:Inv X pins σ H {s with heap:=s.heap.push {cls:=.type "range",data:=.fields #[.int lo t,.int hi u,.int 1 v]},toks:=tk}:=I.kept λb o e=>j2 _ e;refine⟨(s.heap.push {cls:=.type "range",data:=.fields #[.int lo t,.int hi u,.int 1 v]}).objs.size,[(s.heap.push {cls:=.type "range",data:=.fields #[.int lo t,.int hi u,.int 1 v]}).objs.size],_,_,H,rfl,
  I1.kept (t':=tk) λb o e=>j2 _ e,q9L _ lo (hi - lo).toNat,?_,λb hb=>?_,q⟩
 ·have e1:lo+((0:Nat):Int)*1=lo:=by simp
  have e2:(((hi - lo).toNat:Nat):Int) - ((0:Nat):Int)=Builtin.Range.rangeSize lo hi 1:=by rw[rangeSize_one];split<;>omega
  show IsRangeIter _ _ (lo+((0:Nat):Int)*1) ((((hi - lo).toNat:Nat):Int) - ((0:Nat):Int)) 1;rw[e1,e2];exact p8 _ rfl
 ·have e:b=(s.heap.push {cls:=.type "range",data:=.fields #[.int lo t,.int hi u,.int 1 v]}).objs.size:=by simpa using hb
  subst e;exact I1.fpOk (e9 _) (I1.hok.fresh (e9 _))
def y1p(ta:TA):TI:=λσ H R=>ta σ H λvs H1=>∃j:Int,vs=[.int j] /\ -(2^62)<=j/\j<2^62/\R (Itr 0 j.toNat) H1
def y1Q(ta:TA):TI:=λσ H R=>ta σ H λvs H1=>∃i j:Int,vs=[.int i,.int j]/\(-(2^62)<=i/\i<2^62 /\ -(2^62)<=j/\j<2^62)/\R (Itr i (j - i).toNat) H1
theorem z2N(hg:Gl X "range")(hm:X.mg "range" = none)(ha:PA X [a] ta)(hs:starEach [a] X.env=[(false,eval a X.env)]:=by rfl):PI X tg (.Call (.Name "range" p) [a] [] pos) (y1p ta):=by
 intro pins s σ H R I h;refine Call_ (q5M I hg hm boot_range (w1Q (thn (ha pos pins s σ H _ I h) λus s1 ⟨vs,H1,I1,r1,q1⟩=>?_) hs rfl));obtain⟨j,e,q1,q2,q⟩:=q1;subst e;cases r1 with
 | cons r rr=>
  cases rr;obtain⟨t,rfl⟩:=r;exact call_range_1 (q8N I1 (by omega) (by omega) q1 q2 (by simpa using q))
theorem z3e(hg:Gl X "range")(hm:X.mg "range" = none)(ha:PA X [a,b] ta)(hs:starEach [a,b] X.env=[(false,eval a X.env),(false,eval b X.env)]:=by rfl)(hs2:starEach [b] X.env=[(false,eval b X.env)]:=by rfl) :
  PI X tg (.Call (.Name "range" p) [a,b] [] pos) (y1Q ta):=by
 intro pins s σ H R I h;refine Call_ (q5M I hg hm boot_range (w1Q (thn (ha pos pins s σ H _ I h) λus s1 ⟨vs,H1,I1,r1,q1⟩=>?_) (by rw[hs,hs2]) (by rw[hs2];rfl)));obtain⟨i,j,e,⟨q1,q2,q3,q4⟩,q⟩:=q1;subst e;cases r1 with
 | cons r rr=>
  cases rr with
  | cons r' rr=>
   cases rr;obtain⟨t,rfl⟩:=r;obtain⟨t',rfl⟩:=r';exact call_range_2 (q8N I1 q1 q2 q3 q4 q)
def tFor(wi:TI)(g:TG)(tb:TS):TS:=λD σ H=>wi σ H λJ H1=>∃W:Nat->Nat->St->Hp->Prop,(∃m,W 0 m σ H1)/\∀i m σ H,W i m σ H ->
 (J.stop i H/\D.nx σ H)\/(J.go i H/\∃N:St->Hp->Prop,(∀σ' H',N σ' H'->∃m',m'<m/\W (i+1) m' σ' H')/\∀x H',J.yld i H x H'->g x σ H' λσ2 H2=>tb {D with nx:=N,ct:=N,bk:=D.nx} σ2 H2)
def q7f(fp:List Addr)(h:Heap):List (Addr×Obj):=fp.filterMap λb=>(h.get? b).map λo=>(b,o)
theorem q3f(hb:b∈fp)(e:h.get? b=some o):(b,o)∈q7f fp h:=w2J.mpr ⟨b,hb,by rw[e];rfl⟩
theorem z3d(hp:p∈q7f fp h):p.1∈fp/\h.get? p.1=some p.2:=by
 obtain⟨b,hb,e⟩:=w2J.mp hp;cases q:h.get? b with
 | none=>rw[q]at e;cases e
 | some o=>
  rw[q]at e;have e':(b,o)=p:=C6 e;subst e';exact⟨hb,q⟩
theorem Inv.pinned{σ:St}(I:Inv X pins σ H s)(hf:∀b∈fp,FpOk X pins H b)(ho:∀b∈fp,∃o,s.heap.get? b=some o/\∀v,o.data ≠ .cell v):Inv X (pins++q7f fp s.heap) σ H s:=
 I.pins_of λp hp=>(A3.mp hp).elim (λz=>I.pin p (y9 _ z)) λz=>by obtain⟨hb,e⟩:=z3d z;obtain⟨f0,f1,f2,_⟩:=hf p.1 hb;obtain⟨o,e',d⟩:=ho p.1 hb;rw[e]at e';cases e';exact⟨e,f0,f1,f2,d⟩
theorem Inv.unpinned{σ:St}(I:Inv X (pins++pl) σ H s):Inv X pins σ H s:=I.pins_of λp hp=>I.pin p (y9 _ (z8 _ hp))
theorem z4Z(hp:PassesOwn (model X.prog X.w) X.A X.env X.xe)(hc:X.calm=true)(hi:PI X tg iter wi)(hg:PG X tg g)(hb:PSs X body tb)
  (hs:∀x,foldedSetIterable iter X.env x=pure x:=by intro _;rfl):PS X (.For tg iter body [] pos) (tFor wi g tb):=by
 intro pins s σ H D I h;refine wpAny_For (thn (hi pins s σ H _ I h) λv s1 h1=>thn h1 λitv s2 h2=>?_) hs;obtain⟨it,fp,tn,J,H2,e,I2,T,st2,f2,W,⟨m0,w0⟩,turn⟩:=h2;subst e;have stat:∀{H':Hp},(∀b∈fp,H' b=none)->∀b∈fp,FpOk X pins H' b:=λhn b hb=>⟨hn b hb,(f2 b hb).2⟩
 refine codeAny_forLoop_any (λn s'=>∃i σ' H',Inv X pins σ' H' s'/\tn i s'.heap/\(∀b∈fp,H' b=none)/\W i n σ' H') ?_ m0 ⟨0,σ,H2,I2,st2,λb hb=>(f2 b hb).1,w0⟩
 rintro n s3 ⟨i,σ3,H3,I3,st3,fr3,w3⟩
 rcases turn i n σ3 H3 w3 with⟨stop,qn⟩ | ⟨go,N,hN,step⟩
 ·refine w2G hp (thn (T.done X rfl rfl rfl hc i pins s3 σ3 H3 X.xe I3 (stat fr3) st3 stop) λr s4 ⟨hr,I4⟩=>?_);subst hr;exact w24 ⟨σ3,H3,I4,qn⟩
 ·refine w2G hp (thn (T.item X rfl rfl rfl hc i pins s3 σ3 H3 X.xe I3 (stat fr3) st3 go) λr s4 ⟨u,hr,h4⟩=>?_);subst hr;refine w2G hp (thn h4 λ_ s5 ⟨x,H5,I5,r5,y5,st5,fr5⟩=>?_);have I5':=I5.pinned (stat fr5) (T.obj _ _ st5);refine w2G hp (thn (hg _ s5 σ3 H5 x u _ I5' r5 (step x H5 y5)) λ_ s6 ⟨σ6,H6,I6,q6⟩=>?_);refine w2G hp (thn (hb _ s6 σ6 H6 _ I6 q6) λf s7 q7=>?_);have again:∀{σ7:St} {H7:Hp},Inv X (pins++q7f fp s5.heap) σ7 H7 s7->N σ7 H7->∃m,m<n/\∃i σ' H',Inv X pins σ' H' s7/\tn i s7.heap/\(∀b∈fp,H' b=none)/\W i m σ' H':=λ{σ7 H7} I7 n7=>by
   obtain⟨m',hm,w7⟩:=hN σ7 H7 n7;refine⟨m',hm,i+1,σ7,H7,I7.unpinned,T.keep _ _ _ st5 λb hb o e=>(I7.pin (b,o) (y9 _ (y9 _ (q3f hb e)))).1,λb hb=>?_,w7⟩;obtain⟨o,e,d⟩:=T.obj _ _ st5 b hb;exact(I7.pin (b,o) (y9 _ (y9 _ (q3f hb e)))).2.1
  cases f with
  | next=>obtain⟨σ7,H7,I7,n7⟩:=q7;exact again I7 n7
  | cont=>obtain⟨σ7,H7,I7,n7⟩:=q7;exact again I7 n7
  | brk=>obtain⟨σ7,H7,I7,q7⟩:=q7;exact⟨σ7,H7,I7.unpinned,q7⟩
  | ret v=>obtain⟨x7,σ7,H7,I7,r7,q7⟩:=q7;exact⟨x7,σ7,H7,I7.unpinned,r7,q7⟩
end
end
section
abbrev R2:=V->V->Hp->VK->Prop
def OpR(X:Cx)(f:Value->Value->Sem Value)(r:R2):Prop:=
 ∀(pins:List (Addr×Obj)) (s:Shared) (σ:St) (H:Hp) (x y:V) (v u:Value) (Q:VK),Inv X pins σ H s->RelV x v->RelV y u->r x y H Q ->
  wpAny (model X.prog X.w) X.A (f v u) (EP X pins σ Q) X.xe s
def UnR(X:Cx)(f:Value->Sem Value)(r:V->Hp->VK->Prop):Prop:=
 ∀(pins:List (Addr×Obj)) (s:Shared) (σ:St) (H:Hp) (x:V) (v:Value) (Q:VK),Inv X pins σ H s->RelV x v->r x H Q ->
  wpAny (model X.prog X.w) X.A (f v) (EP X pins σ Q) X.xe s
def x0(X:Cx)(f:Value)(r:List V->Hp->VK->Prop):Prop:=
 ∀(pins:List (Addr×Obj)) (s:Shared) (σ:St) (H:Hp) (xs:List V) (us:List Value) (Q:VK),Inv X pins σ H s->Vals xs us->r xs H Q ->
  wpAny (model X.prog X.w) X.A (call f us) (EP X pins σ Q) X.xe s
def TruR(X:Cx)(r:V->Hp->(Bool->Hp->Prop)->Prop):Prop:=
 ∀(pins:List (Addr×Obj)) (s:Shared) (σ:St) (H:Hp) (x:V) (v:Value) (Q:Bool->Hp->Prop),Inv X pins σ H s->RelV x v->r x H Q ->
  wpAny (model X.prog X.w) X.A (truthy v) (TP X pins σ Q) X.xe s
def tOp(r:R2)(ta tb:TE):TE:=λσ H Q=>ta σ H λx H1=>tb σ H1 λy H2=>r x y H2 Q
def tUn(r:V->Hp->VK->Prop)(ta:TE):TE:=λσ H Q=>ta σ H λx H1=>r x H1 Q
def rI(C:Int->Int->Prop)(g:Int->Int->V):R2:=λx y H Q=>∃i j,x=.int i/\y=.int j/\C i j/\Q (g i j) H
def rI0(g:Int->Int->V):R2:=λx y H Q=>∃i j,x=.int i/\y=.int j/\Q (g i j) H
def rU(g:Int->V):V->Hp->VK->Prop:=λx H Q=>∃i,x=.int i/\Q (g i) H
section
variable {X:Cx} {a b c:Expr} {ta tb tc:TE} {pos:Pos}
theorem binT(ha:PE X a ta)(hb:PE X b tb){pins:List (Addr×Obj)}{s:Shared}{σ:St}{H:Hp}{R:V->V->Hp->Prop}(I:Inv X pins σ H s)
  (h:ta σ H λx H1=>tb σ H1 λy H2=>R x y H2) {Q:Value->Shared->Prop} {f:Value->Value->Sem Value}
  (hf:∀v u s2 x y H2,Inv X pins σ H2 s2->RelV x v->RelV y u->R x y H2->wpAny (model X.prog X.w) X.A (f v u) Q X.xe s2) :
  wpAny (model X.prog X.w) X.A (eval a X.env) (λv s₁=>wpAny (model X.prog X.w) X.A (eval b X.env) (λu s₂=>wpAny (model X.prog X.w) X.A (f v u) Q X.xe s₂) X.xe s₁) X.xe s:=by
 refine thn (ha pins s σ H _ I h) λv s1 ⟨x,H1,I1,r1,q1⟩=>?_;refine thn (hb pins s1 σ H1 _ I1 q1) λu s2 ⟨y,H2,I2,r2,q2⟩=>?_;exact hf v u s2 x y H2 I2 r1 r2 q2
theorem y1A(ho:OpR X (binaryOp op) r)(ha:PE X a ta)(hb:PE X b tb):PE X (.BinOp a op b pos) (tOp r ta tb):=by
 intro pins s σ H Q I h;exact wpAny_BinOp (binT ha hb I h λv u s2 x y H2 I2 rx ry q=>ho pins s2 σ H2 x y v u Q I2 rx ry q)
theorem y0I(ho:UnR X (unaryOp op) r)(ha:PE X a ta):PE X (.UnaryOp op a pos) (tUn r ta):=by
 intro pins s σ H Q I h;exact UnaryOp_ (thn (ha pins s σ H _ I h) λv s1 ⟨x,H1,I1,r1,q1⟩=>ho pins s1 σ H1 x v Q I1 r1 q1)
theorem opI{f:Value->Value->Sem Value}{C:Int->Int->Prop}{g:Int->Int->Int}
  (rule:∀(i j:Int) (t u:Tok) (s:Shared) (Q:Value->Shared->Prop) (E:Value->Shared->Prop),C i j->Q (.int (g i j) s.toks) {s with toks:=s.toks+1} -> wpAny (model X.prog X.w) X.A (f (.int i t) (.int j u)) Q E s) :
  OpR X f (rI C λi j=>.int (g i j)):=by
 intro pins s σ H x y v u Q I rx ry h;obtain⟨i,j,rfl,rfl,hc,q⟩:=h;obtain⟨t,rfl⟩:=rx;obtain⟨t',rfl⟩:=ry;exact rule i j t t' s _ _ hc ⟨.int (g i j),H,I.tok _,⟨_,rfl⟩,q⟩
theorem opI0{f:Value->Value->Sem Value}{g:Int->Int->Int}
  (rule:∀(i j:Int) (t u:Tok) (s:Shared) (Q:Value->Shared->Prop) (E:Value->Shared->Prop),Q (.int (g i j) s.toks) {s with toks:=s.toks+1} -> wpAny (model X.prog X.w) X.A (f (.int i t) (.int j u)) Q E s) :
  OpR X f (rI0 λi j=>.int (g i j)):=by
 intro pins s σ H x y v u Q I rx ry h;obtain⟨i,j,rfl,rfl,q⟩:=h;obtain⟨t,rfl⟩:=rx;obtain⟨t',rfl⟩:=ry;exact rule i j t t' s _ _ ⟨.int (g i j),H,I.tok _,⟨_,rfl⟩,q⟩
theorem opB0{f:Value->Value->Sem Value}{g:Int->Int->Bool}
  (rule:∀(i j:Int) (t u:Tok) (s:Shared) (Q:Value->Shared->Prop) (E:Value->Shared->Prop),Q (.bool (g i j)) s->wpAny (model X.prog X.w) X.A (f (.int i t) (.int j u)) Q E s) :
  OpR X f (rI0 λi j=>.bl (g i j)):=by
 intro pins s σ H x y v u Q I rx ry h;obtain⟨i,j,rfl,rfl,q⟩:=h;obtain⟨t,rfl⟩:=rx;obtain⟨t',rfl⟩:=ry;exact rule i j t t' s _ _ ⟨.bl (g i j),H,I,rfl,q⟩
def CPow(i j:Int):Prop:=0<=j/\j<=1000000/\i.natAbs<2^64
def CMul(i j:Int):Prop:=(-(2^64)<i/\i<2^64)\/(-(2^64)<j/\j<2^64)
theorem CMul.ok(h:CMul i j):IntMulOk i j:=by
 rcases h with⟨h1,h2⟩ | ⟨h1,h2⟩
 ·exact .of_left (intBits_le_64 h1 h2)
 ·exact .of_right (intBits_le_64 h1 h2)
theorem q9E(k:Nat):(0:Int)<=2^k:=by
 rw[two_pow_cast];exact D6 _
theorem z9y:OpR X (binaryOp .Add) (rI0 λi j=>.int (i+j)):=opI0 λ_ _ _ _ _ _ _ q=>add_int q
theorem z8t:OpR X (binaryOp .Sub) (rI0 λi j=>.int (i - j)):=opI0 λ_ _ _ _ _ _ _ q=>sub_int q
theorem z9P:OpR X (binaryOp .Mod) (rI (λ_ j=>0<j) λi j=>.int (i%j)):=opI λi j _ _ _ _ _ hc q=>by
 have h1:(0:Int)<j:=hc;exact mod_int' (by omega) (by rw[Int.fmod_eq_emod_of_nonneg i (by omega)];exact q)
theorem z9i:OpR X (binaryOp .LShift) (rI CPow λi j=>.int (i*2^j.toNat)):=opI λ_ _ _ _ _ _ _ hc q=>lshift_int_small hc.1 hc.2.1 hc.2.2 q
theorem z8B:OpR X (binaryOp .RShift) (rI (λ_ j=>0<=j) λi j=>.int (i/2^j.toNat)):=opI λi j _ _ _ _ _ hc q=>
 rshift_int hc (by rw[w3v i (q9E _)];exact q)
theorem z8K:OpR X (binaryOp .BitAnd) (rI0 λi j=>.int (Builtin.bitAnd i j)):=opI0 λ_ _ _ _ _ _ _ q=>and_int q
theorem unI{f:Value->Sem Value}{g:Int->Int}
  (rule:∀(i:Int) (t:Tok) (s:Shared) (Q:Value->Shared->Prop) (E:Value->Shared->Prop),Q (.int (g i) s.toks) {s with toks:=s.toks+1} -> wpAny (model X.prog X.w) X.A (f (.int i t)) Q E s) :
  UnR X f (rU λi=>.int (g i)):=by
 intro pins s σ H x v Q I rx h;obtain⟨i,rfl,q⟩:=h;obtain⟨t,rfl⟩:=rx;exact rule i t s _ _ ⟨.int (g i),H,I.tok _,⟨_,rfl⟩,q⟩
theorem z9z:UnR X (unaryOp .USub) (rU λi=>.int (-i)):=unI λ_ _ _ _ _ q=>neg_int q
end
section
variable {X:Cx} {a b c:Expr} {ta tb tc:TE} {pos:Pos}
theorem z8L{σ:St}(I:Inv X pins σ H s)(q:Q (.bl k) H)(e:k=k'):EP X pins σ Q (.bool k') s:=by
 subst e;exact⟨.bl k,H,I,rfl,q⟩
theorem y1s:OpR X (compareOp .Lt) (rI0 λi j=>.bl (decide (i<j))):=opB0 λ_ _ _ _ _ _ _ q=>lt_int q
theorem y0P:OpR X (compareOp .LtE) (rI0 λi j=>.bl (decide (i<=j))):=opB0 λ_ _ _ _ _ _ _ q=>le_int q
theorem z8z:OpR X (compareOp .Is) (λx y H Q=>y=.non/\Q (.bl (decide (x=.non))) H):=by
 intro pins s σ H x y v u Q I rx ry h;obtain⟨rfl,q⟩:=h;cases ry;refine is_none_gen (z8L I q ?_);cases x<;>first
  | (cases rx;rfl)
  | (obtain⟨t,rfl⟩:=rx;rfl)
theorem OpR.or(h:OpR X f r)(h':OpR X f r'):OpR X f (λx y H Q=>r x y H Q\/r' x y H Q):=by
 intro pins s σ H x y v u Q I rx ry q;rcases q with q | q
 ·exact h pins s σ H x y v u Q I rx ry q
 ·exact h' pins s σ H x y v u Q I rx ry q
theorem y2n(b:Expr)(h:op ≠ .In:=by decide)(h2:op ≠ .NotIn:=by decide):behindInMarks op b=false:=by
 have e1:(op==CmpOp.In)=false:=by cases op<;>first | rfl | exact absurd rfl h
 have e2:(op==CmpOp.NotIn)=false:=by cases op<;>first | rfl | exact absurd rfl h2
 cases b<;>simp[behindInMarks,e1,e2]
theorem z8c(ho:OpR X (compareOp op) r)(ha:PE X a ta)(hb:PE X b tb)(hm:behindInMarks op b=false):PE X (.Compare a [op] [b] pos) (tOp r ta tb):=by
 intro pins s σ H Q I h;exact wpAny_Compare1 (binT ha hb I h λv u s2 x y H2 I2 rx ry q=>ho pins s2 σ H2 x y v u Q I2 rx ry q) hm
def z8u(t:TE):TT:=λσ H Q=>t σ H λx H'=>∃k,x=.bl k/\Q k H'
theorem z7K(ho:OpR X (compareOp op) r)(ha:PE X a ta)(hb:PE X b tb)(hm:behindInMarks op b=false):PT X (.Compare a [op] [b] pos) (z8u (tOp r ta tb)):=by
 intro pins s σ H Q I h;refine w4i (thn (ha pins s σ H _ I h) λv s1 ⟨x,H1,I1,r1,q1⟩=>thn (hb pins s1 σ H1 _ I1 q1) λu s2 ⟨y,H2,I2,r2,q2⟩=>
  thn (ho pins s2 σ H2 x y v u _ I2 r1 r2 q2) λc s3 ⟨z,H3,I3,r3,k,e,q3⟩=>?_) hm
 subst e;cases r3;exact Y6 ⟨H3,I3,q3⟩
def z2f(r r':R2)(ta tb tc:TE):TE:=λσ H Q=>ta σ H λx H1=>tb σ H1 λy H2=>r x y H2 λz H3=>∃k,z=.bl k /\
 (if k=true then tc σ H3 λw' H4=>r' y w' H4 Q else Q (.bl false) H3)
theorem z3y(ho:OpR X (compareOp op) r)(ho':OpR X (compareOp op') r')(ha:PE X a ta)(hb:PE X b tb)(hc:PE X c tc)
  (hm:lastMarks [op,op'] [b,c]=false:=by with_unfolding_all rfl):PE X (.Compare a [op,op'] [b,c] pos) (z2f r r' ta tb tc):=by
 intro pins s σ H Q I h;refine Compare_chain (thn (ha pins s σ H _ I h) λv s1 ⟨x,H1,I1,r1,q1⟩=>chain_link (thn (hb pins s1 σ H1 _ I1 q1) λu s2 ⟨y,H2,I2,r2,q2⟩=>
  thn (ho pins s2 σ H2 x y v u _ I2 r1 r2 q2) λd s3 ⟨z,H3,I3,r3,k,e,q3⟩=>?_)) hm
 subst e;cases r3;refine Y6 ?_;cases k with
 | false=>exact ite_ff ⟨.bl false,H3,I3,rfl,q3⟩
 | true=>exact ite_tt (chain_last (thn (hc pins s3 σ H3 _ I3 q3) λw' s4 ⟨z',H4,I4,r4,q4⟩=>ho' pins s4 σ H4 y z' u w' Q I4 r2 r4 q4))
theorem z4d(ho:OpR X (compareOp op) r)(ho':OpR X (compareOp op') r')(ha:PE X a ta)(hb:PE X b tb)(hc:PE X c tc)
  (hm:lastMarks [op,op'] [b,c]=false:=by with_unfolding_all rfl):PT X (.Compare a [op,op'] [b,c] pos) (z8u (z2f r r' ta tb tc)):=by
 intro pins s σ H Q I h;refine isTrue_chain (thn (ha pins s σ H _ I h) λv s1 ⟨x,H1,I1,r1,q1⟩=>test_link (thn (hb pins s1 σ H1 _ I1 q1) λu s2 ⟨y,H2,I2,r2,q2⟩=>
  thn (ho pins s2 σ H2 x y v u _ I2 r1 r2 q2) λd s3 ⟨z,H3,I3,r3,k,e,q3⟩=>?_)) hm
 subst e;cases r3;refine Y6 ?_;cases k with
 | false=>
  obtain⟨k',e',q'⟩:=q3;cases e';exact ite_ff ⟨H3,I3,q'⟩
 | true=>
  refine ite_tt (test_last (thn (hc pins s3 σ H3 _ I3 q3) λw' s4 ⟨z',H4,I4,r4,q4⟩=>thn (ho' pins s4 σ H4 y z' u w' _ I4 r2 r4 q4) λd' s5 ⟨z2,H5,I5,r5,k2,e2,q5⟩=>?_));subst e2;cases r5;exact Y6 ⟨H5,I5,q5⟩
def TruV(K:PySem.W.Frag)(x:V)(H:Hp)(k:Bool):Prop:=
 match x with
 | .non=>k=false
 | .bl b=>k=b
 | .int i=>k=(i != 0)
 | .str y=>y.length<=sizeLine/\k=((y.length:Int) != 0)
 | .byt y=>y.size<=sizeLine/\k=((y.size:Int) != 0)
 | .ref p=>(∃xs,SqL K H p xs/\k = !xs.isEmpty)\/(∃xs,SqT K H p xs/\k = !xs.isEmpty)\/∃kvs,H p=some (.dK kvs)/\k = !kvs.isEmpty
 | _=>False
theorem q9N(r:KV kvs vs):(!vs.isEmpty) = !kvs.isEmpty:=by
 cases r<;>rfl
theorem q5X(r:Vals xs its):(!its.toArray.isEmpty) = !xs.isEmpty:=by
 cases r<;>simp
theorem V5:(sizeLine:Nat)<2^63:=by rw[K9];decide
theorem q8F:TruR X (λx H Q=>∃k,TruV X.K x H k/\Q k H):=by
 intro pins s σ H x v Q I rx h;obtain⟨k,e,q⟩:=h;have hl:=V5;have hs:sizeLine=16777216:=K9;cases x with
 | non=>
  cases rx;have e':k=false:=e;subst e';exact truthy_none ⟨H,I,q⟩
 | bl b=>
  cases rx;have e':k=b:=e;subst e';exact Y6 ⟨H,I,q⟩
 | int i=>
  obtain⟨t,rfl⟩:=rx;have e':k=(i != 0):=e;subst e';exact PySem.P.truthy_int ⟨H,I,q⟩
 | str y=>
  obtain⟨t,rfl⟩:=rx;obtain⟨hy,e'⟩:y.length<=sizeLine/\k=((y.length:Int) != 0):=e;subst e';exact PySem.P.truthy_str (by omega) ⟨H,I.tok _,q⟩
 | byt y=>
  obtain⟨t,rfl⟩:=rx;obtain⟨hy,e'⟩:y.size<=sizeLine/\k=((y.size:Int) != 0):=e;subst e';exact PySem.W.truthy_bytes (by omega) ⟨H,I.tok _,q⟩
 | ref p=>
  cases rx;have e':(∃xs,SqL X.K H p xs/\k = !xs.isEmpty)\/(∃xs,SqT X.K H p xs/\k = !xs.isEmpty)\/∃kvs,H p=some (.dK kvs)/\k = !kvs.isEmpty:=e;rcases e' with⟨xs,hx,e'⟩ | ⟨xs,hx,e'⟩ | ⟨kvs,hx,e'⟩
  ·subst e';obtain⟨its,r,pl,hz⟩:=I.list hx;have hlen:=r.length;exact wpAny_truthy_list pl.isList (by simp only[o9];omega) ⟨H,I.tok _,by rw[q5X r];exact q⟩
  ·subst e';obtain⟨its,r,pl,hz⟩:=I.tuple hx;have hlen:=r.length;exact truthy_tuple pl (by simp only[o9];omega) ⟨H,I.tok _,by rw[q5X r];exact q⟩
  ·subst e';obtain⟨hz,hS,vs,r,m⟩:kvs.length<=sizeLine/\(p==sysModules)=false/\∃vs,KV kvs vs/\s.heap.DictOf (A8 X.prog X.w) p vs:=I.hok p _ hx;have hlen:kvs.length=vs.length:=w3t r;exact wpAny_truthy_dict hS m (by omega) ⟨H,I.tok _,by rw[q9N r];exact q⟩
 | _=>exact(show False from e).elim
theorem q8L(ha:PE X a ta)(he:∀whole,isTrue a X.env whole=(do let v ←whole;standAt a.pos;holding [v] (truthy v))) :
  PT X a (λσ H Q=>ta σ H λx H'=>∃k,TruV X.K x H' k/\Q k H'):=by
 intro pins s σ H Q I h;exact isTrue_plain (thn (ha pins s σ H _ I h) λv s1 ⟨x,H1,I1,r1,q1⟩=>q8F pins s1 σ H1 x v Q I1 r1 q1) (he _)
theorem K3(r:Vals [x] us):∃u,us=[u]/\RelV x u:=by
 cases r with
 | cons r1 r2=>cases r2;exact⟨_,rfl,r1⟩
theorem z0w(r:Vals [x,y] us):∃u w',us=[u,w']/\RelV x u/\RelV y w':=by
 cases r with
 | cons r1 r2=>
  cases r2 with
  | cons r3 r4=>cases r4;exact⟨_,_,rfl,r1,r3⟩
theorem z2v(hc:X.calm=true):x0 X (.builtin "max") (λxs H Q=>∃i j,xs=[.int i,.int j]/\Q (.int (if j>i then j else i)) H):=by
 intro pins s σ H xs us Q I r h;obtain⟨i,j,rfl,q⟩:=h;obtain⟨u,w',rfl,⟨t,rfl⟩,⟨t',rfl⟩⟩:=z0w r;refine max_two_ints (I.ok.hd hc) λh' tk k=>⟨_,H,I.kept k,?_,q⟩
 by_cases hj:j>i
 ·rw[b8 hj,b8 hj];exact⟨_,rfl⟩
 ·rw[d7 hj,d7 hj];exact⟨_,rfl⟩
theorem z1q(hc:X.calm=true):x0 X (.builtin "min") (λxs H Q=>∃i j,xs=[.int i,.int j]/\Q (.int (if j<i then j else i)) H):=by
 intro pins s σ H xs us Q I r h;obtain⟨i,j,rfl,q⟩:=h;obtain⟨u,w',rfl,⟨t,rfl⟩,⟨t',rfl⟩⟩:=z0w r;refine min_two_ints (I.ok.hd hc) λh' tk k=>⟨_,H,I.kept k,?_,q⟩
 by_cases hj:j<i
 ·rw[b8 hj,b8 hj];exact⟨_,rfl⟩
 ·rw[d7 hj,d7 hj];exact⟨_,rfl⟩
theorem q7C:x0 X (.type "int") (λxs H Q=>(∃i,xs=[.int i]/\Q (.int i) H)\/∃k,xs=[.bl k]/\Q (.int (if k then 1 else 0)) H):=by
 intro pins s σ H xs us Q I r h;rcases h with⟨i,rfl,q⟩ | ⟨k,rfl,q⟩
 ·obtain⟨u,rfl,t,rfl⟩:=K3 r;exact call_int_int ⟨.int i,H,I,⟨_,rfl⟩,q⟩
 ·obtain⟨u,rfl,r1⟩:=K3 r;cases r1;exact call_int_bool ⟨.int (if k then 1 else 0),H,I.tok _,⟨_,rfl⟩,q⟩
end
end
section
structure ObjM(h:Heap)(x dx C:Addr)(mA:Str->Option Value):Prop where
 obj:h.get? x=some (PySem.W.instObj C dx)
 ns:h.Ns1 dx mA
 ne:dx≠x
section
variable {prog:Program} {w:World} {A:Around} {E:Value->Shared->Prop} {s:Shared} {K:PySem.W.Frag} {x dx C f:Addr} {mA:Str->Option Value} {name:Str} {v:Value}
end
theorem RelO.some_of(r:RelO (some v) o):∃u,o=some u/\RelV v u:=by
 cases o with
 | none=>exact(show False from r).elim
 | some u=>exact⟨u,rfl,r⟩
section
variable {P:Program} {w:World} {H H':Hp} {h h':Heap} {a C dx:Addr} {fs fs':List (Str×V)}
theorem z1S(hok:HOk P w H h)(e:H a=some (.ins C dx fs)):∃mA,ObjM h a dx C mA/\(∀f,RelO (fs.lookup f) (mA f))/\PySem.Within mA (fs.map (·.1))/\fs.length<=1000/\H dx=some (.own a):=by
 obtain⟨d,z,ne,ob,mA,n,r,q⟩:=(show n4 P w H h a (.ins C dx fs)from hok a _ e);exact⟨mA,⟨ob,n,ne⟩,r,q,z,d⟩
end
structure Cls(K:PySem.W.Frag)(C:Addr):Prop where
 pg:PySem.W.plainGet K C Str.empty=true
 hd:PySem.W.hasDictIn K C=true
 po:PySem.W.plainOver K C=true
 sa:PySem.W.findIn K (.ref C) "__setattr__" = some (some (.builtin "object.__setattr__"))
structure Con(K:PySem.W.Frag)(C:Addr)(f:Str)(v:V)(u:Value):Prop where
 at_:PySem.W.findIn K (.ref C) f=some (some u)
 rel:RelV v u
 get:PySem.W.specialIn K u "__get__" = some none
 cp:PySem.W.copiedNames.contains f=false
structure Meth(K:PySem.W.Frag)(C:Addr)(m:Str)(f:Addr):Prop where
 at_:PySem.W.findIn K (.ref C) m=some (some (.ref f))
 fn:PySem.W.isFn K (.ref f)=true
 kp:PySem.W.keepIn K (.ref f)=true
section
variable {X:Cx} {pins:List (Addr×Obj)} {σ:St} {H:Hp} {s:Shared} {a C dx:Addr} {fs:List (Str×V)} {f:Str} {v:V} {A:Around} {E:Value->Shared->Prop}
end
section
variable {X:Cx} {o e value:Expr} {f:Str} {pos pos' tpos:Pos} {ta tv:TE}
end
section
variable {X:Cx} {pins:List (Addr×Obj)} {σ:St} {H:Hp} {s:Shared} {A:Around} {E:Value->Shared->Prop} {Q:Value->Shared->Prop} {c:Value} {b:Bool}
inductive TyOf (K:PySem.W.Frag) (H:Hp):V->Value->Prop where
 | non:TyOf K H .non (.type "NoneType")
 | bl (x:Bool):TyOf K H (.bl x) (.type "bool")
 | int (i:Int):TyOf K H (.int i) (.type "int")
 | str (x:Str):TyOf K H (.str x) (.type "str")
 | flt (x:UInt64):TyOf K H (.flt x) (.type "float")
 | lst {a:Addr} {xs:List V} (e:H a=some (.lst xs)):TyOf K H (.ref a) (.type "list")
 | frz {a:Addr} {o:Obj} {xs:List V} (e:H a=some (.frz o (.lst xs))):TyOf K H (.ref a) (.type "list")
 | tup {a:Addr} {xs:List V} (e:H a=some (.tup xs)):TyOf K H (.ref a) (.type "tuple")
 | dK {a:Addr} {kvs:List (Key×V)} (e:H a=some (.dK kvs)):TyOf K H (.ref a) (.type "dict")
 | dT {a:Addr} {kvs:List (List Key×V)} (e:H a=some (.dT kvs)):TyOf K H (.ref a) (.type "dict")
 | ins {a C dx:Addr} {fs:List (Str×V)} (e:H a=some (.ins C dx fs)) (cl:Cls K C) (ha:PySem.W.findIn K (.ref C) "__class__" = some (some (.builtin "object.__class__")))
   (hn:PySem.W.specialIn K (.builtin "object.__class__") "__get__" = some (some (.builtin "getset_descriptor.__get__"))) (htk:PySem.W.takesIn K (.builtin "object.__class__")=some true)
   (hm:PySem.W.mroIn K C (.type "object")=some true):TyOf K H (.ref a) (.ref C)
end
end
section
structure Room(k:Nat)(A:Around):Prop where
 hd:A.handled=none
 dp:A.depth+3*k+5<recursionLimit
 un:A.units+16*k+200<cLine
theorem Room.deeper(r:Room (k+1) A)(env:Env):Room k (A.deeper env):=
 ⟨r.hd,by have:=r.dp;show A.depth+1+3*k+5<_;omega,by have:=r.un;show A.units+3+16*k+200<_;omega⟩
theorem Room.depth(r:Room k A):A.depth<recursionLimit:=by have:=r.dp;omega
theorem Room.units(r:Room k A):A.units+64<cLine:=by have:=r.un;omega
def tNil:TA:=λ_ H Q=>Q [] H
def y2h(ta:TE)(tr:TA):TA:=λσ H Q=>ta σ H λx H1=>tr σ H1 λxs H2=>Q (x::xs) H2
section
variable {X:Cx} {e:Expr} {es:List Expr} {te:TE} {t:TA} {pos:Pos}
theorem V6:PA X [] tNil:=λ_ _ _ _ H Q I h=>w3z ⟨[],H,I,.nil,h⟩
theorem L3(ha:PE X e te)(hr:PA X es t)(hs:starEach (e::es) X.env=(false,eval e X.env)::starEach es X.env:=by rfl):PA X (e::es) (y2h te t):=by
 intro pos pins s σ H Q I h;rw[hs];show wpAny _ _ (spliced ((false,eval e X.env)::backTo pos (starEach es X.env))) _ _ s;refine w3o (thn (ha pins s σ H _ I h) λu s1 ⟨x,H1,I1,r1,q1⟩=>?_);exact thn (hr pos pins s1 σ H1 _ I1 q1) λus s2 ⟨xs,H2,I2,r2,q2⟩=>⟨x::xs,H2,I2,.cons r1 r2,q2⟩
def tTup(t:TA):TE:=λσ H Q=>t σ H λxs H1=>xs.length<=sizeLine/\∀p,H1 p=none->Q (.ref p) (upd H1 p (.tup xs))
def tLst(t:TA):TE:=λσ H Q=>t σ H λxs H1=>xs.length<=sizeLine/\∀p,H1 p=none->Q (.ref p) (upd H1 p (.lst xs))
theorem z5w{x1}(h:PA X es t):PE X (.Tuple es x1 pos) (tTup t):=by
 intro pins s σ H Q I hq;refine wpAny_Tuple_spliced (thn (h pos pins s σ H _ I hq) λus s1 ⟨xs,H1,I1,r,z,q⟩=>⟨by rw[←r.length];exact z,?_⟩);have hf:H1 s1.heap.objs.size=none:=I1.hok.fresh (e9 _);refine⟨.ref s1.heap.objs.size,upd H1 s1.heap.objs.size (.tup xs),I1.laid (t':=s1.toks) (λb u e=>j2 _ e) (e9 _) ?_,rfl,q _ hf⟩;exact⟨z,us,r,⟨_,p8 _ rfl,⟨rfl,rfl⟩,_,rfl⟩⟩
theorem y0i(h:PA X es t):PE X (.List es pos) (tLst t):=by
 intro pins s σ H Q I hq;refine wpAny_List_spliced (thn (h pos pins s σ H _ I hq) λus s1 ⟨xs,H1,I1,r,z,q⟩=>⟨by rw[←r.length];exact z,?_⟩);have hf:H1 s1.heap.objs.size=none:=I1.hok.fresh (e9 _);refine⟨.ref s1.heap.objs.size,upd H1 s1.heap.objs.size (.lst xs),I1.laid (t':=s1.toks) (λb u e=>j2 _ e) (e9 _) ?_,rfl,q _ hf⟩;exact⟨z,us,0,r,p8 _ rfl⟩
end
abbrev Sp:=List V->Hp->VK->XK->Prop
abbrev CXT:=List Env->Hp->Shared->XK->Value->Shared->Prop
structure Env0(P:Program)(w:World)(K:PySem.W.Frag)(mg:Str->Option Value)(base:Heap)(A:Around)(outer:List Env)(s:Shared)(H:Hp):Prop where
 frames:A.frames=some outer
 mod:Mod K mg base
 bs:∀b o,base.get? b=some o->s.heap.get? b=some o/\H b=none
 bsz:base.objs.size<=s.heap.objs.size
 funs:s.heap.FunFrames base outer
 frf:∀b∈frs outer,H b=none
 hok:HOk P w H s.heap
 bare:AllBare s.gens
def CE(outer:List Env)(P:Program)(w:World)(H:Hp)(s:Shared)(Q:VK)(u:Value)(s':Shared):Prop:=
 ∃v H',s'.os=s.os/\AllBare s'.gens/\Un (frs outer) [] H H' s.heap s'.heap/\HOk P w H' s'.heap/\RelV v u/\Q v H'
def CR(CX:CXT)(outer:List Env)(P:Program)(w:World)(H:Hp)(s:Shared)(Q:VK)(E:XK)(r:Result)(s':Shared):Prop:=
 match r with
 | .ok (.ret u)=>CE outer P w H s Q u s'
 | .ok _=>False
 | .error e=>CX outer H s E e s'
structure FnOk(P:Program)(w:World)(K:PySem.W.Frag)(mg:Str->Option Value)(base:Heap)(CX:CXT)(k:Nat)(f:Addr)(fd:FuncData)(ps:List Str)(sp:Sp):Prop where
 len:∀vs H Q E,sp vs H Q E->vs.length=ps.length
 run:∀(A:Around) (outer:List Env) (s:Shared) (H:Hp) (args:Args) (us:List Value) (vs:List V) (Q:VK) (E:XK),Room k A->Env0 P w K mg base A outer s H->BindsTo s fd args (ps.zip us)->Vals vs us->sp vs H Q E ->
  codeAny (model P w) A (.call (.ref f) args) (CR CX outer P w H s Q E) s
section
variable {X:Cx} {pins:List (Addr×Obj)} {σ:St} {H:Hp} {s s':Shared}
theorem Inv.env0(I:Inv X pins σ H s):Env0 X.prog X.w X.K X.mg X.base X.A X.stack s H:=
 ⟨I.ok.frames,I.ok.mod,I.bs,i7 I.ok.bsz I.sz,I.stack,I.stkFree,I.hok,I.bare⟩
theorem Inv.after(I:Inv X pins σ H s)(h:CE X.stack X.prog X.w H s Q u s'):EP X pins σ Q u s':=by
 obtain⟨v,H',os,bare,un,hok,r,q⟩:=h;obtain⟨hh,g,d,t,os'⟩:=s';obtain rfl:os'=s.os:=os;exact⟨v,H',I.call (h':=hh) (g':=g) (d':=d) (t':=t) (ch:=[]) un hok bare (λb z=>absurd z (by simp)),r,q⟩
end
def D5(K:PySem.W.Frag)(fd:FuncData)(ps:List Str)(ds:List Value):Prop:=
 ∀(s:Shared) (us:List Value),K.In s.heap->(us++ds).length=ps.length->BindsTo s fd ⟨us,[]⟩ (ps.zip (us++ds))
theorem D5.all{K:PySem.W.Frag}{fd:FuncData}{ps:List Str}(h:∀us:List Value,us.length=ps.length->bindArgs fd ⟨us,[]⟩=pure (ps.zip us)):D5 K fd ps []:=λs us _ hl=>by
 rw[B3]at hl ⊢;exact .of_eq (h us hl)
def z0V(CX:CXT)(X:Cx)(E:XK):Prop:=∀(pins:List (Addr×Obj)) (σ:St) (H:Hp) (s:Shared) (e:Value) (s':Shared),Inv X pins σ H s->CX X.stack H s E e s'->X.xe e s'
section
variable {X:Cx} {CX:CXT} {k:Nat} {f C:Addr} {fd:FuncData} {ps:List Str} {sp:Sp} {dvs:List V} {ds:List Value} {E:XK} {x m:Str} {p pos apos:Pos} {e o:Expr} {es:List Expr} {ta:TE} {t:TA}
structure Mk(K:PySem.W.Frag)(C f:Addr):Prop where
 makes:PySem.W.makesIn K C=true
 init:PySem.W.findIn K (.ref C) "__init__" = some (some (.ref f))
 fn:PySem.W.isFn K (.ref f)=true
 kp:PySem.W.keepIn K (.ref C)=true
end
section
variable {X:Cx} {CX:CXT} {k:Nat} {f C:Addr} {fd:FuncData} {ps ks:List Str} {sp:Sp} {E:XK} {x m:Str} {p pos apos kpos:Pos} {e o:Expr} {es:List Expr} {kws:List Keyword} {te ta:TE} {t tk:TA} {nm:Option Str}
structure KBinds(K:PySem.W.Frag)(fd:FuncData)(ps ks:List Str)(g:List Value->List Value->List Value)(gV:List V->List V->List V):Prop where
 to:∀(s:Shared) (us ws:List Value),K.In s.heap->(g us ws).length=ps.length->BindsTo s fd ⟨us,ks.zip ws⟩ (ps.zip (g us ws))
 rel:∀{vs:List V} {us:List Value} {zs:List V} {ws:List Value},Vals vs us->Vals zs ws->Vals (gV vs zs) (g us ws)
variable {g:List Value->List Value->List Value} {gV:List V->List V->List V}
end
structure FnScope(N P:List Str)(sc:Scope):Prop where
 kind:sc.kind=.function
 co:sc.isCoroutine=false
 gen:sc.isGenerator=false
 nd:N.Nodup
 pre:N.take P.length=P
 par:∀x∈P,sc.names.lookup x=some .local\/sc.names.lookup x=some .cell
 nofree:∀y∈sc.names,y.2 ≠ .free
theorem q6O{kindOf:Str->Option NameKind}{x:Str}:∀{binds:List (Str×Value)} {m:Str->Option Value},(∀v,(x,v)∉binds)->bindL kindOf binds m x=m x
 | [],_,_=>rfl
 | (n,v)::r,m,h=>by
  unfold bindL;rw[q6O λw hw=>h w (i6 _ hw)];split
  ·have:x≠n:=by rintro rfl;exact h v i8
   simp[this]
  ·rfl
theorem q7r{kindOf:Str->Option NameKind}{x:Str}:∀{binds:List (Str×Value)} {m:Str->Option Value},(∀v,(x,v)∉binds)->bindC kindOf binds m x=m x
 | [],_,_=>rfl
 | (n,v)::r,m,h=>by
  unfold bindC;rw[q7r λw hw=>h w (i6 _ hw)];split
  ·rfl
  ·have:x≠n:=by rintro rfl;exact h v i8
   simp[this]
theorem q6J{kindOf:Str->Option NameKind}{x:Str}{v:Value}:∀{P:List Str} {vs:List Value} {i:Nat} {m:Str->Option Value},P.Nodup->P[i]? = some x->vs[i]? = some v->kindOf x=some .local ->
  bindL kindOf (P.zip vs) m x=some v
 | [],_,_,_,_,h,_,_=>by simp at h
 | _::_,[],_,_,_,_,h,_=>by simp at h
 | p::P,w::vs,0,m,nd,h1,h2,hk=>by simp at h1 h2;subst h1;subst h2;show bindL kindOf ((p,w)::P.zip vs) m p=_;unfold bindL;rw[q6O λv hv=>(O1.mp nd).1 (w30 hv).1,b8 hk];simp
 | p::P,w::vs,i+1,m,nd,h1,h2,hk=>by show bindL kindOf ((p,w)::P.zip vs) m x=_;unfold bindL;exact q6J (i:=i) (O1.mp nd).2 (by simpa using h1) (by simpa using h2) hk
theorem q6Q{kindOf:Str->Option NameKind}{x:Str}{v:Value}:∀{P:List Str} {vs:List Value} {i:Nat} {m:Str->Option Value},P.Nodup->P[i]? = some x->vs[i]? = some v->kindOf x≠some .local ->
  bindC kindOf (P.zip vs) m x=some v
 | [],_,_,_,_,h,_,_=>by simp at h
 | _::_,[],_,_,_,_,h,_=>by simp at h
 | p::P,w::vs,0,m,nd,h1,h2,hk=>by simp at h1 h2;subst h1;subst h2;show bindC kindOf ((p,w)::P.zip vs) m p=_;unfold bindC;rw[q7r λv hv=>(O1.mp nd).1 (w30 hv).1,d7 hk];simp
 | p::P,w::vs,i+1,m,nd,h1,h2,hk=>by show bindC kindOf ((p,w)::P.zip vs) m x=_;unfold bindC;exact q6Q (i:=i) (O1.mp nd).2 (by simpa using h1) (by simpa using h2) hk
def start(N:List Str)(vs:List V):St:=vs.map some++List.replicate (N.length - vs.length) none
def cxOf(CX:CXT)(P:Program)(w:World)(K:PySem.W.Frag)(mg:Str->Option Value)(base:Heap)(N:List Str)(qual:Str)(scope:Scope)(f:Addr)(cd:Value)(A:Around)(outer:List Env)(s:Shared)(H:Hp)(E:XK):Cx where
 prog:=P
 w:=w
 K:=K
 mg:=mg
 base:=base
 A:=A.deeper (envOfC qual scope s.heap.objs.size f cd)
 N:=N
 s₀:=s
 H₀:=H
 env:=envOfC qual scope s.heap.objs.size f cd
 outer:=outer
 stack:=envOfC qual scope s.heap.objs.size f cd::outer
 ex:=[]
 calm:=true
 fn:=λ_=>true
 pn:=[]
 xe:=λe s'=>wpAny (model P w) (A.deeper (envOfC qual scope s.heap.objs.size f cd)) (leaving (envOfC qual scope s.heap.objs.size f cd) e) (λ_ s''=>CX outer H s E e s'') (λe' s''=>CX outer H s E e' s'') s'
theorem q9w{sc:Scope}{n:Nat}{x:Str}(h:sc.names.lookup x=some .cell):∃c,(cellsFrom n sc.names []).lookup x=some c:=by
 have q:=w2m sc.names n [] (.inl h);exact Y1.mp q
theorem z2x{CX:CXT}{P:Program}{w:World}{K:PySem.W.Frag}{mg:Str->Option Value}{base:Heap}{N ps:List Str}{qual:Str}{scope:Scope}{f:Addr}{cd:Value}{A:Around}{outer:List Env}{s s1:Shared}{H:Hp}{E:XK}{us:List Value}{vs:List V}
  (S:FnScope N ps scope) (hd:A.handled=none) (e0:Env0 P w K mg base A outer s H) (hl:vs.length=ps.length) (r:Vals vs us)
  (x:InCallC s s.heap.objs.size (bindL (envOfC qual scope s.heap.objs.size f cd).kindOf (ps.zip us) λ_=>none) (cellsFrom (s.heap.objs.size+1) scope.names []) (bindC (envOfC qual scope s.heap.objs.size f cd).kindOf (ps.zip us) λ_=>none) s1) :
  Inv (cxOf CX P w K mg base N qual scope f cd A outer s H E) [] (start N vs) H s1:=by
 have hpl:ps.length<=N.length:=by have:=congrArg List.length S.pre;rw[J4]at this;omega
 obtain⟨h1,tk,rfl,hk⟩:=x.done;have noA:∀b:Addr,b∉(cxOf CX P w K mg base N qual scope f cd A outer s H E).ex:=λb z=>absurd (show b∈([]:List Addr)from z) (by simp)
 refine⟨⟨e0.mod,S.kind,rfl,rfl,e9 _,λy z c h1 h2=>?_,λy hy=>?_,λy c _ h=>?_,λ_=>hd,Around.frames_deeper e0.frames,.inr ⟨rfl,rfl⟩,λb z=>absurd z (noA b),e0.bs,e0.bsz,λb _ _=>noA b,λb z=>absurd z (noA b),e0.funs,e0.frf⟩,
  rfl,e0.bare,Un.kept hk,⟨_,x.toInCall.ns,λi y v h1 h2 h3=>?_⟩,λy c h=>⟨_,x.cell y c h⟩,e0.hok.fresh (e9 _),λy c h=>?_,λp hp=>absurd (show p∈([]:List (Addr×Obj))from hp) (by simp),e0.hok.kept hk,?_⟩
 ·exact name_of_addr x.apart (M3 h1) (M3 h2)
 ·have hy:scope.names.lookup y=some .cell\/scope.names.lookup y=some .free:=hy;rcases hy with hy | hy
  ·exact q9w hy
  ·exact absurd rfl (S.nofree _ (M3 hy))
 ·exact w23 (x.above y c (M3 h))
 ·have hi:i<vs.length:=by
   unfold start at h2;by_cases hi:i<vs.length
   ·exact hi
   ·rw[N5 (by simpa using hi)]at h2;rw[Y2]at h2;split at h2<;>cases h2
  have ha:vs[i]? = some v:=by
   unfold start at h2;rw[M1 (by simpa using hi),n9]at h2;cases e:vs[i]? with
   | none=>rw[e]at h2;cases h2
   | some a=>rw[e]at h2;cases h2;rfl
  obtain⟨u,hu,rv⟩:=r.get ha;have hp:ps[i]? = some y:=(by rw[←S.pre,w13 (by omega)];exact h1);have ndP:ps.Nodup:=by rw[←S.pre];exact S.nd.sublist (List.take_sublist _ _)
  refine⟨u,rv,?_⟩;rcases S.par y (w2u hp)with k | k
  ·exact .inl ⟨k,q6J ndP hp hu k⟩
  ·obtain⟨c,e⟩:=q9w (n:=s.heap.objs.size+1) k;refine .inr ⟨.inl k,c,e,?_⟩;have q:=x.cell y c e;rw[q6Q ndP hp hu (by show scope.names.lookup y≠_;rw[k];decide)]at q;exact q
 ·exact e0.hok.fresh (w23 (x.above y c (M3 h)))
 ·unfold start;show _=N.length;rw[p9,d5,w20];omega
theorem y1K{CX:CXT}{P:Program}{w:World}{K:PySem.W.Frag}{mg:Str->Option Value}{base:Heap}{k:Nat}{f:Addr}{name qual:Str}{params:Arguments}{body:List Stmt}{scope:Scope}{dV kV doc pm cdv ct oc:Value}{an od:Option Addr}
  {osl:Array (Option Value)} {N ps:List Str} {sp:Sp} (lk:K.lookup f=some ⟨oc,od,.func (PySem.W.fnOf name qual params body scope dV kV doc pm an cdv ct),osl⟩) (hcd:PySem.W.codeIn K cdv qual=true) (S:FnScope N ps scope)
  (len:∀vs H Q E,sp vs H Q E->vs.length=ps.length)
  (hbody:∀(A:Around) (outer:List Env) (s:Shared) (H:Hp) (vs:List V) (Q:VK) (E:XK),Room k (A.deeper (envOfC qual scope s.heap.objs.size f cdv))->sp vs H Q E ->
   ∃t,PSs (cxOf CX P w K mg base N qual scope f cdv A outer s H E) body t/\t {nx:=λ_ H'=>Q .non H',rt:=Q} (start N vs) H) :
  FnOk P w K mg base CX (k+1) f (PySem.W.fnOf name qual params body scope dV kV doc pm an cdv ct) ps sp:=by
 refine⟨len,λA outer s H args us vs Q E hr e0 hb r hsp=>?_⟩;have hl:=len _ _ _ _ hsp;have KX:K.In s.heap:=e0.mod.kin.keeps λb o e=>(e0.bs b o e).1;have lim:s.heap.NoLimit:=e0.mod.nolimit.keeps λb o e=>(e0.bs b o e).1;have hkind:∀y∈ps.zip us,scope.names.lookup y.1=some .local\/(scope.names.lookup y.1=some .cell/\((cellsFrom (s.heap.objs.size+1) scope.names []).lookup y.1).isSome=true):=λ⟨n,v⟩ hy=>by
  rcases S.par n (w30 hy).1 with q | q
  ·exact .inl q
  ·exact .inr ⟨q,w2m _ _ _ (.inl q)⟩
 refine codeAny_call_function hr.depth (KX _ _ lk) rfl S.co S.gen rfl (PySem.W.codeRec_of KX hcd) (hb _ _ _ _ ?_)
 refine wpAny_newFunctionEnv_cells S.kind hkind λenv he s1 x=>?_;subst he;refine⟨lim.keeps x.toInCall.keep,codeAny_func ?_⟩;obtain⟨t,ht,hq⟩:=hbody A outer s H vs Q E (hr.deeper _) hsp;have I:Inv (cxOf CX P w K mg base N qual scope f cdv A outer s H E) [] (start N vs) H s1:=z2x S hr.hd e0 hl r x;refine B4 (ht [] s1 (start N vs) H _ I hq) (λfl s' hs=>?_) λe s' hs=>hs;have fin:∀{σ':St} {H':Hp} {v:V} {u:Value},Inv (cxOf CX P w K mg base N qual scope f cdv A outer s H E) [] σ' H' s'->RelV v u->Q v H'->CE outer P w H s Q u s':=
  λ{σ' H' v u} J rv q=>⟨v,H',J.os,J.bare,J.base,J.hok,rv,q⟩
 cases fl with
 | ret u=>
  obtain⟨v,σ',H',J,rv,q⟩:=hs;exact fin J rv q
 | next=>
  obtain⟨σ',H',J,q⟩:=hs;exact fin (v:=V.non) (u:=Value.none) J rfl q
 | brk=>
  obtain⟨_,_,_,q⟩:=hs;exact False.elim q
 | cont=>
  obtain⟨_,_,_,q⟩:=hs;exact False.elim q
end
section
section
variable {X:Cx} {x:Str} {p pos:Pos} {e:Expr} {es:List Expr} {t:TA} {id T:String} {r:List V->Hp->VK->Prop}
def tCB(r:List V->Hp->VK->Prop)(t:TA):TE:=λσ H Q=>t σ H λvs H1=>r vs H1 Q
theorem q4N(hc:x0 X (.builtin id) r)(hg:Gl X x)(hm:X.mg x=none)(hv:bootBuiltins x=some (.builtin id))(ha:PA X (e::es) t)(hn:x ≠ "__name__":=by decide)(hdb:(x==("__debug__" : Str))=false:=by decide)
  (he:starEach (e::es) X.env=(false,eval e X.env)::starEach es X.env:=by rfl) (hpl:(backTo pos (starEach es X.env)).any (·.1)=false:=by rfl):PE X (.Call (.Name x p) (e::es) [] pos) (tCB r t):=by
 intro pins s σ H Q I h;refine w2K (q5M I hg hm hv ?_ hn hdb);exact PyProof.Rows.callWith_builtin1 (thn (ha pos pins s σ H _ I h) λus s1 ⟨vs,H1,I1,r1,q1⟩=>hc pins s1 σ H1 vs us Q I1 r1 q1) he hpl
theorem q7A(hc:x0 X (.type T) r)(hg:Gl X x)(hm:X.mg x=none)(hv:bootBuiltins x=some (.type T))(ha:PA X (e::es) t)(hn:x ≠ "__name__":=by decide)(hdb:(x==("__debug__" : Str))=false:=by decide)
  (he:starEach (e::es) X.env=(false,eval e X.env)::starEach es X.env:=by rfl) (hpl:(backTo pos (starEach es X.env)).any (·.1)=false:=by rfl):PE X (.Call (.Name x p) (e::es) [] pos) (tCB r t):=by
 intro pins s σ H Q I h;refine w2K (q5M I hg hm hv ?_ hn hdb);exact w1Q (thn (ha pos pins s σ H _ I h) λus s1 ⟨vs,H1,I1,r1,q1⟩=>hc pins s1 σ H1 vs us Q I1 r1 q1) he hpl
end
end
end L2
namespace HT
open PySem PyProof.Rows
section
section
open PySem.SeqAt
open PySem.AutoSeq1 (wpAny_loadPart')
open PySem.MeetsSeq PySem.MeetsSeq2 PySem.MeetsSeq3
end
section
variable {prog:Program} {w:World} {A:Around} {E:Value->Shared->Prop} {s:Shared}
def sIx(n d:Nat):Option Int->Nat
 | none=>d
 | some v=>if v<0 then(v+(n:Int)).toNat else min v.toNat n
theorem z9d(n d:Nat)(hd:d<=n)(o:Option Int):sIx n d o<=n:=by
 cases o with
 | none=>exact hd
 | some v=>
  show(if v<0 then(v+(n:Int)).toNat else min v.toNat n)<=n;by_cases hv:v<0
  ·rw[b8 hv];omega
  ·rw[d7 hv];exact Nat.min_le_right _ _
theorem z0A(v:Int)(n d:Nat):(if v<0 then max (v+(n:Int)) 0 else min v (n:Int))=((sIx n d (some v):Nat):Int):=by
 show(if v<0 then max (v+(n:Int)) 0 else min v (n:Int))=(((if v<0 then(v+(n:Int)).toNat else min v.toNat n):Nat):Int);by_cases hv:v<0
 ·simp only[b8 hv];omega
 ·simp only[d7 hv];omega
theorem z0q(lo hi:Option Int)(n:Nat):Builtin.Slice.sliceAdjust lo hi 1 (n:Int)=(((sIx n 0 lo:Nat):Int),((sIx n n hi:Nat):Int)):=by
 have h1:¬((1:Int)<0):=by omega
 unfold Builtin.Slice.sliceAdjust;simp only[h1,if_false];refine Prod.ext ?_ ?_
 ·cases lo with
  | none=>rfl
  | some v=>exact z0A v n 0
 ·cases hi with
  | none=>rfl
  | some v=>exact z0A v n n
theorem q9Y(i j:Nat):Builtin.Slice.slicePlaces (i:Int) (j:Int) 1=j - i:=by
 unfold Builtin.Slice.slicePlaces;have h1:(1:Int)>0:=by omega
 simp only[h1,if_true,Int.ediv_one];split<;>omega
theorem q5J(p:IsPart v o)(h:Q o s):wpAny (model prog w) A (Builtin.Slice.slicePartIndex v) Q E s:=by
 cases p with
 | none=>exact slicePart_none h
 | int i t=>exact slicePart_int h
theorem q4B{sl:Addr}{vl vu:Value}{lo hi:Option Int}{n:Nat}{Q:Int×Int×Nat->Shared->Prop}(hs:s.heap.IsSliceOf sl vl vu .none)(pl:IsPart vl lo)(pu:IsPart vu hi)
  (h:Q (((sIx n 0 lo:Nat):Int),1,sIx n n hi - sIx n 0 lo) s):wpAny (model prog w) A (Builtin.Slice.sliceApplied (.ref sl) (pure (n:Int))) Q E s:=by
 obtain⟨os,hos,hcs,hds⟩:=id hs;unfold Builtin.Slice.sliceApplied Builtin.Slice.sliceFields;refine b6 (b6 (V2 hos hds (x:=vl) rfl (b6 (V2 hos hds (x:=vu) rfl (b6 (V2 hos hds (x:=.none) rfl (d4 ?_)))))));refine b6 (slicePart_none ?_);show wpAny _ _ (if((1:Int)==0)=true then _ else _) _ _ s;rw[d7 (by decide)];refine b6 (q5J pl (b6 (q5J pu (b6 (d4 ?_)))));show wpAny _ _ (match Builtin.Slice.sliceAdjust lo hi 1 (n:Int)with | (lo,hi)=>pure (lo,(1:Int),Builtin.Slice.slicePlaces lo hi 1)) _ _ s;rw[z0q lo hi n];show wpAny _ _ (pure (((sIx n 0 lo:Nat):Int),(1:Int),Builtin.Slice.slicePlaces ((sIx n 0 lo:Nat):Int) ((sIx n n hi:Nat):Int) 1)) _ _ s;rw[q9Y];exact d4 h
theorem z3l(xs:Array Value)(i k:Nat):((List.range k).filterMap λ(m:Nat)=>xs[((i:Int)+(m:Int)*1).toNat]?).toArray=((xs.toList.drop i).take k).toArray:=by
 have e:(λ(m:Nat)=>xs[((i:Int)+(m:Int)*1).toNat]?)=λm=>xs[i+m]?:=by
  funext m
  have:((i:Int)+(m:Int)*1).toNat=i+m:=by omega
  rw[this]
 rw[e];have:=pick_run xs i k;rw[List.filterMap_map]at this;have e2:((λx=>xs[x]?) ∘ λx=>i+x)=λm=>xs[i+m]?:=rfl
 rw[e2]at this;rw[this]
theorem getItem_tuple_cut{t sl:Addr}{items:Array Value}{vl vu:Value}{lo hi:Option Int}{Q:Value->Shared->Prop}(ht:IsTup s.heap t items)(hs:s.heap.IsSliceOf sl vl vu .none)(pl:IsPart vl lo)(pu:IsPart vu hi)
  (hw:¬(sIx items.size 0 lo=0/\sIx items.size items.size hi=items.size))
  (h:Q (.ref s.heap.objs.size) {s with heap:=s.heap.push {cls:=.type "tuple",data:=.seq ((items.toList.drop (sIx items.size 0 lo)).take (sIx items.size items.size hi - sIx items.size 0 lo)).toArray}})
  (hsz:items.size<=sizeLine):wpAny (model prog w) A (getItem (.ref t) (.ref sl)) Q E s:=by
 have htake:sizeOk (.seq ((items.toList.drop (sIx items.size 0 lo)).take (sIx items.size items.size hi - sIx items.size 0 lo)).toArray):=(by show((items.toList.drop (sIx items.size 0 lo)).take (sIx items.size items.size hi - sIx items.size 0 lo)).toArray.size<=sizeLine;rw[o9,J4,Q2,x3];omega);have hj:sIx items.size items.size hi<=items.size:=z9d _ _ (e9 _) hi;obtain⟨os,hos,hcs,hds⟩:=id hs;have hTs:s.TypeIs (.ref sl) "slice":=⟨os,hos,hcs⟩;unfold getItem
 try with_reducible refine E9 ?_
 first | refine b6 (d4 ?_) | skip
 refine b6 (wpAny_sequenceKey ht.typeIs (by decide) ?_);refine b6 (U4 (name:=Str.ofString "__getitem__") ht.typeIs w22
  (F7 w22 ht.typeIs entry_tuple_getitem ?_ (args_tuple_getitem _ _)))
 show wpAny _ _ (Builtin.Tuple.tupleItemsOf (.ref t) >>= _) _ _ s;refine b6 (tupleItemsOf_ ht ?_);refine b6 (w3J hTs ?_);rw[b8 (by decide)];refine b6 (q4B hs pl pu ?_);have hno:¬((((sIx items.size 0 lo:Nat):Int)==0&&(1:Int)==1&&(sIx items.size items.size hi - sIx items.size 0 lo)==items.size)=true):=by intro q;rw[b9,b9]at q;have q1:((sIx items.size 0 lo:Nat):Int)=0:=V3 q.1.1;have q2:sIx items.size items.size hi - sIx items.size 0 lo=items.size:=V3 q.2;exact hw ⟨by omega,by omega⟩
 show wpAny _ _ (if(((sIx items.size 0 lo:Nat):Int)==0&&(1:Int)==1&&(sIx items.size items.size hi - sIx items.size 0 lo)==items.size)=true then _ else _) _ _ s;rw[d7 hno,z3l]
 first
  | exact b6 (m:=Builtin.Tuple.tupleExact _) (B2 (d4 ⟨_,rfl,d4 h⟩) htake)
  | exact b6 (m:=Builtin.Tuple.tupleExact _) (B2 (b6 (d4 (d4 ⟨_,rfl,d4 h⟩))) htake)
  | exact b6 (b6 (m:=Builtin.Tuple.tupleExact _) (B2 (d4 (d4 ⟨_,rfl,d4 h⟩)) htake))
  | exact b6 (b6 (m:=Builtin.Tuple.tupleExact _) (B2 (d4 ⟨_,rfl,d4 h⟩) htake))
end
end
end HT
namespace L2
open PySem PySem.Spec PyProof.Rows
section
abbrev TO:=St->Hp->(Option Int->Hp->Prop)->Prop
def PO(X:Cx)(e:Option Expr)(t:TO):Prop:=
 ∀(pins:List (Addr×Obj)) (s:Shared) (σ:St) (H:Hp) (Q:Option Int->Hp->Prop),Inv X pins σ H s->t σ H Q ->
  wpAny (model X.prog X.w) X.A (evalPart e X.env) (λu s'=>∃o H',Inv X pins σ H' s'/\IsPart u o/\Q o H') X.xe s
def z6F:TO:=λ_ H Q=>Q none H
def y1T(t:TE):TO:=λσ H Q=>t σ H λx H1=>∃i,x=.int i/\Q (some i) H1
section
variable {X:Cx} {e:Expr} {te:TE} {lo hi:Option Expr} {tl th:TO} {pos p2:Pos}
theorem q4d:PO X none z6F:=by
 intro pins s σ H Q I h;rw[evalPart_none];exact d4 ⟨none,H,I,.none,h⟩
theorem z0B(h:PE X e te):PO X (some e) (y1T te):=by
 intro pins s σ H Q I hw;rw[evalPart_some];refine thn (h pins s σ H _ I hw) λu s1 ⟨x,H1,I1,r1,q1⟩=>?_
 obtain⟨i,rfl,q⟩:=q1;obtain⟨t,rfl⟩:=r1;exact⟨some i,H1,I1,.int i t,q⟩
def SlR(X:Cx)(r:V->Option Int->Option Int->Hp->VK->Prop):Prop:=
 ∀(pins:List (Addr×Obj)) (s:Shared) (σ:St) (H:Hp) (x:V) (v vl vu:Value) (lo hi:Option Int) (sl:Addr) (Q:VK),Inv X pins σ H s->RelV x v->s.heap.IsSliceOf sl vl vu .none->IsPart vl lo->IsPart vu hi->r x lo hi H Q ->
  ∃T id,typeLookup (.type T) "__getitem__" = pure (some (.builtin id))/\s.TypeIs v T/\wpAny (model X.prog X.w) X.A (getItem v (.ref sl)) (EP X pins σ Q) X.xe s
theorem SlR.or(h:SlR X r)(h':SlR X r'):SlR X (λx lo hi H Q=>r x lo hi H Q\/r' x lo hi H Q):=by
 intro pins s σ H x v vl vu lo hi sl Q I rx hs pl pu q;rcases q with q | q
 ·exact h pins s σ H x v vl vu lo hi sl Q I rx hs pl pu q
 ·exact h' pins s σ H x v vl vu lo hi sl Q I rx hs pl pu q
def tSl(r:V->Option Int->Option Int->Hp->VK->Prop)(te:TE)(tl th:TO):TE:=λσ H Q=>te σ H λx H1=>tl σ H1 λl H2=>th σ H2 λu H3=>r x l u H3 Q
theorem M5(hr:SlR X r)(he:PE X e te)(hl:PO X lo tl)(hu:PO X hi th):PE X (.Subscript e (.Slice lo hi none p2) pos) (tSl r te tl th):=by
 intro pins s σ H Q I h;refine Subscript_ (thn (he pins s σ H _ I h) λv s1 ⟨x,H1,I1,r1,q1⟩=>?_);refine wpAny_Slice (thn (hl pins s1 σ H1 _ I1 q1) λvl s2 ⟨l,H2,I2,pl,q2⟩=>thn (hu pins s2 σ H2 _ I2 q2) λvu s3 ⟨u,H3,I3,pu,q3⟩=>?_);rw[evalPart_none];refine d4 ?_;have I4:Inv X pins σ H3 {s3 with heap:=s3.heap.push {cls:=.type "slice",data:=.fields #[vl,vu,.none]}}:=I3.kept (t':=s3.toks) λb ob q=>j2 _ q
 obtain⟨T,id,hT,ht,hg⟩:=hr pins {s3 with heap:=s3.heap.push {cls:=.type "slice",data:=.fields #[vl,vu,.none]}} σ H3 x v vl vu l u s3.heap.objs.size Q I4 r1 (Heap.IsSliceOf.new ..) pl pu q3;show wpAny (model X.prog X.w) X.A (subscriptTail e (.Slice lo hi none p2) v (.ref s3.heap.objs.size)) (EP X pins σ Q) X.xe {s3 with heap:=s3.heap.push {cls:=.type "slice",data:=.fields #[vl,vu,.none]}};exact tail_any (ops:=[.ref s3.heap.objs.size,v]) ht hT hg (by with_unfolding_all rfl)
def cutV(xs:List V)(lo hi:Option Int):List V:=(xs.drop (HT.sIx xs.length 0 lo)).take (HT.sIx xs.length xs.length hi - HT.sIx xs.length 0 lo)
theorem q5d(xs:List V)(lo hi:Option Int):(cutV xs lo hi).length<=xs.length:=by
 unfold cutV;rw[J4,Q2];omega
def rSlT(K:PySem.W.Frag):V->Option Int->Option Int->Hp->VK->Prop:=λx lo hi H Q=>∃a xs,x=.ref a/\SqT K H a xs /\
 ¬(HT.sIx xs.length 0 lo=0/\HT.sIx xs.length xs.length hi=xs.length)/\∀p,H p=none->Q (.ref p) (upd H p (.tup (cutV xs lo hi)))
theorem z9O:SlR X (rSlT X.K):=by
 intro pins s σ H x v vl vu lo hi sl Q I rx hs pl pu h;obtain⟨a,xs,rfl,hx,hw,q⟩:=h;cases rx;obtain⟨its,r,ht,hz⟩:=I.tuple hx;have hlen:its.toArray.size=xs.length:=by rw[o9];exact r.length.symm
 refine⟨"tuple",_,PyProof.Rows.slot_tuple_getitem.lookup,ht.typeIs,?_⟩;refine HT.getItem_tuple_cut ht hs pl pu (by rw[hlen];exact hw) ?_ (by rw[hlen];exact hz);rw[hlen];refine⟨.ref s.heap.objs.size,_,I.laid (t':=s.toks) (o:=.tup (cutV xs lo hi)) (λb ob q=>j2 _ q) (e9 _) ?_,rfl,q _ (I.hok.fresh (e9 _))⟩;exact⟨i7 (q5d xs lo hi) hz,_,(r.drop (HT.sIx xs.length 0 lo)).take (HT.sIx xs.length xs.length hi - HT.sIx xs.length 0 lo),O6.new _ _⟩
end
end
section
def ixN(n:Nat)(i:Int):Option Nat:=if 0<=i then(if i<n then some i.toNat else none)else if -(n:Int)<=i then some (i+n).toNat else none
def atI{α:Type}(xs:List α)(i:Int):Option α:=(ixN xs.length i).bind λj=>xs[j]?
theorem z2I(h:ixN n i=some j):seqIndex? i n=some j/\j<n /\ -(n:Int)<=i/\i<n:=by
 unfold ixN at h;by_cases h0:0<=i
 ·rw[b8 h0]at h;by_cases h1:i<n
  ·rw[b8 h1]at h;have e:i.toNat=j:=C6 h;exact⟨by rw[seqIndex_of h0 h1,e],by omega,by omega,h1⟩
  ·rw[d7 h1]at h;cases h
 ·rw[d7 h0]at h;by_cases h1 : -(n:Int)<=i
  ·rw[b8 h1]at h;have e:(i+n).toNat=j:=C6 h;exact⟨by rw[w4v (by omega) h1,e],by omega,h1,by omega⟩
  ·rw[d7 h1]at h;cases h
theorem q8g(h:atI xs i=some v):∃j,seqIndex? i xs.length=some j/\xs[j]? = some v/\j<xs.length /\ -(xs.length:Int)<=i/\i<xs.length:=by
 unfold atI at h;cases e:ixN xs.length i with
 | none=>rw[e]at h;cases h
 | some j=>
  rw[e]at h;obtain⟨h1,h2,h3,h4⟩:=z2I e;exact⟨j,h1,h,h2,h3,h4⟩
def z7a(b:Expr):Prop:=∀o i,subscripted b false o i=operate [o,i] (getItem o i)
def IxR(X:Cx)(r:R2):Prop:=
 ∀(value slice:Expr) (pins:List (Addr×Obj)) (s:Shared) (σ:St) (H:Hp) (x y:V) (v u:Value) (Q:VK),Inv X pins σ H s->RelV x v->RelV y u->r x y H Q ->
  subscripted slice false v u=operate [v,u] (getItem v u)->wpAny (model X.prog X.w) X.A (subscriptTail value slice v u) (EP X pins σ Q) X.xe s
def MtR(X:Cx)(id:String)(r:V->List V->Hp->VK->Prop):Prop:=
 ∀(pins:List (Addr×Obj)) (s:Shared) (σ:St) (H:Hp) (x:V) (xs:List V) (v:Value) (us:List Value) (Q:VK),Inv X pins σ H s->RelV x v->Vals xs us->r x xs H Q ->
  wpAny (model X.prog X.w) X.A (call (.builtin id) (v::us)) (EP X pins σ Q) X.xe s
section
variable {X:Cx} {a b:Expr} {ta tb:TE} {pos:Pos}
theorem IxR.or(h:IxR X r)(h':IxR X r'):IxR X (λx y H Q=>r x y H Q\/r' x y H Q):=by
 intro value slice pins s σ H x y v u Q I rx ry q hs;rcases q with q | q
 ·exact h value slice pins s σ H x y v u Q I rx ry q hs
 ·exact h' value slice pins s σ H x y v u Q I rx ry q hs
theorem y1c(hr:IxR X r)(ha:PE X a ta)(hb:PE X b tb)(hs:z7a b):PE X (.Subscript a b pos) (tOp r ta tb):=by
 intro pins s σ H Q I h;exact Subscript_ (binT ha hb I h λv u s2 x y H2 I2 rx ry q=>hr a b pins s2 σ H2 x y v u Q I2 rx ry q (hs _ _))
def rIxL(K:PySem.W.Frag):R2:=λx y H Q=>∃p xs i v,x=.ref p/\y=.int i/\SqL K H p xs/\atI xs i=some v/\Q v H
def rIxT(K:PySem.W.Frag):R2:=λx y H Q=>∃p xs i v,x=.ref p/\y=.int i/\SqT K H p xs/\atI xs i=some v/\Q v H
def rIxS:R2:=λx y H Q=>∃z i c,x=.str z/\y=.int i/\z.length<=sizeLine/\atI z.cps.toList i=some c/\Q (.str ⟨#[c]⟩) H
theorem z5I:IxR X (rIxL X.K):=by
 intro value slice pins s σ H x y v u Q I rx ry h hs;obtain⟨p,xs,i,z,rfl,rfl,hq,he,q⟩:=h;cases rx;obtain⟨t,rfl⟩:=ry;obtain⟨its,r,pl,hz⟩:=I.list hq;obtain⟨j,h1,h2,h3,h4,h5⟩:=q8g he;obtain⟨w,ew,rw'⟩:=r.get h2;have hl:=r.length;have hn:=V5;have fin:EP X pins σ Q w s:=⟨z,H,I,rw',q⟩;by_cases h0:0<=i
 ·have hj:i.toNat=j:=by
   rw[seqIndex_of h0 h5]at h1;exact C6 h1
  exact item_listR pl.isList h0 (by omega) (by rw[hj];simpa using ew) fin hs
 ·have hj:(i+(its.toArray.size:Int)).toNat=j:=by
   rw[w4v (by omega) h4]at h1;rw[o9,←hl];exact C6 h1
  exact w37 (x:=w) pl.isList.typeIs slot_list_getitem.lookup
   (wpAny_getItem_list_neg (Q:=λr s'=>r=w/\EP X pins σ Q r s') pl.isList (by omega) (by rw[o9]<;>omega) (by omega) (by rw[hj];simpa using ew) ⟨rfl,fin⟩) hs
theorem y0f:IxR X (rIxT X.K):=by
 intro value slice pins s σ H x y v u Q I rx ry h hs;obtain⟨p,xs,i,z,rfl,rfl,hq,he,q⟩:=h;cases rx;obtain⟨t,rfl⟩:=ry;obtain⟨its,r,pl,hz⟩:=I.tuple hq;obtain⟨j,h1,h2,h3,h4,h5⟩:=q8g he;obtain⟨w,ew,rw'⟩:=r.get h2;have hl:=r.length;have hn:=V5;have fin:EP X pins σ Q w s:=⟨z,H,I,rw',q⟩;exact w37 (x:=w) pl.typeIs slot_tuple_getitem.lookup
  (getItem_tuple (j:=j) (Q:=λr s'=>r=w/\EP X pins σ Q r s') pl (by omega) (by omega) (by rw[o9,←hl];exact h1) (by simpa using ew) ⟨rfl,fin⟩) hs
theorem z9h:IxR X rIxS:=by
 intro value slice pins s σ H x y v u Q I rx ry h hs;obtain⟨z,i,c,rfl,rfl,hz,he,q⟩:=h;obtain⟨t,rfl⟩:=rx;obtain⟨t',rfl⟩:=ry;obtain⟨j,h1,h2,h3,h4,h5⟩:=q8g he;have hl:z.cps.toList.length=z.length:=by simp[Str.length]
 rw[hl]at h1 h4 h5;have hn:=V5;exact tail_any (typeIs_str s z t) slot_str_getitem.lookup (getItem_str (c:=c) (by
  have e1:decide (i < -(2^63:Int))=false:=D4 (by omega);have e2:decide (i ≥ 2^63)=false:=D4 (by omega);rw[e1,e2,w3w]) (by rw[h1];simpa using h2) ⟨.str ⟨#[c]⟩,H,I.tok _,⟨_,rfl⟩,q⟩) hs
def rIx(K:PySem.W.Frag):R2:=λx y H Q=>rIxL K x y H Q\/rIxT K x y H Q\/rIxS x y H Q
theorem z9Z:IxR X (rIx X.K):=z5I.or (y0f.or z9h)
theorem z0t(its:List Value)(n j:Nat)(u:Value):Obj.mapSeq (·.setIfInBounds j u) {cls:=.type "list",data:=.seq its.toArray n} = {cls:=.type "list",data:=.seq (its.set j u).toArray n}:=by
 simp[Obj.mapSeq]
theorem Inv.lst{σ:St}(I:Inv X pins σ H s)(h:H p=some (.lst xs)) :
  ∃(its:List Value) (n:Nat),Vals xs its/\s.heap.get? p=some {cls:=.type "list",data:=.seq its.toArray n} /\ xs.length<=sizeLine:=by
 obtain⟨z,its,n,r,e⟩:=I.hok p _ h;exact⟨its,n,r,e,z⟩
theorem Inv.lstUpd{pins:List (Addr×Obj)}{σ:St}{H:Hp}{s:Shared}{p:Addr}{xs ys:List V}{its its':List Value}{n n':Nat}{f:Obj->Obj}(I:Inv X pins σ H s)(h:H p=some (.lst xs))
  (ho:s.heap.get? p=some {cls:=.type "list",data:=.seq its.toArray n}) (hf:f {cls:=.type "list",data:=.seq its.toArray n} = {cls:=.type "list",data:=.seq its'.toArray n'}) (r:Vals ys its') (hz:ys.length<=sizeLine) (t:Nat) :
  Inv X pins σ (upd H p (.lst ys)) {s with heap:=s.heap.update p f,toks:=t}:=by
 have e:(s.heap.update p f).get? p=some {cls:=.type "list",data:=.seq its'.toArray n'}:=(by rw[Y4 f ho (by rw[hf]<;>rfl),hf]);refine I.write (x:=p) (e:=p) (by rw[h];trivial) (.inl rfl) (λb u hb q=>(w2n _ _ (Ne.symm hb)).trans q) ⟨_,e⟩ ?_;exact⟨hz,its',n',r,e⟩
def y1I:V->V->V->Hp->(Hp->Prop)->Prop:=λo i v H Q=>∃p xs k j,o=.ref p/\i=.int k/\H p=some (.lst xs)/\ixN xs.length k=some j/\Q (upd H p (.lst (xs.set j v)))
theorem z3h:PSet X y1I:=by
 intro pins s σ H o i v ov iv u Q I ro ri rv h;obtain⟨p,xs,k,j,rfl,rfl,hp,hj,q⟩:=h;cases ro;obtain⟨t,rfl⟩:=ri;obtain⟨its,n,r,ho,hz⟩:=I.lst hp;obtain⟨h1,h2,h3,h4⟩:=z2I hj;have hl:=r.length;have hn:=V5;have I':Inv X pins σ (upd H p (.lst (xs.set j v))) {s with heap:=s.heap.update p (Obj.mapSeq (·.setIfInBounds j u))}:=
  I.lstUpd hp ho (z0t its n j u) (r.set rv j) (by rw[v4];exact hz) s.toks
 by_cases h0:0<=k
 ·have hk:k.toNat=j:=by
   rw[seqIndex_of h0 h4]at h1;exact C6 h1
  exact PySem.W.ki_setAt ho h0 (by omega) (by rw[o9,←hl];exact h4) (by rw[hk];exact⟨_,I',q⟩)
 ·have hk:(k+(its.toArray.size:Int)).toNat=j:=by
   rw[w4v (by omega) h3]at h1;rw[o9,←hl];exact C6 h1
  exact PySem.W.ki_setBack ho (by omega) (by rw[o9,←hl];exact h3) (by omega) (by rw[hk];exact⟨_,I',q⟩)
theorem q7a(lo hi:Option Int)(n:Nat):(sliceBounds lo hi none n).1=((HT.sIx n 0 lo:Nat):Int)/\(sliceBounds lo hi none n).2.1=((HT.sIx n n hi:Nat):Int)/\(sliceBounds lo hi none n).2.2=1:=by
 refine⟨?_,?_,rfl⟩
 ·cases lo with
  | none=>simp[sliceBounds,HT.sIx]
  | some i=>
   simp only[sliceBounds,HT.sIx,Option.getD_none,show(1:Int)>0 by decide,if_true];by_cases h:i<0
   ·simp only[h,if_true]<;>omega
   ·simp only[h,if_false]<;>omega
 ·cases hi with
  | none=>simp[sliceBounds,HT.sIx]
  | some i=>
   simp only[sliceBounds,HT.sIx,Option.getD_none,show(1:Int)>0 by decide,if_true];by_cases h:i<0
   ·simp only[h,if_true]<;>omega
   ·simp only[h,if_false]<;>omega
theorem q6w(its:List Value)(lo hi:Option Int):slicePick its.toArray lo hi none=((its.drop (HT.sIx its.length 0 lo)).take (HT.sIx its.length its.length hi - HT.sIx its.length 0 lo)).toArray:=by
 obtain⟨h1,h2,h3⟩:=q7a lo hi its.toArray.size;unfold slicePick;rw[h1,h2,h3];simp only[sliceRange_one,pick_run,o9]<;>rfl
def rSlL(K:PySem.W.Frag):V->Option Int->Option Int->Hp->VK->Prop:=λx lo hi H Q=>∃a xs,x=.ref a/\SqL K H a xs/\∀p,H p=none->Q (.ref p) (upd H p (.lst (cutV xs lo hi)))
theorem z6n:SlR X (rSlL X.K):=by
 intro pins s σ H x v vl vu lo hi sl Q I rx hs pl pu h;obtain⟨a,xs,rfl,hx,q⟩:=h;cases rx;obtain⟨its,r,ht,hz⟩:=I.list hx;have hlen:=r.length;refine⟨"list",_,slot_list_getitem.lookup,ht.isList.typeIs,?_⟩;refine wpAny_getItem_list_slice ht.isList hs pl pu .none (by simp) ?_ (by rw[o9]<;>omega);rw[q6w,←hlen];refine⟨.ref s.heap.objs.size,_,I.laid (t':=s.toks) (o:=.lst (cutV xs lo hi)) (λb ob q=>j2 _ q) (e9 _) ?_,rfl,q _ (I.hok.fresh (e9 _))⟩;exact⟨i7 (q5d xs lo hi) hz,_,0,(r.drop (HT.sIx xs.length 0 lo)).take (HT.sIx xs.length xs.length hi - HT.sIx xs.length 0 lo),p8 _ rfl⟩
theorem q2L:x0 X (.builtin "len") (λxs H Q=>∃p ys,xs=[.ref p]/\(SqL X.K H p ys\/SqT X.K H p ys)/\Q (.int ys.length) H):=by
 intro pins s σ H xs us Q I r h;obtain⟨p,ys,rfl,hq,q⟩:=h;obtain⟨u,rfl,rx⟩:=K3 r;cases rx;have hn:=V5;rcases hq with hq | hq
 ·obtain⟨its,r',pl,hz⟩:=I.list hq;have hlen:=r'.length;exact Calls.call_len_list pl.isList (by simp only[o9]<;>omega) ⟨.int ys.length,H,I.tok _,⟨s.toks+1,by rw[o9,hlen]⟩,q⟩
 ·obtain⟨its,r',pl,hz⟩:=I.tuple hq;have hlen:=r'.length;exact len_tuple pl (by simp only[o9]<;>omega) ⟨.int ys.length,H,I.tok _,⟨s.toks+1,by rw[o9,hlen]⟩,q⟩
theorem q6P:x0 X (.builtin "len") (λxs H Q=>∃z,xs=[.str z]/\z.length<=sizeLine/\Q (.int z.length) H):=by
 intro pins s σ H xs us Q I r h;obtain⟨z,rfl,hz,q⟩:=h;obtain⟨u,rfl,t,rfl⟩:=K3 r;have hn:=V5;exact len_str (by omega) ⟨.int z.length,H,I.tok _,⟨_,rfl⟩,q⟩
theorem q2U:x0 X (.type "list") (λxs H Q=>∃p ys,xs=[.ref p]/\(SqL X.K H p ys\/SqT X.K H p ys)/\∀l,H l=none->Q (.ref l) (upd H l (.lst ys))):=by
 intro pins s σ H xs us Q I r h;obtain⟨p,ys,rfl,hq,q⟩:=h;obtain⟨u,rfl,rx⟩:=K3 r;cases rx;have fin:∀(its:List Value),Vals ys its->ys.length<=sizeLine->∀(h':Heap) (c':Nat),(∀b o',s.heap.get? b=some o'->h'.get? b=some o') ->
   h'.get? s.heap.objs.size=some {cls:=.type "list",dict:=none,data:=.seq its.toArray c',slots:=#[]} -> EP X pins σ Q (.ref s.heap.objs.size) {s with heap:=h'}:=λits r' hz h' c' kp e=>
  ⟨.ref s.heap.objs.size,_,I.laid (t':=s.toks) kp (e9 _) (show n4 X.prog X.w _ h' _ (.lst ys)from⟨hz,its,c',r',e⟩),rfl,q _ (I.hok.fresh (e9 _))⟩
 rcases hq with hq | hq
 ·obtain⟨its,r',pl,hz⟩:=I.list hq;have hlen:=r'.length;obtain⟨o,ho,hc,n,hd⟩:=pl.isList;exact call_list_seq p (.inl rfl) ho hc hd (λh' c' kp e=>fin its r' hz h' c' kp e) (by simp only[o9]<;>omega)
 ·obtain⟨its,r',pl,hz⟩:=I.tuple hq;have hlen:=r'.length;obtain⟨o,ho,hc,n,hd⟩:=pl;exact call_list_seq p (.inr rfl) ho hc hd (λh' c' kp e=>fin its r' hz h' c' kp e) (by simp only[o9]<;>omega)
theorem q3I:x0 X (.type "tuple") (λxs H Q=>∃p ys,xs=[.ref p]/\((SqL X.K H p ys/\∀l,H l=none->Q (.ref l) (upd H l (.tup ys)))\/(SqT X.K H p ys/\Q (.ref p) H))):=by
 intro pins s σ H xs us Q I r h;obtain⟨p,ys,rfl,h⟩:=h;obtain⟨u,rfl,rx⟩:=K3 r;cases rx;rcases h with⟨hq,q⟩ | ⟨hq,q⟩
 ·obtain⟨its,r',pl,hz⟩:=I.list hq;have hlen:=r'.length;refine call_tuple_list pl.isList (λh' kp=>?_) (by simp only[o9]<;>omega);have I1:Inv X pins σ H {s with heap:=h'}:=I.kept (t':=s.toks) kp;have I2:Inv X pins σ (upd H h'.objs.size (.tup ys)) {s with heap:=h'.push {cls:=.type "tuple",data:=.seq its.toArray}}:=
   I1.laid (t':=s.toks) (λb o e=>j2 _ e) (e9 _) (show n4 X.prog X.w _ _ _ (.tup ys)from⟨hz,its,r',O6.new _ _⟩)
  exact⟨.ref h'.objs.size,_,I2,rfl,q _ (I1.hok.fresh (e9 _))⟩
 ·obtain⟨its,r',pl,hz⟩:=I.tuple hq;exact call_tuple_same pl ⟨.ref p,H,I,rfl,q⟩
def tyV(K:PySem.W.Frag)(T:String)(x:V)(H:Hp):Prop:=match x with
 | .str _=>T = "str"
 | .int _=>T = "int"
 | .ref p=>(T = "list" /\ ∃xs,SqL K H p xs)\/(T = "tuple" /\ ∃o,K.lookup p=some o/\o.cls=.type "tuple" /\ o.dict=none) \/
   (T = "dict" /\ ((∃kvs,H p=some (.dK kvs))\/∃kvs,H p=some (.dT kvs)))\/(T = "set" /\ ∃S n,H p=some (.set S n))
 | _=>False
theorem z4K{σ:St}(I:Inv X pins σ H s)(r:RelV x v)(ty:tyV X.K T x H) :
  s.TypeIs v T/\∀a,v=.ref a->∃ob,s.heap.get? a=some ob/\ob.dict=none:=by
 cases x with
 | str z=>
  obtain⟨t,rfl⟩:=r;cases(show T = "str" from ty);exact⟨typeIs_str s z t,λ_ e=>nomatch e⟩
 | int i=>
  obtain⟨t,rfl⟩:=r;cases(show T = "int" from ty);exact⟨typeIs_int s i t,λ_ e=>nomatch e⟩
 | ref p=>
  cases r;rcases ty with⟨rfl,xs,hq⟩ | ⟨rfl,o,hk,hc,hd⟩ | ⟨rfl,hk⟩ | ⟨rfl,S,n,hk⟩
  ·obtain⟨its,_,pl,_⟩:=I.list hq;refine⟨pl.isList.typeIs,λa e=>?_⟩;cases e;obtain⟨o,n,e,c,hd,_⟩:=pl;exact⟨o,e,hd⟩
  ·refine⟨⟨o,I.kIn p o hk,hc⟩,λa e=>?_⟩;cases e;exact⟨o,I.kIn _ o hk,hd⟩
  ·have z:∃o,s.heap.get? p=some o/\o.ExactDict:=by
    rcases hk with⟨kvs,hk⟩ | ⟨kvs,hk⟩
    ·obtain⟨_,_,_,_,o,_,_,e,ex,_⟩:=I.hok p _ hk;exact⟨o,e,ex⟩
    ·obtain⟨_,_,_,_,o,_,_,e,ex,_⟩:=I.hok p _ hk;exact⟨o,e,ex⟩
   obtain⟨o,e,ex⟩:=z;refine⟨⟨o,e,ex.1⟩,λa e2=>?_⟩;cases e2;exact⟨o,e,ex.2.1⟩
  ·obtain⟨o,_,_,_,e,ex,_⟩:=I.hok p _ hk;refine⟨⟨o,e,ex.1⟩,λa e2=>?_⟩;cases e2;exact⟨o,e,ex.2.1⟩
 | _=>exact False.elim ty
def tBM0(K:PySem.W.Frag)(T:String)(r:V->List V->Hp->VK->Prop)(to:TE):TE:=λσ H Q=>to σ H λx H1=>tyV K T x H1/\r x [] H1 Q
def tBM(K:PySem.W.Frag)(T:String)(r:V->List V->Hp->VK->Prop)(to:TE)(t:TA):TE:=λσ H Q=>to σ H λx H1=>tyV K T x H1/\t σ H1 λxs H2=>r x xs H2 Q
variable {o e:Expr} {es:List Expr} {to:TE} {t:TA} {name:Str} {apos cpos:Pos} {T id:String} {r:V->List V->Hp->VK->Prop}
theorem z4N(pa:PlainAttrs T)(slot:Slot T name id)(hty:typeOf (.builtin id)=pure (.type "method_descriptor"))(hm:MtR X id r)(ho:PE X o to)
  (hbase:attributeBase o name X.env (eval o X.env)=eval o X.env:=by rfl) (hline:(apos.endLine==cpos.line)=true:=by rfl):PE X (.Call (.Attribute o name apos) [] [] cpos) (tBM0 X.K T r to):=by
 intro pins s σ H Q I h;refine w3U hbase hline (thn (ho pins s σ H _ I h) λv s1 ⟨x,H1,I1,r1,ty,q1⟩=>?_);obtain⟨h1,h2⟩:=z4K I1 r1 ty;exact⟨T,id,pa,slot,hty,h1,h2,Y3 rfl (w3f (hm pins s1 σ H1 x [] v [] Q I1 r1 .nil q1))⟩
theorem z9M(pa:PlainAttrs T)(slot:Slot T name id)(hty:typeOf (.builtin id)=pure (.type "method_descriptor"))(hm:MtR X id r)(ho:PE X o to)(ha:PA X (e::es) t)
  (hbase:attributeBase o name X.env (eval o X.env)=eval o X.env:=by rfl)
  (hfew:((backTo cpos (starEach (e::es) X.env)).all (λx=>!x.1)&&(backToKw cpos (keywordEach [] X.env)).all (λx=>x.1.isSome)
   && decide ((e::es).length+([]:List Keyword).length+(if([]:List Keyword).isEmpty then 0 else 1)<30))=true:=by rfl)
  (hline:(apos.endLine==cpos.line)=true:=by rfl) (hs:starEach (e::es) X.env=(false,eval e X.env)::starEach es X.env:=by rfl) (hplain:(backTo cpos (starEach es X.env)).any (·.1)=false:=by rfl) :
  PE X (.Call (.Attribute o name apos) (e::es) [] cpos) (tBM X.K T r to t):=by
 intro pins s σ H Q I h;refine w38 hbase hfew hline rfl (thn (ho pins s σ H _ I h) λv s1 ⟨x,H1,I1,r1,ty,q1⟩=>?_);obtain⟨h1,h2⟩:=z4K I1 r1 ty;refine⟨T,id,pa,slot,hty,h1,h2,?_⟩;have hA:=ha cpos pins s1 σ H1 _ I1 q1;rw[hs]at hA ⊢;refine Y3 (by show(false||(backTo cpos (starEach es X.env)).any (·.1))=false;rw[hplain]<;>rfl) (w2v ?_);exact thn hA λus s2 ⟨vs,H2,I2,r2,q2⟩=>hm pins s2 σ H2 x vs v us Q I2 r1 r2 q2
end
end
section
def MtM(X:Cx)(id:String)(r:V->List V->Hp->VK->Prop):Prop:=
 ∀(pins:List (Addr×Obj)) (s:Shared) (σ:St) (H:Hp) (x:V) (xs:List V) (v:Value) (us:List Value) (Q:VK),Inv X pins σ H s->RelV x v->Vals xs us->r x xs H Q ->
  wpAny (model X.prog X.w) X.A (call (.builtin id) (v::us)) (EP X pins σ Q) X.xe s
theorem Vals.unc(h:Vals (x::xs) us):∃u ws,us=u::ws/\RelV x u/\Vals xs ws:=by
 cases h with
 | cons r t=>exact⟨_,_,rfl,r,t⟩
theorem Vals.nl(h:Vals [] us):us=[]:=by cases h;rfl
theorem Vals.zero(h:Vals [] us):us=[]:=by cases h;rfl
theorem Vals.one(h:Vals [x] us):∃u,us=[u]/\RelV x u:=by
 obtain⟨u,ws,rfl,r,t⟩:=h.unc;cases t.nl;exact⟨_,rfl,r⟩
theorem Vals.two(h:Vals [x,y] us):∃u v,us=[u,v]/\RelV x u/\RelV y v:=by
 obtain⟨u,ws,rfl,r,t⟩:=h.unc;obtain⟨v,rfl,q⟩:=t.one;exact⟨_,_,rfl,r,q⟩
theorem Vals.rep(h:Vals xs us):∀k:Nat,Vals (List.replicate k xs).flatten (List.replicate k us).flatten
 | 0=>.nil
 | k+1=>by rw[P8,P8,U6,U6];exact Vals.append h (Vals.rep h k)
theorem q7c(its:List Value):∀(k:Nat) (acc:List Value),
  List.foldl (λx1 x2=>x1++x2) acc.toArray (List.replicate k its.toArray)=(acc++(List.replicate k its).flatten).toArray
 | 0,acc=>by simp
 | k+1,acc=>by
  have e:acc.toArray++its.toArray=(acc++its).toArray:=by simp
  have e2:(acc++its)++(List.replicate k its).flatten=acc++(List.replicate (k+1) its).flatten:=(by rw[P8,U6,J3]);rw[←e2,←q7c its k (acc++its),←e,P8,w25]
section
variable {X:Cx} {pins:List (Addr×Obj)} {σ:St} {H:Hp} {s:Shared} {l b:Addr} {xs ys zs:List V}
theorem Inv.lset{its its':List Value}{n:Nat}{f:Array Value->Array Value}{t':Nat}(I:Inv X pins σ H s)(hH:H l=some (.lst xs))
  (e:s.heap.get? l=some {cls:=.type "list",data:=.seq its.toArray n}) (hf:f its.toArray=its'.toArray) (hv:Vals ys its') (hz:ys.length<=sizeLine) :
  Inv X pins σ (upd H l (.lst ys)) {s with heap:=s.heap.update l (Obj.mapSeq f),toks:=t'}:=by
 have q:=PySem.IsL.update e f;rw[hf]at q;refine I.write (x:=l) (e:=l) (by rw[hH];exact trivial) (.inl rfl) (λb' u hb hu=>(w2n s.heap (Obj.mapSeq f) (Ne.symm hb)).trans hu) ⟨_,q⟩ ?_;exact⟨hz,its',_,hv,q⟩
theorem Inv.lnew(I:Inv X pins σ H s)(hv:Vals ys its)(hz:ys.length<=sizeLine) :
  Inv X pins σ (upd H s.heap.objs.size (.lst ys)) {s with heap:=s.heap.push {cls:=.type "list",data:=.seq its.toArray},toks:=t'}:=
 I.laid (λ_ _ q=>j2 _ q) (e9 _) ⟨hz,its,0,hv,p8 _ rfl⟩
theorem Inv.fresh(I:Inv X pins σ H s):H s.heap.objs.size=none:=I.hok.fresh (e9 _)
theorem Inv.lstM(I:Inv X pins σ H s)(hH:H l=some (.lst xs)):xs.length<=sizeLine/\∃(its:List Value) (n:Nat),Vals xs its/\xs.length=its.length/\s.heap.get? l=some {cls:=.type "list",data:=.seq its.toArray n}:=by
 obtain⟨z,its,n,r,e⟩:=I.hok l _ hH;exact⟨z,its,n,r,r.length,e⟩
theorem q9a(h:n<=sizeLine):Builtin.List.listTooLong n=false:=by
 unfold Builtin.List.listTooLong;exact D4 (by omega)
end
section
variable {X:Cx}
def z6m:V->List V->Hp->VK->Prop:=λx vs H Q=>∃l xs y,x=.ref l/\vs=[y]/\H l=some (.lst xs)/\xs.length<sizeLine/\Q .non (upd H l (.lst (xs++[y])))
theorem z2o:MtM X "list.append" z6m:=by
 intro pins s σ H x vs v us Q I rx rv h;obtain⟨l,xs,y,rfl,rfl,hH,hz,q⟩:=h;cases rx;obtain⟨u,rfl,ru⟩:=rv.one;obtain⟨z,its,n,r,hl,e⟩:=I.lstM hH;refine w4p F.slot_list_append ⟨_,e,rfl⟩ F.entry_list_append (F.args_list_append_2 _ _) (PySem.list_append l its.toArray n u (by rw[o9];omega)) ⟨e,?_⟩;refine⟨.non,_,I.lset (its':=its++[u]) hH e (by simp) (r.append (.cons ru .nil)) ?_,rfl,q⟩;rw[p9,N7];omega
def z9V:V->List V->Hp->VK->Prop:=λx vs H Q=>∃l xs,x=.ref l/\vs=[]/\H l=some (.lst xs)/\Q .non (upd H l (.lst []))
theorem z3t:MtM X "list.clear" z9V:=by
 intro pins s σ H x vs v us Q I rx rv h;obtain⟨l,xs,rfl,rfl,hH,q⟩:=h;cases rx;have hus:=Vals.zero rv;subst hus;obtain⟨z,its,n,r,hl,e⟩:=I.lstM hH;refine w4p F.slot_list_clear ⟨_,e,rfl⟩ F.entry_list_clear (F.args_list_clear_1 _) (AutoSeq1.list_clear_list_0 l its.toArray n (by rw[o9];omega)) ⟨e,?_⟩;exact⟨.non,_,I.lset (its':=[]) (ys:=[]) hH e rfl .nil (A7 _),rfl,q⟩
def rCat:R2:=λx y H Q=>∃l b xs zs,x=.ref l/\y=.ref b/\H l=some (.lst xs)/\H b=some (.lst zs)/\xs.length+zs.length<=sizeLine/\∀p,H p=none->Q (.ref p) (upd H p (.lst (xs++zs)))
theorem z8W:OpR X (binaryOp .Add) rCat:=by
 intro pins s σ H x y v u Q I rx ry h;obtain⟨l,b,xs,zs,rfl,rfl,hH,hB,hz,q⟩:=h;cases rx;cases ry;obtain⟨z,its,n,r,hl,e⟩:=I.lstM hH;obtain⟨z2,its2,n2,r2,hl2,e2⟩:=I.lstM hB;refine PySem.P.add_list e e2 ?_ (by rw[o9,o9];omega);have ea:its.toArray++its2.toArray=(its++its2).toArray:=by simp
 rw[ea];exact⟨.ref _,_,I.lnew (t':=s.toks) (r.append r2) (by rw[p9];omega),rfl,q _ I.fresh⟩
def rRep:R2:=λx y H Q=>∃l k xs,x=.ref l/\y=.int k/\H l=some (.lst xs) /\ -(2^63)<=k/\k<2^63/\xs.length*k.toNat<=sizeLine /\
 ∀p,H p=none->Q (.ref p) (upd H p (.lst (List.replicate k.toNat xs).flatten))
theorem z5K{α:Type}(xs:List α)(k:Nat):(List.replicate k xs).flatten.length=k*xs.length:=by
 induction k with
 | zero=>simp
 | succ k ih=>rw[P8,U6,p9,ih,w3K,Nat.add_comm]
theorem z9n:OpR X (binaryOp .Mult) rRep:=by
 intro pins s σ H x y v u Q I rx ry h;obtain⟨l,k,xs,rfl,rfl,hH,h1,h2,hz,q⟩:=h;cases rx;obtain⟨t,rfl⟩:=ry;obtain⟨z,its,n,r,hl,e⟩:=I.lstM hH;have hlen:its.toArray.size*k.toNat<=sizeLine:=by rw[o9,←hl];exact hz
 have hcap:¬its.toArray.size*k.toNat>(2^63 - 1)/8:=by
  have:(sizeLine:Nat)<=(2^63 - 1)/8:=by decide
  omega
 have hfit:¬(!Builtin.List.listFitsIndex k)=true:=(by rw[fitsIndex_both h1 h2];exact v9);have hlong:¬Builtin.List.listTooLong (its.toArray.size*k.toNat)=true:=(by rw[q9a hlen];exact v9);have hnew:List.foldl (λx1 x2=>x1++x2) #[] (List.replicate (if its.toArray.isEmpty=true then 0 else k.toNat) its.toArray)=(List.replicate k.toNat its).flatten.toArray:=by
  have f0:∀m:Nat,List.foldl (λx1 x2=>x1++x2) #[] (List.replicate m its.toArray)=(List.replicate m its).flatten.toArray:=λm=>by have:=q7c its m [];rw[w26]at this;exact this
  rw[f0];cases its with
  | nil=>simp
  | cons a r'=>rw[d7 (by simp)]
 refine wpAny_binaryOp_repeat_ref (T:="list") (U:="int") (by decide) ⟨_,e,rfl⟩ (λs'=>typeIs_int s' k t) noFill_list_mul F.fills_int_mul F.slot_int_rmul repeat_list F.slot_int_index.lookup
  (w4p F.slot_int_rmul (typeIs_int s k t) F.entry_int_rmul (F.args_int_rmul_2 _ _) (int___rmul___int_list k t l its.toArray n)
   ⟨e,rfl,⟨_,e,rfl⟩,w4p F.slot_list_mul ⟨_,e,rfl⟩ F.entry_list_mul (F.args_list_mul_2 _ _) (AutoListH.list___mul___list_int_3 l its.toArray n k t hfit hcap hlong) ⟨e,?_⟩⟩)
 rw[hnew];exact⟨.ref _,_,I.lnew (t':=s.toks) (r.rep k.toNat) (by rw[z5K,Nat.mul_comm];exact hz),rfl,q _ I.fresh⟩
end
section
variable {prog:Program} {w:World} {A:Around} {E:Value->Shared->Prop} {s:Shared}
end
section
variable {X:Cx}
end
end
end L2
namespace Att
open PySem PySem.W PySem.Calls PyProof.Rows
section
theorem q5m:∀(ns:List Int) (vs:List Value),WellAll P h vs (ns.map WData.int)->IntsAre vs ns:=by
 intro ns
 induction ns with
 | nil=>
  intro vs w;rw[w4w]at w;cases w;exact .nil
 | cons n ns ih=>
  intro vs w;rw[y0]at w;cases w with
  | cons a b=>
   cases a;exact .cons _ _ (ih _ b)
theorem z3c{l:OpenLaw}{n:Nat}(hn:l.most=some n){P:Params}{h:Heap}{args:List WData}{vals:List Value}
  (hpre:l.row.toRowW.claim.pre args=true) (hwl:WellAll P h vals args) :
  ∃a vs ns,vals=[Value.ref a]/\args=[WData.list (ns.map WData.int)]/\h.get? a=some {cls:=.type "list",data:=.seq vs.toArray} /\ IntsAre vs ns/\ns.length<=n:=by
 have hsh:WShape.hasAll [] args [.list .int]=true:=(pre_splitW hpre).1;have hc:l.pre.holds [] {args:=args} = true:=(pre_splitW hpre).2;obtain⟨d,r,rfl,h1,h2⟩:=hasAllW_cons hsh;obtain rfl:=hasAllW_nil h2;obtain⟨xs,rfl,h3⟩:=hasW_list h1;obtain⟨ns,rfl⟩:=items_int h3;have hlen:ns.length<=n:=by
  unfold OpenLaw.pre at hc;have h4:(WTm.not (.lt (.lit (.int (n:Int))) (.len (.arg 0)))).holds [] {args:=[.list (ns.map .int)]} = true:=by have h4:=(holds_andW hc).1;rw[hn]at h4;exact h4
  have h5:=condW_of h4 (w_not (w_lt w_lit (w_len_list (w_arg rfl))));rw[d5]at h5;refine w3L λq=>?_;have q':(n:Int)<((ns.length:Nat):Int):=by omega
  first
   | (rw[B8 q']at h5;exact absurd h5 (by decide))
   | (simp at h5;omega)
 cases hwl with
 | cons w1 w2=>
  cases w2;cases w1 with
  | list ho hall=>exact⟨_,_,ns,rfl,rfl,ho,q5m ns _ hall,hlen⟩
theorem z0y(l:OpenLaw)(args:List WData):l.row.toRowW.claim.post args (.bool true) args=true:=
 postW_of (r:=l.row.toRowW) (X:=(true==true))
  (show WShape.has [] (.bool true) .bool=true by first | rfl | decide | simp[WShape.has,WShape.arms,WShape.armsAll])
  (show(WTm.eq .res (.lit (.bool true))).value [] {args:=args,res:=some (.bool true),after:=args} = some (.bool (true==true))from w_eq_bool (w_res rfl) w_lit) rfl
theorem attach_call{l:OpenLaw}{n:Nat}{q:Program}{loose:List Str}{XP:(Str->Option Value)->Heap->Prop}{YP:World->Heap->Prop}{d:DefRec}
  (hn:l.most=some n) (hdf:d.params.defaults=[])
  (call:∀(w:World) (s₀ s₁:Shared) (mg mb:Str->Option Value) (fa:Addr) (o:Obj) (pm cd doc:Value) (a:Addr) (vs:List Value) (ns:List Int),
   Ground q loose [] XP w s₀ mg mb s₁.heap->YP w s₁.heap ->
   s₁.heap.get? fa=some o->o.data=.func (docDef d.name d.params d.body d.scope pm cd doc)->s₁.heap.CodeRec cd d.name->mg d.name=some (.ref fa) ->
   s₁.heap.get? a=some {cls:=.type "list",data:=.seq vs.toArray} -> IntsAre vs ns->ns.length<=n->s₁.gens = #[] ->
   codeAny (model l.prog w) callerA (.call (.ref fa) ⟨[.ref a],[]⟩) (λr s'=>r=.ok (.ret (.bool true))/\OldK s₁.heap s'.heap/\s'.os=s₁.os/\AllBare s'.gens) s₁) :
  WalkO q loose XP YP l.row.toRowW d [] (λf vs=>PySem.call f vs):=by
 intro w s₀ s₁ mg mb G Y fa o pm cd doc dV kV ho hd hcd hD hmg hg args vals as hpre hlay hrd hwl hlo;obtain rfl:dV=.none:=Dflts.none hD hdf;obtain rfl:kV=.none:=Dflts.noKw hD;obtain⟨a,vs,ns,rfl,rfl,hobj,hints,hlen⟩:=z3c hn hpre hwl;refine enter_call (Q7 (call w s₀ s₁ mg mb fa o pm cd doc a vs ns G Y ho (fd_plain hd) hcd hmg hobj hints hlen hg) λr s' hq=>?_);obtain⟨rfl,h2,h3,h4⟩:=hq;exact⟨.inl ⟨.bool true,.bool true,[],rfl,λ_=>rfl,.bool true,z0y l _,λ_=>⟨List.Pairwise.nil,λ_ hm=>(nomatch hm)⟩⟩,h2,h3,h4⟩
section
variable {prog:Program} {w:World} {A:Around} {E:Value->Shared->Prop} {s:Shared} {K:Frag}
def y2m(h:Heap)(L d:Addr):List (Addr×Obj):=(List.range h.objs.size).filterMap λa=>if a=L\/a=d then none else(h.get? a).map λo=>(a,o)
end
end
end Att
namespace L2
open PySem PySem.Spec PyProof.Rows
section
theorem q7I:∀{vs:List Value} {ns:List Int},IntsAre vs ns->Vals (ns.map V.int) vs
 | _,_,.nil=>.nil
 | _,_,.cons n t h=>.cons ⟨t,rfl⟩ (q7I h)
def Only(H:Hp):Prop:=∀b,H b=none\/∃o xs,H b=some (.frz o (.lst xs))
theorem z3k{P:Program}{w:World}{K:PySem.W.Frag}{mg mb:Str->Option Value}{CX:CXT}{k:Nat}{fa a:Addr}{fd:FuncData}{x:Str}{sp:Sp}{s₁:Shared}{vs:List Value}{ns:List Int}
  (KX:K.In s₁.heap) (hns:s₁.heap.Ns mainGlobals mg) (hb:s₁.heap.Ns builtinsNs mb) (hbb:∀x:Str,x ≠ "__name__" -> mb x=bootBuiltins x) (hlim:s₁.heap.NoLimit) (hg:s₁.gens = #[])
  (ha:s₁.heap.get? a=some {cls:=.type "list",data:=.seq vs.toArray}) (hi:IntsAre vs ns) (hl:ns.length<=sizeLine) (hr:Room k callerA)
  (F:∀base:Heap,K.In base->base.Ns mainGlobals mg->FnOk P w K mg base CX k fa fd [x] sp) (hbind:∀(s:Shared) (u:Value),BindsTo s fd ⟨[u],[]⟩ [(x,u)])
  (hsp:∀H:Hp,Only H->SqL K H a (ns.map V.int)->sp [.ref a] H (λv _=>v=.bl true) λ_ _ _=>False)
  (hCX:∀H e s',CX [] H s₁ (λ_ _ _=>False) e s'->False) :
  codeAny (model P w) callerA (.call (.ref fa) ⟨[.ref a],[]⟩) (λr s'=>r=.ok (.ret (.bool true))/\OldK s₁.heap s'.heap/\s'.os=s₁.os/\AllBare s'.gens) s₁:=by
 have rv:=q7I hi;have lenV:=hi.length;have core:∀H:Hp,Only H->SqL K H a (ns.map V.int)->HOk P w H s₁.heap->(∀b,H b≠none->b=a)->(H a≠none->K.lookup a=none) ->
   codeAny (model P w) callerA (.call (.ref fa) ⟨[.ref a],[]⟩) (λr s'=>r=.ok (.ret (.bool true))/\OldK s₁.heap s'.heap/\s'.os=s₁.os/\AllBare s'.gens) s₁:=by
  intro H hO hS hok hA hK;have base_of:∀{b:Addr} {o:Obj},s₁.heap.get? b=some o->H b=none->(hidT s₁.heap H).get? b=some o:=λe n=>z4n e n
  have noA:∀{b:Addr} {o:Obj} {es:Array DictEntry} {ep:Nat},s₁.heap.get? b=some o->o.data=.dict es ep->H b=none:=λ{b o es ep} e d=>by
   cases q:H b with
   | none=>rfl
   | some u=>
    have e':b=a:=hA b (by rw[q];simp);subst e';rw[ha]at e;cases e;have d':Data.seq vs.toArray _=Data.dict es ep:=d;cases d'
  have nsK:∀{b:Addr} {m:Str->Option Value},s₁.heap.Ns b m->(hidT s₁.heap H).Ns b m:=λ{b m} ⟨o,es,ep,e,d,r⟩=>⟨o,es,ep,base_of e (noA e d),d,r⟩;have hKb:K.In (hidT s₁.heap H):=λb o e=>base_of (KX b o e) (by
   cases q:H b with
   | none=>rfl
   | some u=>
    have e':b=a:=hA b (by rw[q];simp);subst e';rw[hK (by rw[q];simp)]at e;cases e)
  have hM:Mod K mg (hidT s₁.heap H):=⟨hKb,nsK hns,⟨mb,nsK hb,hbb⟩,let ⟨mc,h1,h2⟩:=hlim;⟨mc,nsK h1,h2⟩⟩;have e0:Env0 P w K mg (hidT s₁.heap H) callerA [] s₁ H:=⟨rfl,hM,λb o e=>z7t e,Nat.le_of_eq (z2g _ _),trivial,λb hb=>absurd (show b∈([]:List Addr)from hb) (by simp),hok,.of_eq hg⟩;refine Q7 ((F _ hKb (nsK hns)).run callerA [] s₁ H ⟨[.ref a],[]⟩ [.ref a] [.ref a] _ _ hr e0 (hbind s₁ (.ref a)) (.cons rfl .nil) (hsp H hO hS)) λr s' h=>?_;cases r with
  | error e=>exact(hCX H e s' h).elim
  | ok fl=>
   cases fl with
   | next=>exact False.elim h
   | brk=>exact False.elim h
   | cont=>exact False.elim h
   | ret u=>
    obtain⟨v,H',os,bare,un,hok',r',q⟩:=h;have q':v=.bl true:=q;subst q';obtain rfl:u=Value.bool true:=r';refine⟨rfl,OldK.of_keep λb o e=>?_,os,bare⟩;cases q:H b with
    | none=>exact un.keep b o e q (by intro z;exact absurd (show b∈([]:List Addr)from z) (by simp)) (by simp)
    | some u=>
     rcases hO b with z | ⟨ob,xs,z⟩
     ·rw[q]at z;cases z
     ·have z2:=un.frzs b ob _ z;obtain⟨e1,_⟩:=hok b _ z;obtain⟨e2,_⟩:=hok' b _ z2;rw[e]at e1;cases e1;exact e2
 cases hk:K.lookup a with
 | some o=>
  have e:=KX a o hk;rw[ha]at e;cases e;refine core (λ_=>none) (λ_=>.inl rfl) (.inr ⟨_,vs.toArray,_,hk,rfl,rfl,rfl,by rw[o9,lenV];exact hl,by simpa using rv⟩) (λb u z=>by have z':(none:Option HO)=some u:=z;cases z') (λb z=>absurd rfl z) λz=>absurd rfl z
 | none=>
  refine core (λb=>if b=a then some (.frz {cls:=.type "list",data:=.seq vs.toArray} (.lst (ns.map V.int)))else none) (λb=>?_) (.inl (.inr ⟨{cls:=.type "list",data:=.seq vs.toArray},b8 rfl⟩)) (λb u z=>?_) (λb z=>?_) λ_=>hk
  ·by_cases hb:b=a
   ·exact .inr ⟨_,_,b8 hb⟩
   ·exact .inl (d7 hb)
  ·by_cases hb:b=a
   ·have z':=(b8 hb).symm.trans z;cases z';subst hb;exact⟨ha,by rw[d5];exact hl,vs,_,rv,ha⟩
   ·have z':=(d7 hb).symm.trans z;cases z'
  ·by_cases hb:b=a
   ·exact hb
   ·exact absurd (d7 hb) z
end
section
abbrev KOf{K:PySem.W.Frag}{h:Heap}(_:K.In h):PySem.W.Frag:=K
theorem walk_of{l:PySem.W.OpenLaw}{n k:Nat}{q:Program}{loose:List Str}{XP:(Str->Option Value)->Heap->Prop}{YP:World->Heap->Prop}{d:DefRec}{K:Params->PySem.W.Frag}{CX:World->CXT}{sp:World->Sp}{x:Str}
  (hn:l.most=some n) (hn2:n<=sizeLine) (hdf:d.params.defaults=[]) (hr:Room k callerA)
  (hY:∀(w:World) (h:Heap),YP w h->(K w.params).In h)
  (F:∀(w:World) (mg:Str->Option Value) (fa:Addr) (h:Heap),(K w.params).In h->h.Ns mainGlobals mg->mg d.name=some (.ref fa) ->
   ∃fd:FuncData,(∀(s:Shared) (u:Value),BindsTo s fd ⟨[u],[]⟩ [(x,u)]) /\
    ∀base:Heap,(K w.params).In base->base.Ns mainGlobals mg->FnOk l.prog w (K w.params) mg base (CX w) k fa fd [x] (sp w))
  (hsp:∀(w:World) (H:Hp) (a:Addr) (ns:List Int),ns.length<=n->Only H->SqL (K w.params) H a (ns.map V.int)->sp w [.ref a] H (λv _=>v=.bl true) λ_ _ _=>False)
  (hCX:∀(w:World) (H:Hp) (s:Shared) (e:Value) (s':Shared),CX w [] H s (λ_ _ _=>False) e s'->False) :
  PySem.W.WalkO q loose XP YP l.row.toRowW d [] (λf vs=>PySem.call f vs):=by
 refine Att.attach_call hn hdf λw s₀ s₁ mg mb fa o pm cd doc a vs ns G Y ho hd hcd hmg hobj hints hlen hg=>?_;have KX:=hY w _ Y;obtain⟨fd,hb,hF⟩:=F w mg fa _ KX G.T.g hmg;exact z3k KX G.T.g G.T.b G.T.builtins G.T.nolimit hg hobj hints (i7 hlen hn2) hr hF hb (λH hO hS=>hsp w H a ns hlen hO hS) λH e s'=>hCX w H s₁ e s'
end
section
abbrev CX0:CXT:=λ_ _ _ _ _ _=>False
abbrev E0:XK:=λ_ _ _=>False
structure Fun(K:PySem.W.Frag)(x qual:Str)(st:Stmt)(f:Addr)(fd:FuncData):Prop where
 ex:∃(oc:Value) (od:Option Addr) (kV doc pm:Value) (an:Option Addr) (cdv ct:Value) (osl:Array (Option Value)),
  fd=PySem.W.fnOf x qual (F8 st) (B9 st) (o5 st) .none kV doc pm an cdv ct/\K.lookup f=some ⟨oc,od,.func fd,osl⟩/\PySem.W.codeIn K cdv qual=true
 kp:PySem.W.keepIn K (.ref f)=true
section
variable {P:Program} {w:World} {K:PySem.W.Frag} {mg:Str->Option Value} {base:Heap}
end
section
variable {X:Cx}
end
theorem iteF{A B:Prop}(h:B):if false=true then A else B:=by
 rw[d7 v9];exact h
theorem iteT{A B:Prop}(h:A):if true=true then A else B:=by
 rw[b8 rfl];exact h
def Same(H H':Hp):Prop:=∀b o,H b=some o->H' b=some o
theorem Same.refl(H:Hp):Same H H:=λ_ _ h=>h
theorem Same.trans(a:Same H H1)(b:Same H1 H2):Same H H2:=λc o h=>b c o (a c o h)
theorem Same.free(e:Same H H')(h:H' l=Option.none):H l=Option.none:=by
 cases q:H l with
 | none=>rfl
 | some o=>
  rw[e l o q]at h;cases h
theorem Same.seq{K:PySem.W.Frag}{H H':Hp}{a:Addr}{xs:List V}(e:Same H H')(h:SqL K H a xs):SqL K H' a xs:=by
 rcases h with(h | ⟨o,h⟩) | h
 ·exact .inl (.inl (e _ _ h))
 ·exact .inl (.inr ⟨o,e _ _ h⟩)
 ·exact .inr h
end
section
def A0(cells:List (Str×Addr)):List (Str×NameKind)->List (Str×Addr)->List (Str×Addr)
 | [],acc=>acc
 | (n,k)::r,acc=>if(k==NameKind.free)=true then A0 cells r ((n,(cells.lookup n).getD 0)::acc)else A0 cells r acc
theorem q2j:∀(names:List (Str×NameKind)) (acc:List (Str×Addr)),(∀y∈names,y.2=NameKind.free->∃c,env.cells.lookup y.1=some c) ->
  (forIn names acc (λ(x:Str×NameKind) (cs:List (Str×Addr))=>(match x with | (name,kind)=>if(kind==NameKind.free)=true then(do let a ←cellOf env name;pure (ForInStep.yield ((name,a)::cs)))else pure (ForInStep.yield cs):Sem (ForInStep (List (Str×Addr))))):Sem (List (Str×Addr)))=pure (A0 env.cells names acc)
 | [],acc,_=>rfl
 | (n,k)::r,acc,h=>by
  have hr:∀y∈r,y.2=NameKind.free->∃c,env.cells.lookup y.1=some c:=λy hy=>h y (i6 _ hy);rw[List.forIn_cons];by_cases hk:(k==NameKind.free)=true
  ·obtain⟨c,hc⟩:=h (n,k) i8 (d8.mp hk);have e1:cellOf env n=pure c:=by unfold cellOf;rw[hc]
   have e2:A0 env.cells ((n,k)::r) acc=A0 env.cells r ((n,c)::acc):=(by show(if(k==NameKind.free)=true then A0 env.cells r ((n,(env.cells.lookup n).getD 0)::acc)else A0 env.cells r acc)=_;rw[b8 hk,hc];rfl);rw[e2,←q2j r ((n,c)::acc) hr];simp only[hk,if_true,e1];rfl
  ·have e2:A0 env.cells ((n,k)::r) acc=A0 env.cells r acc:=by
    show(if(k==NameKind.free)=true then A0 env.cells r ((n,(env.cells.lookup n).getD 0)::acc)else A0 env.cells r acc)=_;rw[d7 hk]
   rw[e2,←q2j r acc hr];simp only[hk,if_false];rfl
theorem q2T(h:∀y∈scope.names,y.2=NameKind.free->∃c,env.cells.lookup y.1=some c):closureFor scope env=pure (A0 env.cells scope.names []):=by
 have q:=q2j (env:=env) scope.names [] h;unfold closureFor
 first
  | exact(congrArg (λt=>(t >>= λcs=>pure cs)) q).trans rfl
  | (simp only[q];rfl)
theorem q2F:∀{names:List (Str×NameKind)} {acc:List (Str×Addr)} {x:Str} {c:Addr},(∀y∈names,y.2=NameKind.free->∃c,cells.lookup y.1=some c) ->
  (x,c)∈A0 cells names acc->(x,c)∈acc\/(cells.lookup x=some c/\(x,NameKind.free)∈names)
 | [],acc,x,c,_,h=>.inl h
 | (n,k)::r,acc,x,c,hh,h=>by
  have hr:∀y∈r,y.2=NameKind.free->∃c,cells.lookup y.1=some c:=λy hy=>hh y (i6 _ hy);unfold A0 at h;by_cases hk:(k==NameKind.free)=true
  ·rw[b8 hk]at h;obtain⟨c',hc⟩:=hh (n,k) i8 (d8.mp hk);rcases q2F hr h with z | ⟨z1,z2⟩
   ·rcases e8.mp z with z | z
    ·cases z;exact .inr ⟨by rw[hc];rfl,by rw[←d8.mp hk];exact i8⟩
    ·exact .inl z
   ·exact .inr ⟨z1,i6 _ z2⟩
  ·rw[d7 hk]at h;rcases q2F hr h with z | ⟨z1,z2⟩
   ·exact .inl z
   ·exact .inr ⟨z1,i6 _ z2⟩
theorem q2E:∀{names:List (Str×NameKind)} {acc:List (Str×Addr)} {y:Str×Addr},y∈acc->y∈A0 cells names acc
 | [],_,_,h=>h
 | (n,k)::r,acc,y,h=>by
  unfold A0;split
  ·exact q2E (i6 _ h)
  ·exact q2E h
theorem q2v:∀{names:List (Str×NameKind)} {acc:List (Str×Addr)} {x:Str} {c:Addr},(x,NameKind.free)∈names->cells.lookup x=some c->(x,c)∈A0 cells names acc
 | (n,k)::r,acc,x,c,h,hc=>by
  unfold A0;rcases e8.mp h with z | z
  ·cases z;rw[b8 (show(NameKind.free==NameKind.free)=true from rfl),hc];exact q2E i8
  ·split
   ·exact q2v z hc
   ·exact q2v z hc
theorem q1l:∀(names:List (Str×NameKind)) (n:Nat) (acc:List (Str×Addr)),cellsFrom n names acc=cellsFrom n names []++acc
 | [],_,_=>rfl
 | (x,k)::r,n,acc=>by
  unfold cellsFrom;split
  ·rw[q1l r (n+1) ((x,n)::acc),q1l r (n+1) [(x,n)],J3];rfl
  ·exact q1l r n acc
theorem q2z:∀{names:List (Str×NameKind)} {n:Nat} {x:Str} {c:Addr},(x,c)∈cellsFrom n names []->(x,NameKind.cell)∈names
 | [],_,_,_,h=>nomatch h
 | (y,k)::r,n,x,c,h=>by
  unfold cellsFrom at h;by_cases hk:(k==NameKind.cell)=true
  ·rw[b8 hk,q1l]at h;rcases A3.mp h with z | z
   ·exact i6 _ (q2z z)
   ·have z':(x,c)=(y,n):=by simpa using z
    cases z';rw[d8.mp hk];exact i8
  ·rw[d7 hk]at h;exact i6 _ (q2z h)
theorem q2n{α:Type}:∀{l r:List (Str×α)},(l++r).lookup x=(l.lookup x).or (r.lookup x)
 | [],r=>by simp
 | (y,v)::l,r=>by
  rw[List.cons_append,D7,D7];cases hb:x==y with
  | true=>rfl
  | false=>exact q2n
theorem q3m{α:Type}:∀{l:List (Str×α)},(∀c,(x,c)∉l)->l.lookup x=none
 | [],_=>rfl
 | (y,v)::l,h=>by
  rw[D7];cases hb:x==y with
  | true=>exact absurd (by rw[d8.mp hb];exact i8) (h v)
  | false=>exact q3m λc hc=>h c (i6 _ hc)
theorem q3p{α:Type}:∀{l:List (Str×α)} {c:α},(x,c)∈l->∃c',l.lookup x=some c'
 | (y,v)::l,c,h=>by
  rw[D7];cases hb:x==y with
  | true=>exact⟨v,rfl⟩
  | false=>
   rcases e8.mp h with z | z
   ·cases z;rw[Z0]at hb;cases hb
   ·exact q3p z
theorem q0S{α:Type}:∀{l:List (Str×α)} {c:α},(l.map (·.1)).Nodup->(x,c)∈l->l.lookup x=some c
 | (y,v)::l,c,nd,h=>by
  rw[D7];rw[y0]at nd;have nd':=O1.mp nd;rcases e8.mp h with z | z
  ·cases z;rw[Z0]
  ·have:x≠y:=λe=>nd'.1 (by rw[←e];exact f9.mpr ⟨_,z,rfl⟩);rw[t7.mpr this];exact q0S nd'.2 z
theorem q2m:(relabel scope env).names.lookup x=(scope.names.lookup x).map λk=>if(k==NameKind.free&&env.scope.kind == .function&&env.kindOf x==some .cell)=true then NameKind.cell else k:=by
 unfold relabel;show(scope.names.map _).lookup x=_;generalize scope.names=l
 induction l with
 | nil=>rfl
 | cons y r ih=>
  obtain⟨n,k⟩:=y;rw[y0];show List.lookup x ((if(k==NameKind.free&&env.scope.kind == .function&&env.kindOf n==some .cell)=true then(n,NameKind.cell)else(n,k))::_)=_;have e:(if(k==NameKind.free&&env.scope.kind == .function&&env.kindOf n==some .cell)=true then(n,NameKind.cell)else(n,k))=(n,if(k==NameKind.free&&env.scope.kind == .function&&env.kindOf n==some .cell)=true then NameKind.cell else k):=by split<;>rfl
  rw[e,D7,D7];cases hb:x==n with
  | true=>rw[d8.mp hb];rfl
  | false=>exact ih
theorem q8a
  (hQ:Q (newEnv scope s.heap.objs.size g (cellsFrom (s.heap.objs.size+1) scope.names cl) q none .none (some env) builtinsNs) {s with heap:=pushCells (s.heap.push {cls:=.type "dict",data:=.dict #[]}) scope.names}) :
  wpAny M A (newFunctionEnv scope g cl [] q none .none (some env)) Q E s:=by
 simp only[newFunctionEnv,Option.isSome_some,if_true];refine b6 (wpAny_alloc ?_);refine b6 (wpAny_layCells _ (λname kind cells=>by cases hkc:kind==NameKind.cell<;>simp[hkc]) _ _ _ _ ?_);rw[show({s with heap:=s.heap.push {cls:=.type "dict",data:=.dict #[]}}:Shared).heap.objs.size=s.heap.objs.size+1 from K0 ..];exact b6 (d4 (d4 hQ))
theorem q7q(I:Nat->Shared->Prop)
  (turn:∀n s,I n s->wpAny (model prog w) A (pyNext it) (λr s₁=>match r with
   | none=>R (.ok .next) s₁
   | some v=>wpAny (model prog w) A (letOwnedTupleGo target it v) (λ_ s₁'=>wpAny (model prog w) A (assign target env v) (λ_ s₂=>
     wpAny (model prog w) A (forIn ifs true λc r=>if r=true then do let ok ←isTrue c env (eval c env);pure (ForInStep.yield ok)else pure (ForInStep.yield r)) (λok s₃=>
      if ok=true then wpAny (model prog w) A (eval elt env) (λx s₄=>
       wpAny (model prog w) A (call (.builtin "list.append") [acc,x]) (λ_ s₅=>∃m,m<n/\I m s₅) (notedBy (model prog w) A env λe s'=>R (.error e) s') s₄) (notedBy (model prog w) A env λe s'=>R (.error e) s') s₃
      else ∃m,m<n/\I m s₃) (notedBy (model prog w) A env λe s'=>R (.error e) s') s₂) (notedBy (model prog w) A env λe s'=>R (.error e) s') s₁') (notedBy (model prog w) A env λe s'=>R (.error e) s') s₁) (notedBy (model prog w) A env λe s'=>R (.error e) s') s)
  (n:Nat) (h:I n s) :
  codeAny (model prog w) A (.compLoop (.ListComp elt [⟨target,iter,ifs,0⟩] scope pos) 0 it acc env) R s:=by
 refine codeAny_loop rfl I (λn s hI=>?_) n h;show wpAny _ A ((compTurn (.ListComp elt [⟨target,iter,ifs,0⟩] scope pos) 0 it acc env).onRaise (λx=>do noteFrame x env;theTreesLotGoes x)) _ _ s;refine wpAny_noted ?_;rw[compTurn_list];refine b6 (w4r (b6 (B4 (turn n s hI) (λr s₁ h₁=>?_) λ_ _ h'=>h')));cases r with
 | none=>exact d4 h₁
 | some v=>
  refine b6 (B4 h₁ (λ_ s₁' h₁'=>?_) λ_ _ h'=>h');refine b6 (B4 h₁' (λ_ s₂ h₂=>b6 (B4 h₂ (λok s₃ h₃=>?_) λ_ _ h'=>h')) λ_ _ h'=>h');cases ok with
  | false=>exact d4 ⟨rfl,h₃⟩
  | true=>
   exact b6 (b6 (B4 h₃ (λx s₄ h₄=>b6 (B4 h₄ (λ_ s₅ h₅=>d4 (d4 ⟨rfl,h₅⟩)) λ_ _ h'=>h')) λ_ _ h'=>h'))
theorem HOk.track(x:HOk P w H h)(hn:H a=none)(new:n4 P w (upd H a o) h a o):HOk P w (upd H a o) h:=λb u e=>by
 by_cases hb:b=a
 ·subst hb;rw[y6]at e;cases e;exact new
 ·rw[j6 hb]at e;exact(x b u e).stay (λc v _ q=>q) (λc q=>by rw[j6 (D9 q hn)];exact q) λc xs q=>by rw[j6 (D9 q hn)];exact q
theorem Un.track(u:Un fs ex H H' h h')(hn:H' a=none)(hh:h.get? a=none):Un fs ex H (upd H' a o) h h' where
 keep:=u.keep
 slot:=u.slot
 free:=λb ob q n hx=>by
  have:b≠a:=λz=>by rw[z,hh]at q;cases q
  rw[j6 this];exact u.free b ob q n hx
 there:=u.there
 tups:=λb xs q=>by have z:=u.tups b xs q;rw[j6 (D9 z hn)];exact z
 frzs:=λb ob xs q=>by have z:=u.frzs b ob xs q;rw[j6 (D9 z hn)];exact z
 tbls:=λb ps q=>by obtain⟨m,z⟩:=u.tbls b ps q;exact⟨m,by rw[j6 (D9 z hn)];exact z⟩
structure CompScope(N N':List Str)(sc osc:Scope)(fr:List (Option Nat)):Prop where
 kind:sc.kind=.function
 nd:N'.Nodup
 snd:(sc.names.map (·.1)).Nodup
 len:fr.length=N'.length
 fre:∀(j i:Nat),fr[j]? = some (some i)->∃x,N'[j]? = some x/\N[i]? = some x/\(x,NameKind.free)∈sc.names
 out:∀y∈sc.names,y.2=NameKind.free->osc.names.lookup y.1=some .cell\/osc.names.lookup y.1=some .free
def inner(fr:List (Option Nat))(σ:St):St:=fr.map λo=>o.bind λi=>(σ[i]?).join
def o8(X:Cx)(scope:Scope)(N':List Str)(C:Addr)(cells:List (Str×Addr))(s₂:Shared)(H₂:Hp)(fp:List Addr):Cx:=
 {X with N:=N',s₀:=s₂,H₀:=H₂,env:=compEnvC scope cells C X.env,outer:=X.stack,stack:=X.stack,ex:=fp,fn:=λx=>scope.names.lookup x==some .cell,pn:=[],xe:=λ_ _=>False}
section
variable {X:Cx} {pins:List (Addr×Obj)} {σ:St} {H:Hp} {s₂:Shared} {N':List Str} {scope:Scope} {fr:List (Option Nat)} {fp:List Addr}
abbrev G7:Obj:={cls:=.type "list",dict:=none,data:=.seq ([]:List Value).toArray}
abbrev q7B:Obj:={cls:=.type "dict",data:=.dict #[]}
theorem z4q(S:CompScope X.N N' scope X.env.scope fr)(I:Inv X pins σ H s₂)(f:∀b∈fp,FpOk X pins H b)(ho:∀b∈fp,@LT.lt Nat _ b s₂.heap.objs.size)(hC:C=s₂.heap.objs.size+1)(h4e:h4=pushCells ((s₂.heap.push G7).push q7B) scope.names) :
  Inv (o8 X scope N' C (cellsFrom (C+1) scope.names (A0 X.env.cells scope.names [])) s₂ H fp) [] (inner fr σ) H {s₂ with heap:=h4} /\ h4.get? s₂.heap.objs.size=some G7/\(∀b o,s₂.heap.get? b=some o->h4.get? b=some o):=by
 have hsz1:(s₂.heap.push G7).objs.size=s₂.heap.objs.size+1:=K0 ..;have hsz2:((s₂.heap.push G7).push q7B).objs.size=C+1:=by rw[K0,hsz1,hC]
 have keep:∀b o,s₂.heap.get? b=some o->h4.get? b=some o:=λb o e=>by rw[h4e];exact w32 _ _ b o (j2 _ (j2 _ e))
 have hD:h4.get? s₂.heap.objs.size=some G7:=by rw[h4e];exact w32 _ _ _ _ (j2 _ (p8 _ rfl))
 have hns:h4.Ns C λ_=>none:=by have q:=(Heap.Ns.new (s₂.heap.push G7) (.type "dict")).keeps (w32 scope.names _);rw[hsz1,←hC]at q;rw[h4e];exact q
 have ok:=cellsFrom_ok scope.names ((s₂.heap.push G7).push q7B) (C+1) [] ⟨λ_ _ hm=>(nomatch hm),List.Pairwise.nil⟩ (by rw[hsz2];exact e9 _);rw[hsz2,←h4e]at ok;have hfree:∀y∈scope.names,y.2=NameKind.free->∃c,X.env.cells.lookup y.1=some c:=λy hy hk=>I.ok.has y.1 (S.out y hy hk);generalize hcl:A0 X.env.cells scope.names []=cl;have memcl:∀{x:Str} {c:Addr},(x,c)∈cl->X.env.cells.lookup x=some c/\(x,NameKind.free)∈scope.names:=λ{x c} hm=>by
  rw[←hcl]at hm;rcases q2F hfree hm with z | z
  ·exact nomatch z
  ·exact z
 generalize hown:cellsFrom (C+1) scope.names []=own at ok;have app:cellsFrom (C+1) scope.names cl=own++cl:=by rw[q1l,hown]
 rw[app];have memown:∀{x:Str} {c:Addr},(x,c)∈own->(x,NameKind.cell)∈scope.names:=λ{x c} hm=>by rw[←hown]at hm;exact q2z hm
 have L1:∀x c,(own++cl).lookup x=some c->((x,c)∈own)\/(X.env.cells.lookup x=some c/\(x,NameKind.free)∈scope.names/\own.lookup x=none):=λx c e=>by
  rw[q2n]at e;cases q:own.lookup x with
  | some c'=>rw[q]at e;cases e;exact .inl (M3 q)
  | none=>rw[q]at e;have z:=memcl (M3 (show cl.lookup x=some c from e));exact .inr ⟨z.1,z.2,rfl⟩
 have own_ge:∀{x:Str} {c:Nat},(x,c)∈own->@LE.le Nat _ (C+1) c:=λ{x c} hm=>(ok.empty x c hm).2;have cell_lt:∀{x:Str} {c:Nat},X.env.cells.lookup x=some c->@LT.lt Nat _ c s₂.heap.objs.size:=λ{x c} e=>by obtain⟨v,z⟩:=I.cell x c e;exact z.lt
 have free_no:∀{x:Str},(x,NameKind.free)∈scope.names->own.lookup x=none:=λ{x} hm=>by refine q3m λc hc=>?_;have a:=q0S S.snd hm;have b:=q0S S.snd (memown hc);rw[a]at b;cases b
 have cl_get:∀{x:Str} {c:Addr},(x,NameKind.free)∈scope.names->X.env.cells.lookup x=some c->(own++cl).lookup x=some c:=λ{x c} hm hc=>by rw[q2n,free_no hm];obtain⟨c',e⟩:=q3p (l:=cl) (by rw[←hcl];exact q2v hm hc);have z:=(memcl (M3 e)).1;rw[hc]at z;cases z;exact e
 have hX:(o8 X scope N' C (own++cl) s₂ H fp).Ok:=by
  refine⟨I.ok.mod,S.kind,I.ok.glob,I.ok.blt,?_,λx y c h1 h2=>?_,λx hx=>?_,λx c hf hc=>?_,I.ok.hd,I.ok.frames,.inl rfl,λb hb=>⟨?_,λx c e=>?_⟩,I.bs,i7 I.ok.bsz I.sz,λb o e hb=>?_,λb hb hs=>?_,I.stack,I.stkFree⟩
  ·show s₂.heap.objs.size<=C;rw[hC];exact w3m _
  ·have h1:(own++cl).lookup x=some c:=h1;have h2:(own++cl).lookup y=some c:=h2;rcases L1 x c h1 with a | ⟨a,_⟩<;>rcases L1 y c h2 with b | ⟨b,_⟩
   ·exact name_of_addr ok.apart a b
   ·exfalso;have q1:=own_ge a;have q2:=cell_lt b;omega
   ·exfalso;have q1:=own_ge b;have q2:=cell_lt a;omega
   ·exact I.ok.inj x y c a b
  ·have hx':(relabel scope X.env).names.lookup x=some .cell\/(relabel scope X.env).names.lookup x=some .free:=hx;show ∃c,(own++cl).lookup x=some c;rw[q2m]at hx';cases q:scope.names.lookup x with
   | none=>rw[q]at hx';rcases hx' with z | z<;>cases z
   | some k=>
    have km:=M3 q;by_cases k1:k=.cell
    ·subst k1;have z:=w2m scope.names (C+1) [] (.inl q);rw[hown]at z;obtain⟨c,z⟩:=Y1.mp z;exact⟨c,by rw[q2n,z];rfl⟩
    ·by_cases k2:k=.free
     ·subst k2;obtain⟨c,e⟩:=hfree _ km rfl;exact⟨c,cl_get km e⟩
     ·exfalso;rw[q]at hx';have e0:(k==NameKind.free)=false:=t7.mpr k2;simp only[J9,e0,G6]at hx';rcases hx' with z | z
      ·exact k1 (by simpa using z)
      ·exact k2 (by simpa using z)
  ·have hf':(scope.names.lookup x==some .cell)=true:=hf;have q:scope.names.lookup x=some .cell:=by simpa using hf'
   have z:=w2m scope.names (C+1) [] (.inl q);rw[hown]at z;obtain⟨c',z⟩:=Y1.mp z;have hc':(own++cl).lookup x=some c:=hc;rw[q2n,z]at hc';have e:c'=c:=C6 hc';subst e;have:=own_ge (M3 z);show @LE.le Nat _ s₂.heap.objs.size c';omega
  ·have:=ho b hb;show @Ne Nat b C;omega
  ·rcases L1 x c e with a | ⟨a,_⟩
   ·have:=own_ge a;have:=ho b hb;show @Ne Nat c b;omega
   ·exact(f b hb).2.2.2.2.1 x c a
  ·rcases(f b hb).2.2.2.1 with z | z
   ·exact I.ok.noex b o e z
   ·exact absurd (u4 (i9 e) (i7 I.ok.bsz z)) (O4 _)
  ·rcases e8.mp (I.stkSub b hs)with z | z
   ·exact(f b hb).2.1 z
   ·exact(f b hb).2.2.1 z
 refine⟨⟨hX,rfl,I.bare,Un.kept keep,⟨_,hns,λi x v e1 e2 e3=>?_⟩,λx c e=>?_,I.hok.fresh (by show @LE.le Nat _ s₂.heap.objs.size C;omega),λx c e=>?_,λp hp=>absurd (show p∈([]:List (Addr×Obj))from hp) (by simp),I.hok.kept keep,?_⟩,hD,keep⟩
 ·have e1:N'[i]? = some x:=e1;unfold inner at e2;rw[n9]at e2;cases q:fr[i]? with
  | none=>rw[q]at e2;cases e2
  | some o=>
   rw[q]at e2;cases o with
   | none=>cases e2
   | some j=>
    have e2':(σ[j]?).join=some v:=C6 e2;have hv:σ[j]? = some (some v):=by
     cases z:σ[j]? with
     | none=>rw[z]at e2';cases e2'
     | some o=>rw[z]at e2';rw[show o=some v from e2']
    obtain⟨x',a1,a2,a3⟩:=S.fre i j q;rw[e1]at a1;cases a1;obtain⟨m,hn,hl⟩:=I.loc;have ko:=S.out _ a3 rfl;obtain⟨u,r,l⟩:=hl j x v a2 hv (ko.elim (λz=>.inr (.inl z)) λz=>.inr (.inr z));rcases l with⟨k,_⟩ | ⟨k,c,e,z⟩
    ·have k':X.env.scope.names.lookup x=some .local:=k;rcases ko with w | w<;>(rw[show X.env.scope.names.lookup x=_ from w]at k';cases k')
    ·refine⟨u,r,.inr ⟨?_,c,cl_get a3 e,z.keeps keep⟩⟩;show(relabel scope X.env).names.lookup x=some .cell\/(relabel scope X.env).names.lookup x=some .free;rw[q2m,q0S S.snd a3];simp only[J9];split
     ·exact .inl rfl
     ·exact .inr rfl
 ·rcases L1 x c e with a | ⟨a,_⟩
  ·exact⟨none,(ok.empty x c a).1⟩
  ·obtain⟨v,z⟩:=I.cell x c a;exact⟨v,z.keeps keep⟩
 ·rcases L1 x c e with a | ⟨a,_⟩
  ·exact I.hok.fresh (by have:=own_ge a;show @LE.le Nat _ s₂.heap.objs.size c;omega)
  ·exact I.freeC x c a
 ·show(inner fr σ).length=N'.length;unfold inner;rw[d5,S.len]
end
def PTs(X:Cx)(ifs:List Expr)(t:TT):Prop:=
 ∀(pins:List (Addr×Obj)) (s:Shared) (σ:St) (H:Hp) (Q:Bool->Hp->Prop),Inv X pins σ H s->t σ H Q ->
  wpAny (model X.prog X.w) X.A (forIn ifs true λc r=>if r=true then do let ok ←isTrue c X.env (eval c X.env);pure (ForInStep.yield ok)else pure (ForInStep.yield r)) (TP X pins σ Q) X.xe s
def tYes:TT:=λ_ H Q=>Q true H
theorem z8j:PTs X [] tYes:=λ_ _ _ H _ I h=>wpAny_tests_nil ⟨H,I,h⟩
theorem z5M(h:PT X c t):PTs X [c] t:=λpins s σ H Q I hq=>wpAny_tests_one (h pins s σ H Q I hq)
def z5G(J:It)(g:TG)(tc:TT)(te:TE)(Fin:List V->Hp->Prop)(σ:St)(H:Hp):Prop:=
 ∃W:Nat->Nat->List V->St->Hp->Prop,(∃m,W 0 m [] σ H)/\∀i m ys σ H,W i m ys σ H ->
  (J.stop i H/\Fin ys H)\/(J.go i H/\ys.length<sizeLine/\∀x H',J.yld i H x H'->g x σ H' λσ2 H2=>tc σ2 H2 λb H3=>
   if b=true then te σ2 H3 λy H4=>∃m',m'<m/\W (i+1) m' (ys++[y]) σ2 H4 else ∃m',m'<m/\W (i+1) m' ys σ2 H3)
theorem Vals.snoc(r:Vals xs us)(q:RelV x u):Vals (xs++[x]) (us++[u]):=r.append (.cons q .nil)
theorem q9m{X:Cx}{pins:List (Addr×Obj)}{σ:St}{H:Hp}{s₂:Shared}{N':List Str}{scope:Scope}{fr:List (Option Nat)}{fp:List Addr}{iter elt tg:Expr}{ifs:List Expr}{pos:Pos}{g:TG}{te:TE}{tc:TT}{it:Addr}{tn:Nat->Heap->Prop}{J:It}
  {E:Value->Shared->Prop} {Fin:List V->Hp->Prop} {RR:Value->Addr->Result->Shared->Prop}
  (S:CompScope X.N N' scope X.env.scope fr) (hc:X.calm=true)
  (hg:∀C cells s₂ H₂ fp,PG (o8 X scope N' C cells s₂ H₂ fp) tg g) (ht:∀C cells s₂ H₂ fp,PTs (o8 X scope N' C cells s₂ H₂ fp) ifs tc) (he:∀C cells s₂ H₂ fp,PE (o8 X scope N' C cells s₂ H₂ fp) elt te)
  (I:Inv X pins σ H s₂) (T:Turn X.prog X.w X.K tg J fp it tn) (st:tn 0 s₂.heap) (f:∀b∈fp,FpOk X pins H b) (h:z5G J g tc te Fin (inner fr σ) H)
  (hRR:∀D C H' s' m ys,Inv X pins σ (upd H' D (.lst ys)) s'->H' D=none->s'.heap.Ns C m->upd H' D (.lst ys) C=none->C≠X.env.locals->X.s₀.heap.objs.size<=C->(∀x c,X.env.cells.lookup x=some c->c≠C)->(∀p∈X.pn++pins,p.1≠C)->Fin ys H'->RR (.ref D) C (.ok .next) s') :
  wpAny (model X.prog X.w) X.A (newList []) (λacc s₃=>wpAny (model X.prog X.w) X.A (newFunctionEnv scope X.env.globals (A0 X.env.cells scope.names []) [] X.env.qual none .none (some X.env)) (λcenv s₄=>
   codeAny (model X.prog X.w) X.A (.compStart (.ListComp elt [⟨tg,iter,ifs,0⟩] scope pos) 0 (.ref it) acc {cenv with scope:=relabel scope X.env}) (RR acc cenv.locals) s₄) E s₃) E s₂:=by
 have ho:∀b∈fp,b<s₂.heap.objs.size:=λb hb=>by obtain⟨o,e,_⟩:=T.obj _ _ st b hb;exact i9 e
 refine B2 (q8a ?_);have hsz1:(s₂.heap.push G7).objs.size=s₂.heap.objs.size+1:=K0 ..;obtain⟨I4,hD4,keep⟩:=z4q (C:=s₂.heap.objs.size+1) S I f ho rfl rfl;show codeAny _ _ (.compStart _ 0 (.ref it) (.ref s₂.heap.objs.size) (compEnvC scope (cellsFrom ((s₂.heap.push G7).objs.size+1) scope.names (A0 X.env.cells scope.names [])) (s₂.heap.push G7).objs.size X.env)) (RR (.ref s₂.heap.objs.size) (s₂.heap.push G7).objs.size) {s₂ with heap:=pushCells ((s₂.heap.push G7).push q7B) scope.names};rw[hsz1];generalize hDe:s₂.heap.objs.size=D at *;generalize cellsFrom (D+1+1) scope.names (A0 X.env.cells scope.names [])=cells at *;generalize pushCells ((s₂.heap.push G7).push q7B) scope.names=h4 at *;have hfp:∀{pins':List (Addr×Obj)} {H':Hp},(∀b∈fp,H' b=none)->(∀p∈pins',p.1=D)->∀b∈fp,FpOk (o8 X scope N' (D+1) cells s₂ H fp) pins' H' b:=λ{pins' H'} hn hp b hb=>
  ⟨hn b hb,(I4.ok.exf b hb).1,I4.ok.exfs b hb,.inl hb,(I4.ok.exf b hb).2,λp hp' z=>by
   have hp':p∈([]:List (Addr×Obj))++pins':=hp';rw[w26]at hp';have:=ho b hb;rw[←z,hp p hp']at this;exact O4 _ this⟩
 obtain⟨W,⟨m0,w0⟩,turn⟩:=h;have hDC:D≠(o8 X scope N' (D+1) cells s₂ H fp).env.locals:=by show D≠D+1;omega
 have hDcell:∀x c,(o8 X scope N' (D+1) cells s₂ H fp).env.cells.lookup x=some c->c≠D:=λx c e z=>by
  obtain⟨v,o,hoc,hd⟩:=I4.cell x c e;have q:h4.get? D=some o:=by rw[←z];exact hoc
  rw[hD4]at q;cases q;cases hd
 have hDfs:D∉(o8 X scope N' (D+1) cells s₂ H fp).fs:=λz=>by
  obtain⟨_,o,ho',_⟩:=I4.ok.funs.mem z
  have:=i9 ho';have e:s₂.heap.objs.size=D:=hDe;exact absurd this (by show ¬D<s₂.heap.objs.size;omega)
 have loop:codeAny (model X.prog X.w) X.A (.compLoop (.ListComp elt [⟨tg,iter,ifs,0⟩] scope pos) 0 (.ref it) (.ref D) (compEnvC scope cells (D+1) X.env)) (RR (.ref D) (D+1)) {s₂ with heap:=h4}:=by
  refine q7q (λn s'=>∃i ys its k σ' H',Inv (o8 X scope N' (D+1) cells s₂ H fp) [] σ' H' s'/\tn i s'.heap/\(∀b∈fp,H' b=none)/\H' D=none /\
   s'.heap.get? D=some {cls:=.type "list",data:=.seq (its:List Value).toArray k} /\ Vals ys its/\ys.length<=sizeLine/\W i n ys σ' H') ?_ m0
   ⟨0,[],[],_,_,H,I4,T.keep _ _ _ st λb _ o e=>keep b o e,λb hb=>(f b hb).1,I.hok.fresh (by omega),hD4,.nil,A7 _,w0⟩
  rintro n s3 ⟨i,ys,its,k,σ3,H3,I3,st3,fr3,hD3,oD3,rv,hl,w3⟩
  have I3p:Inv (o8 X scope N' (D+1) cells s₂ H fp) [(D,{cls:=.type "list",data:=.seq its.toArray k})] σ3 H3 s3:=I3.pins_of λp hp=>by
   have e:p=(D,{cls:=.type "list",data:=.seq its.toArray k}):=by simpa using hp
   subst e;exact⟨oD3,hD3,hDC,hDfs,λv z=>by cases z⟩
  have pinD:∀p∈[((D:Addr),({cls:=.type "list",data:=.seq its.toArray k}:Obj))],p.1=D:=λp hp=>by
   have e:p=(D,{cls:=.type "list",data:=.seq its.toArray k}):=by simpa using hp
   subst e;rfl
  rcases turn i n ys σ3 H3 w3 with⟨stop,fin⟩ | ⟨go,hlt,step⟩
  ·refine thn (T.done (o8 X scope N' (D+1) cells s₂ H fp) rfl rfl rfl hc i _ s3 σ3 H3 _ I3p (hfp fr3 pinD) st3 stop) λr s4 ⟨hr,I4'⟩=>?_;subst hr;have oD:=(I4'.pin (D,_) (y9 _ i8)).1;have un:Un (frs X.stack) fp H H3 s₂.heap s4.heap:=I4'.base;have hn:s₂.heap.get? D=none:=w2t (by rw[hDe];exact e9 _);obtain⟨mC,hnC,_⟩:=I4'.loc;refine hRR D (D+1) H3 s4 mC ys (I.call' I4'.os (un.track hD3 hn) (I4'.hok.track hD3 ⟨hl,its,k,rv,oD⟩) I4'.bare λb hb=>?_) hD3 hnC ?_ ?_ ?_ (λx c e=>?_) (λp hp=>?_) fin
   ·obtain⟨_,f1,f2,f3,f4,f5⟩:=f b hb;exact⟨f3,f1,f4,f5⟩
   ·rw[j6 (show @Ne Nat (D+1) D by omega)];exact I4'.free
   ·have q:@LT.lt Nat _ X.env.locals s₂.heap.objs.size:=I.lt;show @Ne Nat (D+1) X.env.locals;omega
   ·have q:@LE.le Nat _ X.s₀.heap.objs.size s₂.heap.objs.size:=I.sz;show @LE.le Nat _ X.s₀.heap.objs.size (D+1);omega
   ·obtain⟨v,z⟩:=I.cell x c e;have q:@LT.lt Nat _ c s₂.heap.objs.size:=z.lt;show @Ne Nat c (D+1);omega
   ·have q:@LT.lt Nat _ p.1 s₂.heap.objs.size:=i9 (I.pin p hp).1;show @Ne Nat p.1 (D+1);omega
  ·refine thn (T.item (o8 X scope N' (D+1) cells s₂ H fp) rfl rfl rfl hc i _ s3 σ3 H3 _ I3p (hfp fr3 pinD) st3 go) λr s4 ⟨u,hr,h4'⟩=>?_;subst hr;refine thn h4' λ_ s5 ⟨x,H5,I5,r5,y5,st5,fr5⟩=>?_;have I5':=I5.pinned (hfp fr5 pinD) (T.obj _ _ st5);refine B4 (hg (D+1) cells s₂ H fp _ s5 σ3 H5 x u _ I5' r5 (step x H5 y5)) (λ_ s6 ⟨σ6,H6,I6,q6⟩=>?_) λ_ _ z=>z.elim;refine B4 (ht (D+1) cells s₂ H fp _ s6 σ6 H6 _ I6 q6) (λb s7 ⟨H7,I7,q7⟩=>?_) λ_ _ z=>z.elim;have fpK:∀{H':Hp} {s':Shared},Inv (o8 X scope N' (D+1) cells s₂ H fp) ([(D,{cls:=.type "list",data:=.seq its.toArray k})]++q7f fp s5.heap) σ6 H' s'->tn (i+1) s'.heap/\(∀b∈fp,H' b=none)/\s'.heap.get? D=some {cls:=.type "list",data:=.seq its.toArray k} /\ H' D=none:=λ{H' s'} J'=>by
    refine⟨T.keep _ _ _ st5 λb hb o e=>(J'.pin (b,o) (y9 _ (y9 _ (q3f hb e)))).1,λb hb=>?_,?_,?_⟩
    ·obtain⟨o,e,d⟩:=T.obj _ _ st5 b hb;exact(J'.pin (b,o) (y9 _ (y9 _ (q3f hb e)))).2.1
    ·exact(J'.pin (D,_) (y9 _ (z8 _ i8))).1
    ·exact(J'.pin (D,_) (y9 _ (z8 _ i8))).2.1
   cases b with
   | false=>
    rw[d7 v9]at q7 ⊢;obtain⟨m',hm,w7⟩:=q7;obtain⟨k1,k2,k3,k4⟩:=fpK I7;exact⟨m',hm,i+1,ys,its,k,σ6,H7,I7.pins_of (λp hp=>(nomatch hp)),k1,k2,k4,k3,rv,hl,w7⟩
   | true=>
    rw[b8 rfl]at q7 ⊢;refine B4 (he (D+1) cells s₂ H fp _ s7 σ6 H7 _ I7 q7) (λy s8 ⟨v8,H8,I8,r8,q8⟩=>?_) λ_ _ z=>z.elim
    obtain⟨m',hm,w8⟩:=q8;obtain⟨k1,k2,k3,k4⟩:=fpK I8;have hits:its.length<=sizeLine:=by rw[←rv.length];exact hl
    refine append_at k3 (λh9 hs9 hD9=>?_) (by rw[o9];exact hits);have I9:Inv (o8 X scope N' (D+1) cells s₂ H fp) [] σ6 H8 s8:=I8.pins_of λp hp=>(nomatch hp);refine⟨m',hm,i+1,ys++[v8],its++[y],k+1,σ6,H8,I9.turned (it:=D) (t':=s8.toks) (λb o hb e=>(hs9.2 b hb).trans e) k4 hDC (.inr (by show s₂.heap.objs.size<=D;omega)) hDcell (λp hp=>(nomatch hp)),?_,k2,k4,?_,rv.snoc r8,?_,w8⟩
    ·exact T.keep _ _ _ k1 λb hb o e=>(hs9.2 b (by have q:@LT.lt Nat _ b D:=ho b hb;show @Ne Nat b D;omega)).trans e
    ·rw[hD9,List.push_toArray]
    ·rw[p9,N7];omega
 exact codeAny_compStart_list loop (T.self X.A 0 _ _ _ (T.keep _ _ _ st λb _ o e=>keep b o e) loop)
def z7n(fr:List (Option Nat))(wi:TI)(g:TG)(tc:TT)(te:TE):TE:=λσ H Q=>wi σ H λJ H1=>z5G J g tc te (λys H'=>∀p,H' p=none->Q (.ref p) (upd H' p (.lst ys))) (inner fr σ) H1
theorem z6L(S:CompScope X.N N' scope X.env.scope fr)(hc:X.calm=true)(hi:PI X tg iter wi)
  (hg:∀C cells s₂ H₂ fp,PG (o8 X scope N' C cells s₂ H₂ fp) tg g) (ht:∀C cells s₂ H₂ fp,PTs (o8 X scope N' C cells s₂ H₂ fp) ifs tc) (he:∀C cells s₂ H₂ fp,PE (o8 X scope N' C cells s₂ H₂ fp) elt te)
  (hs:∀x,foldedSetIterable iter X.env x=pure x:=by intro _;rfl):PE X (.ListComp elt [⟨tg,iter,ifs,0⟩] scope pos) (z7n fr wi g tc te):=by
 intro pins s σ H Q I h;rw[eval_ListComp];have hfree:∀y∈scope.names,y.2=NameKind.free->∃c,X.env.cells.lookup y.1=some c:=λy hy hk=>I.ok.has y.1 (S.out y hy hk)
 refine w3M (use:=none) rfl hs (q2T hfree) S.kind (λx hx hl=>q0S S.snd (by rw[←hl];exact hx)) (thn (hi pins s σ H _ I h) λv s1 h1=>thn h1 λitv s2 h2=>?_);obtain⟨it,fp,tn,J,H2,e,I2,T,st2,f2,w⟩:=h2;subst e;refine q9m (RR:=λacc C=>compPost (model X.prog X.w) X.A X.xe none (EP X pins σ Q) acc C) S hc hg ht he I2 T st2 f2 w ?_;intro D C H' s' m ys I' hD hnC hCn hCL hCs hCc hCp fin;exact⟨m,hnC,λh' hs'=>⟨.ref D,_,I'.turned (it:=C) (t':=s'.toks) (λb o hb e=>(hs'.2 b hb).trans e) hCn hCL (.inr hCs) hCc hCp,rfl,fin D hD⟩⟩
theorem q9M(S:CompScope X.N N' scope X.env.scope fr)(hc:X.calm=true)(hN:X.N.Nodup)(hiN:X.N[i]? = some y)
  (hy:X.env.scope.names.lookup y=some .local) (hi:PI X tg iter wi)
  (hg:∀C cells s₂ H₂ fp,PG (o8 X scope N' C cells s₂ H₂ fp) tg g) (ht:∀C cells s₂ H₂ fp,PTs (o8 X scope N' C cells s₂ H₂ fp) ifs tc) (he:∀C cells s₂ H₂ fp,PE (o8 X scope N' C cells s₂ H₂ fp) elt te)
  (hsw:swapsWith (.ListComp elt [⟨tg,iter,ifs,0⟩] scope pos) (some (.Name y py)) spos.line X.env=pure true:=by rfl)
  (hs:∀x,foldedSetIterable iter X.env x=pure x:=by intro _;rfl):PS X (.Assign [.Name y py] (.ListComp elt [⟨tg,iter,ifs,0⟩] scope pos) spos) (tAsg (z7n fr wi g tc te) (q9F i)):=by
 intro pins s σ H Dn I h;rw[exec_Assign_Name_used _ _ _ _ hsw];refine b6 (w4r (b6 ?_));show wpAny _ _ (do let _ ←comprehension (.ListComp elt [⟨tg,iter,ifs,0⟩] scope pos) scope X.env _ (newList []) false (eval iter X.env) (some (assign (.Name y py) X.env))) _ _ s;have hfree:∀y∈scope.names,y.2=NameKind.free->∃c,X.env.cells.lookup y.1=some c:=λy hy hk=>I.ok.has y.1 (S.out y hy hk)
 refine b6 (B4 (w3M (use:=some (assign (.Name y py) X.env)) (Q:=λ_ s'=>SP X pins Dn .next s') rfl hs (q2T hfree) S.kind (λx hx hl=>q0S S.snd (by rw[←hl];exact hx))
  (thn (hi pins s σ H _ I h) λv s1 h1=>thn h1 λitv s2 h2=>?_)) (λ_ s' hq=>d4 (d4 hq)) λ_ _ e=>e)
 obtain⟨it,fp,tn,J,H2,e,I2,T,st2,f2,w⟩:=h2;subst e;refine q9m (RR:=λacc C=>compPost (model X.prog X.w) X.A X.xe (some (assign (.Name y py) X.env)) (λ_ s'=>SP X pins Dn .next s') acc C) S hc hg ht he I2 T st2 f2 w ?_;intro D C H' s' m ys I' hD hnC hCn hCL hCs hCc hCp fin;refine wpAny_assign_Name (q7p (v:=.ref D) I' hN hiN (Or.inl hy) rfl (λs'' I'' ⟨a,hsb,ha⟩=>⟨m,hnC.sameBut hsb ?_,λh' hs'=>⟨_,_,I''.turned (it:=C) (t':=s''.toks) (λb o hb e=>(hs'.2 b hb).trans e) hCn hCL (.inr hCs) hCc hCp,fin D hD⟩⟩) (.inr hy));rcases ha with z | z
 ·rw[z];exact hCL
 ·exact Ne.symm (hCc y a z)
end
section
theorem n4.there(x:n4 P w H h a o):∃ob,h.get? a=some ob:=by
 cases o with
 | lst xs=>obtain⟨_,_,_,_,e⟩:=x;exact⟨_,e⟩
 | tup xs=>obtain⟨_,_,_,ob,e,_⟩:=x;exact⟨_,e⟩
 | dK kvs=>obtain⟨_,_,_,_,o,_,_,e,_⟩:=x;exact⟨_,e⟩
 | dT kvs=>obtain⟨_,_,_,_,o,_,_,e,_⟩:=x;exact⟨_,e⟩
 | set S n=>obtain⟨o,_,_,_,e,_⟩:=x;exact⟨_,e⟩
 | ins C dx fs=>obtain⟨_,_,_,e,_⟩:=x;exact⟨_,e⟩
 | own y=>obtain⟨_,e⟩:=x;exact⟨_,e⟩
 | xd fs=>obtain⟨_,⟨_,_,_,e,_⟩,_⟩:=x;exact⟨_,e⟩
 | rng lo hi=>obtain⟨_,_,_,e⟩:=x;exact⟨_,e⟩
 | frz ob u=>obtain⟨e,_⟩:=x;exact⟨_,e⟩
 | tbl ps=>exact⟨_,(show h.get? a=some _ from x)⟩
 | met f y=>exact⟨_,(show h.get? a=some _ from x)⟩
 | ext φ=>obtain⟨_,⟨_,e⟩,_⟩:=x;exact⟨_,e⟩
structure Fly(P:Program)(w:World)(base:Heap)(l:List Env)(ea:Addr)(C:Value)(H:Hp)(B h:Heap):Prop where
 fly:∃a0,Heap.FlyingW B l ea C a0 h
 bas:∀b o,base.get? b=some o->B.get? b=some o
 hok:HOk P w H B
theorem Fly.stays(F:Fly P w base l ea C H B h):∀b o,B.get? b=some o->h.get? b=some o:=by
 obtain⟨a0,f⟩:=F.fly;exact f.1
theorem Fly.newE(F:Fly P w base l ea C H B h):B.get? ea=none:=by
 obtain⟨a0,f⟩:=F.fly;exact f.2.1
theorem Fly.untr(F:Fly P w base l ea C H B h):H ea=none:=by
 cases q:H ea with
 | none=>rfl
 | some o=>
  obtain⟨ob,e⟩:=(F.hok ea o q).there;rw[F.newE]at e;cases e
def CXx(P:Program)(w:World)(base:Heap):CXT:=λouter H s E e s'=>∃(ea:Addr) (C:Value) (H':Hp) (B:Heap),e=.ref ea/\s'.os=s.os/\AllBare s'.gens/\Un (frs outer) [] H H' s.heap s'.heap /\
 Fly P w base outer ea C H' B s'.heap/\(∀b o,s.heap.get? b=some o->b∉frs outer->∃o',B.get? b=some o')/\E C none H'
theorem Un.flown{fs ex:List Addr}{H H':Hp}{h0 h1 h2 B:Heap}(u:Un fs ex H H' h0 h1)(cov:∀b o,h0.get? b=some o->b∉fs->b∉ex->∃o',B.get? b=some o')(s1:∀b o,B.get? b=some o->h1.get? b=some o)(s2:∀b o,B.get? b=some o->h2.get? b=some o)
  (up:h1.UpToSlots h2) (fd:∀b∈fs,b∉ex/\H b=none/\∀o,h0.get? b=some o->∀vs,o.data ≠ .fields vs):Un fs ex H H' h0 h2:=by
 have keep:∀b o,h0.get? b=some o->H b=none->b∉fs->b∉ex->h2.get? b=some o:=λb o e n hb hx=>by have e1:=u.keep b o e n hb hx;obtain⟨o',q⟩:=cov b o e hb hx;have q1:=s1 b o' q;rw[e1]at q1;cases q1;exact s2 b o q
 have slot:∀b o,h0.get? b=some o->H b=none->b∈fs->b∉ex->∃sl,h2.get? b=some {o with slots:=sl}:=λb o e n hb hx=>by obtain⟨sl,e1⟩:=u.slot b o e n hb hx;obtain⟨sl',e2⟩:=up b _ e1 ((fd b hb).2.2 o e);exact⟨sl',e2⟩
 refine⟨keep,slot,u.free,λb o e hx=>?_,u.tups,u.frzs,u.tbls⟩;by_cases hb:b∈fs
 ·obtain⟨sl,q⟩:=slot b o e (fd b hb).2.1 hb hx;exact⟨_,q⟩
 ·obtain⟨o',q⟩:=cov b o e hb hx;exact⟨o',s2 b o' q⟩
section
variable {X:Cx} {pins:List (Addr×Obj)} {σ:St} {H:Hp} {s:Shared}
theorem Inv.frameData(I:Inv X pins σ H s):∀b∈X.fs,b∉X.ex/\X.H₀ b=none/\∀o,X.s₀.heap.get? b=some o->∀vs,o.data ≠ .fields vs:=λb hb=>by
 refine⟨λz=>I.ok.exfs b z hb,I.ok.frf b hb,λo e=>?_⟩;obtain⟨_,o',e',d⟩:=I.ok.funs.mem hb
 rw[e]at e';cases e';exact d
theorem Inv.notStk(I:Inv X pins σ H s)(e:X.s₀.heap.get? b=some o)(hb:b∉X.fs):b∉frs X.stack:=λz=>by
 rcases e8.mp (I.stkSub b z)with q | q
 ·exact absurd (u4 (i9 e) I.ok.above) (by rw[q];exact O4 _)
 ·exact hb q
theorem Inv.flown(I:Inv X pins σ H s)(F:Fly X.prog X.w X.base l ea C H B s.heap)(cov:∀b o,X.s₀.heap.get? b=some o->b∉frs X.stack->b∉X.ex->∃o',B.get? b=some o')
  (pc:∀p∈X.pn++pins,∃o',B.get? p.1=some o') (st:∀b o,B.get? b=some o->h'.get? b=some o) (up:s.heap.UpToSlots h'):Inv X pins σ H {s with heap:=h',toks:=t'}:=by
 have cellK:∀c v,s.heap.IsCell c v->h'.IsCell c v:=λc v ⟨o,ho,hd⟩=>by obtain⟨sl,q⟩:=up c o ho (λvs z=>by rw[hd]at z;cases z);exact⟨_,q,hd⟩
 refine⟨I.ok,I.os,I.bare,I.base.flown (λb o e hb hx=>cov b o e (I.notStk e hb) hx) F.stays st up I.frameData,?_,λx c e=>?_,I.free,I.freeC,λp hp=>?_,F.hok.kept st,I.len⟩
 ·obtain⟨m,hn,hl⟩:=I.loc;refine⟨m,up.ns hn,λi x v e1 e2 e3=>?_⟩;obtain⟨u,r,l⟩:=hl i x v e1 e2 e3;refine⟨u,r,?_⟩;rcases l with l | ⟨k,c,e,z⟩
  ·exact .inl l
  ·exact .inr ⟨k,c,e,cellK c _ z⟩
 ·obtain⟨v,z⟩:=I.cell x c e;exact⟨v,cellK c v z⟩
 ·obtain⟨e,n,ne,nf,d⟩:=I.pin p hp;obtain⟨o',q⟩:=pc p hp;have q1:=F.stays _ _ q;rw[e]at q1;cases q1;exact⟨st _ _ q,n,ne,nf,d⟩
end
section
variable {P:Program} {w:World} {K:PySem.W.Frag} {mg:Str->Option Value} {base:Heap} {N:List Str} {qual:Str} {scope:Scope} {f:Addr} {cd:Value} {A:Around} {outer:List Env} {s:Shared} {H:Hp} {E:XK}
abbrev cxD(P:Program)(w:World)(K:PySem.W.Frag)(mg:Str->Option Value)(base:Heap)(N:List Str)(qual:Str)(scope:Scope)(f:Addr)(cd:Value)(A:Around)(outer:List Env)(s:Shared)(H:Hp)(E:XK):Cx:=
 cxOf (CXx P w base) P w K mg base N qual scope f cd A outer s H E
theorem q8b{σ:St}(I:Inv (cxD P w K mg base N qual scope f cd A outer s H E) pins σ H1 s1)(hx:Heap.MadeExcOf s1.heap h' ea C vs)(hE:E C none H1) :
  (cxD P w K mg base N qual scope f cd A outer s H E).xe (.ref ea) {s1 with heap:=h'}:=by
 have hstk:=I.stack;have hin:∀env∈(cxD P w K mg base N qual scope f cd A outer s H E).stack,∀a,env.frame=some a->a∈frs (cxD P w K mg base N qual scope f cd A outer s H E).stack:=λenv he b hb=>w2J.mpr ⟨env,he,hb⟩;have hB1:∀b o,(PySem.W.hideAll s1.heap (frs (cxD P w K mg base N qual scope f cd A outer s H E).stack)).get? b=some o->s1.heap.get? b=some o:=λb o q=>PySem.W.of_hideAll _ q;have hHid:∀b u,H1 b≠none->s1.heap.get? b=some u->(PySem.W.hideAll s1.heap (frs (cxD P w K mg base N qual scope f cd A outer s H E).stack)).get? b=some u:=λb u hb q=>w2D _ q λz=>hb (I.stkFree b z);refine wpAny_leaves_madeW (base:=PySem.W.hideAll s1.heap (frs (cxD P w K mg base N qual scope f cd A outer s H E).stack)) (h:=s1.heap) I.ok.frames rfl hB1 (PySem.W.funFrames_hide hstk hin) hx λh2 t fl tup nt up=>?_;have hcov:∀b o,s.heap.get? b=some o->b∉frs outer->∃o',(PySem.W.hideAll s1.heap (frs (cxD P w K mg base N qual scope f cd A outer s H E).stack)).get? b=some o':=λb o e hb=>by obtain⟨o1,e1⟩:=I.base.there b o e (by intro z;exact nomatch z);exact⟨o1,w2D _ e1 (I.notStk e hb)⟩
 refine⟨ea,C,H1,_,rfl,I.os,I.bare,I.base.flown (λb o e hb _=>hcov b o e hb) hB1 fl.1 ((Heap.UpToSlots.of_keeps hx.keeps).trans up) I.frameData,⟨⟨_,fl⟩,λb o e=>?_,λa o q=>?_⟩,hcov,hE⟩
 ·refine w2D _ (I.bk b o e) λz=>?_;have q:base.get? b=none:=(hstk.mem z).1;rw[q]at e;cases e
 ·refine(I.hok a o q).stay (λb u hc e=>hHid b u ?_ e) (λ_ z=>z) λ_ _ z=>z;rcases hc with z | z
  ·subst z;rw[q];intro z;cases z
  ·rw[z];intro z;cases z
theorem z3M{σ:St}(I:Inv (cxD P w K mg base N qual scope f cd A outer s H E) pins σ H1 s1)(F:Fly P w base (cxD P w K mg base N qual scope f cd A outer s H E).stack ea C H1 B s1.heap)
  (cov:∀b o,s.heap.get? b=some o->b∉frs (cxD P w K mg base N qual scope f cd A outer s H E).stack->∃o',B.get? b=some o') (hE:E C none H1):(cxD P w K mg base N qual scope f cd A outer s H E).xe (.ref ea) s1:=by
 obtain⟨a0,fl⟩:=F.fly;refine wpAny_leaves_onW I.ok.frames rfl fl λh2 fl2 up=>?_
 have hcov:∀b o,s.heap.get? b=some o->b∉frs outer->∃o',B.get? b=some o':=λb o e hb=>cov b o e (I.notStk e hb);exact⟨ea,C,H1,B,rfl,I.os,I.bare,I.base.flown (λb o e hb _=>hcov b o e hb) F.stays fl2.1 up I.frameData,⟨⟨_,fl2⟩,F.bas,F.hok⟩,hcov,hE⟩
theorem q9V:z0V (CXx P w base) (cxD P w K mg base N qual scope f cd A outer s H E) E:=by
 intro pins σ H0 s0 e s' I hcx;obtain⟨ea,C,H',B,rfl,os,bare,un,F,cov,hE⟩:=hcx;have I':Inv (cxD P w K mg base N qual scope f cd A outer s H E) pins σ H' s':=I.call' os un (F.hok.kept F.stays) bare λb hb=>nomatch hb
 refine z3M I' F (λb o e hb=>?_) hE;obtain⟨o1,e1⟩:=I.base.there b o e (by intro z;exact nomatch z);exact cov b o1 e1 hb
end
def excO(ea:Addr)(C:Value):HO:=.ext λh=>∃oe vs,h.get? ea=some oe/\oe.cls=C/\oe.data=.fields vs
theorem z6Y(x:∃oe vs,h.get? ea=some oe/\oe.cls=C/\oe.data=.fields vs):n4 P w H h ea (excO ea C):=by
 refine⟨x,?_,λh1 h2 p k=>?_⟩
 ·obtain⟨oe,_,e,_⟩:=x;exact⟨oe,e⟩
 ·obtain⟨oe,vs,e,c,d⟩:=p;exact⟨oe,vs,k oe e,c,d⟩
def XP(X:Cx)(pins:List (Addr×Obj))(E:St->Value->Hp->Prop)(e:Value)(s':Shared):Prop:=∃(ea:Addr) (C:Value) (σ':St) (H':Hp) (B:Heap),e=.ref ea/\Inv X pins σ' H' s'/\Fly X.prog X.w X.base X.stack ea C H' B s'.heap /\
 (∀b o,X.s₀.heap.get? b=some o->b∉frs X.stack->b∉X.ex->∃o',B.get? b=some o')/\(∀p∈X.pn++pins,∃o',B.get? p.1=some o')/\E σ' C H'
abbrev Cx.tryIn(X:Cx)(pins:List (Addr×Obj))(E:St->Value->Hp->Prop):Cx:={X with pn:=X.pn++pins,xe:=XP X pins E}
abbrev Cx.inExc(X:Cx)(ea:Addr):Cx:={X with A:=X.A.mark (some (.ref ea)),calm:=false,xe:=λ_ _=>False}
section
variable {X:Cx} {pins pins':List (Addr×Obj)} {σ:St} {H:Hp} {s:Shared} {E:St->Value->Hp->Prop} {ea:Addr}
theorem Cx.Ok.tryIn(k:X.Ok):(X.tryIn pins E).Ok:=⟨k.mod,k.kind,k.glob,k.blt,k.above,k.inj,k.has,k.cab,k.hd,k.frames,k.stk,k.exf,k.bs,k.bsz,k.noex,k.exfs,k.funs,k.frf⟩
theorem Cx.Ok.untry(k:(X.tryIn pins E).Ok):X.Ok:=⟨k.mod,k.kind,k.glob,k.blt,k.above,k.inj,k.has,k.cab,k.hd,k.frames,k.stk,k.exf,k.bs,k.bsz,k.noex,k.exfs,k.funs,k.frf⟩
theorem Cx.Ok.inExc(k:X.Ok):(X.inExc ea).Ok:=⟨k.mod,k.kind,k.glob,k.blt,k.above,k.inj,k.has,k.cab,(λz=>(nomatch z)),k.frames,k.stk,k.exf,k.bs,k.bsz,k.noex,k.exfs,k.funs,k.frf⟩
theorem Inv.tryIn(I:Inv X (pins++pins') σ H s):Inv (X.tryIn pins E) pins' σ H s:=
 ⟨I.ok.tryIn,I.os,I.bare,I.base,I.loc,I.cell,I.free,I.freeC,λp hp=>I.pin p (by have hp:p∈(X.pn++pins)++pins':=hp;rw[J3]at hp;exact hp),I.hok,I.len⟩
theorem Inv.untry(I:Inv (X.tryIn pins E) pins' σ H s):Inv X (pins++pins') σ H s:=
 ⟨I.ok.untry,I.os,I.bare,I.base,I.loc,I.cell,I.free,I.freeC,λp hp=>I.pin p (by show p∈(X.pn++pins)++pins';rw[J3];exact hp),I.hok,I.len⟩
theorem Inv.inExc(I:Inv X pins σ H s):Inv (X.inExc ea) pins σ H s:=⟨I.ok.inExc,I.os,I.bare,I.base,I.loc,I.cell,I.free,I.freeC,I.pin,I.hok,I.len⟩
theorem Inv.unExc(I:Inv (X.inExc ea) pins σ H s)(k:X.Ok):Inv X pins σ H s:=⟨k,I.os,I.bare,I.base,I.loc,I.cell,I.free,I.freeC,I.pin,I.hok,I.len⟩
theorem Inv.track(I:Inv X pins σ H s)(hn:H a=none)(h0:X.s₀.heap.get? a=none)(hL:a≠X.env.locals)(hc:∀x c,X.env.cells.lookup x=some c->c≠a)(hp:∀p∈X.pn++pins,p.1≠a)(new:n4 X.prog X.w (upd H a o) s.heap a o) :
  Inv X pins σ (upd H a o) s:=
 ⟨I.ok,I.os,I.bare,I.base.track hn h0,I.loc,I.cell,by rw[j6 (Ne.symm hL)];exact I.free,λx c e=>by rw[j6 (hc x c e)];exact I.freeC x c e,λp hq=>by
  obtain⟨e,n,ne,nf,d⟩:=I.pin p hq;exact⟨e,by rw[j6 (hp p hq)];exact n,ne,nf,d⟩,I.hok.track hn new,I.len⟩
theorem q3X(I:Inv X pins σ H s)(hN:X.N.Nodup)(hi:X.N[i]? = some x)(hx:X.env.scope.names.lookup x=some .local)
  (h:∀s',Inv X pins (σ.set i none) H s'->Q () s'):wpAny M A (do bindName X.env x .none;unbindBehindTheSuite X.env x pos) Q EE s:=by
 obtain⟨m,hn,hl⟩:=id I.loc;have hcls:(X.env.scope.kind == .class||(X.env.scope.kind == .module&&X.env.locals != X.env.globals))=false:=by rw[I.ok.kind];rfl
 have hiσ:i<σ.length:=by rw[I.len];exact(u5.mp hi).1
 have cne:=I.cne;have tracked:∀{h':Heap},Heap.SameBut X.env.locals s.heap h'->HOk X.prog X.w H h':=λ{h'} hs b ob e=>by
  refine(I.hok b ob e).stay (λc w' hc q=>(hs.2 c ?_).trans q) (λ_ q=>q) λ_ _ q=>q
  rintro rfl
  rcases hc with rfl | hc
  ·rw[I.free]at e;cases e
  ·rw[I.free]at hc;cases hc
 refine wpAny_nameGoes_keeps hx hn hcls λh' v hn' hs=>?_;refine h _ ⟨I.ok,I.os,I.bare,⟨λb o e n hb hx=>?_,λb o e n hb hx=>?_,I.base.free,λb o e hx=>?_,I.base.tups,I.base.frzs,I.base.tbls⟩,⟨_,hn',λj y v' e1 e2 e3=>?_⟩,λy c e=>?_,I.free,I.freeC,λp hp=>?_,tracked hs,by simpa using I.len⟩
 ·exact(hs.2 b (o4 (u4 (i9 e) I.ok.above))).trans (I.base.keep b o e n hb hx)
 ·obtain⟨sl,e1⟩:=I.base.slot b o e n hb hx;exact⟨sl,(hs.2 b (o4 (u4 (i9 e) I.ok.above))).trans e1⟩
 ·obtain⟨o',e1⟩:=I.base.there b o e hx;exact⟨o',(hs.2 b (o4 (u4 (i9 e) I.ok.above))).trans e1⟩
 ·by_cases hj:j=i
  ·subst hj;rw[B7 hiσ]at e2;cases e2
  ·rw[d9 (Ne.symm hj)]at e2;obtain⟨u',r',q⟩:=hl j y v' e1 e2 e3;refine⟨u',r',?_⟩;rcases q with⟨k,e⟩ | ⟨k,c,e,z⟩
   ·refine .inl ⟨k,?_⟩;have:y≠x:=λe=>hj (q4E hN e1 (e▸hi));simp[this,e]
   ·exact .inr ⟨k,c,e,z.sameBut hs (cne y c e)⟩
 ·obtain⟨w',z⟩:=I.cell y c e;exact⟨w',z.sameBut hs (cne y c e)⟩
 ·obtain⟨e,n,ne,nf,d⟩:=I.pin p hp;exact⟨(hs.2 p.1 ne).trans e,n,ne,nf,d⟩
end
def R4(CX:CXT)(X:Cx)(E:St->XK):Prop:=∀(pins:List (Addr×Obj)) (σ:St) (H:Hp) (s:Shared) (e:Value) (s':Shared),Inv X pins σ H s->CX X.stack H s (E σ) e s'->X.xe e s'
theorem z0V.s(h:z0V CX X E):R4 CX X λ_=>E:=λpins σ H s e s' I q=>h pins σ H s e s' I q
theorem q9Z{X:Cx}{pins:List (Addr×Obj)}{E:St->Value->Hp->Prop}:R4 (CXx X.prog X.w X.base) (X.tryIn pins E) (λσ C _ H=>E σ C H):=by
 intro pins' σ H0 s0 e s' I hcx;obtain⟨ea,C,H',B,rfl,os,bare,un,F,cov,hE⟩:=hcx;have I':Inv (X.tryIn pins E) pins' σ H' s':=I.call' os un (F.hok.kept F.stays) bare λb hb=>nomatch hb
 have J:=I'.untry;refine⟨ea,C,σ,H',B,rfl,J.pins_of λp hp=>J.pin p (y9 _ (z8 _ hp)),F,λb o e hb hx=>?_,λp hp=>?_,hE⟩
 ·obtain⟨o1,e1⟩:=I.base.there b o e hx;exact cov b o1 e1 hb
 ·obtain⟨e,n,ne,nf,d⟩:=I.pin p (z8 _ hp);exact cov p.1 p.2 e λz=>(e8.mp (I.stkSub _ z)).elim ne nf
section
variable {X:Cx} {CX:CXT} {k:Nat} {f C:Addr} {fd:FuncData} {ps:List Str} {sp:Sp} {dvs:List V} {ds:List Value} {E:St->XK} {x m:Str} {p pos apos:Pos} {e o:Expr} {es:List Expr} {ta:TE} {t:TA}
theorem z0M{σ:St}(F:FnOk X.prog X.w X.K X.mg X.base CX k f fd ps sp)(hr:Room k X.A)(hb:D5 X.K fd ps ds)(hd:Vals dvs ds)(hx:R4 CX X E)
  (I:Inv X pins σ H s) (r:Vals vs us) (h:sp (vs++dvs) H Q (E σ)):wpAny (model X.prog X.w) X.A (call (.ref f) us) (EP X pins σ Q) X.xe s:=by
 have r2:Vals (vs++dvs) (us++ds):=r.append hd;have hl:(us++ds).length=ps.length:=by rw[←r2.length];exact F.len _ _ _ _ h
 refine wpAny_call (Q7 (F.run X.A X.stack s H ⟨us,[]⟩ (us++ds) (vs++dvs) Q (E σ) hr I.env0 (hb s us I.kIn hl) r2 h) λr s' hq=>?_);cases r with
 | error e=>exact hx pins σ H s e s' I hq
 | ok fl=>
  cases fl with
  | ret u=>exact I.after hq
  | next=>exact False.elim hq
  | brk=>exact False.elim hq
  | cont=>exact False.elim hq
def z0F(sp:Sp)(dvs:List V)(E:St->XK)(t:TA):TE:=λσ H Q=>t σ H λvs H1=>sp (vs++dvs) H1 Q (E σ)
theorem z4b(F:FnOk X.prog X.w X.K X.mg X.base CX k f fd ps sp)(hr:Room k X.A)(hg:Gl X x)(hm:X.mg x=some (.ref f))(hk:PySem.W.keepIn X.K (.ref f)=true)(hb:D5 X.K fd ps ds)(hd:Vals dvs ds)(hx:R4 CX X E)
  (ha:PA X (e::es) t) (hdb:(x==("__debug__" : Str))=false:=by decide) (he:starEach (e::es) X.env=(false,eval e X.env)::starEach es X.env:=by rfl) (hpl:(backTo pos (starEach es X.env)).any (·.1)=false:=by rfl) :
  PE X (.Call (.Name x p) (e::es) [] pos) (z0F sp dvs E t):=by
 intro pins s σ H Q I h;refine w2K (q6H I hg hm ?_ hdb);refine PySem.W.callWith_K (h₀:=X.base) I.ok.mod.kin hk (thn (ha pos pins s σ H _ I h) λus s1 ⟨vs,H1,I1,r,q⟩=>⟨I1.kIn,?_⟩) he hpl;exact z0M F hr hb hd hx I1 r q
end
def tTry(K:PySem.W.Frag)(cv:Value)(i:Nat)(tb:(St->Value->Hp->Prop)->TS)(ts:TS):TS:=λD σ H=>
 tb (λσ' C H'=>PySem.W.exmOne K C cv=some true/\∀ea,H' ea=none->ts {nx:=λσ2 H2=>D.nx (σ2.set i none) H2,rt:=D.rt,bk:=λσ2 H2=>D.bk (σ2.set i none) H2,ct:=λσ2 H2=>D.ct (σ2.set i none) H2} (σ'.set i (some (.ref ea))) (upd H' ea (excO ea C))) D σ H
theorem z9I(hst:X.stack=X.env::X.outer)(hfr:X.env.frame=some X.env.locals)(hex:X.ex=[])(hgl:Gl X c)(hm:X.mg c=some cv)
  (hN:X.N.Nodup) (hi:X.N[i]? = some n) (hl:X.env.scope.names.lookup n=some .local) (hb:∀pins E,PSs (X.tryIn pins E) body (tb E)) (hs:∀ea,PSs (X.inExc ea) (b₀::suite) ts) (hd:(c==("__debug__" : Str))=false:=by decide) :
  PS X (.Try body [.ExceptHandler (some (.Name c np)) (some n) (b₀::suite) hpos] [] [] pos) (tTry X.K cv i tb ts):=by
 intro pins s σ H D I h;refine wpAny_Try_except ?_;have un:∀{σ1:St} {H1:Hp} {s1:Shared} {E:St->Value->Hp->Prop},Inv (X.tryIn pins E) [] σ1 H1 s1->Inv X pins σ1 H1 s1:=λ{σ1 H1 s1 E} J=>by have q:=J.untry;rw[B3]at q;exact q
 refine B4 (hb pins _ [] s σ H D (Inv.tryIn (pins':=[]) (by rw[B3];exact I)) h) (λf s1 q=>?_) (λe s1 q=>?_)
 ·cases f with
  | next=>obtain⟨σ1,H1,I1,q1⟩:=q;exact w24 ⟨σ1,H1,un I1,q1⟩
  | brk=>obtain⟨σ1,H1,I1,q1⟩:=q;exact⟨σ1,H1,un I1,q1⟩
  | cont=>obtain⟨σ1,H1,I1,q1⟩:=q;exact⟨σ1,H1,un I1,q1⟩
  | ret u=>obtain⟨v,σ1,H1,I1,r1,q1⟩:=q;exact⟨v,σ1,H1,un I1,r1,q1⟩
 ·obtain⟨ea,C,σ1,H1,B,rfl,I1,F,cov,pc,hE,hsuite⟩:=q;obtain⟨a0,fl⟩:=F.fly;have fl':Heap.FlyingW B (X.env::X.outer) ea C a0 s1.heap:=by rw[←hst];exact fl
  refine wpAny_looks_onW (by rw[←hst];exact I1.ok.frames) hfr fl' λh4 held up4=>?_;refine wpAny_landsW held λh5 fl5 up5=>?_;have up:=up4.trans up5;have I5:Inv X pins σ1 H1 {s1 with heap:=h5}:=I1.flown (t':=s1.toks) F cov pc fl5.1 up;have J5:Inv (X.inExc ea) pins σ1 H1 {s1 with heap:=h5}:=I5.inExc;obtain⟨oe,ws,hoe,hoec,hoed,hoe0⟩:=fl5.first
  refine wpAny_handleBy_cons (codeAny_handlers_test ?_) (by intro q;cases q);refine q6H J5 hgl hm ?_ hd;have LT:PySem.W.Looks (model X.prog X.w) h5 (typeOf (.ref ea)) C:=hoec▸(PySem.W.Looks.ld hoe).andThen .now;refine(PySem.W.exm_one (M:=model X.prog X.w) (K:=X.K) (h:=h5) J5.kIn LT hE).here ?_;show codeAny _ _ (.handlers (.ref ea) [.ExceptHandler none (some n) (b₀::suite) hpos] X.env) _ _;refine codeAny_handlers_suite_as ?_;refine lands_againW fl5 λh6 fl6 up6=>?_;have I6:Inv X pins σ1 H1 {s1 with heap:=h6}:=I1.flown (t':=s1.toks) F cov pc fl6.1 (up.trans up6);obtain⟨oe6,ws6,hoe6,hoec6,hoed6,_⟩:=fl6.first
  have hn:H1 ea=none:=F.untr;have h0:X.s₀.heap.get? ea=none:=by
   cases q:X.s₀.heap.get? ea with
   | none=>rfl
   | some o=>
    exfalso;by_cases hf:ea∈frs X.stack
    ·obtain⟨_,o',e',d⟩:=I6.stack.mem hf;have e'':h6.get? ea=some o':=e';rw[hoe6]at e'';cases e'';exact d _ hoed6
    ·obtain⟨o',z⟩:=cov ea o q hf (by rw[hex];intro z;exact nomatch z);rw[F.newE]at z;cases z
  have hL:ea≠X.env.locals:=λz=>by
   obtain⟨m,⟨o,es,ep,ho,hdd,_⟩,_⟩:=I6.loc;have ho':h6.get? ea=some o:=by rw[z];exact ho
   rw[hoe6]at ho';cases ho';rw[hoed6]at hdd;cases hdd
  have hc:∀x c,X.env.cells.lookup x=some c->c≠ea:=λx c e z=>by
   obtain⟨v,o,ho,hdd⟩:=I6.cell x c e;have ho':h6.get? ea=some o:=by rw[←z];exact ho
   rw[hoe6]at ho';cases ho';rw[hoed6]at hdd;cases hdd
  have hp:∀p∈X.pn++pins,p.1≠ea:=λp hp z=>by obtain⟨o',q⟩:=pc p hp;rw[z,F.newE]at q;cases q
  have J6:Inv (X.inExc ea) pins σ1 (upd H1 ea (excO ea C)) {s1 with heap:=h6}:=(I6.track hn h0 hL hc hp (z6Y ⟨oe6,ws6,hoe6,hoec6,hoed6⟩)).inExc;refine q6o (X:=X.inExc ea) (i:=i) (v:=.ref ea) J6 hN hi (Or.inl hl) rfl (λs7 I7=>?_) (.inr hl);refine B4 (hs ea pins s7 _ _ _ I7 (hsuite ea hn)) (λf s8 q=>?_) λ_ _ z=>z.elim;cases f with
  | next=>obtain⟨σ8,H8,I8,q8⟩:=q;exact q3X (I8.unExc I.ok) hN hi hl λs9 I9=>⟨_,H8,I9,q8⟩
  | brk=>obtain⟨σ8,H8,I8,q8⟩:=q;exact q3X (I8.unExc I.ok) hN hi hl λs9 I9=>⟨_,H8,I9,q8⟩
  | cont=>obtain⟨σ8,H8,I8,q8⟩:=q;exact q3X (I8.unExc I.ok) hN hi hl λs9 I9=>⟨_,H8,I9,q8⟩
  | ret u=>obtain⟨v,σ8,H8,I8,r8,q8⟩:=q;exact q3X (I8.unExc I.ok) hN hi hl λs9 I9=>⟨v,_,H8,I9,r8,q8⟩
theorem z3D{K:PySem.W.Frag}{h₀:Heap}{mg:Str->Option Value}{x:Str}{C:Addr}{bmB:List Value}{newId:String}(X:K.In h₀)(hm:mg x=some (.ref C))(q:PySem.W.excIn K C bmB newId=true):OwnCls x C bmB newId mg h₀:=by
 refine⟨hm,?_⟩;unfold PySem.W.excIn at q;split at q
 ·rename_i dd cd sl ho;split at q
  ·rename_i C' bm k0 k1 k2 k3 n k5 hm hs;simp only[b9,d8,t8]at q;obtain⟨⟨⟨⟨⟨rfl,rfl⟩,hdel⟩,ht⟩,hok⟩,hni⟩:=q;obtain⟨nm,bs,mro,ns,qn,hd,sn,sub,ab,col,del⟩:=cd;dsimp only at hm hdel hok hni;subst hm hdel;have hsl:sl = #[k0,k1,k2,k3,some (.builtin n),k5]:=by
    obtain⟨l⟩:=sl;simp only at hs;rw[hs]
   subst hsl;exact⟨bm,ns,nm,qn,bs,hd,sn,sub,ab,col,dd,k0,k1,k2,k3,k5,_,X _ _ ho,.of_isNs (PySem.W.isNs_of_in X hok),PySem.W.nsMap_none_of_in X hok hni,PySem.W.tail_of_in X ht⟩
  ·cases q
 ·cases q
def q4H(X:Cx)(E:St->XK):Prop:=∀(pins:List (Addr×Obj)) (σ:St) (H:Hp) (s:Shared) (h':Heap) (ea:Addr) (C:Value) (vs:List Value),Inv X pins σ H s->Heap.MadeExcOf s.heap h' ea C vs->E σ C none H->X.xe (.ref ea) {s with heap:=h'}
theorem q9J{P:Program}{w:World}{K:PySem.W.Frag}{mg:Str->Option Value}{base:Heap}{N:List Str}{qual:Str}{scope:Scope}{f:Addr}{cd:Value}{A:Around}{outer:List Env}{s:Shared}{H:Hp}{E:XK} :
  q4H (cxD P w K mg base N qual scope f cd A outer s H E) λ_=>E:=λpins σ H1 s1 h' ea C vs I hx hE=>q8b I hx hE
def z9p(C:Addr)(E:St->XK)(t:TA):TS:=λ_ σ H=>t σ H λvs H1=>vs.length<=sizeLine/\E σ (.ref C) none H1
theorem z3o{X:Cx}{x:Str}{C:Addr}{bmB:List Value}{B newId initId:String}{np cpos pos:Pos}{e₀:Expr}{rest:List Expr}{t:TA}{E:St->XK}(FB:ExcBaseFacts B newId initId bmB)(hc:X.calm=true)(hg:Gl X x)(hm:X.mg x=some (.ref C))(hx:PySem.W.excIn X.K C bmB newId=true)
  (hR:q4H X E) (ha:PA X (e₀::rest) t) (hd:(x==("__debug__" : Str))=false:=by decide) (he:starEach (e₀::rest) X.env=(false,eval e₀ X.env)::starEach rest X.env:=by rfl) (hpl:(backTo cpos (starEach rest X.env)).any (·.1)=false:=by rfl) :
  PS X (.Raise (some (.Call (.Name x np) (e₀::rest) [] cpos)) none pos) (z9p C E t):=by
 intro pins s σ H D I h;obtain⟨tl,N,nm,q,bs,hdct,sn,sub,ab,col,dd,k0,k1,k2,k3,k5,mN,hC,hN,hni,T⟩:=(z3D I.mod.kin hm hx).obj;refine wpAny_Raise_call_subT (C:=C) (nm:=nm) (q:=q) (N:=N) (bs:=bs) (bm:=tl) (hdct:=hdct) (sn:=sn) (sub:=sub) (ab:=ab) (col:=col) (dd:=dd) (k0:=k0) (k1:=k1) (k2:=k2) (k3:=k3) (k5:=k5)
  FB (mN:=mN) (T.hasType FB.hasBase) (I.ok.hd hc) (by rw[he];show(false||(backTo cpos (starEach rest X.env)).any (·.1))=false;rw[hpl];rfl) hni (q6H I hg hm ⟨rfl,?_⟩ hd)
 have hq:=ha cpos pins s σ H _ I h;rw[he]at hq ⊢;exact w2v (thn hq λvs s₂ ⟨xs,H2,I2,r2,hl,hE⟩=>⟨rfl,by show vs.length<=sizeLine;rw[←r2.length];exact hl,I2.bk _ _ hC,hN.keeps I2.bk,T.keeps I2.bk,λh' e hm'=>hR pins σ H2 s₂ h' e _ _ I2 hm' hE⟩)
end
end L2
end
noncomputable section
namespace L2
open PySem PySem.W PySem.Spec PySem.Calls PyProof.Rows PySem.Builtin PySem.Builtin.ObjectAttr PySem.Builtin.Getset_descriptor
section
def R5(x D:Addr)(h:Heap):Prop:=∃o,h.get? x=some o/\o.cls=.ref D
section
variable {prog:Program} {w:World} {K:Frag} {x D:Addr} {M:Model} {h:Heap}
theorem R5.ty(p:R5 x D h):Looks M h (typeOf (.ref x)) (.ref D):=by
 obtain⟨o,e,c⟩:=p;exact c▸(Looks.ld e).andThen .now
theorem z1d(X:K.In h)(h1:findIn K (.ref D) n=some (some a))(h2:specialIn K a "__get__" = some (some g))(h3:takesIn K a=some true):Looks M h (find (.ref x) (.ref D) n) (.bind g a):=by
 have T:Looks M h (dataDescriptor? (some a) (some g)) (some (g,a)):=(looks_takesIn X h3).andThen .now;exact(looks_findIn X h1).andThen ((show Looks M h (getOf (some a)) (some g)from looks_specialIn X h2).andThen (T.andThen (Looks.tag .now)))
structure ClsK(K:Frag)(D:Addr):Prop where
 ga:findIn K (.ref D) "__getattribute__" = some (some (.builtin "BaseException.__getattribute__"))
 gt:findIn K (.ref D) "__getattr__" = some none
 mb:mroIn K D (.type "BaseException")=some true
 hd:hasDictIn K D=true
 fc:findIn K (.ref D) "__class__" = some (some (.builtin "object.__class__"))
 sg:specialIn K (.builtin "object.__class__") "__get__" = some (some (.builtin "getset_descriptor.__get__"))
 tk:takesIn K (.builtin "object.__class__")=some true
 mo:mroIn K D (.type "object")=some true
variable {A:Around} {E:Value->Shared->Prop} {s:Shared}
theorem z6d(X:K.In s.heap)(p:R5 x D s.heap)(hm:mroIn K D (.type "object")=some true)(q:R (.ok (.ret (.ref D))) s) :
  codeAny (model prog w) A (.call (.builtin "getset_descriptor.__get__") ⟨[.builtin "object.__class__",.ref x,tp],[]⟩) R s:=by
 obtain⟨h0,g0,d0,t0,o0⟩:=s;have T0:=p.ty (M:=model prog w);have T1:=looks_mroIn (M:=model prog w) X hm;refine w27 KF.slot_gs.plain KF.entry_gs (KF.slot_gs.check _ _ _ _ _ _ _ _ KF.type_class (KF.args_gs _ _ _) ?_);unfold Builtin.«getset_descriptor.__get__»;unfold descrGet;rw[dga_obj];refine b6 (d4 ?_);unfold descrGetter;unfold descrCheckInstance;unfold descrNameAndClass;unfold isInstance;simp only[KF.owner_class]
 repeat lk
 refine⟨Code.quiet_builtin _ (by decide +kernel),U8 KF.entry_class ?_⟩;unfold Builtin.«object.__class__»;unfold shownTypeOf
 repeat lk
 exact q
theorem z3J(C:ClsK K D)(X:K.In s.heap)(p:R5 x D s.heap)(q:Q () s):wpAny (model prog w) A (checkBuiltinCall "BaseException.__getattribute__" ⟨[.ref x,nm],[]⟩) Q E s:=by
 obtain⟨h0,g0,d0,t0,o0⟩:=s;have k1:builtinKind "BaseException.__getattribute__" = some .slot:=by decide +kernel
 have k2:splitId "BaseException.__getattribute__" = some ("BaseException","__getattribute__"):=by decide +kernel
 have T0:=p.ty (M:=model prog w);have T1:=looks_mroIn (M:=model prog w) X C.mb;have ha:=F.args_bexc_ga (.ref x) nm;simp only[checkBuiltinCall,k1,k2];refine b6 ((show Looks (model prog w) _ (isInstance (.ref x) (.type "BaseException")) true from T0.andThen T1).at ?_)
 repeat (any_goals (first | assumption | wp_step))
theorem z1i(C:ClsK K D)(X:K.In s.heap)(p:R5 x D s.heap)(q:Q (.done (.ret (.ref D))) s):wpAny (model prog w) A (Builtin.«object.__getattribute__» ⟨[.ref x,.str "__class__" tk],[]⟩) Q E s:=by
 obtain⟨h0,g0,d0,t0,o0⟩:=s;have T0:=p.ty (M:=model prog w);have T3:=z1d (M:=model prog w) (x:=x) X C.fc C.sg C.tk;unfold Builtin.«object.__getattribute__»
 repeat (any_goals (first | assumption | with_reducible refine T0.at ?_ | with_reducible refine T3.at ?_ | wp_step))
 refine z6d X p C.mo ?_
 repeat (any_goals (first | assumption | wp_step))
theorem z3P(C:ClsK K D)(X:K.In s.heap)(p:R5 x D s.heap)(q:Q (some (.ref D)) {s with toks:=s.toks+1}):wpAny (model prog w) A (getAttr? (.ref x) "__class__") Q E s:=by
 obtain⟨h0,g0,d0,t0,o0⟩:=s;have T0:=p.ty (M:=model prog w);have T1:=looks_findIn (M:=model prog w) X C.ga;have T2:=looks_findIn (M:=model prog w) X C.gt;have f3:=F.attr_ValueError.ga.bind (.ref x);unfold getAttr?;unfold getAttrBy?;unfold getAttrBy;refine b6 (wpAny_mkText (b6 (Q4 (E9 (b6 (T0.at (b6 (T1.at ?_))))))));dsimp only;have ne:(onTheHeap (Value.ref D)&&Value.builtin "BaseException.__getattribute__" == Value.builtin "object.__getattribute__")=false:=(by rw[show(Value.builtin "BaseException.__getattribute__" == Value.builtin "object.__getattribute__")=false by decide +kernel,w3h]);rw[d7 (by rw[ne];exact v9)];unfold getAttrByItsOwn;unfold hookBefore;rw[b8 (show onTheHeap (Value.ref D)=true from rfl)];refine b6 (T2.at ?_);refine b6 (Q4 (E9 ?_));unfold callGetattribute;rw[d7 (by decide)]
 repeat (any_goals (first | assumption | wp_step))
 refine w27 F.attr_ValueError.ga.plain F.entry_bexc_ga (z3J C X p (z1i C X p ?_));exact handed_on rfl (d4 q)
theorem z7O(C:ClsK K D):KitX K (.ref x) (.ref D) (R5 x D) where
 ty:=λ_ _ _ p=>p.ty
 it:=λM h X _=>by
  obtain⟨cd,e,_⟩:=any_some C.hd;unfold clsIn at e;split at e
  ·rename_i ho;intro A1 Q1 E1 s1 k1 q1;unfold isType;unfold loadHead;exact b6 (wpAny_loadPart (k1 _ _ (X _ _ ho)) (d4 q1))
  ·cases e
 ne:=λh tp dd its n sl X e2=>by
  obtain⟨cd,e,_⟩:=any_some C.hd;rw[Bool.eq_false_iff];intro z;have e1:D=tp:=Value.ref.inj (d8.mp z);subst e1;unfold clsIn at e;split at e
  ·rename_i ho;cases(X _ _ ho).symm.trans e2
  ·cases e
 ca:=λX p k=>z3P C X p k
theorem z7q(C:ClsK K D)(X:K.In s.heap)(p:R5 x D s.heap)(e:kitOne K (.ref D) c=some b)(q:∀tk,Q (.bool b) {s with toks:=tk}):wpAny (model prog w) A (call (.builtin "isinstance") [.ref x,c]) Q E s:=
 kia_one (z7O C) X p e (λz=>nomatch z) q
end
end
end L2
end
noncomputable section
namespace L2
open PySem PySem.Spec PyProof.Rows
section
structure Src(P:Program)(w:World)(ia la:Addr)(vs:Array Value)(S:Nat->Heap->Prop):Prop where
 keep:∀k h h',S k h->(∀o,h.get? ia=some o->h'.get? ia=some o)->(∀o,h.get? la=some o->h'.get? la=some o)->S k h'
 there:∀k h,S k h->∃o xs,h.get? ia=some o/\o.data=.fields xs
 step:∀{A:Around} {E:Value->Shared->Prop} {s:Shared} {Q:Value->Shared->Prop} (k:Nat) (x:Value),S k s.heap->vs[k]? = some x->(∀h',S (k+1) h'->Heap.SameBut ia s.heap h'->Q x {s with heap:=h'}) ->
  wpAny (model P w) A (Builtin.SmallTypes.nextOf (.ref ia)) Q E s
 stop:∀{A:Around} {E:Value->Shared->Prop} {s:Shared} {Q:Value->Shared->Prop} (k:Nat),A.handled=none->S k s.heap->vs[k]? = none ->
  (∀h' e,Heap.ExtBut ia s.heap h'->(∃o,h'.get? e=some o/\o.cls=.type "StopIteration")->E (.ref e) {s with heap:=h'})->wpAny (model P w) A (Builtin.SmallTypes.nextOf (.ref ia)) Q E s
section
variable {P:Program} {w:World} {A:Around} {E:Value->Shared->Prop} {s:Shared}
variable {Z U W a b l1 l2:Addr} {k:Nat} {vs1 vs2:Array Value} {S1 S2:Nat->Heap->Prop} {x y c d:Value}
end
end
end L2
end
noncomputable section
namespace PySem.SeqAt
open AutoSeq1 (wpAny_loadPart')
section
open MeetsSeq MeetsSeq2 MeetsSeq3 SeqRoads2
theorem q5C(f:Nat->β->Sem (ForInStep β))(I:List Nat->β->Shared->Prop)(Q:β->Shared->Prop)
    (turn:∀x rest b s,I (x::rest) b s->wpAny M A (f x b) (λr s'=>match r with | .yield b'=>I rest b' s' | .done b'=>Q b' s') E s)
  (fin:∀b s,I [] b s->Q b s) (h:I (List.range' 0 n 1) b s):wpAny M A (forIn [:n] b f) Q E s:=by
 rw[Std.Legacy.Range.forIn_eq_forIn_range'];have hsz:([:n]:Std.Legacy.Range).size=n:=by simp[Std.Legacy.Range.size]
 show wpAny M A (forIn (List.range' 0 ([:n]:Std.Legacy.Range).size 1) b f) Q E s;rw[hsz];exact wpAny_forIn_list f I Q turn fin _ b h
theorem q6z(l:Addr)(items:Array Value)(n:Nat)(dd:Option Addr)(sl:Array (Option Value))(x:Value)(e:Value->Bool)(j:Nat)(hj:j<items.size)
  (hit:e items[j]=true) (hno:∀m (hm:m<items.size),m<j->e items[m]=false) :
  Meets (Builtin.«tuple.index» ⟨[.ref l,x],[]⟩)
   (λA R s=>s.heap.get? l=some {cls:=.type "tuple",dict:=dd,data:=.seq items n,slots:=sl} /\ (∀y,y∈items->EqAt A.in1 s y x (e y))/\R (.ok (.ret (.int j s.toks))) {s with toks:=s.toks+1}):=
 .of_wp λprog w A R s h=>by
  obtain⟨hp,g,d,tk,os⟩:=s;obtain⟨hl,he,h⟩:=h
  wp_walk using w31 hl,q5C _ (λrest b s'=>b.1=none/\s'=⟨hp,g,d,tk,os⟩/\∃i,i<=j/\rest=List.range' i (items.size - i) 1) _
  case turn=>
   rintro i rest b s' ⟨hb,rfl,i',hi',hr⟩
   obtain⟨m,hm⟩:∃m,items.size - i'=m+1:=⟨items.size - i' - 1,by omega⟩;rw[hm,List.range'_succ]at hr;obtain⟨rfl,rfl⟩:=Z8 hr;have hlt:i<items.size:=by omega
   rw[show items[i]? = some items[i] by simp[hlt]];refine b6 (he _ (Array.getElem_mem hlt) prog w _ _ ?_);by_cases q:i=j
   ·subst q;rw[hit]
    wp_walk
    exact⟨_,rfl,h⟩
   ·rw[hno i hlt (by omega)]
    wp_walk
    exact⟨rfl,rfl,i+1,by omega,by congr 1;omega⟩
  case fin=>
   rintro⟨b1,b2⟩ s' ⟨hb,rfl,i,hi,hr⟩
   obtain⟨m,hm⟩:∃m,items.size - i=m+1:=⟨items.size - i - 1,by omega⟩;rw[hm,List.range'_succ]at hr;cases hr
  case h=>
   exact⟨rfl,rfl,0,A7 _,by simp⟩
section
variable {prog:Program} {w:World} {A:Around} {E:Value->Shared->Prop} {s:Shared}
theorem q9q:∀(xs:List PyData) (vs:List Value) (as:List Addr),PyData.canLayAll0 xs=true->ReadsAll h vs xs as->vs.length=xs.length/\∀m (h1:m<vs.length) (h2:m<xs.length),PyData.eqv (readOf h vs[m]) d=PyData.eqv xs[m] d:=by
 intro xs vs as hc r;have e:=readsAll_map xs vs as hc r;have hl:vs.length=xs.length:=by rw[←e,d5]
 refine⟨hl,λm h1 h2=>?_⟩
 congr 1
 subst e;rw[List.getElem_map]
theorem index_list_reads(rc:Reads s.heap c (.list xs) as)(rx:Reads s.heap x d bs)(hxs:PyData.canLayAll0 xs=true)(hd:d.canLay0=true)
  (hu:A.units+1+min (PyData.depthAll xs) d.depth<cLine) (hj:j<xs.length) (hj63:(j:Int)<2^63 - 1) (hit:PyData.eqv xs[j] d=true) (hno:∀m (hm:m<xs.length),m<j->PyData.eqv xs[m] d=false) (h:Q (.int j s.toks) {s with toks:=s.toks+1}):wpAny (model prog w) A (call (.builtin "list.index") [c,x]) Q E s:=by
 cases rc with
 | list h1 h2 h3 h4=>
  rename_i l o vs n as';obtain⟨cls,dd,data,sl⟩:=o;simp only at h2 h3;subst h2 h3;obtain⟨hl,ha⟩:=q9q (d:=d) xs vs.toList _ hxs h4;have hl':vs.size=xs.length:=by rw[←hl];simp
  refine PySem.call_meets w3V ⟨_,h1,rfl⟩ PySem.F.entry_list_index (PySem.F.args_list_index_2 _ _)
   (list_indexAt l vs _ dd sl x (λy=>PyData.eqv (readOf s.heap y) d) j (by omega) hj63 ?_ ?_) ⟨h1,items_eqAt h4 rx hxs hd hu,h⟩
  ·rw[←hit];exact ha j (by simpa using(by omega:j<vs.size)) hj
  ·intro m hm hlt;rw[←hno m (by omega) hlt];exact ha m (by simpa using hm) (by omega)
theorem index_tuple_reads(rc:Reads s.heap c (.tuple xs) as)(rx:Reads s.heap x d bs)(hxs:PyData.canLayAll0 xs=true)(hd:d.canLay0=true)
  (hu:A.units+1+min (PyData.depthAll xs) d.depth<cLine) (hj:j<xs.length) (hit:PyData.eqv xs[j] d=true) (hno:∀m (hm:m<xs.length),m<j->PyData.eqv xs[m] d=false) (h:Q (.int j s.toks) {s with toks:=s.toks+1}):wpAny (model prog w) A (call (.builtin "tuple.index") [c,x]) Q E s:=by
 cases rc with
 | tuple h1 h2 h3 h4=>
  rename_i l o vs n;obtain⟨cls,dd,data,sl⟩:=o;simp only at h2 h3;subst h2 h3;obtain⟨hl,ha⟩:=q9q (d:=d) xs vs.toList _ hxs h4;have hl':vs.size=xs.length:=by rw[←hl];simp
  refine PySem.call_meets w3N ⟨_,h1,rfl⟩ PySem.F.entry_tuple_index (PySem.F.args_tuple_index_2 _ _)
   (q6z l vs _ dd sl x (λy=>PyData.eqv (readOf s.heap y) d) j (by omega) ?_ ?_) ⟨h1,items_eqAt h4 rx hxs hd hu,h⟩
  ·rw[←hit];exact ha j (by simpa using(by omega:j<vs.size)) hj
  ·intro m hm hlt;rw[←hno m (by omega) hlt];exact ha m (by simpa using hm) (by omega)
end
end
end PySem.SeqAt
end
noncomputable section
namespace PySem
section
variable {prog:Program} {w:World} {A:Around} {E:Value->Shared->Prop} {s:Shared}
theorem q3r(a b:Int):Builtin.Range.rangeSize a b (-1)=if b<a then a - b else 0:=by
 unfold Builtin.Range.rangeSize;simp
theorem z0n(ha : -(2^62)<=a)(ha':a<2^62)(hb : -(2^62)<=b)(hb':b<2^62):Builtin.Range.small a b (-1)=true:=by
 unfold Builtin.Range.small;rw[q3r];simp only[Builtin.Range.rangeFitsLong,b9,C7,A2,d8,show ¬((-1:Int)>0) by decide,if_false];split<;>omega
end
end PySem
namespace L2
open PySem PySem.Spec PyProof.Rows
section
variable {X:Cx} {tg:Expr}
def Itd(hi:Int)(n:Nat):It:=⟨λi _=>i<n,λi H x H'=>H'=H/\x=.int (hi - i),λi _=>n<=i⟩
theorem z0W{P:Program}{w:World}{K:PySem.W.Frag}{tg:Expr}(it:Addr)(hi:Int)(n:Nat):Turn P w K tg (Itd hi n) [it] it (λi h=>IsRangeIter h it (hi+(i:Nat)*(-1)) ((n:Int) - (i:Nat)) (-1)) where
 mem:=by simp
 obj:=λi h st b hb=>by
  have e:b=it:=by simpa using hb
  subst e;exact⟨_,st,λv z=>by
   have z':Data.fields _=Data.cell v:=z;cases z'⟩
 keep:=λi h h' st k=>k it (by simp) _ st
 item:=by
  intro X hP hw hK hc i pins s σ H E I hf st hg;subst hP hw hK;obtain⟨f0,f1,f2,f3,f4,f5⟩:=hf it (by simp);have W:=Walks.range (prog:=X.prog) (w:=X.w) (I.ok.hd hc) it hi (-1) n;refine W.item i s _ _ hg st λv h' tk hv st' kk=>?_
  obtain⟨t,rfl⟩:=hv;have I1:Inv X pins σ H {s with heap:=h',toks:=tk}:=I.turned (λb o hb e=>kk b o (by simpa using hb) e) f0 f1 f3 f4 f5;refine⟨_,rfl,z2d (s:={s with heap:=h',toks:=tk}) (n:="range_iterator") st' rfl rfl (by decide) ⟨.int (hi - i),H,I1,⟨t,?_⟩,⟨rfl,rfl⟩,st',λb hb=>(hf b hb).1⟩⟩;rw[show hi+(i:Int)*(-1)=hi - i by omega]
 done:=by
  intro X hP hw hK hc i pins s σ H E I hf st hg;subst hP hw hK;obtain⟨f0,f1,f2,f3,f4,f5⟩:=hf it (by simp);exact w35 (I.ok.hd hc) st (by have:n<=i:=hg;omega) λh' eb=>⟨rfl,I.turned (t':=s.toks) (λb o hb e=>eb b o hb e) f0 f1 f3 f4 f5⟩
 self:=λ_ _ _ _ _ st h=>w36 st h
theorem z7s{pins:List (Addr×Obj)}{σ:St}{H:Hp}{s:Shared}{R:It->Hp->Prop}{E:Value->Shared->Prop}{lo hi:Int}{t u v:Tok}{tk:Nat}(I:Inv X pins σ H s)(h1 : -(2^62)<=lo)(h2:lo<2^62)(h3 : -(2^62)<=hi)(h4:hi<2^62)
  (q:R (Itd lo (lo - hi).toNat) H):wpAny (model X.prog X.w) X.A (pyIter (.ref s.heap.objs.size)) (PIE X pins σ tg R) E {s with heap:=s.heap.push {cls:=.type "range",data:=.fields #[.int lo t,.int hi u,.int (-1) v]},toks:=tk}:=by
 refine wpAny_pyIter_range (IsRange.new ..) (z0n h1 h2 h3 h4) ?_;have I1:Inv X pins σ H {s with heap:=s.heap.push {cls:=.type "range",data:=.fields #[.int lo t,.int hi u,.int (-1) v]},toks:=tk}:=I.kept λb o e=>j2 _ e;refine⟨(s.heap.push {cls:=.type "range",data:=.fields #[.int lo t,.int hi u,.int (-1) v]}).objs.size,[(s.heap.push {cls:=.type "range",data:=.fields #[.int lo t,.int hi u,.int (-1) v]}).objs.size],_,_,H,rfl,
  I1.kept (t':=tk) λb o e=>j2 _ e,z0W _ lo (lo - hi).toNat,?_,λb hb=>?_,q⟩
 ·have e1:lo+((0:Nat):Int)*(-1)=lo:=by simp
  have e2:(((lo - hi).toNat:Nat):Int) - ((0:Nat):Int)=Builtin.Range.rangeSize lo hi (-1):=by rw[q3r];split<;>omega
  show IsRangeIter _ _ (lo+((0:Nat):Int)*(-1)) ((((lo - hi).toNat:Nat):Int) - ((0:Nat):Int)) (-1);rw[e1,e2];exact p8 _ rfl
 ·have e:b=(s.heap.push {cls:=.type "range",data:=.fields #[.int lo t,.int hi u,.int (-1) v]}).objs.size:=by simpa using hb
  subst e;exact I1.fpOk (e9 _) (I1.hok.fresh (e9 _))
def y0T(ta:TA):TI:=λσ H R=>ta σ H λvs H1=>∃i j:Int,vs=[.int i,.int j,.int (-1)]/\(-(2^62)<=i/\i<2^62 /\ -(2^62)<=j/\j<2^62)/\R (Itd i (i - j).toNat) H1
theorem noPl(a:Int):Builtin.divisionGoesByPylong a (-1)=false:=PyProof.noPylong_small (by omega)
theorem z3a(hg:Gl X "range")(hm:X.mg "range" = none)(ha:PA X [a,b,c] ta)(hs:starEach [a,b,c] X.env=[(false,eval a X.env),(false,eval b X.env),(false,eval c X.env)])(hs2:starEach [b,c] X.env=[(false,eval b X.env),(false,eval c X.env)]) :
  PI X tg (.Call (.Name "range" p) [a,b,c] [] pos) (y0T ta):=by
 intro pins s σ H R I h;refine Call_ (q5M I hg hm boot_range (w1Q (thn (ha pos pins s σ H _ I h) λus s1 ⟨vs,H1,I1,r1,q1⟩=>?_) (by rw[hs,hs2]) (by rw[hs2];rfl)));obtain⟨i,j,e,⟨q1,q2,q3,q4⟩,q⟩:=q1;subst e;cases r1 with
 | cons r rr=>
  cases rr with
  | cons r' rr=>
   cases rr with
   | cons r'' rr=>
    cases rr;obtain⟨t,rfl⟩:=r;obtain⟨t',rfl⟩:=r';obtain⟨t'',rfl⟩:=r'';exact call_range_3 (by decide) (z7s I1 q1 q2 q3 q4 q) (Or.inl (noPl _))
end
end L2
end
noncomputable section
namespace L2
open PySem
section
inductive DKey where
 | i (n:Int) | s (x:Str) | t (l:List (Sum Int Str))
 deriving DecidableEq
inductive DV where
 | non | bl (b:Bool) | int (i:Int) | str (x:Str) | tup (ds:List DV) | lst (ds:List DV) | dct (ks:List DKey) (vs:List DV)
 | exc (c:Str) | fn (x:Str)
 | scr (ns:List Int)
inductive Cl where
 | weak | top | strong | fresh | ft
 deriving DecidableEq
inductive Re where
 | ok (d:DV) (c:Cl) | ex (c:Str)
inductive Rs where
 | ok (l:List (DV×Cl)) | ex (c:Str)
inductive Rt where
 | ok (b:Bool) | ex (c:Str)
inductive Sv where
 | no | val (d:DV) | own (d:DV) | ot (d:DV)
 | o2 (d:DV)
 | od (d:DV)
inductive Ou where
 | v (d:DV) (fr:Bool) | x (c:Str) | t (d:DV)
inductive Out where
 | nx (δ:List Sv) | rt (d:DV) (fr:Bool) | ex (c:Str) (δ:List Sv) | rtt (d:DV)
inductive Bi where
 | len | min | max | sorted | sset | int | list | tuple
 deriving DecidableEq
inductive Mt where
 | bitLength | index | get
 deriving DecidableEq
inductive Tg where
 | one (i:Nat) | many (is:List Nat)
inductive ME where
  | var (i:Nat) | int (i:Int) | bl (b:Bool) | str (x:Str) | non | glb (x:Str)
  | bin (op:Operator) (a b:ME) | neg (a:ME)  | not (a:ME)
  | cmp (op:CmpOp) (a b:ME) | chain (op op':CmpOp) (a b c:ME)
  | and (es:List ME) | or (es:List ME)
  | lst (es:List ME) | tup (es:List ME)  | dc0
  | ix (a b:ME) | sl (a lo hi:ME) | slf (a lo:ME) | slt (a hi:ME)
  | call (f:Nat) (es:List ME)   | bi (f:Bi) (es:List ME) | isi (a:ME) (ts:List Str) | isx (a:ME) (t:Str) | meth (m:Mt) (a:ME) (es:List ME)
  | comp (elt:ME) (tg:Tg) (it:ME) (fr:List (Option Nat)) | compi (elt:ME) (tg:Tg) (it c:ME) (fr:List (Option Nat))
   | dix (a k:ME)
  | dgp (i:Nat) (k:ME) | din (i:Nat) (k:ME) | kys (a:ME) | callv (i:Nat) (xs:List (Str×Nat)) (es:List ME)
  | idx (a b:ME)
  | rng (es:List ME)   | itm (a:ME)
inductive MS where
 | set (i:Nat) (own:Bool) (e:ME)
 | app (i:Nat) (e:ME) | ext (i:Nat) (e:ME) | seti (i:Nat) (k e:ME) | clr (i:Nat)
 | exp (e:ME) | ret (e:ME)  | iff (c:ME) (a b:List MS) | fo (tg:Tg) (it:ME) (body:List MS)
  | retd (i:Nat)
 | sep (i:Nat) | dpp (i:Nat) (ks:List ME) (e:ME)
 | rse (c:Str) (e:ME) | tryc (body:List MS) (c:Str) (ie ic:Nat)
 | frz (i:Nat)
structure FD where
 n:Nat
 np:Nat
 dfl:List DV:=[]
 kn:Option Str:=none
 body:List MS
def Re.thn(r:Option Re)(k:DV->Cl->Option Re):Option Re:=match r with
 | none=>none
 | some (.ex c)=>some (.ex c)
 | some (.ok d c)=>k d c
def Rs.thn(r:Option Rs)(k:List (DV×Cl)->Option Re):Option Re:=match r with
 | none=>none
 | some (.ex c)=>some (.ex c)
 | some (.ok l)=>k l
def Re.thnT(r:Option Re)(k:DV->Cl->Option Rt):Option Rt:=match r with
 | none=>none
 | some (.ex c)=>some (.ex c)
 | some (.ok d c)=>k d c
mutual
def DV.immut:DV->Bool
 | .non=>true | .bl _=>true | .int _=>true | .str _=>true | .exc _=>true | .fn _=>true | .scr _=>true
 | .tup ds=>DV.immuts ds
 | .lst _=>false
 | .dct _ vs=>DV.immuts vs
def DV.immuts:List DV->Bool
 | []=>true
 | d::r=>d.immut&&DV.immuts r
end
def stro(d:DV):Cl->Bool
 | .strong=>true | .fresh=>true | .ft=>true | _=>d.immut
def stros(l:List (DV×Cl)):Bool:=l.all λp=>stro p.1 p.2
def Cl.item:Cl->Cl
 | .weak=>.weak | _=>.strong
def Cl.anew:Cl->Cl->Cl
 | .weak,_=>.weak | _,.weak=>.weak | _,_=>.fresh
def mostLen:Nat:=1000000
mutual
def deq:DV->DV->Bool
 | .non,.non=>true
 | .bl a,.bl b=>a==b
 | .bl a,.int j=>(if a then 1 else 0)==j
 | .int i,.bl b=>i==(if b then 1 else 0)
 | .int i,.int j=>i==j
 | .str a,.str b=>decide (a=b)
 | .tup a,.tup b=>deqs a b
 | .lst a,.lst b=>deqs a b
 | _,_=>false
def deqs:List DV->List DV->Bool
 | [],[]=>true
 | a::r,b::s=>deq a b&&deqs r s
 | _,_=>false
end
mutual
def DV.plain:Nat->DV->Bool
 | _,.non=>true | _,.bl _=>true | _,.int _=>true
 | _,.str x=>x.cps.all (· < 0x110000)
 | 0,_=>false
 | n+1,.tup ds=>DV.plains n ds | n+1,.lst ds=>DV.plains n ds
 | _,_=>false
def DV.plains:Nat->List DV->Bool
 | _,[]=>true
 | n,d::r=>d.plain n&&DV.plains n r
end
def C2:DV->Option Bool
 | .non=>some false
 | .bl b=>some b
 | .int i=>some (i != 0)
 | .str x=>some (x.cps.size != 0)
 | .tup ds=>some (!ds.isEmpty)
 | .lst ds=>some (!ds.isEmpty)
 | _=>none
def A4(n:Nat)(i:Int):Option Nat:=if 0<=i then(if i<n then some i.toNat else none)else if -(n:Int)<=i then some (i+n).toNat else none
def atD(ds:List DV)(i:Int):Option DV:=(A4 ds.length i).bind λj=>ds[j]?
def E2(k:DKey):List DKey->List DV->Option DV
 | k'::ks,v::vs=>if k'=k then some v else E2 k ks vs
 | _,_=>none
def putD(k:DKey)(d:DV)(ks:List DKey)(vs:List DV):List DKey×List DV:=
 if k∈ks then(ks,(ks.zip vs).map λp=>if p.1=k then d else p.2)else(ks++[k],vs++[d])
def ixD(a b:DV):Option DV:=match a,b with
 | .scr ns,.int i=>((A4 ns.length i).bind λj=>ns[j]?).map DV.int
 | .lst ds,.int i=>atD ds i
 | .tup ds,.int i=>atD ds i
 | .str z,.int i=>(A4 z.cps.size i).bind λj=>(z.cps[j]?).map λc=>.str ⟨#[c]⟩
 | _,_=>none
def slIx(n d:Nat):Option Int->Nat
 | none=>d
 | some v=>if v<0 then(v+(n:Int)).toNat else min v.toNat n
def cutD(ds:List DV)(lo hi:Option Int):List DV:=(ds.drop (slIx ds.length 0 lo)).take (slIx ds.length ds.length hi - slIx ds.length 0 lo)
def slD(a:DV)(lo hi:Option Int):Option DV:=match a with
 | .scr ns=>some (.lst (cutD (ns.map DV.int) lo hi))
 | .lst ds=>some (.lst (cutD ds lo hi))
 | .tup ds=>if slIx ds.length 0 lo=0/\slIx ds.length ds.length hi=ds.length then none else some (.tup (cutD ds lo hi))
 | _=>none
def slCl(a:DV)(c:Cl):Cl:=match a with
 | .scr _=>.fresh
 | .lst _=>Cl.anew c c
 | _=>c.item
def F9(i j:Int):Bool:=(decide (-(2^64)<i)&&decide (i<2^64))||(decide (-(2^64)<j)&&decide (j<2^64))||(decide (i.natAbs<2^2000)&&decide (j.natAbs<2^2000))
def binD(op:Operator)(a b:DV)(ca cb:Cl):Option Re:=match op,a,b with
 | .Add,.int i,.int j=>some (.ok (.int (i+j)) .strong)
 | .Sub,.int i,.int j=>some (.ok (.int (i - j)) .strong)
 | .Mult,.int i,.int j=>if F9 i j then some (.ok (.int (i*j)) .strong)else none
 | .Mod,.int i,.int j=>if 0<j then some (.ok (.int (i%j)) .strong)else none
 | .FloorDiv,.int i,.int j=>if 0<j/\j<2^200 then some (.ok (.int (i/j)) .strong)else none
 | .LShift,.int i,.int j=>if 0<=j/\j<=1000000/\i.natAbs<2^64 then some (.ok (.int (i*2^j.toNat)) .strong)else none
 | .RShift,.int i,.int j=>if 0<=j then some (.ok (.int (i/2^j.toNat)) .strong)else none
 | .BitAnd,.int i,.int j=>some (.ok (.int (Builtin.bitAnd i j)) .strong)
 | .Add,.lst x,.lst y=>if x.length+y.length<=mostLen then some (.ok (.lst (x++y)) (Cl.anew ca cb))else none
 | .Mult,.lst x,.int k=>if x.length*k.toNat<=mostLen /\ -(2^63)<=k/\k<2^63 then some (.ok (.lst (List.replicate k.toNat x).flatten) (Cl.anew ca ca))else none
 | _,_,_=>none
def isN:DV->Bool
 | .non=>true
 | _=>false
def cmpD(op:CmpOp)(a b:DV):Option Bool:=match op,a,b with
 | .Lt,.int i,.int j=>some (decide (i<j))
 | .LtE,.int i,.int j=>some (decide (i<=j))
 | .Eq,a,b=>if a.plain 60&&b.plain 60 then some (deq a b)else none
 | .NotEq,a,b=>if a.plain 60&&b.plain 60 then some (!deq a b)else none
 | .Is,a,.non=>some (isN a)
 | .NotIn,a,.lst ds=>if a.plain 60&&DV.plains 60 ds then some (!ds.any λd=>deq d a)else none
 | .NotIn,a,.tup ds=>if a.plain 60&&DV.plains 60 ds then some (!ds.any λd=>deq d a)else none
 | _,_,_=>none
def ints?:List DV->Option (List Int)
 | []=>some []
 | .int i::r=>(ints? r).map (i :: ·)
 | _=>none
def minI:Int->List Int->Int
 | m,[]=>m
 | m,x::r=>minI (if x<m then x else m) r
def maxI:Int->List Int->Int
 | m,[]=>m
 | m,x::r=>maxI (if m<x then x else m) r
def insI(x:Int):List Int->List Int
 | []=>[x]
 | y::r=>if x<y then x::y::r else y::insI x r
def C8:List Int->List Int
 | []=>[]
 | x::r=>insI x (C8 r)
def dk(σ:List Int)(k:Int):List Int:=if k∈σ then σ else σ++[k]
def V7(i:Int):Int:=if i=0 then 0 else(i.natAbs.log2:Int)+1
def lenD:List (DV×Cl)->Option Re
 | [(.lst ds,_)]=>some (.ok (.int ds.length) .strong)
 | [(.tup ds,_)]=>some (.ok (.int ds.length) .strong)
 | [(.scr ns,_)]=>some (.ok (.int ns.length) .strong)
 | [(.str z,_)]=>some (.ok (.int z.length) .strong)
 | _=>none
def trips?:List DV->Option (List (Int×Int×Int))
 | []=>some []
 | .tup [.int a,.int b,.int c]::r=>(trips? r).map ((a,b,c) :: ·)
 | _=>none
def ltT(p q:Int×Int×Int):Bool:=decide (p.1<q.1)||(p.1==q.1&&(decide (p.2.1<q.2.1)||(p.2.1==q.2.1&&decide (p.2.2<q.2.2))))
def minD:List (DV×Cl)->Option Re
 | [(.int i,_),(.int j,_)]=>some (.ok (.int (if j<i then j else i)) .strong)
 | [(.lst ds,c)]=>match ints? ds with
  | some (n::r)=>some (.ok (.int (minI n r)) .strong)
  | _=>none
 | [(.tup ds,_)]=>match ints? ds with
  | some (n::r)=>some (.ok (.int (minI n r)) .strong)
  | _=>none
 | _=>none
def L4:List (Int×Int×Int)->Bool
 | []=>true
 | p::r=>match r with
  | []=>true
  | q::_=>ltT p q&&L4 r
def q4c:List (DV×Cl)->Option Re
 | [(.lst ds,c)]=>match trips? ds with
  | some ps=>if L4 ps=true/\ps.length<=1000 then some (.ok (.lst ds) (Cl.anew c c))else none
  | none=>none
 | _=>none
def maxD:List (DV×Cl)->Option Re
 | [(.int i,_),(.int j,_)]=>some (.ok (.int (if j>i then j else i)) .strong)
 | [(.lst ds,_)]=>match ints? ds with
  | some (n::r)=>some (.ok (.int (maxI n r)) .strong)
  | _=>none
 | _=>none
def z2p:List (DV×Cl)->Option Re
 | [(.lst ds,_)]=>match ints? ds with
  | some ns=>if ns.length<4000/\(ns.foldl dk []).length<64 then some (.ok (.lst ((C8 (ns.foldl dk [])).map DV.int)) .fresh)else none
  | none=>none
 | _=>none
def intD:List (DV×Cl)->Option Re
 | [(.int i,_)]=>some (.ok (.int i) .strong)
 | [(.bl b,_)]=>some (.ok (.int (if b then 1 else 0)) .strong)
 | _=>none
def V8:List (DV×Cl)->Option Re
 | [(.scr ns,_)]=>some (.ok (.lst (ns.map DV.int)) .fresh)
 | [(.lst ds,c)]=>some (.ok (.lst ds) (Cl.anew c c))
 | [(.tup ds,c)]=>some (.ok (.lst ds) (Cl.anew c c))
 | _=>none
def q5Z:List (DV×Cl)->Option Re
 | [(.lst ds,c)]=>some (.ok (.tup ds) c.item)
 | [(.tup ds,c)]=>some (.ok (.tup ds) c)
 | _=>none
def biD(f:Bi)(l:List (DV×Cl)):Option Re:=match f with
 | .len=>lenD l
 | .min=>minD l
 | .max=>maxD l
 | .int=>intD l
 | .list=>V8 l
 | .tuple=>q5Z l
 | .sset=>z2p l
 | .sorted=>q4c l
def biOk:Bi->Bool
 | .len=>true | .min=>true | .max=>true | .int=>true | .list=>true | .tuple=>true | .sset=>true | .sorted=>true
def mtD(m:Mt)(a:DV):Option Re:=match m,a with
 | .bitLength,.int i=>some (.ok (.int (V7 i)) .strong)
 | _,_=>none
structure Gs where
 dcs:List (Str×List (Str×Str)):=[]
 con:List (Str×DV)
 cls:List (Str×List Str)
 dfl:List (Nat×List DV):=[]
 kws:List (Nat×Str):=[]
 hun:Bool:=false
def L5(G:Gs)(c c':Str):Bool:=c==c'||((G.cls.lookup c).getD []).contains c'
def isxD(G:Gs)(d:DV)(t:Str):Option Bool:=match d with
 | .exc c=>if(G.cls.lookup c).isSome then some (L5 G c t)else none
 | _=>none
def tyOf:DV->List Str
 | .non=>["NoneType"]
 | .bl _=>["bool","int"]
 | .int _=>["int"]
 | .str _=>["str"]
 | .tup _=>["tuple"]
 | .lst _=>["list"]
 | .dct _ _=>["dict"]
 | _=>[]
def R6:List Str:=["int","bool","str","list","tuple","dict"]
def isiD(G:Gs)(d:DV)(ts:List Str):Option Bool:=match d with
 | .scr _=>none
 | .exc _=>none
 | .fn _=>none
 | d=>match ts with
  | [t]=>if R6.contains t then some ((tyOf d).contains t)else none
  | _=>none
def upTo(lo:Int)(n:Nat):List DV:=(List.range n).map λ(i:Nat)=>DV.int (lo+i)
def q5Y(lo:Int)(n:Nat):List DV:=(List.range n).map λ(i:Nat)=>DV.int (lo - i)
def C9(i:Int):Bool:=decide (-(2^62)<=i)&&decide (i<2^62)
def K4(y:DV):List DV->Option Nat
 | []=>none
 | d::r=>if deq d y then some 0 else(K4 y r).map (· + 1)
def seqB:DV->Bool
 | .lst _=>true | .tup _=>true | _=>false
def idxD(x y:DV):Option DV:=match x with
 | .lst ds=>if y.plain 60&&DV.plains 60 ds&&decide (ds.length<=mostLen)then(K4 y ds).map λ(j:Nat)=>DV.int (j:Int)else none
 | .tup ds=>if y.plain 60&&DV.plains 60 ds&&decide (ds.length<=mostLen)then(K4 y ds).map λ(j:Nat)=>DV.int (j:Int)else none
 | _=>none
def rngD(l:List (DV×Cl)):Option (List DV):=match l with
 | [(.int j,_)]=>if C9 j&&decide (j<=mostLen)then some (upTo 0 j.toNat)else none
 | [(.int i,_),(.int j,_)]=>if C9 i&&C9 j&&decide (j - i<=mostLen)then some (upTo i (j - i).toNat)else none
 | [(.int i,_),(.int j,_),(.int k,_)]=>if C9 i&&C9 j&&decide (i - j<=mostLen)&&decide (k = -1)then some (q5Y i (i - j).toNat)else none
 | _=>none
def z0K:DV->Option (Bool×List DV)
 | .lst ds=>some (false,ds)
 | .tup ds=>some (true,ds)
 | _=>none
def kvs?:List DKey->List DV->Option (List (Int×Int))
 | [],[]=>some []
 | .i k::ks,.int v::vs=>(kvs? ks vs).map ((k,v) :: ·)
 | _,_=>none
def kvp?:List DKey->List DV->Option (List ((Int×Int)×Int))
 | [],[]=>some []
 | .t [.inl a,.inl b]::ks,.int v::vs=>(kvp? ks vs).map (((a,b),v) :: ·)
 | _,_=>none
def itmD(x:DV)(c:Cl):Option Re:=match x with
 | .dct ks vs=>if c=.strong then(match kvs? ks vs with
  | some l=>some (.ok (.lst (l.map λp=>.tup [.int p.1,.int p.2])) .strong)
  | none=>(kvp? ks vs).map (λl=>.ok (.lst (l.map λp=>.tup [.tup [.int p.1.1,.int p.1.2],.int p.2])) .strong))else none
 | _=>none
def dixD(x y:DV):Option Re:=match x,y with
 | .dct ks vs,.int k=>(match E2 (.i k) ks vs with
  | some (.int v)=>some (.ok (.int v) .strong)
  | _=>none)
 | .dct ks vs,.tup [.int a,.int b]=>(match E2 (.t [.inl a,.inl b]) ks vs with
  | some (.int v)=>some (.ok (.int v) .strong)
  | _=>none)
 | _,_=>none
def dinD(ks:List DKey)(y:DV):Option Re:=match y with
 | .tup [.int a,.int b]=>some (.ok (.bl (decide (DKey.t [.inl a,.inl b]∈ks))) .strong)
 | _=>none
def kysD(x:DV)(c:Cl):Option Re:=match x with
 | .dct (k::ks) vs=>if c=.strong then(kvp? (k::ks) vs).map (λl=>.ok (.lst (l.map λp=>.tup [.int p.1.1,.int p.1.2])) .strong)else none
 | _=>none
def dgpD(ks:List DKey)(vs:List DV)(y:DV):Option Re:=match y with
 | .tup [.int a,.int b]=>(match E2 (.t [.inl a,.inl b]) ks vs with
  | some (.int v)=>some (.ok (.int v) .strong)
  | _=>none)
 | _=>none
def dppD(i:Nat)(δ:List Sv)(ks:List DKey)(vs:List DV)(l:List (DV×Cl))(d:DV):Option (List Sv):=match l,d with
 | [(.int a,_),(.int b,_)],.int z=>if ks.length<mostLen then some (δ.set i (.od (.tup [.dct (putD (.t [.inl a,.inl b]) (.int z) ks vs).1 (putD (.t [.inl a,.inl b]) (.int z) ks vs).2])))else none
 | _,_=>none
def unT:DV->DV
 | .tup [d]=>d
 | d=>d
def seqD:DV->Option (List DV)
 | .scr ns=>some (ns.map DV.int)
 | .lst ds=>some ds
 | .tup ds=>some ds
 | _=>none
def q5I(δ:List Sv):List Nat->List DV->Option (List Sv)
 | [],[]=>some δ
 | i::is,d::ds=>q5I (δ.set i (.val d)) is ds
 | _,_=>none
def Tg.bind(tg:Tg)(d:DV)(δ:List Sv):Option (List Sv):=match tg with
 | .one i=>some (δ.set i (.val d))
 | .many is=>match d with
  | .tup ds=>q5I δ is ds
  | _=>none
def Sv.plain:Sv->Sv
 | .ot _=>.no
 | .o2 _=>.no
 | s=>s
def t4(fr:List (Option Nat))(δ:List Sv):List Sv:=fr.map λo=>match o with
 | some i=>(δ.getD i .no).plain
 | none=>.no
inductive Rc where
 | skip | item (d:DV)
def t9(g:DV->Option Rc):List DV->Option (List DV)
 | []=>some []
 | d::r=>match g d with
  | none=>none
  | some .skip=>t9 g r
  | some (.item x)=>match t9 g r with
   | none=>none
   | some xs=>some (x::xs)
def G8(r:Option (List DV)):Option Re:=match r with
 | none=>none
 | some xs=>some (.ok (.lst xs) .fresh)
def Rc.of(r:Option Re):Option Rc:=match r with
 | some (.ok d c)=>if stro d c then some (.item d)else none
 | _=>none
def Rc.test(t:Option Rt)(r:Option Rc):Option Rc:=match t with
 | some (.ok true)=>r
 | some (.ok false)=>some .skip
 | _=>none
inductive Ri where
 | ok (ds:List DV) (c:Cl) | ex (c:Str)
def Ri.thn(r:Option Ri)(k:List DV->Cl->Option Re):Option Re:=match r with
 | none=>none
 | some (.ex c)=>some (.ex c)
 | some (.ok ds c)=>k ds c
def Re.thnI(r:Option Re)(k:DV->Cl->Option Ri):Option Ri:=match r with
 | none=>none
 | some (.ex c)=>some (.ex c)
 | some (.ok d c)=>k d c
def y2c(d:DV)(c:Cl):Option Ri:=(seqD d).map λds=>.ok ds c
def A5(F:Nat->List DV->Option Ou)(f:Nat)(l:List (DV×Cl)):Option Re:=match F f (l.map (·.1))with
 | none=>none
 | some (.x c)=>some (.ex c)
 | some (.t d)=>some (.ok d (if l.all λp=>p.2 == .strong||p.2 == .fresh then(match d with | .lst _=>.fresh | _=>.ft)else .weak))
 | some (.v d fr)=>some (.ok d (if l.all λp=>p.2 == .strong||p.2 == .fresh then(if fr then .fresh else .strong)else .weak))
def andD(x:DV)(c:Cl)(r:Option Re):Option Re:=match C2 x with
 | none=>none
 | some true=>r
 | some false=>some (.ok x c)
def orD(x:DV)(c:Cl)(r:Option Re):Option Re:=match C2 x with
 | none=>none
 | some true=>some (.ok x c)
 | some false=>r
def tstD(r:Option Re):Option Rt:=Re.thnT r λx _=>(C2 x).map Rt.ok
def j3(r:Option Re):Option Ri:=Re.thnI r λx c=>y2c x c
mutual
def evE(G:Gs)(F:Nat->List DV->Option Ou):ME->List Sv->Option Re
 | .var i,δ=>match δ[i]? with
  | some (.val d)=>some (.ok d .strong)
  | some (.own d)=>some (.ok d .top)
  | some (.ot d)=>some (.ok d .weak)
  | some (.o2 d)=>some (.ok d .weak)
  | _=>none
 | .int i,_=>some (.ok (.int i) .strong)
 | .bl i,_=>some (.ok (.bl i) .strong)
 | .str i,_=>some (.ok (.str i) .strong)
 | .non,_=>some (.ok .non .strong)
 | .glb x,_=>(G.con.lookup x).map λd=>.ok d .strong
 | .bin op a b,δ=>Re.thn (evE G F a δ) λx cx=>Re.thn (evE G F b δ) λy cy=>binD op x y cx cy
 | .neg a,δ=>Re.thn (evE G F a δ) λx _=>match x with | .int i=>some (.ok (.int (-i)) .strong) | _=>none
 | .not a,δ=>Re.thn (evE G F a δ) λx _=>(C2 x).map λk=>.ok (.bl (!k)) .strong
 | .cmp op a b,δ=>Re.thn (evE G F a δ) λx _=>Re.thn (evE G F b δ) λy _=>(cmpD op x y).map λk=>.ok (.bl k) .strong
 | .chain op op' a b c,δ=>Re.thn (evE G F a δ) λx _=>Re.thn (evE G F b δ) λy _=>match cmpD op x y with
  | none=>none
  | some false=>some (.ok (.bl false) .strong)
  | some true=>Re.thn (evE G F c δ) λz _=>(cmpD op' y z).map λk=>.ok (.bl k) .strong
 | .and es,δ=>D0 G F es δ
 | .or es,δ=>evOr G F es δ
 | .lst es,δ=>Rs.thn (evEs G F es δ) λl=>if l.length<=mostLen then some (.ok (.lst (l.map (·.1))) (if stros l then .fresh else .weak))else none
 | .tup es,δ=>Rs.thn (evEs G F es δ) λl=>if l.length<=mostLen then some (.ok (.tup (l.map (·.1))) (if stros l then .strong else .weak))else none
 | .dc0,_=>some (.ok (.dct [] []) .strong)
 | .ix a b,δ=>Re.thn (evE G F a δ) λx cx=>Re.thn (evE G F b δ) λy _=>(ixD x y).map λd=>.ok d cx.item
 | .sl a lo hi,δ=>Re.thn (evE G F a δ) λx cx=>Re.thn (evE G F lo δ) λl _=>match l with
  | .int l=>Re.thn (evE G F hi δ) λh _=>(match h with
   | .int h=>(slD x (some l) (some h)).map λd=>.ok d (slCl x cx)
   | _=>none)
  | _=>none
 | .slf a lo,δ=>Re.thn (evE G F a δ) λx cx=>Re.thn (evE G F lo δ) λl _=>match l with
  | .int l=>(slD x (some l) none).map λd=>.ok d (slCl x cx)
  | _=>none
 | .slt a hi,δ=>Re.thn (evE G F a δ) λx cx=>Re.thn (evE G F hi δ) λh _=>match h with
  | .int h=>(slD x none (some h)).map λd=>.ok d (slCl x cx)
  | _=>none
 | .call f es,δ=>Rs.thn (evEs G F es δ) λl=>A5 F f l
 | .bi f es,δ=>if biOk f then Rs.thn (evEs G F es δ) λl=>biD f l else none
 | .isi a ts,δ=>Re.thn (evE G F a δ) λx _=>(isiD G x ts).map λk=>.ok (.bl k) .strong
 | .isx a t,δ=>Re.thn (evE G F a δ) λx _=>(isxD G x t).map λk=>.ok (.bl k) .strong
 | .meth m a _,δ=>if m=.bitLength then Re.thn (evE G F a δ) λx _=>mtD m x else none
 | .comp elt tg it fr,δ=>Ri.thn (j3 (evE G F it δ)) λds c=>if c=.weak\/mostLen<ds.length then none else G8 (t9 (λd=>(tg.bind d (t4 fr δ)).bind λδ'=>Rc.of (evE G F elt δ')) ds)
 | .compi elt tg it cd fr,δ=>Ri.thn (j3 (evE G F it δ)) λds c=>if c=.weak\/mostLen<ds.length then none else G8 (t9 (λd=>(tg.bind d (t4 fr δ)).bind λδ'=>Rc.test (tstD (evE G F cd δ')) (Rc.of (evE G F elt δ'))) ds)
 | .idx a b,δ=>Re.thn (evE G F a δ) λx _=>if seqB x then Re.thn (evE G F b δ) λy _=>(idxD x y).map λd=>.ok d .strong else none
 | .rng es,δ=>Rs.thn (evEs G F es δ) λl=>(rngD l).map λds=>.ok (.lst ds) .fresh
 | .itm a,δ=>Re.thn (evE G F a δ) λx c=>itmD x c
 | .dix a k,δ=>Re.thn (evE G F a δ) λx _=>Re.thn (evE G F k δ) λy _=>dixD x y
 | .din i k,δ=>match δ[i]? with
  | some (.od (.tup [.dct ks _]))=>Re.thn (evE G F k δ) λy _=>dinD ks y
  | _=>none
 | .kys a,δ=>Re.thn (evE G F a δ) λx c=>kysD x c
 | .dgp i k,δ=>match δ[i]? with
  | some (.od (.tup [.dct ks vs]))=>Re.thn (evE G F k δ) λy _=>dgpD ks vs y
  | _=>none
 | .callv i xs es,δ=>match δ[i]? with
  | some (.val (.fn x))=>(match xs.lookup x with
   | some f=>Rs.thn (evEs G F es δ) λl=>A5 F f l
   | none=>none)
  | _=>none
def evEs(G:Gs)(F:Nat->List DV->Option Ou):List ME->List Sv->Option Rs
 | [],_=>some (.ok [])
 | e::es,δ=>match evE G F e δ with
  | none=>none
  | some (.ex c)=>some (.ex c)
  | some (.ok d c)=>match evEs G F es δ with
   | none=>none
   | some (.ex c)=>some (.ex c)
   | some (.ok l)=>some (.ok ((d,c)::l))
def D0(G:Gs)(F:Nat->List DV->Option Ou):List ME->List Sv->Option Re
 | [],_=>none
 | e::es,δ=>if es.isEmpty then evE G F e δ else Re.thn (evE G F e δ) λx c=>andD x c (D0 G F es δ)
def evOr(G:Gs)(F:Nat->List DV->Option Ou):List ME->List Sv->Option Re
 | [],_=>none
 | e::es,δ=>if es.isEmpty then evE G F e δ else Re.thn (evE G F e δ) λx c=>orD x c (evOr G F es δ)
end
def O7:Nat:=1000
def Re.thnS(δ:List Sv)(r:Option Re)(k:DV->Cl->Option Out):Option Out:=match r with
 | none=>none
 | some (.ex c)=>some (.ex c δ)
 | some (.ok d c)=>k d c
def Rs.thnS(δ:List Sv)(r:Option Rs)(k:List (DV×Cl)->Option Out):Option Out:=match r with
 | none=>none
 | some (.ex c)=>some (.ex c δ)
 | some (.ok l)=>k l
def Rt.thnS(δ:List Sv)(r:Option Rt)(k:Bool->Option Out):Option Out:=match r with
 | none=>none
 | some (.ex c)=>some (.ex c δ)
 | some (.ok b)=>k b
def Ri.thnS(δ:List Sv)(r:Option Ri)(k:List DV->Cl->Option Out):Option Out:=match r with
 | none=>none
 | some (.ex c)=>some (.ex c δ)
 | some (.ok ds c)=>k ds c
def A9(tg:Tg)(body:List Sv->Option Out):List DV->List Sv->Option Out
 | [],δ=>some (.nx δ)
 | d::r,δ=>match tg.bind d δ with
  | none=>none
  | some δ1=>match body δ1 with
   | some (.nx δ2)=>A9 tg body r δ2
   | o=>o
def frD:DV->Cl->Bool
 | .lst _,.fresh=>true | .lst _,.top=>true
 | _,_=>false
def noOt(i:Nat)(δ:List Sv):Bool:=(List.range δ.length).all λj=>j==i||(match δ[j]? with | some (.ot _)=>false | some (.o2 _)=>false | some (.od _)=>false | _=>true)
def V9(i:Nat)(δ:List Sv)(d:DV)(c:Cl):Option Out:=match c with
 | .fresh=>some (.nx (δ.set i (.own d)))
 | .ft=>if noOt i δ then some (.nx (δ.set i (.ot d)))else none
 | _=>none
def retD(d:DV)(c:Cl):Out:=match c with
 | .ft=>.rtt d
 | _=>.rt d (frD d c)
def tryD(G:Gs)(c:Str)(ie ic:Nat)(r:Option Out):Option Out:=match r with
 | some (.ex c' δ')=>if(G.cls.lookup c').isSome/\L5 G c' c/\ie<δ'.length/\ie≠ic then some (.nx ((δ'.set ic (.val (.exc c'))).set ie .no))else none
 | o=>o
mutual
def evS(G:Gs)(F:Nat->List DV->Option Ou)(fu:Nat):MS->List Sv->Option Out
 | .set i own e,δ=>Re.thnS δ (evE G F e δ) λd c=>if own then V9 i δ d c else(if stro d c then some (.nx (δ.set i (.val d)))else none)
 | .app i e,δ=>match δ[i]? with
  | some (.own (.lst ds))=>Re.thnS δ (evE G F e δ) λd c=>if stro d c/\ds.length<mostLen then some (.nx (δ.set i (.own (.lst (ds++[d])))))else none
  | _=>none
 | .ext i e,δ=>match δ[i]? with
  | some (.own (.lst ds))=>Re.thnS δ (evE G F e δ) λd c=>if c=.strong\/c=.fresh then(match z0K d with
   | some (_,ys)=>if ds.length+ys.length<=mostLen then some (.nx (δ.set i (.own (.lst (ds++ys)))))else none
   | none=>none)else none
  | _=>none
 | .seti i k e,δ=>match δ[i]? with
  | some (.own (.lst ds))=>Re.thnS δ (evE G F e δ) λd c=>Re.thnS δ (evE G F k δ) λk _=>(match k with
   | .int k=>(match A4 ds.length k with
    | some j=>if stro d c then some (.nx (δ.set i (.own (.lst (ds.set j d)))))else none
    | none=>none)
   | _=>none)
  | _=>none
 | .clr i,δ=>match δ[i]? with
  | some (.own (.lst _))=>some (.nx (δ.set i (.own (.lst []))))
  | _=>none
 | .exp e,δ=>Re.thnS δ (evE G F e δ) λ_ _=>some (.nx δ)
 | .ret e,δ=>Re.thnS δ (evE G F e δ) λd c=>some (retD d c)
 | .iff c a b,δ=>Rt.thnS δ (tstD (evE G F c δ)) λk=>if k then evSs G F fu a δ else evSs G F fu b δ
 | .fo tg it body,δ=>Ri.thnS δ (j3 (evE G F it δ)) λds c=>if c=.strong\/c=.fresh then A9 tg (λδ'=>evSs G F fu body δ') ds δ else none
 | .retd i,δ=>match δ[i]? with
  | some (.od d)=>some (.rt (unT d) false)
  | _=>none
 | .sep i,δ=>if noOt i δ then some (.nx (δ.set i (.od (.tup [.dct [] []]))))else none
 | .dpp i ks e,δ=>match δ[i]? with
  | some (.od (.tup [.dct kk vs]))=>Re.thnS δ (evE G F e δ) λd _=>Rs.thnS δ (evEs G F ks δ) λl=>(dppD i δ kk vs l d).map Out.nx
  | _=>none
 | .rse c e,δ=>if(G.cls.lookup c).isSome then Re.thnS δ (evE G F e δ) λ_ _=>some (.ex c δ)else none
 | .tryc body c ie ic,δ=>tryD G c ie ic (evSs G F fu body δ)
 | .frz i,δ=>match δ[i]? with
  | some (.own d)=>some (.nx (δ.set i (.val d)))
  | _=>some (.nx δ)
def evSs(G:Gs)(F:Nat->List DV->Option Ou)(fu:Nat):List MS->List Sv->Option Out
 | [],δ=>some (.nx δ)
 | s::r,δ=>match evS G F fu s δ with
  | some (.nx δ')=>evSs G F fu r δ'
  | o=>o
end
def f8(n:Nat)(ds:List DV):List Sv:=ds.map Sv.val++List.replicate (n - ds.length) .no
def Ou.of(o:Option Out):Option Ou:=match o with
 | some (.nx _)=>some (.v .non false)
 | some (.rt d fr)=>some (.v d fr)
 | some (.rtt d)=>some (.t d)
 | some (.ex c _)=>some (.x c)
 | none=>none
def W0:Nat->DV->List DV->Option (DV×List DV)
 | 0,_,_=>none
 | k+1,d,l=>match d with
  | .tup [.str s,x]=>if decide (s = "end")&&d.plain 60&&DV.plains 59 l then(match l with
   | []=>some (d,[])
   | y::l'=>some (y,l'))else none
  | .tup [.str s,a,b,c,e]=>if decide (s ≠ "end")&&(s.cps.all (· < 0x110000))then(match W0 k c l with
   | none=>none
   | some (n,l1)=>match W0 k e l1 with
    | none=>none
    | some (y,l2)=>some (.tup [.str "ask",a,b,n,y],l2))else none
  | _=>none
def q9X(k:Nat)(f:Nat)(ds:List DV):Option Ou:=match ds with
 | [d,.lst l]=>if f=O7 then(W0 k d l).map (λr=>.v r.1 false)else none
 | _=>none
def run(G:Gs)(T:List FD)(fu:Nat):Nat->Nat->List DV->Option Ou
 | 0,_,_=>none
 | k+1,f,ds=>match T[f]? with
  | none=>q9X (k+1) f ds
  | some fd=>if ds.length=fd.np then Ou.of (evSs G (run G T fu k) fu fd.body (f8 fd.n ds))else none
end
section
section
variable {G:Gs} {F:Nat->List DV->Option Ou} {fu:Nat} {δ:List Sv}
theorem u6:Re.thn (some (.ok d c)) k=k d c:=rfl
theorem W1:Rs.thn (some (.ok l)) k=k l:=rfl
theorem q4T:Ri.thn (some (.ok ds c)) k=k ds c:=rfl
theorem z2E:Re.thnS δ (some (.ok d c)) k=k d c:=rfl
theorem z9W(h:evS G F fu m δ=some (.nx δ')):evSs G F fu (m::r) δ=evSs G F fu r δ':=by
 rw[show evSs G F fu (m::r) δ=(match evS G F fu m δ with | some (.nx δ')=>evSs G F fu r δ' | o=>o)from rfl,h]
theorem y0v(h:evS G F fu m δ=some (.rt d fr)):evSs G F fu (m::r) δ=some (.rt d fr):=by
 rw[show evSs G F fu (m::r) δ=(match evS G F fu m δ with | some (.nx δ')=>evSs G F fu r δ' | o=>o)from rfl,h]
theorem n6(h:T[f]? = some fd)(hl:ds.length=fd.np):run G T fu (k+1) f ds=Ou.of (evSs G (run G T fu k) fu fd.body (f8 fd.n ds)):=by
 show(match T[f]? with | none=>q9X (k+1) f ds | some fd=>if ds.length=fd.np then Ou.of (evSs G (run G T fu k) fu fd.body (f8 fd.n ds))else none)=_;rw[h];exact b8 hl
end
end
section
theorem q3T{g:DV->Option Rc}{p:DV->Bool}:∀{ds:List DV},(∀d∈ds,g d=some (if p d then .item d else .skip))->t9 g ds=some (ds.filter p)
 | [],_=>rfl
 | d::r,h=>by
  have h0:=h d (i8 ..);have ih:=q3T (ds:=r) (λd hd=>h d (i6 _ hd));unfold t9;rw[h0];cases hp:p d with
  | false=>rw[w2f (by rw[hp];exact v9)];exact ih
  | true=>
   rw[w1N hp];show(match t9 g r with | none=>none | some xs=>some (d::xs))=_;rw[ih]
theorem q4b:∀{ds:List DV},(∀d∈ds,g d=some (.item (f d)))->t9 g ds=some (ds.map f)
 | [],_=>rfl
 | d::r,h=>by have h0:=h d (i8 ..);have ih:=q4b (ds:=r) (λd hd=>h d (i6 _ hd));unfold t9;rw[h0];show(match t9 g r with | none=>none | some xs=>some (f d::xs))=_;rw[ih];rfl
theorem q9p(h:d∈upTo lo n):∃j:Nat,j<n/\d=.int (lo+j):=by
 unfold upTo at h;rw[f9]at h;obtain⟨j,hj,rfl⟩:=h;exact⟨j,s9.mp hj,rfl⟩
end
section
section
variable {G:Gs} {F:Nat->List DV->Option Ou} {fu:Nat} {δ δ':List Sv} {m:MS} {r a b body:List MS} {o:Option Out} {c it:ME} {d:DV} {fr:Bool} {tg:Tg} {ds:List DV} {cl:Cl}
theorem r6(h:evSs G F fu r δ=some (.rt d fr)):Ou.of (evSs G F fu r δ)=some (.v d fr):=by rw[h];rfl
theorem z7k(h:evSs G F fu r δ=some (.nx δ')):Ou.of (evSs G F fu r δ)=some (.v .non false):=by rw[h];rfl
theorem i5(h:evS G F fu m δ=some (.nx δ'))(h2:evSs G F fu r δ'=o):evSs G F fu (m::r) δ=o:=(z9W h).trans h2
theorem o6(h:evS G F fu m δ=some (.rt d fr)):evSs G F fu (m::r) δ=some (.rt d fr):=y0v h
theorem z0h(hc:tstD (evE G F c δ)=some (.ok bb)):evS G F fu (.iff c a b) δ=if bb then evSs G F fu a δ else evSs G F fu b δ:=by
 show Rt.thnS δ (tstD (evE G F c δ)) (λk=>if k then evSs G F fu a δ else evSs G F fu b δ)=_;rw[hc];rfl
theorem M6(hc:tstD (evE G F c δ)=some (.ok true))(h:evSs G F fu a δ=some (.nx δ'))(h2:evSs G F fu r δ'=o):evSs G F fu (.iff c a b::r) δ=o:=i5 ((z0h hc).trans h) h2
theorem q9t(hc:tstD (evE G F c δ)=some (.ok false))(h:evSs G F fu b δ=some (.nx δ'))(h2:evSs G F fu r δ'=o):evSs G F fu (.iff c a b::r) δ=o:=i5 ((z0h hc).trans h) h2
theorem y0e(hc:tstD (evE G F c δ)=some (.ok true))(h:evSs G F fu a δ=some (.rt d fr)):evSs G F fu (.iff c a b::r) δ=some (.rt d fr):=o6 ((z0h hc).trans h)
theorem w4(hc:tstD (evE G F c δ)=some (.ok false))(h2:evSs G F fu r δ=o):evSs G F fu (.iff c a []::r) δ=o:=q9t hc rfl h2
theorem G9(hw:j3 (evE G F it δ)=some (.ok ds cl))(hc:cl=.strong\/cl=.fresh)(h:A9 tg (λδ'=>evSs G F fu body δ') ds δ=some (.nx δ'))(h2:evSs G F fu r δ'=o):evSs G F fu (.fo tg it body::r) δ=o:=by
 refine i5 ?_ h2;show Ri.thnS δ (j3 (evE G F it δ)) (λds c=>if c=.strong\/c=.fresh then A9 tg (λδ'=>evSs G F fu body δ') ds δ else none)=_;rw[hw];show(if cl=.strong\/cl=.fresh then A9 tg (λδ'=>evSs G F fu body δ') ds δ else none)=_;rw[b8 hc];exact h
theorem j7(h:evE G F e δ=some (.ok d cl))(hs:stro d cl=true):evS G F fu (.set i false e) δ=some (.nx (δ.set i (.val d))):=by
 show Re.thnS δ (evE G F e δ) (λd c=>if false then V9 i δ d c else(if stro d c then some (.nx (δ.set i (.val d)))else none))=_;rw[h];show(if stro d cl then some (Out.nx (δ.set i (.val d)))else none)=_;rw[b8 hs]
theorem q6U(h:evE G F e δ=some (.ok d .fresh)):evS G F fu (.set i true e) δ=some (.nx (δ.set i (.own d))):=by
 show Re.thnS δ (evE G F e δ) (λd c=>if true then V9 i δ d c else(if stro d c then some (.nx (δ.set i (.val d)))else none))=_;rw[h];rfl
theorem x5(h:evE G F e δ=some (.ok d cl))(hc:cl ≠ .ft:=by first | decide | (intro z;cases z)):evS G F fu (.ret e) δ=some (.rt d (frD d cl)):=by
 show Re.thnS δ (evE G F e δ) (λd c=>some (retD d c))=_;rw[h];show some (retD d cl)=_;cases cl<;>first | rfl | exact absurd rfl hc
theorem z1V(h:evE G F e δ=some (.ok d cl)):evS G F fu (.exp e) δ=some (.nx δ):=by
 show Re.thnS δ (evE G F e δ) (λ_ _=>some (.nx δ))=_;rw[h];rfl
theorem j5(ha:evEs G F es δ=some (.ok l))(hs:(l.all λp=>p.2 == .strong||p.2 == .fresh)=true)(h:F f (l.map (·.1))=some (.v d fr)):evE G F (.call f es) δ=some (.ok d (if fr then .fresh else .strong)):=by
 show Rs.thn (evEs G F es δ) (λl=>A5 F f l)=_;rw[ha];show A5 F f l=_;unfold A5;rw[h,hs];rfl
theorem z4f(ha:evEs G F es δ=some (.ok l))(hs:(l.all λp=>p.2 == .strong||p.2 == .fresh)=false)(h:F f (l.map (·.1))=some (.v d fr)):evE G F (.call f es) δ=some (.ok d .weak):=by
 show Rs.thn (evEs G F es δ) (λl=>A5 F f l)=_;rw[ha];show A5 F f l=_;unfold A5;rw[h,hs];rfl
theorem j8(h:evE G F e δ=some (.ok (.bl x) cl)):tstD (evE G F e δ)=some (.ok x):=by rw[h];rfl
theorem R7(h:evE G F e δ=some (.ok (.bl x) cl)):evE G F (.not e) δ=some (.ok (.bl (!x)) .strong):=by
 show Re.thn (evE G F e δ) (λx _=>(C2 x).map λk=>.ok (.bl (!k)) .strong)=_;rw[h];rfl
end
end
section
section
variable {G:Gs} {F:Nat->List DV->Option Ou} {fu:Nat} {δ δ':List Sv} {a b:ME} {x y:DV} {cx cy:Cl}
theorem F0(ha:evE G F a δ=some (.ok x cx))(hb:evE G F b δ=some (.ok y cy))(h:binD op x y cx cy=r):evE G F (.bin op a b) δ=r:=by
 show Re.thn (evE G F a δ) (λx cx=>Re.thn (evE G F b δ) λy cy=>binD op x y cx cy)=_;rw[ha,u6,hb,u6,h]
theorem O8(ha:evE G F a δ=some (.ok x cx))(hb:evE G F b δ=some (.ok y cy))(h:cmpD op x y=some t):evE G F (.cmp op a b) δ=some (.ok (.bl t) .strong):=by
 show Re.thn (evE G F a δ) (λx _=>Re.thn (evE G F b δ) λy _=>(cmpD op x y).map λk=>.ok (.bl k) .strong)=_;rw[ha,u6,hb,u6,h];rfl
theorem u0(ha:evE G F a δ=some (.ok x cx))(hb:evE G F b δ=some (.ok y cy))(h:ixD x y=some d):evE G F (.ix a b) δ=some (.ok d cx.item):=by
 show Re.thn (evE G F a δ) (λx cx=>Re.thn (evE G F b δ) λy _=>(ixD x y).map λd=>.ok d cx.item)=_;rw[ha,u6,hb,u6,h];rfl
theorem i4:evEs G F [] δ=some (.ok []):=rfl
theorem d6(ha:evE G F a δ=some (.ok x cx))(h:evEs G F es δ=some (.ok l)):evEs G F (a::es) δ=some (.ok ((x,cx)::l)):=by
 unfold evEs;rw[ha,h]
end
end
section
section
variable {G:Gs} {F:Nat->List DV->Option Ou} {fu:Nat} {δ δ':List Sv} {a b c e:ME} {x y d:DV} {cx cy cl:Cl} {i:Nat} {ds:List DV}
theorem z5h(h0:δ[i]? = some (.own (.lst ds)))(h:evE G F e δ=some (.ok d cl))(hs:stro d cl=true)(hl:ds.length<mostLen):evS G F fu (.app i e) δ=some (.nx (δ.set i (.own (.lst (ds++[d]))))):=by
 unfold evS;rw[h0];show Re.thnS δ (evE G F e δ) (λd c=>if stro d c/\ds.length<mostLen then some (.nx (δ.set i (.own (.lst (ds++[d])))))else none)=_;rw[h];exact b8 ⟨hs,hl⟩
theorem z7r(h0:δ[i]? = some (.own (.lst ds)))(h:evE G F e δ=some (.ok d cl))(hk:evE G F k δ=some (.ok (.int n) cx))(hs:stro d cl=true)(hj:A4 ds.length n=some j):evS G F fu (.seti i k e) δ=some (.nx (δ.set i (.own (.lst (ds.set j d))))):=by
 unfold evS;rw[h0];show Re.thnS δ (evE G F e δ) (λd c=>Re.thnS δ (evE G F k δ) λk _=>(match k with | .int k=>(match A4 ds.length k with | some j=>if stro d c then some (.nx (δ.set i (.own (.lst (ds.set j d)))))else none | none=>none) | _=>none))=_;rw[h,z2E,hk,z2E];show(match A4 ds.length n with | some j=>if stro d cl then some (Out.nx (δ.set i (.own (.lst (ds.set j d)))))else none | none=>none)=_;rw[hj];exact b8 hs
end
end
section
section
variable {G:Gs} {F:Nat->List DV->Option Ou} {fu:Nat} {δ δ':List Sv} {a b c e:ME} {x y d:DV} {cx cy cl:Cl} {i:Nat} {ds:List DV}
theorem L6{I:Nat->List Sv->Prop}{body:List Sv->Option Out}:∀(n:Nat) (lo:Int) {δ:List Sv},(∀j<n,∀δ,I j δ->∃δ2,body (δ.set i (.val (.int (lo+j))))=some (.nx δ2)/\I (j+1) δ2)->I 0 δ->∃δ',A9 (.one i) body (upTo lo n) δ=some (.nx δ')/\I n δ'
 | 0,_,δ,_,i0=>⟨δ,rfl,i0⟩
 | n+1,lo,δ,h,i0=>by
  have e:upTo lo (n+1)=.int lo::upTo (lo+1) n:=by
   unfold upTo;rw[List.range_succ_eq_map,y0,j4]
   congr 1
   ·congr 1;omega
   ·apply G5;intro a _;show DV.int _=DV.int _
    congr 1
    push_cast
    omega
  obtain⟨δ2,h0,i1⟩:=h 0 (by omega) δ i0;rw[show lo+((0:Nat):Int)=lo by omega]at h0;obtain⟨δ',h1,i2⟩:=L6 (I:=λj=>I (j+1)) n (lo+1) (δ:=δ2) (λj hj δ q=>by
   obtain⟨δ3,q1,q2⟩:=h (j+1) (by omega) δ q;refine⟨δ3,?_,q2⟩;rw[show lo+1+((j:Nat):Int)=lo+((j+1:Nat):Int) by push_cast;omega];exact q1) i1
  refine⟨δ',?_,i2⟩;rw[e];show(match body (δ.set i (.val (.int lo)))with | some (.nx δ2)=>A9 (.one i) body (upTo (lo+1) n) δ2 | o=>o)=_;rw[h0];exact h1
theorem z4B(hw:j3 (evE G F it δ)=some (.ok ds cl))(hc:cl ≠ .weak)(hl:ds.length<=mostLen)
  (h:∀d∈ds,∃δ',tg.bind d (t4 fr δ)=some δ'/\tstD (evE G F cd δ')=some (.ok (p d))/\evE G F elt δ'=some (.ok d .strong)):evE G F (.compi elt tg it cd fr) δ=some (.ok (.lst (ds.filter p)) .fresh):=by
 show Ri.thn (j3 (evE G F it δ)) (λds c=>if c=.weak\/mostLen<ds.length then none else G8 (t9 (λd=>(tg.bind d (t4 fr δ)).bind λδ'=>Rc.test (tstD (evE G F cd δ')) (Rc.of (evE G F elt δ'))) ds))=_;rw[hw,q4T,d7 (by rintro(z | z);exact hc z;omega),q3T (p:=p) (λd hd=>?_)]
 ·rfl
 ·obtain⟨δ',e1,e2,e3⟩:=h d hd;rw[e1,J7,e2,e3];cases p d<;>rfl
theorem z7V(hw:j3 (evE G F it δ)=some (.ok ds cl))(hc:cl ≠ .weak)(hl:ds.length<=mostLen)
  (h:∀d∈ds,∃δ',tg.bind d (t4 fr δ)=some δ'/\evE G F elt δ'=some (.ok (f d) .strong)):evE G F (.comp elt tg it fr) δ=some (.ok (.lst (ds.map f)) .fresh):=by
 show Ri.thn (j3 (evE G F it δ)) (λds c=>if c=.weak\/mostLen<ds.length then none else G8 (t9 (λd=>(tg.bind d (t4 fr δ)).bind λδ'=>Rc.of (evE G F elt δ')) ds))=_;rw[hw,q4T,d7 (by rintro(z | z);exact hc z;omega),q4b (f:=f) (λd hd=>?_)]
 ·rfl
 ·obtain⟨δ',e1,e2⟩:=h d hd;rw[e1,J7,e2];rfl
theorem z9R{l:List Int}{j:Nat}(h:j<l.length):ixD (.lst (l.map DV.int)) (.int j)=some (.int l[j]):=by
 have hh:(j:Int)<((l.map DV.int).length:Int):=by rw[d5];exact_mod_cast h
 simp only[ixD,atD,A4,b8 (D6 j),b8 hh,J7,x9,n9,p7 h,J9]
theorem z4X{l:List Int}{i:Int}(h0:0<=i)(h:i<l.length):∃v,ixD (.lst (l.map DV.int)) (.int i)=some (.int v):=by
 obtain⟨j,rfl⟩:=Int.eq_ofNat_of_zero_le h0;exact⟨_,z9R (by omega)⟩
end
end
section
section
variable {G:Gs} {F:Nat->List DV->Option Ou} {fu:Nat} {δ δ':List Sv} {r body:List MS} {it:ME} {cl:Cl} {ds:List DV} {tg:Tg} {o:Option Out}
end
end
section
section
variable {G:Gs} {F:Nat->List DV->Option Ou} {fu:Nat} {δ δ':List Sv} {a b:ME} {i j:Int} {cx cy:Cl}
theorem i3:evE G F (.int i) δ=some (.ok (.int i) .strong):=rfl
theorem b7(h:δ[n]? = some (.val d)):evE G F (.var n) δ=some (.ok d .strong):=by unfold evE;rw[h]
theorem q5i(h:δ[n]? = some (.own d)):evE G F (.var n) δ=some (.ok d .top):=by unfold evE;rw[h]
theorem H9(ha:evE G F a δ=some (.ok (.int i) cx))(hb:evE G F b δ=some (.ok (.int j) cy)):evE G F (.bin .Add a b) δ=some (.ok (.int (i+j)) .strong):=F0 ha hb rfl
theorem L7(ha:evE G F a δ=some (.ok (.int i) cx))(hb:evE G F b δ=some (.ok (.int j) cy)):evE G F (.bin .Sub a b) δ=some (.ok (.int (i - j)) .strong):=F0 ha hb rfl
theorem R8(ha:evE G F a δ=some (.ok (.int i) cx))(hb:evE G F b δ=some (.ok (.int j) cy))(h:F9 i j=true):evE G F (.bin .Mult a b) δ=some (.ok (.int (i*j)) .strong):=F0 ha hb (b8 h)
theorem B5(ha:evE G F a δ=some (.ok (.int i) cx))(hb:evE G F b δ=some (.ok (.int j) cy))(h:0<j):evE G F (.bin .Mod a b) δ=some (.ok (.int (i%j)) .strong):=F0 ha hb (b8 h)
theorem z7S(ha:evE G F a δ=some (.ok (.int i) cx))(hb:evE G F b δ=some (.ok (.int j) cy))(h:0<j/\j<1073741824):evE G F (.bin .FloorDiv a b) δ=some (.ok (.int (i/j)) .strong):=F0 ha hb (b8 ⟨h.1,Int.lt_trans h.2 (by decide)⟩)
theorem b_eq(ha:evE G F a δ=some (.ok (.int i) cx))(hb:evE G F b δ=some (.ok (.int j) cy)):evE G F (.cmp .Eq a b) δ=some (.ok (.bl (i==j)) .strong):=O8 ha hb rfl
theorem b_lt(ha:evE G F a δ=some (.ok (.int i) cx))(hb:evE G F b δ=some (.ok (.int j) cy)):evE G F (.cmp .Lt a b) δ=some (.ok (.bl (decide (i<j))) .strong):=O8 ha hb rfl
end
end
section
section
variable {G:Gs} {F:Nat->List DV->Option Ou} {fu:Nat} {δ δ':List Sv} {es:List ME} {l:List (DV×Cl)}
theorem z5q:evE G F (.str x) δ=some (.ok (.str x) .strong):=rfl
theorem E3(h:evEs G F es δ=some (.ok l))(hl:l.length<=mostLen)(hs:stros l=true):evE G F (.tup es) δ=some (.ok (.tup (l.map (·.1))) .strong):=by
 show Rs.thn (evEs G F es δ) (λl=>if l.length<=mostLen then some (.ok (.tup (l.map (·.1))) (if stros l then .strong else .weak))else none)=_;rw[h,W1,b8 hl,hs];rfl
end
end
section
end
section
end
section
def Rise(xs:Array Nat):Prop:=∀(i k x y:Nat),i<k->xs[i]? = some x->xs[k]? = some y->x<y
theorem q9n(hr:Rise xs):∀(fuel lo hi:Nat),lo<=hi->hi<=xs.size->hi - lo<=fuel ->
  (∀i x,i<lo->xs[i]? = some x->x<j)->(∀i x,hi<=i->xs[i]? = some x->j<=x) ->
  (∀i x,i<SetTable.below.go xs j fuel lo hi->xs[i]? = some x->x<j)/\(∀i x,SetTable.below.go xs j fuel lo hi<=i->xs[i]? = some x->j<=x):=by
 intro fuel
 induction fuel with
 | zero=>
  intro lo hi h1 h2 h3 h4 h5;have:lo=hi:=by omega
  subst this;exact⟨h4,h5⟩
 | succ n ih=>
  intro lo hi h1 h2 h3 h4 h5;unfold SetTable.below.go;by_cases hlt:lo<hi
  ·rw[b8 hlt];have hm:(lo+hi)/2<hi:=by omega
   have hm2:lo<=(lo+hi)/2:=by omega
   have hms:(lo+hi)/2<xs.size:=by omega
   have hg:xs[(lo+hi)/2]? = some xs[(lo+hi)/2]:=N6 hms;have hgd:xs.getD ((lo+hi)/2) j=xs[(lo+hi)/2]:=(by rw[w1D,hg];rfl);dsimp only;rw[hgd];by_cases hc:xs[(lo+hi)/2]<j
   ·rw[b8 hc];refine ih _ _ (by omega) h2 (by omega) (λi x hi' hx=>?_) h5;rcases Q8 i ((lo+hi)/2)with q | q
    ·exact w3O (hr i _ x _ q hx hg) hc
    ·have e:i=(lo+hi)/2:=by omega
     subst e;rw[hg]at hx;cases hx;exact hc
   ·rw[d7 hc];refine ih _ _ hm2 (by omega) (by omega) h4 λi x hi' hx=>?_
    rcases Q8 ((lo+hi)/2) i with q | q
    ·exact i7 (w3L hc) (w23 (hr _ i _ x q hg hx))
    ·have e:i=(lo+hi)/2:=by omega
     subst e;rw[hg]at hx;cases hx;exact w3L hc
  ·rw[d7 hlt];have:lo=hi:=by omega
   subst this;exact⟨h4,h5⟩
theorem q6j(hr:Rise xs)(h:i<SetTable.below xs j)(hx:xs[i]? = some x):x<j:=
 (q9n (j:=j) hr xs.size 0 xs.size (A7 _) (e9 _) (by omega) (λi x h=>by omega) λi x h hx=>by
  rw[K7 h]at hx;cases hx).1 i x h hx
theorem q4I(hr:Rise xs)(h:SetTable.below xs j<=i)(hx:xs[i]? = some x):j<=x:=
 (q9n (j:=j) hr xs.size 0 xs.size (A7 _) (e9 _) (by omega) (λi x h=>by omega) λi x h hx=>by
  rw[K7 h]at hx;cases hx).2 i x h hx
theorem q7Y:∀(fuel lo hi:Nat),lo<=hi->SetTable.below.go xs j fuel lo hi<=hi:=by
 intro fuel
 induction fuel with
 | zero=>intro lo hi h;exact h
 | succ n ih=>
  intro lo hi h;unfold SetTable.below.go;dsimp only;split
  ·split
   ·exact ih _ _ (by omega)
   ·exact i7 (ih _ _ (by omega)) (by omega)
  ·exact h
theorem q9C:SetTable.below xs j<=xs.size:=q7Y _ _ _ (A7 _)
theorem q9S(hr:Rise xs)(hx:xs[i]? = some x):SetTable.below xs (x+1)=i+1:=by
 have hi:i<xs.size:=by
  rcases Q8 i xs.size with h | h
  ·exact h
  ·rw[K7 h]at hx;cases hx
 rcases Nat.lt_trichotomy (SetTable.below xs (x+1)) (i+1)with h | h | h
 ·have:=q4I hr (j:=x+1) (Nat.le_of_lt_succ h) hx;omega
 ·exact h
 ·have h2:SetTable.below xs (x+1)<=xs.size:=q9C;have h3:i+1<xs.size:=by omega
  have hy:xs[i+1]? = some xs[i+1]:=N6 h3;have a:=q6j hr (j:=x+1) h hy;have b:=hr i (i+1) x _ (U7 _) hx hy;omega
theorem z0o(hr:Rise xs):SetTable.below xs 0=0:=by
 rcases w3p (SetTable.below xs 0)with h | h
 ·exact h
 ·have h2:SetTable.below xs 0<=xs.size:=q9C;have h3:0<xs.size:=by omega
  have hy:xs[0]? = some xs[0]:=N6 h3;have a:=q6j hr (j:=0) h hy;omega
theorem Rise.empty:Rise #[]:=λi k x y _ hx=>by simp at hx
theorem Rise.range(n:Nat):Rise (Array.range n):=λi k x y h hx hy=>by
 rw[Array.getElem?_range]at hx hy;split at hx
 ·split at hy
  ·cases hx;cases hy;exact h
  ·cases hy
 ·cases hx
theorem q6Z{l:List Nat}(h:l.Pairwise (· < ·)):Rise l.toArray:=λi k x y hik hx hy=>by
 have hx':l[i]? = some x:=by simpa using hx
 have hy':l[k]? = some y:=by simpa using hy
 obtain⟨hi,ei⟩:=u5.mp hx';obtain⟨hk,ek⟩:=u5.mp hy';rw[←ei,←ek];exact w3E.mp h i k hi hk hik
theorem z5Q(h:Rise xs):xs.toList.Pairwise (· < ·):=by
 refine w3E.mpr λi k hi hk hik=>?_;exact h i k _ _ hik (by rw[←F4];exact p7 hi) (by rw[←F4];exact p7 hk)
structure Tab(t:SetTable)(b:Bool):Prop where
 rise:Rise t.place
 dum:t.dummies = #[]
 led:t.led=b
theorem Tab.fresh(b:Bool):Tab (SetTable.fresh 0 0 b) b:=⟨Rise.empty,rfl,rfl⟩
theorem Tab.standIn(h:Tab t b)(n:Nat):Tab (t.standIn n) b:=⟨Rise.range n,rfl,h.led⟩
theorem q6N(j:Nat):SetTable.has #[] j=false:=by
 unfold SetTable.has;simp
theorem z3n(h:Tab t b)(f:Nat->Int)(z:Int):∀(fuel:Nat) (p:SetTable.Probe) (j:Nat) (d:Option Nat),p.dummy=none->SetTable.probe.go t f z fuel p=some (.empty j d)->d=none/\t.slot j=.empty:=by
 intro fuel
 induction fuel with
 | zero=>intro p j d hp e;cases e
 | succ n ih=>
  intro p j d hp e;unfold SetTable.probe.go at e;cases hs:t.slot p.j with
  | empty=>rw[hs]at e;cases e;exact⟨hp,hs⟩
  | dummy=>
   unfold SetTable.slot at hs;rw[h.dum,q6N]at hs;dsimp only at hs;split at hs
   ·cases hs
   ·cases hs
  | live i=>
   rw[hs]at e;dsimp only at e;split at e
   ·cases e
   ·refine ih _ j d ?_ e;unfold SetTable.advance;split
    ·exact hp
    ·exact hp
theorem q5A(h:Tab t b)(e:t.freeSlot z=some (j,w)):t.slot j=.empty:=by
 unfold SetTable.freeSlot at e;split at e
 ·rename_i j' d hp;obtain⟨hd,hs⟩:=z3n h _ _ _ _ _ _ rfl hp;subst hd;cases e;exact hs
 ·cases e
theorem Tab.put(h:Tab t b)(hs:t.slot j=.empty):Tab (t.put j).1 b:=by
 have hn:t.place[SetTable.below t.place j]? ≠ some j:=λz=>by unfold SetTable.slot at hs;dsimp only at hs;rw[z]at hs;simp at hs
 refine⟨?_,?_,h.led⟩
 ·show Rise (SetTable.insertAt t.place (SetTable.below t.place j) j);have e:(SetTable.insertAt t.place (SetTable.below t.place j) j).toList=_:=SetTable.toList_insertAt _ _ _;have pw:=z5Q h.rise;have:(SetTable.insertAt t.place (SetTable.below t.place j) j).toList.Pairwise (· < ·):=by
   rw[e,w28];refine⟨pw.sublist (List.take_sublist _ _),F5.mpr ⟨λy hy=>?_,pw.sublist (List.drop_sublist _ _)⟩,λx hx y hy=>?_⟩
   ·obtain⟨i,hi⟩:=Y5.mp hy;rw[w3q,F4]at hi;rcases Nat.lt_or_eq_of_le (q4I h.rise (j:=j) (Nat.le_add_right _ _) hi)with q | q
    ·exact q
    ·exfalso;subst q;rcases w3p i with z | z
     ·subst z;exact hn hi
     ·have hb:SetTable.below t.place j<t.place.size:=by
       rcases Q8 (SetTable.below t.place j+i) t.place.size with q | q
       ·omega
       ·rw[K7 q]at hi;cases hi
      have hg:t.place[SetTable.below t.place j]? = some t.place[SetTable.below t.place j]:=N6 hb;have a:=q4I h.rise (j:=j) (e9 _) hg;have c:=h.rise _ _ _ _ (show SetTable.below t.place j<SetTable.below t.place j+i by omega) hg hi;omega
   ·have hx':x<j:=by
     obtain⟨i,hi⟩:=Y5.mp hx;rw[List.getElem?_take]at hi;split at hi
     ·rw[F4]at hi;exact q6j h.rise (by assumption) hi
     ·cases hi
    rcases e8.mp hy with q | q
    ·rw[q];exact hx'
    ·obtain⟨i,hi⟩:=Y5.mp q;rw[w3q,F4]at hi;exact u4 hx' (q4I h.rise (j:=j) (Nat.le_add_right _ _) hi)
  have r:=q6Z this
  rwa [Array.toArray_toList]at r
 ·show(if SetTable.has t.dummies j then _ else t.dummies) = #[];rw[h.dum,q6N];rfl
theorem Tab.orStandIn(h:Tab t b)(n:Nat):Tab (t.orStandIn n) b:=by
 unfold SetTable.orStandIn;split
 ·exact h
 ·exact h.standIn n
theorem Tab.layNew(h:Tab t b)(es:Array (Int×Value))(z:Int)(x:Value):Tab (layNew t es z x).2.1 b:=by
 unfold PySem.layNew;split
 ·rename_i j w e;exact(h.put (q5A h e)).orStandIn _
 ·exact h.standIn _
theorem q1s{f:Nat->Option Nat}:∀{l:List Nat},l.Pairwise (· < ·)->((l.filterMap λj=>(f j).map (j,·)).map (·.1)).Pairwise (· < ·)
 | [],_=>.nil
 | a::l,h=>by
  obtain⟨h1,h2⟩:=F5.mp h;have ih:=q1s (f:=f) h2;rw[w2E];cases e:f a with
  | none=>exact ih
  | some c=>
   refine F5.mpr ⟨λy hy=>?_,ih⟩;obtain⟨p,hp,rfl⟩:=f9.mp hy;obtain⟨j,hj,e2⟩:=w2J.mp hp;cases e3:f j with
   | none=>rw[e3]at e2;cases e2
   | some c2=>rw[e3]at e2;cases e2;exact h1 j hj
theorem Tab.relayAll(h:Tab t b)(es:Array (Int×Value))(n:Nat):Tab (relayAll t es n).2.1 b:=by
 unfold PySem.relayAll;split
 ·rename_i t' order e;dsimp only;split
  ·show Tab t' b;unfold SetTable.relaid SetTable.laid at e;cases hl:SetTable.layClean (SetTable.sizeAbove n - 1) (es.map (·.1))with
   | none=>rw[hl]at e;cases e
   | some owner=>
    rw[hl]at e;cases e;exact⟨q6Z (q1s (w2V)),rfl,h.led⟩
  ·exact h.standIn _
 ·exact h.standIn _
theorem q4j{α:Type}{x:α}:∀{l:List α} {i:Nat} (h:i<l.length),l[i]=x->(x::l.eraseIdx i).Perm l
 | [],i,h,_=>by cases h
 | a::l,0,_,e=>by have e:a=x:=e;subst e;exact .rfl
 | a::l,i+1,h,e=>by rw[List.eraseIdx_cons_succ];exact(List.Perm.swap a x _).trans (List.Perm.cons a (q4j (l:=l) (i:=i) (by simpa using h) (by simpa using e)))
theorem q7t(next:Nat->Nat):∀(fuel k:Nat) (left:List α) (out:Array α),left.length<=fuel->(pickOrder.go next fuel k left out).toList.Perm (out.toList++left):=by
 intro fuel
 induction fuel with
 | zero=>
  intro k left out h;have:left=[]:=w1O.mp (by omega);subst this;unfold pickOrder.go;rw[B3]
 | succ n ih=>
  intro k left out h;unfold pickOrder.go;cases e:left[next k%left.length]? with
  | none=>
   dsimp only;have:left=[]:=by
    cases left with
    | nil=>rfl
    | cons a r=>
     have hlt:next k%(a::r).length<(a::r).length:=Nat.mod_lt _ (by simp);rw[p7 hlt]at e;cases e
   subst this;rw[B3]
  | some x=>
   dsimp only;obtain⟨hlt,hx⟩:=u5.mp e;have hle:(left.eraseIdx (next k%left.length)).length<=n:=(by rw[List.length_eraseIdx,b8 hlt];omega);refine(ih _ _ _ hle).trans ?_;rw[Array.toList_push,J3];refine List.Perm.append_left _ ?_;exact q4j hlt hx
theorem q3s(next:Nat->Nat)(xs:Array α):(pickOrder next xs).toList.Perm xs.toList:=by
 unfold pickOrder;exact(q7t next xs.size 0 xs.toList #[] (by simp)).trans (by simp)
end
section
def I0:Value->Int
 | .int n _=>n
 | _=>0
def B0(w:World):Bool:=w.params.followText "set-order"
def SetI(prog:Program)(w:World)(h:Heap)(a:Addr)(ks:List Int):Prop:=
 ∃o es ep t,h.get? a=some o/\o.ExactSet/\o.data=.set es ep t/\ElemsOf (intKind prog w) es.toList/\(es.toList.map λe=>I0 e.2).Perm ks/\es.size<scanBound/\t.fits es.size=true/\Tab t (!B0 w)
section
variable {prog:Program} {w:World} {A:Around} {E:Value->Shared->Prop} {s:Shared} {a:Addr} {ks:List Int}
theorem q9f(h:ElemsOf (intKind prog w) es)(he:e∈es):∃t,e.2=.int (I0 e.2) t:=by
 obtain⟨⟨k,hk,_⟩,_⟩:=h e he;obtain⟨t,q⟩:=Value.isInt_shape hk;exact⟨t,by rw[q];rfl⟩
theorem z2U(h:ElemsOf (intKind prog w) es)(he:e∈es)(k:Int):(intKind prog w).is k e.2=true↔I0 e.2=k:=by
 obtain⟨t,q⟩:=q9f h he;rw[q];show Value.isInt k (.int (I0 e.2) t)=true↔_;simp[Value.isInt,I0]
theorem SetI.at(x:SetI prog w h a ks)(k:∀o,h.get? a=some o->h'.get? a=some o):SetI prog w h' a ks:=by
 obtain⟨o,es,ep,t,ho,r⟩:=x;exact⟨o,es,ep,t,k o ho,r⟩
theorem z5m{h:Heap}{o:Obj}{es es':Array (Int×Value)}{ep:Nat}{t t':SetTable}(ho:h.get? a=some o)(hd:o.data=.set es ep t) :
  (h.update a (Obj.putSet es' t')).get? a=some {o with data:=.set es' (ep+1) t'}:=by
 have q:=Y4 (Obj.putSet es' t') ho (by rw[putSet_of es' t' hd];rfl)
 rwa [putSet_of es' t' hd]at q
theorem z7z{k:Int}{tk:Tok}{Q:Option Bool->Shared->Prop}{o:Obj}{es:Array (Int×Value)}{ep:Nat}{t:SetTable}(ho:s.heap.get? a=some o)(hx:o.ExactSet)(hd:o.data=.set es ep t)
  (hel:ElemsOf (intKind prog w) es.toList) (hp:(es.toList.map λe=>I0 e.2).Perm ks) (hb:es.size+1<scanBound) (ht:Tab t (!B0 w))
  {es1:Array (Int×Value)} {t1:SetTable} (p1:es1.toList.Perm (es.toList++[(hashInt k,Value.int k tk)])) (f1:t1.fits es1.size=true) (g1:Tab t1 (!B0 w)) (wd:Bool) {g:Bool->Sem Unit}
  (hg:∀(b:Bool) (s₁:Shared) (Q':Unit->Shared->Prop),Q' () s₁->wpAny (model prog w) A (g b) Q' E s₁)
  (h:∀h',Heap.SameBut a s.heap h'->SetI prog w h' a (ks++[k])->Q (some true) {s with heap:=h'}) :
  wpAny (model prog w) A (do
   storeSet a es1 t1
   if(!wd&&t1.tooFull)=true then do
    g (relayAll t1 es1 (SetTable.grown es1.size)).2.2
    storeSet a (relayAll t1 es1 (SetTable.grown es1.size)).1 (relayAll t1 es1 (SetTable.grown es1.size)).2.1
    pure (some true)
   else pure (some true)) Q E s:=by
 have z1:es1.size=es.size+1:=(by have:=p1.length_eq;rw[p9,x3,x3]at this;exact this);have e1:ElemsOf (intKind prog w) es1.toList:=(hel.push (intKind_is prog w k tk) rfl).perm p1;have m1:(es1.toList.map λe=>I0 e.2).Perm (ks++[k]):=(by refine(p1.map _).trans ?_;rw[z9];exact hp.append_right _);have b1:es1.size<scanBound:=by omega
 refine b6 (wpAny_storeSet_of ho hd ?_ (w3A b1));have o1:=z5m (es':=es1) (t':=t1) ho hd;have sb:=P9 s.heap a (Obj.putSet es1 t1);split
 ·have p2:=relayAll_perm t1 es1 (SetTable.grown es1.size);have f2:=relayAll_fits t1 es1 (SetTable.grown es1.size);have g2:=g1.relayAll es1 (SetTable.grown es1.size);generalize relayAll t1 es1 (SetTable.grown es1.size)=R at p2 f2 g2 ⊢;have z2:R.1.size=es1.size:=by
   have:=p2.length_eq
   rwa [x3,x3]at this
  have b2:R.1.size<scanBound:=by omega
  refine b6 (hg _ _ _ ?_);refine b6 (wpAny_storeSet_of o1 rfl ?_ (w3A b2));refine d4 (h _ (sb.trans (P9 _ a _)) ?_);exact⟨_,R.1,_,R.2.1,z5m o1 rfl,hx,rfl,e1.perm p2,(p2.map _).trans m1,b2,f2,g2⟩
 ·refine d4 (h _ sb ?_);exact⟨_,es1,_,t1,o1,hx,rfl,e1,m1,b1,f1,g1⟩
theorem z8A(hS:SetI prog w s.heap a ks)(hr:ks.length+1<scanBound)
  (h:∀h' b,Heap.SameBut a s.heap h'->SetI prog w h' a (dk ks k)->Q b {s with heap:=h'}) :
  wpAny (model prog w) A (setAddHashed a (.int k tk) (hashInt k)) Q E s:=by
 obtain⟨o,es,ep,t,ho,hx,hd,hel,hp,hb,hf,ht⟩:=id hS;have hz:es.size=ks.length:=by
  have:=hp.length_eq
  rwa [d5,x3]at this
 have hq:∀(b:Bool) (s₁:Shared) (Q':Unit->Shared->Prop),Q' () s₁->wpAny (model prog w) A (match b with | true=>rule "set.scan.the-table-gave-way" | false=>pure ()) Q' E s₁:=λb s₁ Q' q=>by
  cases b with
  | true=>exact wpAny_rule q
  | false=>exact d4 q
 unfold setAddHashed setAddHashedIn;refine E9 (b6 (Y7 ho hd hf ?_));dsimp only;rw[byScan_of (knd:=intKind prog w) (x:=.int k tk) rfl hb hel,b8 rfl];unfold setAddByScan;refine b6 (b6 (wpAny_rule (b6 ?_)));refine wpAny_setScan_of (knd:=intKind prog w) (intKind_is prog w k tk) ho hd hf hel ?_;cases hi:es.toList.findIdx? (λe=>(intKind prog w).is k e.2)with
 | some j=>
  obtain⟨hj,hk,_⟩:=List.findIdx?_eq_some_iff_getElem.mp hi;have hm:k∈ks:=hp.mem_iff.mp (f9.mpr ⟨es.toList[j],Z1 hj,(z2U hel (Z1 hj) k).mp hk⟩);have hd':dk ks k=ks:=by unfold dk;rw[b8 hm]
  refine d4 (d4 ?_);have:=h s.heap false (Heap.SameBut.refl a s.heap) (by rw[hd'];exact hS);exact this
 | none=>
  have hm:k∉ks:=λz=>by obtain⟨e,he,q⟩:=f9.mp (hp.mem_iff.mpr z);have:=List.findIdx?_eq_none_iff.mp hi e he;rw[(z2U hel he k).mpr q]at this;cases this
  have hd':dk ks k=ks++[k]:=(by unfold dk;rw[d7 hm]);rw[hd']at h;dsimp only;have p1:=layNew_perm t es (hashInt k) (.int k tk);have f1:=layNew_fits t es (hashInt k) (.int k tk);have g1:=ht.layNew es (hashInt k) (.int k tk);show wpAny _ _ _ _ _ _
  change wpAny (model prog w) A (match layNew t es (hashInt k) (.int k tk)with | (es,t,wasDummy,gave)=>_) _ _ _
  generalize layNew t es (hashInt k) (.int k tk)=L at p1 f1 g1 ⊢;obtain⟨es1,t1,wd,gv⟩:=L;rw[Array.toList_push]at p1;dsimp only at p1 f1 g1 ⊢;refine b6 (hq gv _ _ ?_);have fin:∀t2:SetTable,t2.fits es1.size=true->Tab t2 (!B0 w)->wpAny (model prog w) A (do
   storeSet a es1 t2
   if(!wd&&t2.tooFull)=true then do
    (λb:Bool=>match b with | true=>rule "set.scan.the-table-gave-way" | false=>pure ()) (relayAll t2 es1 (SetTable.grown es1.size)).2.2
    storeSet a (relayAll t2 es1 (SetTable.grown es1.size)).1 (relayAll t2 es1 (SetTable.grown es1.size)).2.1
    pure (some true)
   else pure (some true)) (λr s'=>wpAny (model prog w) A (match r with | some added=>pure added | none=>setAddHashedIn a (.int k tk) (hashInt k) 99999) Q E s') E s:=λt2 f2 g2=>
   z7z (k:=k) (tk:=tk) ho hx hd hel hp (by omega) ht p1 f2 g2 wd hq λh' sb S'=>d4 (h h' true sb S')
  split
  ·refine b6 ?_;rw[hashByValue_scannable 8 (x:=.int k tk) rfl];refine d4 ?_;exact fin t1 f1 g1
  ·refine b6 (d4 ?_);exact fin t1 f1 g1
end
end
end L2
end
noncomputable section
namespace L2
open PySem PySem.Spec PyProof.Rows
section
def fm(val:Nat->Int)(i:Nat):List Int:=((List.range i).map val).foldl dk []
theorem z2w(val:Nat->Int)(i:Nat):fm val (i+1)=dk (fm val i) (val i):=by
 unfold fm;rw[Z4,z9,List.foldl_append];rfl
theorem q9h(σ:List Int)(k:Int):(dk σ k).length<=σ.length+1:=by
 unfold dk;split
 ·exact w3m _
 ·rw[p9];exact e9 _
theorem z5p(val:Nat->Int):∀i,(fm val i).length<=i
 | 0=>e9 _
 | i+1=>by rw[z2w];exact i7 (q9h _ _) (Nat.succ_le_succ (z5p val i))
section
variable {prog:Program} {w:World} {A:Around} {R:Result->Shared->Prop} {I:Addr} {fp wr:List Addr} {G:Array GenState->Array GenState->Prop} {n:Nat} {P:Nat->Value->Prop} {St:Nat->Shared->Prop}
theorem SetI.moved(x:SetI prog w s.heap S ks)(hm:Moved wr G s s')(hS:S∉wr):SetI prog w s'.heap S ks:=x.at λo e=>hm.heap S o hS e
theorem z1E(W:WalksS prog w A.in1 I fp wr G n P St)(S:Addr)(hSf:S∉fp)(val:Nat->Int)(hval:∀i v,P i v->∃t,v=.int (val i) t)(hb:n+1<scanBound) :
  ∀(k i:Nat) (s:Shared),i+k=n->St i s->SetI prog w s.heap S (fm val i) ->
   (∀s',Moved (S::wr) G s s'->SetI prog w s'.heap S (fm val n)->R (.ok (.ret .none)) s')->codeAny (model prog w) A (.builtin "set.update.loop" ⟨[.ref S,.ref I],[]⟩) R s:=by
 have hw:S∉wr:=λz=>hSf (W.sub S z);have up:∀b∈wr,b∈S::wr:=λb z=>i6 S z;intro k
 induction k with
 | zero=>
  intro i s e st hs hR;have e:i=n:=e;subst e;refine U8 w3W ?_;rw[w11 w2Q];show wpAny (model prog w) A.in1 (pyNext (.ref I) >>= _) _ _ s;refine b6 (W.done s _ _ st λs' hm=>?_);show wpAny (model prog w) A.in1 (ret Value.none) _ _ s';exact d4 (hR s' (hm.mono up) (hs.moved hm hw))
 | succ k ih=>
  intro i s e st hs hR;have hi:i<n:=by omega
  refine U8 w3W ?_;rw[w11 w2Q];show wpAny (model prog w) A.in1 (pyNext (.ref I) >>= _) _ _ s;refine b6 (W.item i s _ _ hi st λv s' hP st' hm=>?_);obtain⟨t,hv⟩:=hval i v hP;subst hv;have hs':=hs.moved hm hw;show wpAny (model prog w) A.in1 (holding [Value.int (val i) t] (setAdd S (.int (val i) t)) >>= _) _ _ s';refine b6 (E9 ?_);unfold setAdd;refine E9 (b6 ((intKind prog w).pyHash (k:=val i) (intKind_is prog w (val i) t) ?_));have hl:=z5p val i;refine z8A (s:={s' with toks:=s'.toks+1}) (k:=val i) (tk:=t) hs' (by omega) λh' b sb S'=>?_;have hkeep:∀b o,b≠S->s'.heap.get? b=some o->h'.get? b=some o:=λb o hb e=>by rw[sb.2 b hb];exact e
  refine d4 ⟨w2Y w2Q _,ih (i+1) _ (by omega) (W.frame (i+1) s' h' _ st' (w3m _) λb hb o e=>hkeep b o (λz=>hSf (z▸hb)) e) (by rw[z2w];exact S') λs2 hm2 S2=>?_⟩;refine hR s2 (Moved.trans W.gtrans ((hm.mono up).then_heap (w3m _) λb o hb e=>hkeep b o (λz=>hb (z▸i8)) e) hm2) S2
end
def set0(w:World):Obj:={cls:=.type "set",dict:=none,data:=.set #[] 0 (.fresh 0 0 (!B0 w))}
section
variable {prog:Program} {w:World} {A:Around} {E:Value->Shared->Prop} {s:Shared}
theorem z7i(e:h.get? a=some (set0 w)):SetI prog w h a []:=
 ⟨_,#[],0,_,e,⟨rfl,rfl,rfl⟩,rfl,λ_ z=>by simp at z,by simp,by decide,by rfl,Tab.fresh _⟩
theorem q6K(v:Value)(h:Q (.ref s.heap.objs.size) {s with heap:=s.heap.push (set0 w)}) :
  codeAny (model prog w) A (.call (.builtin "set.__new__") ⟨[.type "set",v],[]⟩) (wants Q E) s:=by
 refine codeAny_of_tree ?_;show wpAny (model prog w) A.in1 (do checkBuiltinCall "set.__new__" ⟨[.type "set",v],[]⟩;again (.builtin "set.__new__" ⟨[.type "set",v],[]⟩)) _ _ s;refine b6 (w3n (F.newCall_set_1 v) ?_);refine d4 ⟨w2Y F.plain_set_new _,U8 F.entry_set_new ?_⟩;rw[w11 F.plain_set_new];unfold Builtin.«set.__new__» Builtin.Frozenset.newClass;have q:=sub_set_self;obtain⟨h0,g0,d0,t0,o0⟩:=s;dsimp only
 wp_walk
 refine Z2 (d4 ?_);dsimp only;simp only[newObj];exact b6 (wpAny_alloc (d4 (d4 h)))
theorem z8F(hh:A.handled=none)(hl:s.heap.IsList l items)(hi:IntsAre items.toList ns)(hb:items.size+1<scanBound)
  (h:∀h' tk,SetI prog w h' s.heap.objs.size (fm (λi=>ns.getD i 0) items.size)->(∀b o,s.heap.get? b=some o->h'.get? b=some o)->Q (.ref s.heap.objs.size) {s with heap:=h',toks:=tk}) :
  wpAny (model prog w) A (call (.type "set") [.ref l]) Q E s:=by
 have m0:=F.called_set.mro;obtain⟨c0,r0,m1⟩:=m0;have m2:=F.called_set.made;have m3:=F.called_set.sub;have m4:=F.called_set.notType;have m5:=F.called_set.canCreate;have m6:=F.typeCall_set_1 (.ref l);refine wpAny_call (codeAny_of_tree ?_);show wpAny (model prog w) _ (callAny (.type "set") _) _ _ _;refine d4 ⟨Code.quiet_builtin _ (by decide +kernel),U8 F.entry_type_call ?_⟩;rw[Around.under_plain (weight_type_call_type "set" [.ref l] []) rfl]
 repeat (any_goals (first | assumption | wp_step))
 refine Q7 (q6K (.ref l) (E:=E) (Q:=λv s1=>v=.ref s.heap.objs.size/\s1 = {s with heap:=s.heap.push (set0 w)}) ⟨rfl,rfl⟩) λr s1 q=>?_;cases r with
 | error e=>exact q
 | ok f=>
  cases f with
  | ret v=>
   obtain⟨e1,e2⟩:=q;subst e1;subst e2;have g0:(s.heap.push (set0 w)).get? s.heap.objs.size=some (set0 w):=p8 _ rfl;have ty:Shared.TypeIs {s with heap:=s.heap.push (set0 w)} (.ref s.heap.objs.size) "set":=⟨_,g0,rfl⟩;have n1:=F.called_set.init.lookup;have n2:=F.called_set.init.bind (.ref s.heap.objs.size)
   repeat (any_goals (first | assumption | wp_step))
   refine Q7 (w27 (R:=wants (λv s2=>v=.none/\∃h' tk,s2 = {s with heap:=h',toks:=tk} /\ SetI prog w h' s.heap.objs.size (fm (λi=>ns.getD i 0) items.size) /\
     ∀b o,s.heap.get? b=some o->h'.get? b=some o) E) F.called_set.init.plain F.entry_set_init (check_set_init_1 ty ?_)) λr2 s2 q2=>?_
   ·obtain⟨⟨k1,k2,k3,k4⟩,kl,kc,kn,kd⟩:=hl;dsimp only at kc kd;subst kc;subst kd;have kl':(s.heap.push (set0 w)).get? l=some {cls:=.type "list",dict:=k2,data:=.seq items kn,slots:=k4}:=j2 _ kl;have il:(s.heap.push (set0 w)).IsList l items:=⟨_,kl',rfl,kn,rfl⟩;have p1:=F.sub_list_set;have p2:=F.sub_list_frozenset;have p3:(Value.type "list" == Value.type "dict")=false:=by decide
    unfold Builtin.«set.__init__» noKeywords Builtin.Frozenset.updateFrom;generalize hP:pyIter=PI
    wp_walk
    subst hP;refine wpAny_pyIter_list il (b6 (wpAny_runValue ?_));have l0:l<s.heap.objs.size:=i9 kl;have z1:(s.heap.push (set0 w)).objs.size=s.heap.objs.size+1:=K0 _ _;have a1:l≠(s.heap.push (set0 w)).objs.size:=by rw[z1];exact o4 (D3 l0)
    have a2:s.heap.objs.size∉[(s.heap.push (set0 w)).objs.size,l]:=by
     rw[z1];intro z;rcases e8.mp z with z | z
     ·exact absurd z (o4 (U7 _))
     ·exact absurd (u8.mp z) (Q6 l0)
    refine z1E ((Walks.list (by show A.handled=none;exact hh) _ l a1 items).toS) s.heap.objs.size a2 (λi=>ns.getD i 0) (λi v e=>IntsAre.int_at hi i v (by rw[F4];exact e)) hb
     items.size 0 _ (Nat.zero_add _) ⟨⟨_,p8 _ rfl,rfl,rfl⟩,il.push _⟩ (z7i (j2 _ g0)) λs3 hm S3=>?_
    obtain⟨h3,g3,d3,t3,o3⟩:=s3;have b1:g3=s.gens:=hm.gens;have b2:d3=s.drawn:=hm.drawn;have b3:o3=s.os:=hm.os;subst b1;subst b2;subst b3;show wpAny (model prog w) _ _ _ _ _;refine d4 ?_;show wpAny (model prog w) _ (ret Value.none) _ _ _;refine d4 ⟨rfl,h3,t3,rfl,S3,λb o e=>?_⟩;have b4:=i9 e;refine hm.heap b o (λz=>?_) (j2 _ (j2 _ e));rcases e8.mp z with z | z
    ·exact absurd z (o4 b4)
    ·have:=u8.mp z;rw[z1]at this;exact absurd this (o4 (D3 b4))
   ·cases r2 with
    | error e=>exact q2
    | ok f2=>
     cases f2 with
     | ret v2=>
      obtain⟨c1,h',tk,c2,c3,c4⟩:=q2;subst c1;subst c2
      repeat (any_goals (first | assumption | wp_step))
      exact h h' tk c3 c4
     | _=>exact q2.elim
  | _=>exact q.elim
end
end
end L2
end
noncomputable section
namespace L2
open PySem PyProof.Rows
section
def C3(h:Heap)(I a:Addr)(f:Value)(i n ep:Nat):Prop:=∃o,h.get? I=some o/\o.cls=.type "set_iterator" /\ o.data=.fields #[f,.int i 0,.ref a,.int n 0,.int ep 0]
def E4(h:Heap)(a:Addr)(es:Array (Int×Value))(ep:Nat)(t:SetTable):Prop:=∃o,h.get? a=some o/\o.ExactSet/\o.data=.set es ep t
theorem C3.typeIs{s:Shared}{I a:Addr}{f:Value}{i n ep:Nat}(x:C3 s.heap I a f i n ep):s.TypeIs (.ref I) "set_iterator":=let ⟨o,e,c,_⟩:=x;⟨o,e,c⟩
theorem C3.at(x:C3 h I a f i n ep)(k:∀o,h.get? I=some o->h'.get? I=some o):C3 h' I a f i n ep:=let ⟨o,e,c⟩:=x;⟨o,k o e,c⟩
theorem E4.at(x:E4 h a es ep t)(k:∀o,h.get? a=some o->h'.get? a=some o):E4 h' a es ep t:=let ⟨o,e,c⟩:=x;⟨o,k o e,c⟩
theorem E4.typeIs{s:Shared}{a:Addr}{es:Array (Int×Value)}{ep:Nat}{t:SetTable}(x:E4 s.heap a es ep t):s.TypeIs (.ref a) "set":=let ⟨o,e,c,_⟩:=x;⟨o,e,c.1⟩
theorem L8:Slot "set_iterator" "__next__" "set_iterator.__next__":=
 .of (owner:="set_iterator") (n:="__next__") (by rw[typeLookup_type,w4j];kernel_rfl) (by decide +kernel) (by decide +kernel) (by decide +kernel)
  (by first | exact .inl (by decide +kernel) | exact .inr (by decide +kernel)) (by rw[w4k];kernel_rfl)
theorem q4K:entryFor table "set_iterator.__next__" = some Builtin.«set_iterator.__next__»:=entryFor_of_tree (by kernel_rfl)
theorem q6C(v:Value):argsOk "set_iterator.__next__" ⟨[v],[]⟩:=by unfold argsOk;kernel_rfl
theorem z3j:entryFor table "set.__iter__" = some Builtin.«frozenset.__iter__»:=entryFor_alias (id':="frozenset.__iter__") (by kernel_rfl) rfl (by decide +kernel) (by kernel_rfl)
section
variable {prog:Program} {w:World} {A:Around} {E:Value->Shared->Prop} {s:Shared} {I a:Addr} {es:Array (Int×Value)} {ep:Nat} {t:SetTable} {Q:Option Value->Shared->Prop}
theorem q7n{h:Heap}{o:Obj}{f:Value}{i:Nat}{n:Nat}(e:h.get? I=some o)(c:o.cls=.type "set_iterator")(d:o.data=.fields #[f,.int i 0,.ref a,.int n 0,.int ep 0]) :
  C3 (h.update I (Obj.mapFields (·.setIfInBounds 1 (rawInt ((i:Int)+1))))) I a f (i+1) n ep:=by
 refine⟨_,Y4 _ e (w4l (w2L d _)),(Obj.cls_mapFields ..).trans c,?_⟩;rw[w2L d];simp[rawInt]
theorem q8M{h:Heap}{o:Obj}{f:Value}(g:Value){i:Nat}{n:Nat}(e:h.get? I=some o)(c:o.cls=.type "set_iterator")(d:o.data=.fields #[f,.int i 0,.ref a,.int n 0,.int ep 0]) :
  C3 (h.update I (Obj.mapFields (·.setIfInBounds 0 g))) I a g i n ep:=by
 refine⟨_,Y4 _ e (w4l (w2L d _)),(Obj.cls_mapFields ..).trans c,?_⟩;rw[w2L d];simp
theorem q9l{slot i j:Nat}{x:Value}(hI:C3 s.heap I a (.int slot 0) i es.size ep)(hS:E4 s.heap a es ep t)(hf:t.fits es.size=true)
  (hn:∀(A:Around) (E':Value->Shared->Prop) (Q':Option (Value×Nat)->Shared->Prop),Q' (some (x,j)) s->wpAny (model prog w) A (setNext a slot i ep) Q' E' s)
  (hQ:∀h',C3 h' I a (.int j 0) (i+1) es.size ep->Heap.SameBut I s.heap h'->Q (some x) {s with heap:=h'}):wpAny (model prog w) A (pyNext (.ref I)) Q E s:=by
 obtain⟨o,ho,hc,hd⟩:=id hI;obtain⟨p,hp,hx,hq⟩:=id hS;unfold pyNext;refine b6 (Q4 (U4 (name:=Str.ofString "__next__") hI.typeIs L8 (F7 L8 hI.typeIs q4K ?_ (q6C _))));unfold Builtin.«set_iterator.__next__»;refine b6 (d4 ?_);dsimp only;refine b6 (Z6 ho hd ?_);dsimp only;refine b6 (w2b hp hq hf ?_);rw[show(((es.size:Nat):Int) != ((es.size:Nat):Int))=false by simp,d7 v9];simp only[x9];refine b6 (hn _ _ _ ?_);dsimp only;refine b6 (Z7 ho hd (by simp) ?_);have I1:=q8M (ep:=ep) (rawInt j) ho hc hd;obtain⟨o1,ho1,hc1,hd1⟩:=id I1;refine b6 (Z7 ho1 hd1 (by simp) (d4 ⟨x,rfl,d4 (hQ _ (q7n ho1 hc1 hd1) ?_)⟩));exact(P9 ..).trans (P9 ..)
theorem z0T{slot i:Nat}(hh:A.handled=none)(hI:C3 s.heap I a (.int slot 0) i es.size ep)(hS:E4 s.heap a es ep t)(hf:t.fits es.size=true)
  (hn:∀(A:Around) (E':Value->Shared->Prop) (Q':Option (Value×Nat)->Shared->Prop),Q' none s->wpAny (model prog w) A (setNext a slot i ep) Q' E' s)
  (hQ:∀h',Heap.ExtBut I s.heap h'->Q none {s with heap:=h'}):wpAny (model prog w) A (pyNext (.ref I)) Q E s:=by
 obtain⟨o,ho,hc,hd⟩:=id hI;obtain⟨p,hp,hx,hq⟩:=id hS;unfold pyNext;refine b6 (Q4 (U4 (name:=Str.ofString "__next__") hI.typeIs L8 (F7 L8 hI.typeIs q4K ?_ (q6C _))));unfold Builtin.«set_iterator.__next__»;refine b6 (d4 ?_);dsimp only;refine b6 (Z6 ho hd ?_);dsimp only;refine b6 (w2b hp hq hf ?_);rw[show(((es.size:Nat):Int) != ((es.size:Nat):Int))=false by simp,d7 v9];simp only[x9];refine b6 (hn _ _ _ ?_);dsimp only;refine b6 (Z7 ho hd (by simp) ?_);refine b6 ?_;simp only[newExc,newTuple];refine b6 (B2 ?_ (by size_fits));refine b6 (m:=firstArgMember _ _) (w3n (a:=Value.none) (by first | rfl | (simp only[firstArgMember];rfl)) ?_);refine B2 ?_ (by size_fits);simp only[raiseNew];refine b6 (wpAny_handled ?_);rw[show A.in1.handled=none from hh];refine b6 (d4 (wpAny_throw ?_));refine b6 (w2w (T:="StopIteration") (b:=true) ⟨_,p8 _ rfl,rfl⟩ w3i ?_);exact d4 (hQ _ (((P9 ..).extBut.push _).push _))
theorem z3C{q:Addr}{ps:Array Value}{i k:Nat}{x:Value}{z:Int}(hI:C3 s.heap I a (.ref q) i es.size ep)(hS:E4 s.heap a es ep t)(hf:t.fits es.size=true)(ht:IsTup s.heap q ps)(hk:ps[i]? = some (.int k 0))(hx:es[k]? = some (z,x))
  (hQ:∀h',C3 h' I a (.ref q) (i+1) es.size ep->Heap.SameBut I s.heap h'->Q (some x) {s with heap:=h'}):wpAny (model prog w) A (pyNext (.ref I)) Q E s:=by
 obtain⟨o,ho,hc,hd⟩:=id hI;obtain⟨p,hp,hxx,hq⟩:=id hS;unfold pyNext;refine b6 (Q4 (U4 (name:=Str.ofString "__next__") hI.typeIs L8 (F7 L8 hI.typeIs q4K ?_ (q6C _))));unfold Builtin.«set_iterator.__next__»;refine b6 (d4 ?_);dsimp only;refine b6 (Z6 ho hd ?_);dsimp only;refine b6 (w2b hp hq hf ?_);rw[show(((es.size:Nat):Int) != ((es.size:Nat):Int))=false by simp,d7 v9];simp only[x9];obtain⟨oq,hoq,hcq,nq,hdq⟩:=ht;refine b6 (wpAny_seqItems hoq hdq ?_);dsimp only;rw[hk];dsimp only;unfold setNextDrawn;simp only[x9];refine b6 (b6 (Y7 hp hq hf ?_));dsimp only;rw[show(ep != ep)=false by simp,d7 v9];rw[hx];refine d4 ?_;refine b6 (Z7 ho hd (by simp) (d4 ⟨x,rfl,d4 (hQ _ (q7n ho hc hd) (P9 ..))⟩))
theorem z5P(hh:A.handled=none)(hI:C3 s.heap I a (.ref q) i es.size ep)(hS:E4 s.heap a es ep t)(hf:t.fits es.size=true)(ht:IsTup s.heap q ps)(hk:ps[i]? = none)
  (hQ:∀h',Heap.ExtBut I s.heap h'->Q none {s with heap:=h'}):wpAny (model prog w) A (pyNext (.ref I)) Q E s:=by
 obtain⟨o,ho,hc,hd⟩:=id hI;obtain⟨p,hp,hx,hq⟩:=id hS;unfold pyNext;refine b6 (Q4 (U4 (name:=Str.ofString "__next__") hI.typeIs L8 (F7 L8 hI.typeIs q4K ?_ (q6C _))));unfold Builtin.«set_iterator.__next__»;refine b6 (d4 ?_);dsimp only;refine b6 (Z6 ho hd ?_);dsimp only;refine b6 (w2b hp hq hf ?_);rw[show(((es.size:Nat):Int) != ((es.size:Nat):Int))=false by simp,d7 v9];simp only[x9];obtain⟨oq,hoq,hcq,nq,hdq⟩:=ht;refine b6 (wpAny_seqItems hoq hdq ?_);dsimp only;rw[hk];dsimp only;refine b6 (Z7 ho hd (by simp) ?_);obtain⟨o1,ho1,hc1,hd1⟩:=q8M (ep:=ep) (rawInt 0) ho hc hd;refine b6 (Z7 ho1 hd1 (by simp) ?_);refine b6 ?_;simp only[newExc,newTuple];refine b6 (B2 ?_ (by size_fits));refine b6 (m:=firstArgMember _ _) (w3n (a:=Value.none) (by first | rfl | (simp only[firstArgMember];rfl)) ?_);refine B2 ?_ (by size_fits);simp only[raiseNew];refine b6 (wpAny_handled ?_);rw[show A.in1.handled=none from hh];refine b6 (d4 (wpAny_throw ?_));refine b6 (w2w (T:="StopIteration") (b:=true) ⟨_,p8 _ rfl,rfl⟩ w3i ?_);exact d4 (hQ _ ((((P9 ..).trans (P9 ..)).extBut.push _).push _))
end
end
section
section
variable {prog:Program} {w:World} {A:Around} {E:Value->Shared->Prop} {s:Shared} {I a:Addr} {es:Array (Int×Value)} {ep:Nat} {t:SetTable}
theorem z1X(ho:B0 w=true)(hS:E4 s.heap a es ep t)(hf:t.fits es.size=true)
  (h:Q (((pickOrder (w.params.setOrder a ep) es)[i]?).map λe=>(e.2,slot)) s):wpAny (model prog w) A (setNext a slot i ep) Q E s:=by
 obtain⟨p,hp,hx,hq⟩:=id hS;unfold setNext;refine b6 (Y7 hp hq hf ?_);dsimp only;unfold setsByText;refine b6 (b6 (Z2 (d4 ?_)));show wpAny (model prog w) A (if B0 w=true then _ else _) Q E s;rw[b8 ho];rw[show(ep != ep)=false by simp,d7 v9];refine b6 ?_;unfold setWalk;refine b6 (Y7 hp hq hf ?_);dsimp only;unfold setsByText;refine b6 (b6 (Z2 (d4 ?_)));show wpAny (model prog w) A (if B0 w=true then _ else _) _ E s;rw[b8 ho];exact b6 (Z2 (d4 (d4 h)))
theorem z5C(ho:B0 w=false)(hd:(!t.plain&&decide (es.size>1))=false)(hl:t.led=true)(hS:E4 s.heap a es ep t)(hf:t.fits es.size=true)
  (h:Q (match es[SetTable.below t.place slot]?,t.place[SetTable.below t.place slot]? with | some (_,x),some j=>some (x,j+1) | _,_=>none) s):wpAny (model prog w) A (setNext a slot i ep) Q E s:=by
 obtain⟨p,hp,hx,hq⟩:=id hS;unfold setNext;refine b6 (Y7 hp hq hf ?_);dsimp only;unfold setsByText;refine b6 (b6 (Z2 (d4 ?_)));show wpAny (model prog w) A (if B0 w=true then _ else _) Q E s;rw[d7 (by rw[ho];exact v9)];show wpAny (model prog w) A (if(!t.plain&&decide (es.size>1))=true then _ else _) Q E s;rw[hd,d7 v9];refine b6 ?_;show wpAny (model prog w) A (if(!t.led && !es.isEmpty)=true then _ else _) _ E s;rw[hl];exact d4 (d4 h)
theorem z8b:∀(n:Nat) (xs:List α) (s:Shared),xs.length=n->(∀l d,l.Perm xs->Q l {s with drawn:=d})->wpAny (model prog w) A (drawOrder n xs) Q E s:=by
 intro n
 induction n generalizing Q with
 | zero=>
  intro xs s hl h;have:xs=[]:=w1O.mp hl;subst this;exact d4 (h [] s.drawn .rfl)
 | succ n ih=>
  intro xs s hl h;cases xs with
  | nil=>cases hl
  | cons y r=>
   show wpAny (model prog w) A (choose .order (y::r).length >>= _) Q E s;have key:∀i,i<(y::r).length->wpAny (model prog w) A (match(y::r)[i]? with
     | some x=>do return x::(←drawOrder n ((y::r).eraseIdx i))
     | none=>unsupported "internal:drawOrder") Q E {s with drawn:=s.drawn.bump .order}:=λi hi=>by
    have hg:(y::r)[i]? = some (y::r)[i]:=p7 hi;rw[hg];refine b6 (ih _ _ (by rw[List.length_eraseIdx,b8 hi];omega) λl d p=>d4 (h _ d ?_));exact(List.Perm.cons _ p).trans (q4j hi rfl)
   refine b6 λΓ p hΓ=>⟨by simp,?_⟩;exact key _ (Nat.mod_lt _ (by simp))
def W3(f:Value)(a:Addr)(n ep:Nat):Obj:={cls:=.type "set_iterator",data:=.fields #[f,.int 0 0,.ref a,.int n 0,.int ep 0]}
def z2X(l:List Nat):Obj:={cls:=.type "tuple",data:=.seq (l.map λ(i:Nat)=>Value.int i 0).toArray}
theorem q6F{h:Heap}{f:Value}{n:Nat}:C3 (h.push (W3 f a n ep)) h.objs.size a f 0 n ep:=⟨_,p8 _ rfl,rfl,rfl⟩
theorem z3H(hS:E4 s.heap a es ep t)(hf:t.fits es.size=true)(hb:es.size<=sizeLine)
  (h1:(!B0 w&&(!t.plain&&decide (es.size>1)))=false->Q (.ref s.heap.objs.size) {s with heap:=s.heap.push (W3 (.int 0 0) a es.size ep)})
  (h2:∀l d,B0 w=false->l.Perm (List.range es.size)->Q (.ref (s.heap.objs.size+1)) {s with heap:=(s.heap.push (z2X l)).push (W3 (.ref s.heap.objs.size) a es.size ep),drawn:=d}) :
  wpAny (model prog w) A (pyIter (.ref a)) Q E s:=by
 obtain⟨p,hp,hx,hq⟩:=id hS;refine w2S hS.typeIs F.slot_set_iter (F7 F.slot_set_iter hS.typeIs z3j ?_ (F.args_set_iter_1 _));unfold Builtin.«frozenset.__iter__» Builtin.Frozenset.slot0 slotArgs;simp only[List.isEmpty_nil,Bool.not_true,N9,↓reduceIte,bind_assoc,w33,Y8];unfold Builtin.Frozenset.addrOf Builtin.Frozenset.sizeOf;refine b6 (d4 ?_)
 try dsimp only
 refine b6 (d4 ?_);refine b6 (b6 (w2b hp hq hf (d4 ?_)));unfold setDrawn;refine b6 (b6 (Y7 hp hq hf ?_));dsimp only;unfold setsByText;refine b6 (b6 (Z2 (d4 (d4 ?_))));show wpAny (model prog w) _ (if(!B0 w&&(!t.plain&&decide (es.size>1)))=true then _ else _) _ _ _;by_cases hc:(!B0 w&&(!t.plain&&decide (es.size>1)))=true
 ·rw[b8 hc];have ho:B0 w=false:=by
   cases e:B0 w with
   | false=>rfl
   | true=>rw[e]at hc;cases hc
  refine b6 (z8b es.size (List.range es.size) s (w6) λl d pl=>?_);have hl:l.length=es.size:=by rw[pl.length_eq,w6]
  unfold newTuple;refine b6 (B2 ?_ (by show(l.map _).toArray.size<=_;simp;omega));have hp':(s.heap.push {cls:=.type "tuple",data:=.seq (l.map λ(i:Nat)=>rawInt i).toArray}).get? a=some p:=j2 _ hp;refine b6 (wpAny_setEpoch_of hp' hq hf ?_);refine b6 (B2 (d4 ⟨_,rfl,"set_iterator",_,⟨_,p8 _ rfl,rfl⟩,L8.lookup,?_⟩));have z:(s.heap.push {cls:=.type "tuple",data:=.seq (l.map λ(i:Nat)=>rawInt i).toArray}).objs.size=s.heap.objs.size+1:=K0 _ _;have:=h2 l d ho pl;rw[←z]at this;exact this
 ·rw[d7 hc];refine b6 (d4 ?_);refine b6 (wpAny_setEpoch_of hp hq hf ?_);refine b6 (B2 (d4 ⟨_,rfl,"set_iterator",_,⟨_,p8 _ rfl,rfl⟩,L8.lookup,?_⟩));exact h1 (by simpa using hc)
end
section
variable {prog:Program} {w:World} {A:Around} {E:Value->Shared->Prop} {s:Shared} {I a:Addr} {es:Array (Int×Value)} {ep:Nat} {t:SetTable}
abbrev Nx(prog:Program)(w:World)(I:Addr)(fp:List Addr)(n:Nat)(ws:List Value)(St:Nat->Heap->Prop):Prop:=
 ∀A:Around,A.handled=none->WalksS prog w A I fp [I] (λa b=>b=a) n (λi v=>ws[i]? = some v) (λi s=>St i s.heap)
theorem z5R {fp : List Addr} {n : Nat} {ws : List Value} {St : Nat -> Heap -> Prop} (hI : I ∈ fp) (hz : ws.length = n)
    (fr : ∀ i h h', St i h -> (∀ b ∈ fp, ∀ o, h.get? b = some o -> h'.get? b = some o) -> St i h')
    (it : ∀ (A : Around) (E : Value -> Shared -> Prop) (Q : Option Value -> Shared -> Prop) (s : Shared) i v, A.handled = none -> ws[i]? = some v -> St i s.heap -> (∀ h', St (i + 1) h' -> Heap.SameBut I s.heap h' -> Q (some v) { s with heap := h' }) -> wpAny (model prog w) A (pyNext (.ref I)) Q E s)
    (dn : ∀ (A : Around) (E : Value -> Shared -> Prop) (Q : Option Value -> Shared -> Prop) (s : Shared), A.handled = none -> St n s.heap -> (∀ h', Heap.ExtBut I s.heap h' -> Q none { s with heap := h' }) -> wpAny (model prog w) A (pyNext (.ref I)) Q E s)
    (sf : ∀ (A : Around) (E : Value -> Shared -> Prop) (Q : Value -> Shared -> Prop) (s : Shared) i, St i s.heap -> Q (.ref I) s -> wpAny (model prog w) A (pyIter (.ref I)) Q E s) : Nx prog w I fp n ws St := λ A hh =>
  { sub := λ b hb => by rw [u8.mp hb]; exact hI
    grefl := λ _ => rfl
    gtrans := λ _ _ _ h1 h2 => h2.trans h1
    frame := λ i s h' tk st _ k => fr i s.heap h' st k
    item := λ i s Q E hi st hQ => by have hg : ws[i]? = some ws[i] := p7 (by omega);exact it A E Q s i _ hh hg st λ h' st' sb => hQ _ _ hg st' ⟨λ b o hb e => sb.extBut b o (λ z => hb (u8.mpr z)) e, rfl, rfl, rfl, e9 _⟩
    done := λ s Q E st hQ => dn A E Q s hh st λ h' eb => hQ _ ⟨λ b o hb e => eb b o (λ z => hb (u8.mpr z)) e, rfl, rfl, rfl, e9 _⟩
    self := λ i s Q E st hQ => sf A E Q s i st hQ }
theorem q6s(sb:Heap.SameBut I h h')(hb:b≠I):∀o,h.get? b=some o->h'.get? b=some o:=λo e=>sb.extBut b o hb e
theorem q8O:Slot "set_iterator" "__iter__" "set_iterator.__iter__":=
 .of (owner:="set_iterator") (n:="__iter__") (by rw[typeLookup_type,w4j];kernel_rfl) (by decide +kernel) (by decide +kernel) (by decide +kernel)
  (by first | exact .inl (by decide +kernel) | exact .inr (by decide +kernel)) (by rw[w4k];kernel_rfl)
theorem z1b:entryFor table "set_iterator.__iter__" = some Builtin.«dict_keyiterator.__iter__»:=entryFor_alias (id':="dict_keyiterator.__iter__") (by kernel_rfl) rfl (by decide +kernel) (by kernel_rfl)
theorem z4C(v:Value):argsOk "set_iterator.__iter__" ⟨[v],[]⟩:=by unfold argsOk;kernel_rfl
theorem q7Q(hI:C3 s.heap I a f i n ep)(h:Q (.ref I) s):wpAny (model prog w) A (pyIter (.ref I)) Q E s:=by
 refine w2S hI.typeIs q8O (F7 q8O hI.typeIs z1b ?_ (z4C _));show wpAny (model prog w) _ (ret (.ref I)) _ _ s;exact d4 ⟨_,rfl,"set_iterator",_,hI.typeIs,L8.lookup,h⟩
theorem z2J(ho:B0 w=true)(hf:t.fits es.size=true)(hne:a≠I) :
  Nx prog w I [I,a] es.size ((pickOrder (w.params.setOrder a ep) es).toList.map (·.2)) (λi h=>C3 h I a (.int (0:Nat) 0) i es.size ep/\E4 h a es ep t):=by
 have hz:(pickOrder (w.params.setOrder a ep) es).size=es.size:=by
  have:=(q3s (w.params.setOrder a ep) es).length_eq
  rwa [x3,x3]at this
 refine z5R (by simp) (by rw[d5,x3,hz]) (λi h h' st k=>⟨st.1.at (k I (by simp)),st.2.at (k a (by simp))⟩) (λA E Q s i v hh hv st hQ=>?_) (λA E Q s hh st hQ=>?_) λA E Q s i st h=>q7Q st.1 h
 ·obtain⟨e,he,hev⟩:∃e,(pickOrder (w.params.setOrder a ep) es)[i]? = some e/\e.2=v:=by
   rw[n9,F4]at hv;cases q:(pickOrder (w.params.setOrder a ep) es)[i]? with
   | none=>rw[q]at hv;cases hv
   | some e=>rw[q]at hv;cases hv;exact⟨e,rfl,rfl⟩
  refine q9l (slot:=0) (j:=0) (x:=v) st.1 st.2 hf (λA E' Q' q=>z1X ho st.2 hf (by rw[he,J9,hev];exact q)) λh' st' sb=>?_;exact hQ h' ⟨st',st.2.at (q6s sb hne)⟩ sb
 ·refine z0T (slot:=0) hh st.1 st.2 hf (λA E' Q' q=>z1X ho st.2 hf (by rw[K7 (by omega)];exact q)) hQ
def slotAt(t:SetTable):Nat->Nat
 | 0=>0
 | i+1=>t.place.getD i 0+1
theorem q4s(ht:Rise t.place):∀{i:Nat},i<=t.place.size->SetTable.below t.place (slotAt t i)=i
 | 0,_=>z0o ht
 | i+1,h=>by have hg:t.place[i]? = some t.place[i]:=N6 (by omega);show SetTable.below t.place (t.place.getD i 0+1)=i+1;rw[w1D,hg];exact q9S ht hg
theorem z3u(ho:B0 w=false)(hd:(!t.plain&&decide (es.size>1))=false)(ht:Tab t (!B0 w))(hf:t.fits es.size=true)(hne:a≠I) :
  Nx prog w I [I,a] es.size (es.toList.map (·.2)) (λi h=>C3 h I a (.int (slotAt t i:Nat) 0) i es.size ep/\E4 h a es ep t/\i<=es.size):=by
 have hl:t.led=true:=by rw[ht.led,ho];rfl
 have hz:t.place.size=es.size:=(by unfold SetTable.fits at hf;rw[b9]at hf;exact d8.mp hf.1);refine z5R (by simp) (by rw[d5,x3]) (λi h h' st k=>⟨st.1.at (k I (by simp)),st.2.1.at (k a (by simp)),st.2.2⟩) (λA E Q s i v hh hv st hQ=>?_) (λA E Q s hh st hQ=>?_) λA E Q s i st h=>q7Q st.1 h
 ·obtain⟨z,he⟩:∃z,es[i]? = some (z,v):=by
   rw[n9,F4]at hv;cases q:es[i]? with
   | none=>rw[q]at hv;cases hv
   | some e=>rw[q]at hv;cases hv;exact⟨e.1,rfl⟩
  have hi:i<es.size:=by
   rcases Q8 i es.size with h | h
   ·exact h
   ·rw[K7 h]at he;cases he
  have hg:t.place[i]? = some t.place[i]:=N6 (by omega);have hb:=q4s ht.rise (i:=i) (by omega);have hj:slotAt t (i+1)=t.place[i]+1:=(by show t.place.getD i 0+1=_;rw[w1D,hg];rfl);refine q9l (slot:=slotAt t i) (j:=slotAt t (i+1)) (x:=v) st.1 st.2.1 hf (λA E' Q' q=>z5C ho hd hl st.2.1 hf (by rw[hb,he,hg];rw[hj]at q;exact q)) λh' st' sb=>?_;exact hQ h' ⟨st',st.2.1.at (q6s sb hne),hi⟩ sb
 ·have hb:=q4s ht.rise (i:=es.size) (by omega);refine z0T (slot:=slotAt t es.size) hh st.1 st.2.1 hf (λA E' Q' q=>z5C ho hd hl st.2.1 hf (by rw[hb,K7 (e9 _)];exact q)) hQ
theorem z0j{q:Addr}{l:List Nat}(hp:l.Perm (List.range es.size))(hf:t.fits es.size=true)(hne:a≠I)(hq:q≠I) :
  Nx prog w I [I,a,q] es.size (l.map λi=>(es.getD i (0,.none)).2) (λi h=>C3 h I a (.ref q) i es.size ep/\E4 h a es ep t/\IsTup h q (l.map λ(i:Nat)=>Value.int i 0).toArray):=by
 have hl:l.length=es.size:=by rw[hp.length_eq,w6]
 refine z5R (by simp) (by rw[d5,hl]) (λi h h' st k=>⟨st.1.at (k I (by simp)),st.2.1.at (k a (by simp)),let ⟨o,e,r⟩:=st.2.2;⟨o,k q (by simp) o e,r⟩⟩) (λA E Q s i v hh hv st hQ=>?_) (λA E Q s hh st hQ=>?_) λA E Q s i st h=>q7Q st.1 h
 ·obtain⟨k,hk,hkv⟩:∃k,l[i]? = some k/\(es.getD k (0,.none)).2=v:=by
   rw[n9]at hv;cases q:l[i]? with
   | none=>rw[q]at hv;cases hv
   | some k=>rw[q]at hv;cases hv;exact⟨k,rfl,rfl⟩
  have hks:k<es.size:=(by have:=hp.mem_iff.mp (Y5.mpr ⟨i,hk⟩);exact s9.mp this);have he:es[k]? = some es[k]:=N6 hks;have hv2:es[k].2=v:=(by rw[←hkv,w1D,he];rfl);refine z3C (k:=k) (z:=es[k].1) (x:=v) st.1 st.2.1 hf st.2.2 (by rw[←F4,List.toList_toArray,n9,hk];rfl) (by rw[he,←hv2]) λh' st' sb=>?_;exact hQ h' ⟨st',st.2.1.at (q6s sb hne),let ⟨o,e,r⟩:=st.2.2;⟨o,q6s sb hq o e,r⟩⟩ sb
 ·refine z5P hh st.1 st.2.1 hf st.2.2 (K7 (by rw[o9,d5];omega)) hQ
end
end
section
section
variable {prog:Program} {w:World} {A:Around} {E:Value->Shared->Prop} {s:Shared} {I a:Addr} {es:Array (Int×Value)} {ep:Nat} {t:SetTable} {ks:List Int}
theorem z3K(hT:s.TypeIs (.ref a) "set")(h:Q false s):wpAny (model prog w) A (Builtin.List.listLengthHint (.ref a)) Q E s:=by
 unfold Builtin.List.listLengthHint;refine b6 (wpAny_specialOf hT F.slot_set_len.lookup ?_);generalize hid:("set.__len__" : String)=id0
 wp_delta
 rw[show splitId id0=some ("set","__len__")from by subst hid;decide +kernel];subst hid;refine b6 (w2w (T:="set") (b:=true) hT (by rw[w4k];kernel_rfl) ?_);refine w34 (λz=>absurd z (by decide)) λ_=>?_
 refine w34 (λ_=>?_) λz=>absurd (by decide +kernel) z;exact b6 (w3J hT (d4 h))
theorem q8z{S:Addr}{fp:List Addr}{n c0:Nat}{ws:List Value}{St:Nat->Heap->Prop}{c:Bool->Bool}{s1:Shared}{res:Value}{R:Result->Shared->Prop}{EE:Value->Shared->Prop}(W:Nx prog w I fp n ws St)(hh:A.handled=none)(hn:n<=sizeLine)(hSf:S∉fp)
  (hT:s1.TypeIs (.ref a) "set") (st:St 0 s1.heap) (hS:s1.heap.get? S=some {cls:=.type "list",data:=.seq #[] c0})
  (hR:∀h' tk acc c',(∀b o,b≠S->b≠I->s1.heap.get? b=some o->h'.get? b=some o)->h'.get? S=some {cls:=.type "list",dict:=none,data:=.seq acc c',slots:=#[]} -> acc.toList=ws->R (.ok (.ret res)) {s1 with heap:=h',toks:=tk}) (hw:ws.length=n) :
  wpAny (model prog w) A.in1 (do
   let room ←holding [Value.ref I] (Builtin.List.listLengthHint (.ref a))
   if c room=true then do
    rule "list.extend.makes-room"
    Builtin.List.listTouch (.ref S)
    again (.builtin "list.extend.loop" ⟨[.ref S,.ref I,res],[]⟩)
   else again (.builtin "list.extend.loop" ⟨[.ref S,.ref I,res],[]⟩))
   (λfin s'=>match fin with | .done f=>R (.ok f) s' | .again c'=>c'.quiet=true/\codeAny (model prog w) A c' R s') EE s1:=by
 have loop:∀(h:Heap) (c1 tk:Nat),St 0 h->(∀b o,b≠S->s1.heap.get? b=some o->h.get? b=some o)->h.get? S=some {cls:=.type "list",data:=.seq #[] c1} ->
   codeAny (model prog w) A (.builtin "list.extend.loop" ⟨[.ref S,.ref I,res],[]⟩) R {s1 with heap:=h,toks:=tk}:=λh c1 tk st1 k e=>by
  refine codeAny_extend_loopS (W A.in1 hh) hn S hSf res n 0 _ #[] c1 rfl (A7 _) st1 e (ItemsOf.nil _) λs' acc c' hm e' ac=>?_;have b1:s' = {s1 with heap:=s'.heap,toks:=s'.toks}:=by have q1:s'.gens=s1.gens:=hm.gens;have q2:s'.drawn=s1.drawn:=hm.drawn;have q3:s'.os=s1.os:=hm.os;obtain⟨h',g',d',t',o'⟩:=s';dsimp only at q1 q2 q3;subst q1;subst q2;subst q3;rfl
  rw[b1];refine hR s'.heap s'.toks acc c' (λb o hb hi q=>hm.heap b o (λz=>?_) (k b o hb q)) e' ?_
  ·rcases e8.mp z with z | z
   ·exact hb z
   ·exact hi (u8.mp z)
  ·refine w3B λj=>?_;by_cases hj:j<n
   ·have hj':j<acc.size:=by rw[ac.1];exact hj
    have q1:acc[j]? = some acc[j]:=N6 hj';rw[F4,q1];exact(ac.2 j _ q1).symm
   ·rw[U5 (by rw[x3,ac.1];omega),U5 (by omega)]
 refine b6 (E9 (z3K hT ?_));refine w34 (λ_=>?_) λ_=>d4 ⟨w2Y F.plain_extend_loop _,loop s1.heap c0 s1.toks st (λb o _ e=>e) hS⟩;refine b6 (wpAny_rule (b6 ?_));show wpAny (model prog w) A.in1 (updateSeq S (·.push .none) >>= λ_=>updateSeq S (·.pop)) _ _ _;refine b6 (wpAny_updateSeq hS rfl ?_);have e2:=Y4 (Obj.mapSeq (·.push Value.none)) hS rfl;refine wpAny_updateSeq (hz:=by seq_fits) e2 rfl ?_;have e3:=Y4 (Obj.mapSeq (·.pop)) e2 rfl;have oth:∀b o,b≠S->s1.heap.get? b=some o->((s1.heap.update S (Obj.mapSeq (·.push Value.none))).update S (Obj.mapSeq (·.pop))).get? b=some o:=λb o hb e=>
  (w2n _ _ (Ne.symm hb)).trans ((w2n _ _ (Ne.symm hb)).trans e)
 refine d4 ⟨w2Y F.plain_extend_loop _,loop _ _ s1.toks ?_ oth e3⟩;exact(W A.in1 hh).frame 0 s1 _ s1.toks st (e9 _) λb hb o e=>oth b o (λz=>hSf (z▸hb)) e
def EndC(s:Shared)(a:Addr)(ws:List Value)(I:Addr)(d:Drawn)(r:Result)(s':Shared):Prop:=
 ∃h' tk acc c',r=.ok (.ret (.ref s.heap.objs.size))/\s' = {s with heap:=h',toks:=tk,drawn:=d} /\ h'.get? s.heap.objs.size=some {cls:=.type "list",dict:=none,data:=.seq acc c',slots:=#[]} /\ acc.toList=ws /\
  ∀b o,b≠s.heap.objs.size->b≠I->s.heap.get? b=some o->h'.get? b=some o
theorem q8q(hh:A.handled=none)(hS:SetI prog w s.heap a ks)
  (h:∀vs h' tk d,IntsAre vs (vs.map I0)->(vs.map I0).Perm ks->(∀b o,s.heap.get? b=some o->h'.get? b=some o)->s.heap.objs.size<h'.objs.size->Q vs {s with heap:=h',toks:=tk,drawn:=d}):wpAny (model prog w) A (collect (.ref a)) Q E s:=by
 obtain⟨o,es,ep,t,ho,hx,hd,hel,hp,hb,hf,ht⟩:=id hS;have hz:es.size<=sizeLine:=w3A hb;have hInts:∀vs:List Value,vs.Perm (es.toList.map (·.2))->IntsAre vs (vs.map I0)/\(vs.map I0).Perm ks:=λvs p=>by
  refine⟨?_,(p.map _).trans (by rw[j4];exact hp)⟩;have all:∀v∈vs,∃tk,v=.int (I0 v) tk:=λv hv=>by obtain⟨e,he,q⟩:=f9.mp (p.mem_iff.mp hv);obtain⟨tk,e2⟩:=q9f hel he;exact⟨tk,by rw[←q];exact e2⟩
  clear p
  induction vs with
  | nil=>exact .nil
  | cons v r ih=>
   obtain⟨tk,e⟩:=all v (i8 ..);rw[y0];have q:=ih λu hu=>all u (i6 _ hu)
   generalize hn:I0 v=n at e;subst e;exact .cons n tk q
 have hat:a<s.heap.objs.size:=i9 ho;unfold collect;refine b6 (wpAny_runValue (U8 F.entry_proto_collect ?_));rw[w11 F.plain_proto_collect];show wpAny (model prog w) A.in1 (newList [] >>= λl=>again (.builtin "list.__iadd__" ⟨[l,.ref a],[]⟩)) _ _ s;refine b6 (B2 ?_);refine d4 ⟨w2Y F.plain_list_iadd _,U8 F.entry_list_iadd ?_⟩;rw[w11 F.plain_list_iadd];have hS1:(s.heap.push {cls:=.type "list",data:=.seq ([]:List Value).toArray}).get? s.heap.objs.size=some {cls:=.type "list",data:=.seq ([]:List Value).toArray}:=p8 _ rfl;have hA1:E4 (s.heap.push {cls:=.type "list",data:=.seq ([]:List Value).toArray}) a es ep t:=⟨o,j2 _ ho,hx,hd⟩;show wpAny (model prog w) A.in1 (Builtin.List.listExtendWith (.ref s.heap.objs.size) (.ref a) (.ref s.heap.objs.size)) _ _ _;unfold Builtin.List.listExtendWith;refine b6 (w3J (T:="set") ⟨o,j2 _ ho,hx.1⟩ ?_);have h1:Builtin.List.listSameRef (.ref s.heap.objs.size) (.ref a)=false:=(by unfold Builtin.List.listSameRef;exact t7.mpr (Q6 hat));have h2:(Value.type "set" == Value.type "list")=false:=by decide
 have h3:(Value.type "set" == Value.type "tuple")=false:=by decide
 simp only[h1,h2,h3,w3w,N9,if_false];refine b6 (z3H (t:=t) hA1 hf hz ?_ ?_)
 ·intro hnd;have hne:a≠(s.heap.push {cls:=.type "list",data:=.seq ([]:List Value).toArray}).objs.size:=by rw[K0];exact o4 (D3 hat)
  have hSf:s.heap.objs.size∉[(s.heap.push {cls:=.type "list",data:=.seq ([]:List Value).toArray}).objs.size,a]:=λz=>by
   rw[K0]at z;rcases e8.mp z with z | z
   ·exact absurd z (o4 (U7 _))
   ·exact absurd (u8.mp z) (Q6 hat)
  obtain⟨ws,St,p,W,st⟩:∃ws St,ws.Perm (es.toList.map (·.2))/\Nx prog w (s.heap.push {cls:=.type "list",data:=.seq ([]:List Value).toArray}).objs.size [(s.heap.push {cls:=.type "list",data:=.seq ([]:List Value).toArray}).objs.size,a] es.size ws St /\
    St 0 ((s.heap.push {cls:=.type "list",data:=.seq ([]:List Value).toArray}).push (W3 (.int 0 0) a es.size ep)):=by
   by_cases hot:B0 w=true
   ·exact⟨_,_,(q3s _ es).map _,z2J (t:=t) (ep:=ep) hot hf hne,q6F,hA1.at λ_=>j2 _⟩
   ·have hot:B0 w=false:=by simpa using hot
    rw[hot]at hnd;exact⟨_,_,.rfl,z3u (ep:=ep) hot (by simpa using hnd) ht hf hne,q6F,hA1.at λ_=>j2 _,A7 _⟩
  refine B4 (q8z (A:=A) (a:=a) (c0:=0) (s1:={s with heap:=(s.heap.push {cls:=.type "list",data:=.seq ([]:List Value).toArray}).push (W3 (.int 0 0) a es.size ep)}) (R:=EndC s a ws (s.heap.push {cls:=.type "list",data:=.seq ([]:List Value).toArray}).objs.size s.drawn)
   W hh hz hSf ⟨o,j2 _ (j2 _ ho),hx.1⟩ st (j2 _ hS1) (λh' tk acc c' k e ea=>⟨h',tk,acc,c',rfl,rfl,e,ea,λb u h1 h2 q=>k b u h1 h2 (j2 _ (j2 _ q))⟩) (by rw[p.length_eq,d5,x3])) ?_ λ_ _ e=>e
  have tail:∀r s',EndC s a ws (s.heap.push {cls:=.type "list",data:=.seq ([]:List Value).toArray}).objs.size s.drawn r s'->∃h' tk acc c',r=.ok (.ret (.ref s.heap.objs.size))/\s' = {s with heap:=h',toks:=tk} /\ h'.get? s.heap.objs.size=some {cls:=.type "list",dict:=none,data:=.seq acc c',slots:=#[]} /\ Q acc.toList s':=λr s' ⟨h',tk,acc,c',e1,e2,e,ea,k⟩=>by obtain⟨q1,q2⟩:=hInts ws p;refine⟨h',tk,acc,c',e1,e2,e,?_⟩;rw[ea,e2];refine h ws h' tk s.drawn q1 q2 (λb u q=>k b u (o4 (i9 q)) ?_ q) (i9 e);rw[K0];exact o4 (D3 (i9 q))
  intro fin s' hf';cases fin with
  | done f=>
   obtain⟨h',tk,acc,c',e1,e2,e,hq⟩:=tail _ _ hf';cases e1;subst e2;exact b6 (w3D e (d4 hq))
  | again c'=>
   refine⟨hf'.1,Q7 hf'.2 λr s' hr=>?_⟩;obtain⟨h',tk,acc,c',e1,e2,e,hq⟩:=tail _ _ hr;subst e1;subst e2;exact b6 (w3D e (d4 hq))
 ·intro l d hot pl;have z1:(s.heap.push {cls:=.type "list",data:=.seq ([]:List Value).toArray}).objs.size=s.heap.objs.size+1:=K0 _ _;have hl:l.length=es.size:=by rw[pl.length_eq,w6]
  have p:(l.map λi=>(es.getD i (0,.none)).2).Perm (es.toList.map (·.2)):=by
   refine(pl.map _).trans (List.Perm.of_eq ?_);refine w3B λj=>?_;have e1:es.toList[j]? = es[j]?:=F4;rw[n9,n9,e1];by_cases hj:j<es.size
   ·rw[w2c hj,J9,w1D,N6 hj];rfl
   ·have e2:(List.range es.size)[j]? = none:=U5 (by rw[w6];omega);rw[e2,K7 (by omega)];rfl
  have hne:a≠(s.heap.push {cls:=.type "list",data:=.seq ([]:List Value).toArray}).objs.size+1:=by rw[z1];exact o4 (D3 (D3 hat))
  have hqe:(s.heap.push {cls:=.type "list",data:=.seq ([]:List Value).toArray}).objs.size≠(s.heap.push {cls:=.type "list",data:=.seq ([]:List Value).toArray}).objs.size+1:=o4 (U7 _);have hSf:s.heap.objs.size∉[(s.heap.push {cls:=.type "list",data:=.seq ([]:List Value).toArray}).objs.size+1,a,(s.heap.push {cls:=.type "list",data:=.seq ([]:List Value).toArray}).objs.size]:=λz=>by
   rw[z1]at z;rcases e8.mp z with z | z
   ·exact absurd z (o4 (D3 (U7 _)))
   ·rcases e8.mp z with z | z
    ·exact absurd z (Q6 hat)
    ·exact absurd (u8.mp z) (o4 (U7 _))
  have W:=z0j (prog:=prog) (w:=w) (ep:=ep) (t:=t) pl hf hne hqe;have hI:C3 (((s.heap.push {cls:=.type "list",data:=.seq ([]:List Value).toArray}).push (z2X l)).push (W3 (.ref (s.heap.push {cls:=.type "list",data:=.seq ([]:List Value).toArray}).objs.size) a es.size ep))
    ((s.heap.push {cls:=.type "list",data:=.seq ([]:List Value).toArray}).objs.size+1) a (.ref (s.heap.push {cls:=.type "list",data:=.seq ([]:List Value).toArray}).objs.size) 0 es.size ep:=by
   have:=q6F (a:=a) (ep:=ep) (h:=(s.heap.push {cls:=.type "list",data:=.seq ([]:List Value).toArray}).push (z2X l)) (f:=.ref (s.heap.push {cls:=.type "list",data:=.seq ([]:List Value).toArray}).objs.size) (n:=es.size);have z2:((s.heap.push {cls:=.type "list",data:=.seq ([]:List Value).toArray}).push (z2X l)).objs.size=(s.heap.push {cls:=.type "list",data:=.seq ([]:List Value).toArray}).objs.size+1:=K0 _ _;rw[z2]at this;exact this
  refine B4 (q8z (A:=A) (a:=a) (c0:=0) (s1:={s with heap:=((s.heap.push {cls:=.type "list",data:=.seq ([]:List Value).toArray}).push (z2X l)).push (W3 (.ref (s.heap.push {cls:=.type "list",data:=.seq ([]:List Value).toArray}).objs.size) a es.size ep),drawn:=d}) (R:=EndC s a (l.map λi=>(es.getD i (0,.none)).2) ((s.heap.push {cls:=.type "list",data:=.seq ([]:List Value).toArray}).objs.size+1) d)
   W hh hz hSf ⟨o,j2 _ (j2 _ (j2 _ ho)),hx.1⟩ ⟨hI,hA1.at λ_ e=>j2 _ (j2 _ e),⟨_,j2 _ (p8 _ rfl),rfl,_,rfl⟩⟩ (j2 _ (j2 _ hS1)) (λh' tk acc c' k e ea=>⟨h',tk,acc,c',rfl,rfl,e,ea,λb u h1 h2 q=>k b u h1 h2 (j2 _ (j2 _ (j2 _ q)))⟩) (by rw[p.length_eq,d5,x3])) ?_ λ_ _ e=>e
  have tail:∀r s',EndC s a (l.map λi=>(es.getD i (0,.none)).2) ((s.heap.push {cls:=.type "list",data:=.seq ([]:List Value).toArray}).objs.size+1) d r s'->∃h' tk acc c',r=.ok (.ret (.ref s.heap.objs.size))/\s' = {s with heap:=h',toks:=tk,drawn:=d} /\ h'.get? s.heap.objs.size=some {cls:=.type "list",dict:=none,data:=.seq acc c',slots:=#[]} /\ Q acc.toList s':=λr s' ⟨h',tk,acc,c',e1,e2,e,ea,k⟩=>by obtain⟨q1,q2⟩:=hInts _ p;refine⟨h',tk,acc,c',e1,e2,e,?_⟩;rw[ea,e2];refine h _ h' tk d q1 q2 (λb u q=>k b u (o4 (i9 q)) ?_ q) (i9 e);rw[z1];exact o4 (D3 (D3 (i9 q)))
  intro fin s' hf';cases fin with
  | done f=>
   obtain⟨h',tk,acc,c',e1,e2,e,hq⟩:=tail _ _ hf';cases e1;subst e2;exact b6 (w3D e (d4 hq))
  | again c'=>
   refine⟨hf'.1,Q7 hf'.2 λr s' hr=>?_⟩;obtain⟨h',tk,acc,c',e1,e2,e,hq⟩:=tail _ _ hr;subst e1;subst e2;exact b6 (w3D e (d4 hq))
theorem q9I(hh:A.handled=none)(hS:SetI prog w s.heap a ks)(h64:ks.length<64)
  (h:∀h' tk d p vs ns e,(∀b o,s.heap.get? b=some o->h'.get? b=some o)->s.heap.objs.size<=p->h'.get? p=some (seqObj "list" vs e)->IntsAre vs.toList ns->ns.Perm ks->ns.Pairwise (· <= ·)->Q (.ref p) {s with heap:=h',toks:=tk,drawn:=d}) :
  wpAny (model prog w) A (call (.builtin "sorted") [.ref a]) Q E s:=by
 refine w3F kind_sorted plain_sorted entry_sorted (args_sorted1 _) ?_
 unfold Builtin.«sorted»;refine b6 (m:=checkCount "sorted" 1 1 _) (d4 ?_);refine b6 (q8q (by exact hh) hS λvs h1 tk d i1 p1 k1 z1=>?_);have hl:vs.length<64:=by have:=p1.length_eq;rw[d5]at this;omega
 refine b6 (w4s ?_ (by rw[K9];omega));have hL:(h1.push (seqObj "list" vs.toArray 0)).get? h1.objs.size=some (seqObj "list" vs.toArray 0):=p8 _ rfl;refine b6 (E9 (F7 slot_list_sort ⟨_,hL,rfl⟩ entry_list_sort (list_sort_tree hL i1 hl λout ns q1 q2 q3=>⟨_,rfl,?_⟩) (args_list_sort _)));refine d4 ⟨_,rfl,?_⟩;obtain⟨e,he⟩:=sortedHeap_at (out:=out) hL;refine h _ tk d _ out ns e (λb o q=>?_) (w23 z1) he q1 (q2.trans p1) q3;have hb:=i9 (k1 b o q);rw[sortedHeap_old (o4 hb) (by rw[w3G];exact D3 hb)];exact j2 _ (k1 b o q)
end
end
end L2
end
noncomputable section
namespace L2
open PySem PySem.Spec PyProof.Rows
section
section
variable {prog:Program} {w:World} {A:Around} {E:Value->Shared->Prop} {s:Shared}
theorem z7Y{l:List Int}{i:Nat}(h:i<l.length):l.getD i 0∈l:=by
 rw[D2,p7 h];exact Z1 h
theorem minL(hh:A.handled=none)(hl:s.heap.IsList l vs.toArray)(hi:IntsAre vs ns)(hz:ns≠[])
  (h:∀h' M (t:Tok) tk,(∀b o,s.heap.get? b=some o->h'.get? b=some o)->M∈ns->(∀a∈ns,M<=a)->Q (.int M t) {s with heap:=h',toks:=tk}):wpAny (model prog w) A (call (.builtin "min") [.ref l]) Q E s:=by
 obtain⟨ys,e⟩:=hi.allInts.items;have en:ns=ys.toList.map (·.1):=by rw[←hi.numsOf,←w4t,←e]
 have zy:0<ys.size:=by
  have q:0<ns.length:=w3g.mpr hz
  rwa [en,d5,x3]at q
 rw[e]at hl;refine min_intList hh hl zy λv h1 tk q k=>?_
 obtain⟨t,ev⟩:=w39 q;subst ev;obtain⟨g1,g2⟩:=argBest_lt (numAt ys) (ys.size - 1);refine h h1 _ t tk k ?_ λa ha=>?_
 ·rw[en,w3P];exact z7Y (by rw[d5,x3];omega)
 ·rw[en]at ha;obtain⟨j,hj,ej⟩:=mem_getD ha;subst ej;rw[d5,x3]at hj;rw[←w3P];exact g2 j (by omega)
theorem maxL(hh:A.handled=none)(hl:s.heap.IsList l vs.toArray)(hi:IntsAre vs ns)(hz:ns≠[])
  (h:∀h' M (t:Tok) tk,(∀b o,s.heap.get? b=some o->h'.get? b=some o)->M∈ns->(∀a∈ns,a<=M)->Q (.int M t) {s with heap:=h',toks:=tk}):wpAny (model prog w) A (call (.builtin "max") [.ref l]) Q E s:=by
 obtain⟨ys,e⟩:=hi.allInts.items;have en:ns=ys.toList.map (·.1):=by rw[←hi.numsOf,←w4t,←e]
 have zy:0<ys.size:=by
  have q:0<ns.length:=w3g.mpr hz
  rwa [en,d5,x3]at q
 rw[e]at hl;refine max_intList hh hl zy λv h1 tk q k=>?_
 obtain⟨t,ev⟩:=w39 q;subst ev;obtain⟨g1,g2⟩:=argBest_gt (numAt ys) (ys.size - 1);refine h h1 _ t tk k ?_ λa ha=>?_
 ·rw[en,w3P];exact z7Y (by rw[d5,x3];omega)
 ·rw[en]at ha;obtain⟨j,hj,ej⟩:=mem_getD ha;subst ej;rw[d5,x3]at hj;rw[←w3P];exact g2 j (by omega)
theorem extL(e:s.heap.get? l=some {cls:=.type "list",data:=.seq items n})(hb:s.heap.IsList b new\/IsTup s.heap b new)(hz:items.size+new.size<=sizeLine)
  (h:Q .none {s with heap:=s.heap.update l (Obj.mapSeq (· ++ new))}):wpAny (model prog w) A (call (.builtin "list.extend") [.ref l,.ref b]) Q E s:=by
 have ht:s.TypeIs (.ref l) "list":=⟨_,e,rfl⟩;refine F7 F.slot_list_extend ht F.entry_list_extend ?_ (F.args_list_extend_2 _ _);unfold Builtin.«list.extend»;refine b6 (d4 ?_);show wpAny (model prog w) _ (Builtin.List.listExtendWith (.ref l) (.ref b) .none) _ _ _;unfold Builtin.List.listExtendWith;obtain⟨ob,eb,T,hT,n2,hd⟩:∃ob,s.heap.get? b=some ob/\∃T:String,(ob.cls=.type T/\(T = "list" \/ T = "tuple"))/\∃n2,ob.data=.seq new n2:=by
  rcases hb with⟨o,a1,a2,a3,a4⟩ | ⟨o,a1,a2,a3,a4⟩
  ·exact⟨o,a1,"list",⟨a2,.inl rfl⟩,a3,a4⟩
  ·exact⟨o,a1,"tuple",⟨a2,.inr rfl⟩,a3,a4⟩
 refine b6 (w3J (T:=T) ⟨ob,eb,hT.1⟩ ?_);have c:(Builtin.List.listSameRef (.ref l) (.ref b)||Value.type T == .type "list" || Value.type T == .type "tuple")=true:=by
  rcases hT.2 with z | z<;>subst z
  ·rw[show(Value.type "list" == Value.type "list")=true by decide,Bool.or_true,Bool.true_or]
  ·rw[show(Value.type "tuple" == Value.type "tuple")=true by decide,Bool.or_true]
 rw[b8 c];refine b6 (w4x eb hd (b6 (w4x e rfl ?_)));rw[d7 (by rw[q9a hz,w3h];exact v9)];refine b6 (w3x e rfl ?_ (by omega) (by show(items++new).size<=_;rw[Array.size_append];omega));exact d4 ⟨_,rfl,h⟩
end
section
variable {X:Cx} {pos:Pos}
def y2j(K:PySem.W.Frag):V->List V->Hp->VK->Prop:=λx vs H Q=>∃l b xs zs,x=.ref l/\vs=[.ref b]/\H l=some (.lst xs)/\(SqL K H b zs\/SqT K H b zs)/\xs.length+zs.length<=sizeLine/\Q .non (upd H l (.lst (xs++zs)))
theorem z9u:MtM X "list.extend" (y2j X.K):=by
 intro pins s σ H x vs v us Q I rx rv h;obtain⟨l,b,xs,zs,rfl,rfl,hH,hB,hz,q⟩:=h;cases rx;obtain⟨u,rfl,ru⟩:=rv.one;cases ru;obtain⟨z,its,n,r,hl,e⟩:=I.lstM hH;obtain⟨its2,r2,ob⟩:∃its2:List Value,Vals zs its2/\(s.heap.IsList b its2.toArray\/IsTup s.heap b its2.toArray):=by
  rcases hB with hB | hB
  ·obtain⟨its2,r2,pl,_⟩:=I.list hB;exact⟨its2,r2,.inl pl.isList⟩
  ·obtain⟨its2,r2,pl,_⟩:=I.tuple hB;exact⟨its2,r2,.inr pl⟩
 have e2:=r2.length;refine extL e ob (by rw[o9,o9];omega) ?_;refine⟨.non,_,I.lset (its':=its++its2) (t':=s.toks) hH e (by simp) (r.append r2) ?_,rfl,q⟩;rw[p9];omega
theorem z1Z:∀{ns:List Int} {us:List Value},Vals (ns.map V.int) us->IntsAre us ns
 | [],us,h=>by cases h;exact .nil
 | n::ns,us,h=>by
  cases h with
  | cons r t=>
   obtain⟨tk,rfl⟩:=r;exact .cons n tk (z1Z t)
theorem z8D:∀{ns:List Int} {us:List Value},IntsAre us ns->Vals (ns.map V.int) us
 | _,_,.nil=>.nil
 | _,_,.cons n t h=>.cons ⟨t,rfl⟩ (z8D h)
theorem z1A(hc:X.calm=true):x0 X (.builtin "min") (λxs H Q=>∃(a:Addr) (ns:List Int),xs=[.ref a]/\SqL X.K H a (ns.map V.int)/\ns≠[]/\∀M,M∈ns->(∀x∈ns,M<=x)->Q (.int M) H):=by
 intro pins s σ H xs us Q I r h;obtain⟨a,ns,rfl,hq,hz,q⟩:=h;obtain⟨u,rfl,r1⟩:=K3 r;cases r1;obtain⟨its,rv,pl,_⟩:=I.list hq;exact minL (I.ok.hd hc) pl.isList (z1Z rv) hz λh' M t tk k m1 m2=>⟨.int M,H,I.kept k,⟨t,rfl⟩,q M m1 m2⟩
theorem z2u(hc:X.calm=true):x0 X (.builtin "max") (λxs H Q=>∃(a:Addr) (ns:List Int),xs=[.ref a]/\SqL X.K H a (ns.map V.int)/\ns≠[]/\∀M,M∈ns->(∀x∈ns,x<=M)->Q (.int M) H):=by
 intro pins s σ H xs us Q I r h;obtain⟨a,ns,rfl,hq,hz,q⟩:=h;obtain⟨u,rfl,r1⟩:=K3 r;cases r1;obtain⟨its,rv,pl,_⟩:=I.list hq;exact maxL (I.ok.hd hc) pl.isList (z1Z rv) hz λh' M t tk k m1 m2=>⟨.int M,H,I.kept k,⟨t,rfl⟩,q M m1 m2⟩
def setO(P:Program)(w:World)(a:Addr)(ks:List Int):HO:=.ext λh=>SetI P w h a ks
theorem z7F(x:SetI P w h a ks):n4 P w H h a (setO P w a ks):=
 ⟨x,let ⟨o,_,_,_,e,_⟩:=x;⟨o,e⟩,λh1 h2 q k=>q.at k⟩
theorem z5H(ns:List Int):fm (λi=>ns.getD i 0) ns.length=ns.foldl dk []:=by
 unfold fm
 congr 1
 refine w3B λj=>?_;rw[n9];by_cases hj:j<ns.length
 ·rw[w2c hj,J9,D2,p7 hj];rfl
 ·rw[U5 (by rw[w6];omega),U5 (by omega)];rfl
theorem z2h(hc:X.calm=true):x0 X (.type "set") (λxs H Q=>∃(a:Addr) (ns:List Int),xs=[.ref a]/\SqL X.K H a (ns.map V.int)/\ns.length<4000/\∀p,H p=none->Q (.ref p) (upd H p (setO X.prog X.w p (ns.foldl dk [])))):=by
 intro pins s σ H xs us Q I r h;obtain⟨a,ns,rfl,hq,hz,q⟩:=h;obtain⟨u,rfl,r1⟩:=K3 r;cases r1;obtain⟨its,rv,pl,_⟩:=I.list hq;have hi:=z1Z rv;have hl:its.length=ns.length:=by rw[←rv.length,d5]
 refine z8F (I.ok.hd hc) pl.isList hi (by rw[o9,hl];show _<4096;omega) λh' tk S k=>?_;have hz2:its.toArray.size=ns.length:=by rw[o9,hl]
 rw[hz2,z5H]at S;exact⟨.ref s.heap.objs.size,_,I.laid k (e9 _) (z7F S),rfl,q _ I.fresh⟩
theorem q9K(hc:X.calm=true):x0 X (.builtin "sorted") (λxs H Q=>∃(p:Addr) (ks:List Int),xs=[.ref p]/\H p=some (setO X.prog X.w p ks)/\ks.length<64/\∀(q:Addr) (ms:List Int),H q=none->ms.Perm ks->ms.Pairwise (· <= ·)->Q (.ref q) (upd H q (.lst (ms.map V.int)))):=by
 intro pins s σ H xs us Q I r h;obtain⟨p,ks,rfl,hH,hz,q⟩:=h;obtain⟨u,rfl,r1⟩:=K3 r;cases r1;have S:SetI X.prog X.w s.heap p ks:=(I.hok p _ hH).1;refine q9I (I.ok.hd hc) S hz λh' tk d p' vs ns e k hp he hi hpm hpw=>?_
 have hv:=z8D hi;have hl:ns.length<=sizeLine:=(by rw[hpm.length_eq,K9];omega);have ok:n4 X.prog X.w (upd H p' (.lst (ns.map V.int))) h' p' (.lst (ns.map V.int)):=⟨by rw[d5];exact hl,vs.toList,e,hv,by rw[Array.toArray_toList];exact he⟩;have I1:=I.laid (t':=tk) k hp ok;refine⟨.ref p',_,?_,rfl,q p' ns (I.hok.fresh hp) hpm hpw⟩;exact⟨I1.ok,I1.os,I1.bare,I1.base,I1.loc,I1.cell,I1.free,I1.freeC,I1.pin,I1.hok,I1.len⟩
end
end
end L2
end
noncomputable section
namespace L2
open PySem PySem.Spec PySem.Calls PyProof.Rows PySem.W
section
section
variable {prog:Program} {w:World} {A:Around} {E:Value->Shared->Prop} {s:Shared}
theorem q7w(hh:A.handled=none)(ht:s.heap.IsTuple t (intItems xs))(hne:0<xs.size)
  (h:∀v h' tk,(intItems xs)[argBest (λi j=>decide (numAt xs i<numAt xs j)) (xs.size - 1)]? = some v->(∀b o,s.heap.get? b=some o->h'.get? b=some o)->Q v {s with heap:=h',toks:=tk}) :
  wpAny (model prog w) A (call (.builtin "min") [.ref t]) Q E s:=by
 obtain⟨o,ho,hc,n,hd⟩:=id ht;have hlt:t<s.heap.objs.size:=i9 ho;refine call_min_walk (wpAny_pyIter_tuple ht ?_);refine⟨_,_,_,_,_,_,_,rfl,Walks.tuple (A:=A.in1) hh _ t (o4 hlt) (intItems xs),⟨⟨_,p8 _ rfl,rfl,rfl⟩,ht.push _⟩,λb hb=>?_,by simpa[intItems]using hne,CmpOf.ints_lt (numAt xs) (λ_ _=>w39),λv h' tk hP hk=>?_⟩
 ·show b<(s.heap.push _).objs.size;rw[K0];rcases e8.mp hb with rfl | hb
  ·exact U7 _
  ·rcases e8.mp hb with rfl | hb
   ·exact D3 hlt
   ·cases hb
 ·refine h v h' tk (by simpa[intItems]using hP) λb o e=>hk b o (λhm=>?_) (j2 _ e);rcases e8.mp hm with e1 | hm
  ·exact absurd (e1▸i9 e) (O4 _)
  ·cases hm
end
theorem z4L(hc:∀i,i+1<n->∀C:Bool->Shared->Prop,C false s->cmp (i+1) i C s):∀(f m:Nat),1<=m->m+f=n->Q n s->(kas_asc (List.toArray (List.range n)) f m).kasWp cmp Q s
 | 0,m,_,h,q=>by
  have:m=n:=by omega
  subst this;exact q
 | f+1,m,h1,h,q=>by
  have e1:(List.toArray (List.range n)).getD m 0=m:=by simp[Array.getD];omega
  have e2:(List.toArray (List.range n)).getD (m - 1) 0=m - 1:=by simp[Array.getD];omega
  show cmp ((List.toArray (List.range n)).getD m 0) ((List.toArray (List.range n)).getD (m - 1) 0) (λb s'=>(if b=true then KasT.ret m else kas_asc (List.toArray (List.range n)) f (m+1)).kasWp cmp Q s') s;rw[e1,e2];obtain⟨i,rfl⟩:∃i,m=i+1:=⟨m - 1,by omega⟩;refine hc i (by omega) _ ?_;rw[d7 v9];exact z4L hc f (i+2) (by omega) (by omega) q
section
variable {prog:Program} {w:World} {A:Around} {E:Value->Shared->Prop} {s:Shared}
end
end
end L2
end
noncomputable section
namespace L2
open PySem PySem.Spec PyProof.Rows
section
section
variable {prog:Program} {w:World} {A:Around} {E:Value->Shared->Prop} {s:Shared}
theorem minT(hh:A.handled=none)(hl:s.heap.IsTuple l vs.toArray)(hi:IntsAre vs ns)(hz:ns≠[])
  (h:∀h' M (t:Tok) tk,(∀b o,s.heap.get? b=some o->h'.get? b=some o)->M∈ns->(∀a∈ns,M<=a)->Q (.int M t) {s with heap:=h',toks:=tk}):wpAny (model prog w) A (call (.builtin "min") [.ref l]) Q E s:=by
 obtain⟨ys,e⟩:=hi.allInts.items;have en:ns=ys.toList.map (·.1):=by rw[←hi.numsOf,←w4t,←e]
 have zy:0<ys.size:=by
  have q:0<ns.length:=w3g.mpr hz
  rwa [en,d5,x3]at q
 rw[e]at hl;refine q7w hh hl zy λv h1 tk q k=>?_
 obtain⟨t,ev⟩:=w39 q;subst ev;obtain⟨g1,g2⟩:=argBest_lt (numAt ys) (ys.size - 1);refine h h1 _ t tk k ?_ λa ha=>?_
 ·rw[en,w3P];exact z7Y (by rw[d5,x3];omega)
 ·rw[en]at ha;obtain⟨j,hj,ej⟩:=mem_getD ha;subst ej;rw[d5,x3]at hj;rw[←w3P];exact g2 j (by omega)
end
section
variable {X:Cx}
theorem z2P(hc:X.calm=true):x0 X (.builtin "min") (λxs H Q=>∃(a:Addr) (ns:List Int),xs=[.ref a]/\SqT X.K H a (ns.map V.int)/\ns≠[]/\∀M,M∈ns->(∀x∈ns,M<=x)->Q (.int M) H):=by
 intro pins s σ H xs us Q I r h;obtain⟨a,ns,rfl,hq,hz,q⟩:=h;obtain⟨u,rfl,r1⟩:=K3 r;cases r1;obtain⟨its,rv,pl,_⟩:=I.tuple hq;exact minT (I.ok.hd hc) pl (z1Z rv) hz λh' M t tk k m1 m2=>⟨.int M,H,I.kept k,⟨t,rfl⟩,q M m1 m2⟩
end
end
end L2
end
noncomputable section
namespace L2
open PySem PySem.Spec PySem.Calls PyProof.Rows PySem.W
section
section
variable {prog:Program} {w:World} {A:Around} {R:Result->Shared->Prop} {I:Addr} {fp wr:List Addr} {n:Nat} {P:Nat->Value->Prop} {St:Nat->Heap->Prop}
end
section
variable {prog:Program} {w:World} {A:Around} {E:Value->Shared->Prop} {s:Shared}
def TrAt(h:Heap)(v:Value)(p:Int×Int×Int):Prop:=∃a o n t1 t2 t3,v=.ref a/\h.get? a=some o/\o.cls=.type "tuple" /\ o.data=.seq #[.int p.1 t1,.int p.2.1 t2,.int p.2.2 t3] n
def E5(h:Heap):List Value->List (Int×Int×Int)->Prop
 | [],[]=>True
 | v::vs,p::ps=>TrAt h v p/\E5 h vs ps
 | _,_=>False
def z2C:List Value->List Addr
 | []=>[]
 | .ref a::vs=>a::z2C vs
 | _::vs=>z2C vs
theorem E5.len:∀{vs:List Value} {ps:List (Int×Int×Int)},E5 h vs ps->vs.length=ps.length
 | [],[],_=>rfl
 | _::_,_::_,x=>by rw[x4,x4,x.2.len]
 | [],_::_,x=>x.elim
 | _::_,[],x=>x.elim
theorem E5.keep:∀{vs:List Value} {ps:List (Int×Int×Int)},E5 h vs ps->(∀b∈z2C vs,∀o,h.get? b=some o->h'.get? b=some o)->E5 h' vs ps
 | [],[],_,_=>trivial
 | _::_,_::_,x,k=>by obtain⟨⟨a,o,n,t1,t2,t3,rfl,e,c,d⟩,y⟩:=x;exact⟨⟨a,o,n,t1,t2,t3,rfl,k a (i8 ..) o e,c,d⟩,y.keep λb hb=>k b (i6 _ hb)⟩
 | [],_::_,x,_=>x.elim
 | _::_,[],x,_=>x.elim
theorem E5.get:∀{vs:List Value} {ps:List (Int×Int×Int)} {i:Nat} {v:Value},E5 h vs ps->vs[i]? = some v->TrAt h v (ps.getD i (0,0,0))
 | [],[],_,_,_,e=>by simp at e
 | _::_,_::_,0,_,x,e=>by have:_=_:=C6 e;subst this;exact x.1
 | _::_,_::_,i+1,_,x,e=>x.2.get (by simpa using e)
 | [],_::_,_,_,x,_=>x.elim
 | _::_,[],_,_,x,_=>x.elim
end
end
end L2
end
noncomputable section
namespace L2
open PySem PySem.Spec PyProof.Rows
section
variable {X:Cx}
def TrsV(K:PySem.W.Frag)(H:Hp):List V->List (Int×Int×Int)->Prop
 | [],[]=>True
 | v::vs,p::ps=>(∃a,v=.ref a/\SqT K H a [.int p.1,.int p.2.1,.int p.2.2])/\TrsV K H vs ps
 | _,_=>False
theorem y0U(h:Vals [x,y,z] us):∃u v w,us=[u,v,w]/\RelV x u/\RelV y v/\RelV z w:=by
 cases h with
 | cons r t=>
  obtain⟨v,w,rfl,r2,r3⟩:=z0w t;exact⟨_,v,w,rfl,r,r2,r3⟩
theorem TrsV.at{σ:St}(I:Inv X pins σ H s):∀{vs:List V} {ps:List (Int×Int×Int)} {its:List Value},TrsV X.K H vs ps->Vals vs its->E5 s.heap its ps
 | [],[],its,_,r=>by cases r;exact trivial
 | _::_,p::ps,its,x,r=>by
  obtain⟨⟨a,rfl,h1⟩,h2⟩:=x;cases its with
  | nil=>cases r
  | cons u us=>
   cases r;rename_i r1 r2;cases r1;obtain⟨its2,rv,⟨o,e1,e2,n,e3⟩,_⟩:=I.tuple h1;obtain⟨u1,u2,u3,rfl,⟨t,rfl⟩,⟨t',rfl⟩,⟨t2,rfl⟩⟩:=y0U rv;exact⟨⟨a,o,n,t,t',t2,rfl,e1,e2,e3⟩,h2.at I r2⟩
 | [],_::_,_,x,_=>x.elim
 | _::_,[],_,x,_=>x.elim
end
end L2
end
noncomputable section
namespace L2
open PySem PySem.Spec PySem.Calls PyProof.Rows PySem.W
section
theorem z1t:∀{ps:List (Int×Int×Int)} {i:Nat},L4 ps=true->i+1<ps.length->ltT (ps.getD (i+1) (0,0,0)) (ps.getD i (0,0,0))=false
 | [],_,_,h=>by simp at h
 | [_],_,_,h=>by simp at h
 | p::q::r,i,hr,h=>by
  have hr':(ltT p q&&L4 (q::r))=true:=hr;rw[b9]at hr';cases i with
  | zero=>
   show ltT q p=false;have:=hr'.1;unfold ltT at this ⊢;simp only[C7,F6,b9,d8]at this;simp only[K8,w2R,Bool.and_eq_false_iff,t7];omega
  | succ i=>exact z1t (ps:=q::r) hr'.2 (by simpa using h)
theorem z8y:∀(f n r:Nat),r<=1->minRun' f n r<=n+r
 | 0,n,r,_=>e9 _
 | f+1,n,r,h=>by
  rw[minRun'_succ];split
  ·exact e9 _
  ·refine i7 (z8y f (n/2) (max r (n%2)) (by omega)) ?_;omega
section
variable {prog:Program} {w:World} {A:Around} {E:Value->Shared->Prop} {s:Shared}
theorem q6X(hu:TrAt s.heap u p)(hv:TrAt s.heap v q)(h:Q (ltT p q) s):wpAny (model prog w) A (keyLt' (tuples' true) u v) Q E s:=by
 obtain⟨a,oa,na,t1,t2,t3,rfl,ea,ca,da⟩:=hu;obtain⟨b,ob,nb,u1,u2,u3,rfl,eb,cb,db⟩:=hv;refine kat_lt ea da eb db ?_;show KatLex prog w A true (decide (3<3)) Q [(.int p.1 t1,.int q.1 u1),(.int p.2.1 t2,.int q.2.1 u2),(.int p.2.2 t3,.int q.2.2 u3)] 0 s;unfold ltT at h;refine kat_cons (w2Z ?_);by_cases h1:p.1=q.1
 ·rw[d8.mpr h1];rw[D4 (show ¬p.1<q.1 by omega),d8.mpr h1,w4u,V1]at h;refine kat_yes (kat_cons (w2Z ?_));by_cases h2:p.2.1=q.2.1
  ·rw[d8.mpr h2];rw[D4 (show ¬p.2.1<q.2.1 by omega),d8.mpr h2,w4u,V1]at h;refine kat_yes (kat_cons (w2Z ?_));by_cases h3:p.2.2=q.2.2
   ·rw[d8.mpr h3];rw[D4 (show ¬p.2.2<q.2.2 by omega)]at h;exact kat_yes (kat_nil h)
   ·rw[t7.mpr h3];refine kat_no ?_;show wpAny (model prog w) A (oneLt' false (.int p.2.2 t3) (.int q.2.2 u3)) Q (λ_ _=>False) s;exact kat_one _ _ (wpAny_lt_int h)
  ·rw[t7.mpr h2];rw[t7.mpr h2,G6,w3w]at h;refine kat_no ?_;show wpAny (model prog w) A (oneLt' false (.int p.2.1 t2) (.int q.2.1 u2)) Q (λ_ _=>False) s;exact kat_one _ _ (wpAny_lt_int h)
 ·rw[t7.mpr h1];rw[t7.mpr h1,G6,w3w]at h;refine kat_no ?_;show wpAny (model prog w) A (oneLt' true (.int p.1 t1) (.int q.1 u1)) Q (λ_ _=>False) s;exact oneLt_int h
theorem z7L(h2:2<=n)(hc:∀i,i+1<n->∀C:Bool->Shared->Prop,C false s->kas_cmp prog w A κ it (i+1) i C s)
  (q:∀st',arrOf st'=(List.toArray (List.range n)).map (kas_item it)->failedOf st'=none->Q () st' s):kasC (model prog w) A E sortRuns' Q (kas_st κ it (List.toArray (List.range n))) s:=by
 have hz:(List.toArray (List.range n)).size=n:=by simp
 have hk:(kas_count n (List.toArray (List.range n))).kasWp (kas_cmp prog w A κ it) (λr s'=>r=(n,List.toArray (List.range n))/\s'=s) s:=(by unfold kas_count;rw[KasT.kasWp_bind];refine z4L hc (n - 1) 1 (e9 _) (by omega) ?_;show(if(n==n)=true then KasT.ret (n,List.toArray (List.range n))else _).kasWp _ _ s;rw[b8 (Z0 n)];exact⟨rfl,rfl⟩);obtain⟨r,rfl⟩:∃r,n=r+2:=⟨n - 2,by omega⟩;rw[sortRuns'_eq];refine kasC_bind (kasC_get ?_);have hs:(arrOf (kas_st κ it (List.toArray (List.range (r+2))))).size=r+2:=by show((List.toArray (List.range (r+2))).map (kas_item it)).size=_;rw[Array.size_map,hz]
 have hm:¬(r+2<minRun' (r+2) (r+2) 0):=Nat.not_lt.mpr (z8y (r+2) (r+2) 0 (by omega));dsimp only;rw[hs];generalize minRun' (r+2) (r+2) 0=M at hm ⊢;refine kasC_bind (kasC_range ?_);show kasC _ _ _ (forIn (0::1::List.range' 2 r) _ _) _ _ _;refine kasC_cons ?_;dsimp only;rw[d7 (by omega)];simp only[Nat.sub_zero,Nat.zero_add];refine kasC_bind (kas_count_ (by omega) (by rw[hz];exact e9 _) (λm p' s' _ _ _ hg=>?_) hk);obtain⟨g1,rfl⟩:=hg;obtain⟨rfl,rfl⟩:=w4a g1;dsimp only;rw[d7 hm];refine kasC_bind (kasC_get ?_);rw[show(pendingOf (kas_st κ it (List.toArray (List.range (r+2))))).back? = none from rfl];dsimp only;refine kasC_bind (kasC_modify (kasC_pure (kasC_cons ?_)));dsimp only;rw[b8 (e9 _)];refine kasC_pure (kasC_bind (kasC_range ?_));show kasC _ _ _ (forIn (0::1::List.range' 2 r) _ _) _ _ _;refine kasC_cons (kasC_bind (kasC_get ?_));rw[b8 (show(pendingOf (setPending (kas_st κ it (List.toArray (List.range (r+2)))) ((pendingOf (kas_st κ it (List.toArray (List.range (r+2))))).push (0,r+2,0)))).size<=1 from e9 1)];exact kasC_pure (kasC_pure (q _ rfl rfl))
theorem E5.keepNe(ho:h.get? a=some (seqObj "list" xs n))(k:∀b o,b≠a->h.get? b=some o->h'.get? b=some o)(x:E5 h vs ps):E5 h' vs ps:=by
 induction vs generalizing ps with
 | nil=>cases ps with | nil=>trivial | cons _ _=>exact x.elim
 | cons v vs ih=>
  cases ps with
  | nil=>exact x.elim
  | cons p ps=>
   obtain⟨⟨b,o,m,t1,t2,t3,e1,e2,e3,e4⟩,y⟩:=x;refine⟨⟨b,o,m,t1,t2,t3,e1,k b o (λz=>?_) e2,e3,e4⟩,ih y⟩;subst z;rw[ho]at e2;cases e2;exact absurd e3 (by intro z;injection z with z;exact absurd z (by decide))
theorem E5.tups(x:E5 h vs ps):∃fs,KatTups h vs fs/\fs.length=vs.length/\∀v∈fs,∃i t,v=Value.int i t:=by
 induction vs generalizing ps with
 | nil=>exact⟨[],trivial,rfl,λ_ h=>nomatch h⟩
 | cons v vs ih=>
  cases ps with
  | nil=>exact x.elim
  | cons p ps=>
   obtain⟨⟨a,o,n,t1,t2,t3,rfl,e2,e3,e4⟩,y⟩:=x;obtain⟨fs,k1,k2,k3⟩:=ih y;refine⟨.int p.1 t1::fs,KatTups.cons e2 e3 e4 rfl k1,by rw[x4,x4,k2],λv hv=>?_⟩;rcases e8.mp hv with q | q
   ·exact⟨_,_,q⟩
   ·exact k3 v q
theorem q7j(ho:s.heap.get? a=some (seqObj "list" vs.toArray n))(hp:E5 s.heap vs ps)(hr:L4 ps=true)(hz:ps.length<=1000)
  (h:P (.done (.ret .none)) {s with heap:=sortedHeap s.heap a vs vs.toArray}):wpAny (model prog w) A (Builtin.«list.sort» ⟨[.ref a],[]⟩) P E s:=by
 have hl:=hp.len;rw[list_sort_plain];have ha:a<s.heap.objs.size:=i9 ho;refine b6 (w4x ho rfl ?_);refine b6 (w3x ho rfl ?_ (by rw[o9,K9];omega) (A7 _));obtain⟨e1,ho1⟩:∃e1,(s.heap.update a (Obj.mapSeq λ_=>(#[]:Array Value))).get? a=some (seqObj "list" #[] e1):=⟨_,get?_update_seq ho λ_=>#[]⟩;refine b6 (seqEpoch_at ho1 rfl ?_);refine b6 (wpAny_newTuple ?_ (by show vs.length<=_;rw[K9];omega));refine b6 (w4s ?_ (A7 _));refine E9 ?_;have keep:∀b o,b≠a->s.heap.get? b=some o->(((s.heap.update a (Obj.mapSeq λ_=>(#[]:Array Value))).push (seqObj "tuple" vs.toArray 0)).push (seqObj "list" #[] 0)).get? b=some o:=λb o hb e=>by have hbl:=i9 e;rw[Y9 _ _ _ (by rw[w3G,w2x];exact o4 (D3 hbl)),Y9 _ _ _ (by rw[w2x];exact o4 hbl),Heap.get?_update_ne _ _ _ _ hb];exact e
 have ho6:(((s.heap.update a (Obj.mapSeq λ_=>(#[]:Array Value))).push (seqObj "tuple" vs.toArray 0)).push (seqObj "list" #[] 0)).get? a=some (seqObj "list" #[] e1):=(by rw[Y9 _ _ _ (by rw[w3G,w2x];exact o4 (D3 ha)),Y9 _ _ _ (by rw[w2x];exact o4 ha)];exact ho1);show wpAny (model prog w) A _ P E {s with heap:=((s.heap.update a (Obj.mapSeq λ_=>(#[]:Array Value))).push (seqObj "tuple" vs.toArray 0)).push (seqObj "list" #[] 0)};dsimp only;have zp:(vs.toArray.zip vs.toArray).map (·.2)=vs.toArray:=by apply Array.ext (by simp);intro i h1 h2;simp
 by_cases h2':vs.toArray.size<2
 ·rw[b8 h2',b8 h2'];refine b6 (d4 ?_);rw[StateT.run_pure];refine b6 (d4 ?_);dsimp only;refine b6 (seqEpoch_at ho6 rfl ?_);have ez:(arrOf (SortSt.mk' general' (vs.toArray.zip vs.toArray) #[] 7 none)).map (·.2)=vs.toArray:=zp;rw[ez];refine b6 (w3x ho6 rfl ?_ (A7 _) (by rw[o9,K9];omega));simp only[Y8,N9,if_false];exact d4 h
 rw[d7 h2',d7 h2'];rw[o9]at h2';have hp':=hp.keepNe ho keep;obtain⟨fs,k1,k2,k3⟩:=hp'.tups;refine b6 (kat_kind (T:=.type "int") k1 (by omega) (λv hv=>?_) rfl ?_)
 ·obtain⟨i,t,rfl⟩:=k3 v hv;exact .now
 have er:=kas_range (vs.toArray.zip vs.toArray);rw[show(vs.toArray.zip vs.toArray).size=vs.length by simp]at er;have run:=z7L (prog:=prog) (w:=w) (A:=A) (E:=E) (s:={s with heap:=((s.heap.update a (Obj.mapSeq λ_=>(#[]:Array Value))).push (seqObj "tuple" vs.toArray 0)).push (seqObj "list" #[] 0)}) (κ:=tuples' true) (it:=vs.toArray.zip vs.toArray) (n:=vs.length)
  (Q:=λ_ st' s'=>arrOf st'=vs.toArray.zip vs.toArray/\failedOf st'=none/\s' = {s with heap:=((s.heap.update a (Obj.mapSeq λ_=>(#[]:Array Value))).push (seqObj "tuple" vs.toArray 0)).push (seqObj "list" #[] 0)})
  (by omega) (λi hi C hC=>by
   have eq:=congrFun (congrFun (congrFun (congrFun (kat_ask_eq (prog:=prog) (w:=w) (A:=A) (κ:=tuples' true) (ks:=vs) (vs:=vs) rfl) (i+1)) i) C) {s with heap:=((s.heap.update a (Obj.mapSeq λ_=>(#[]:Array Value))).push (seqObj "tuple" vs.toArray 0)).push (seqObj "list" #[] 0)};rw[←eq];have g1:∀j,j<vs.length->TrAt (((s.heap.update a (Obj.mapSeq λ_=>(#[]:Array Value))).push (seqObj "tuple" vs.toArray 0)).push (seqObj "list" #[] 0)) (vs.getD j .none) (ps.getD j (0,0,0)):=λj hj=>hp'.get (by rw[D2,p7 hj];rfl);show wpAny (model prog w) A (keyLt' (tuples' true) (vs.getD (i+1) .none) (vs.getD i .none)) C (λ_ _=>False) _;refine q6X (g1 _ hi) (g1 _ (by omega)) ?_;rw[z1t hr (by omega)];exact hC) (λst' q1 q2=>⟨q1.trans er,q2,rfl⟩)
 have est:SortSt.mk' (tuples' true) (vs.toArray.zip vs.toArray) #[] 7 none=kas_st (tuples' true) (vs.toArray.zip vs.toArray) (List.toArray (List.range vs.length)):=(by show SortSt.mk' _ _ #[] 7 none=SortSt.mk' _ ((List.toArray (List.range vs.length)).map (kas_item (vs.toArray.zip vs.toArray))) #[] 7 none;rw[er]);have run':wpAny (model prog w) A (sortRuns'.run (SortSt.mk' (tuples' true) (vs.toArray.zip vs.toArray) #[] 7 none)) (λr s'=>arrOf r.2=vs.toArray.zip vs.toArray/\failedOf r.2=none/\s' = {s with heap:=((s.heap.update a (Obj.mapSeq λ_=>(#[]:Array Value))).push (seqObj "tuple" vs.toArray 0)).push (seqObj "list" #[] 0)}) E {s with heap:=((s.heap.update a (Obj.mapSeq λ_=>(#[]:Array Value))).push (seqObj "tuple" vs.toArray 0)).push (seqObj "list" #[] 0)}:=(by rw[est];exact run);refine b6 (B4 run' ?_ λ_ _ e=>e)
 ·rintro⟨⟨⟩,st'⟩ s' ⟨har,hf,rfl⟩
  dsimp only;refine b6 (seqEpoch_at ho6 rfl ?_);dsimp only at har hf;rw[har,zp];refine b6 (w3x ho6 rfl ?_ (A7 _) (by rw[o9,K9];omega));rw[hf];simp only[Y8,N9,if_false];exact d4 h
theorem q5z(hl:s.heap.IsList l vs.toArray)(hp:E5 s.heap vs ps)(hr:L4 ps=true)(hm:ps.length<=1000)
  (h:∀h' p e,(∀b o,s.heap.get? b=some o->h'.get? b=some o)->s.heap.objs.size<=p->h'.get? p=some (seqObj "list" vs.toArray e)->Q (.ref p) {s with heap:=h'}) :
  wpAny (model prog w) A (call (.builtin "sorted") [.ref l]) Q E s:=by
 have hz:=hp.len;refine w3F kind_sorted plain_sorted entry_sorted (args_sorted1 _) ?_
 unfold Builtin.«sorted»;refine b6 (m:=checkCount "sorted" 1 1 _) (d4 ?_);refine b6 (collect_list hl ?_ (by rw[K9];omega));refine b6 (w4s ?_ (by rw[K9];omega));have hsz:((s.heap.push (seqObj "list" #[] 0)).update s.heap.objs.size (Obj.mapSeq (· ++ vs.toArray))).objs.size=s.heap.objs.size+1:=(by rw[w2x,w3G]);have hoL:(((s.heap.push (seqObj "list" #[] 0)).update s.heap.objs.size (Obj.mapSeq (· ++ vs.toArray))).push (seqObj "list" vs.toArray 0)).get? (s.heap.objs.size+1)=some (seqObj "list" vs.toArray 0):=(by rw[←hsz];exact p8 _ rfl);have keep:∀b o,s.heap.get? b=some o->(((s.heap.push (seqObj "list" #[] 0)).update s.heap.objs.size (Obj.mapSeq (· ++ vs.toArray))).push (seqObj "list" vs.toArray 0)).get? b=some o:=λb o q=>by have hlt:b<s.heap.objs.size:=i9 q;rw[Y9 _ _ _ (by rw[hsz];exact o4 (D3 hlt)),Heap.get?_update_ne _ _ _ _ (o4 hlt),Y9 _ _ _ (o4 hlt)];exact q
 show wpAny _ _ _ _ _ {s with heap:=((s.heap.push (seqObj "list" #[] 0)).update s.heap.objs.size (Obj.mapSeq (· ++ vs.toArray))).push (seqObj "list" vs.toArray 0)};rw[hsz];refine b6 (E9 (F7 slot_list_sort ⟨_,hoL,rfl⟩ entry_list_sort (q7j (s:={s with heap:=((s.heap.push (seqObj "list" #[] 0)).update s.heap.objs.size (Obj.mapSeq (· ++ vs.toArray))).push (seqObj "list" vs.toArray 0)}) hoL (hp.keep λb _ o q=>keep b o q) hr hm ⟨_,rfl,?_⟩) (args_list_sort _)));refine d4 ⟨_,rfl,?_⟩;obtain⟨e,he⟩:=sortedHeap_at (out:=vs.toArray) hoL;refine h _ _ e (λb o q=>?_) (w3m _) he;have hlt:b<s.heap.objs.size:=i9 q;rw[sortedHeap_old (o4 (D3 hlt)) (by rw[w3G,hsz];exact D3 (D3 hlt))];exact keep b o q
end
section
variable {X:Cx}
theorem q9R:x0 X (.builtin "sorted") (λxs H Q=>∃(a:Addr) (vs:List V) (ps:List (Int×Int×Int)),xs=[.ref a]/\SqL X.K H a vs/\TrsV X.K H vs ps/\L4 ps=true/\ps.length<=1000/\∀q,H q=none->Q (.ref q) (upd H q (.lst vs))):=by
 intro pins s σ H xs us Q I r h;obtain⟨a,vs,ps,rfl,hq,hp,hr,hz,q⟩:=h;obtain⟨u,rfl,r1⟩:=K3 r;cases r1;obtain⟨its,rv,pl,zl⟩:=I.list hq;refine q5z pl.isList (hp.at I rv) hr hz λh' p' e k hp' he=>?_
 have ok:n4 X.prog X.w (upd H p' (.lst vs)) h' p' (.lst vs):=⟨zl,its,e,rv,he⟩;exact⟨.ref p',_,I.laid (t':=s.toks) k hp' ok,rfl,q p' (I.hok.fresh hp')⟩
end
end
end L2
end
noncomputable section
namespace L2
open PySem
section
structure Sg where
 N:List Str
 sc:List (Str×NameKind)
 fn:List Str
 bl:List Str
 cl:List Str
 top:Bool
 lp:Bool
def z1L:List Str:=["ValueError"]
def p0:Expr->Option Str | .Name x _=>some x | _=>none
def W4:Expr->Option Const | .Constant c _ _=>some c | _=>none
def z4z:Expr->Option (Expr×Operator×Expr) | .BinOp a o b _=>some (a,o,b) | _=>none
def asUn:Expr->Option (UnaryOp×Expr) | .UnaryOp o a _=>some (o,a) | _=>none
def z1a:Expr->Option (Expr×List CmpOp×List Expr) | .Compare a o b _=>some (a,o,b) | _=>none
def q8G:Expr->Option (BoolOp×List Expr) | .BoolOp o es _=>some (o,es) | _=>none
def z1w:Expr->Option (List Expr) | .List es _=>some es | _=>none
def G0:Expr->Option (List Expr) | .Tuple es _ _=>some es | _=>none
def M7:Expr->Option (Expr×Expr) | .Subscript a b _=>some (a,b) | _=>none
def q4X:Expr->Option (Option Expr×Option Expr×Option Expr) | .Slice a b c _=>some (a,b,c) | _=>none
def D1:Expr->Option (Expr×List Expr×List Keyword×Pos) | .Call f as ks p=>some (f,as,ks,p) | _=>none
def O9:Expr->Option (Expr×Str×Pos) | .Attribute a n p=>some (a,n,p) | _=>none
def z2e:Expr->Option (Expr×List Comprehension×Scope) | .ListComp e gs sc _=>some (e,gs,sc) | _=>none
def m7:Expr->Bool | .Starred _ _=>true | _=>false
def P0:Expr->Bool | .Slice _ _ _ _=>true | _=>false
def E6:Expr->Bool | .Set _ _ _=>true | _=>false
def T4:Expr->Bool | .ListComp _ _ _ _=>true | .SetComp _ _ _ _=>true | .DictComp _ _ _ _ _=>true | _=>false
theorem v5(h:p0 e=some x):∃p,e=.Name x p:=by
 cases e<;>simp[p0]at h;subst h;exact⟨_,rfl⟩
theorem q5T(h:W4 e=some x):∃k p,e=.Constant x k p:=by
 cases e<;>simp[W4]at h;subst h;exact⟨_,_,rfl⟩
theorem q6c(h:z4z e=some (a,o,b)):∃p,e=.BinOp a o b p:=by
 cases e<;>simp[z4z]at h;obtain⟨rfl,rfl,rfl⟩:=h;exact⟨_,rfl⟩
theorem q6r(h:asUn e=some (o,a)):∃p,e=.UnaryOp o a p:=by
 cases e<;>simp[asUn]at h;obtain⟨rfl,rfl⟩:=h;exact⟨_,rfl⟩
theorem q3h{e a:Expr}{os:List CmpOp}{bs:List Expr}(h:z1a e=some (a,os,bs)):∃p,e=.Compare a os bs p:=by
 cases e<;>simp[z1a]at h;obtain⟨rfl,rfl,rfl⟩:=h;exact⟨_,rfl⟩
theorem q3Z(h:q8G e=some (o,es)):∃p,e=.BoolOp o es p:=by
 cases e<;>simp[q8G]at h;obtain⟨rfl,rfl⟩:=h;exact⟨_,rfl⟩
theorem q7H(h:z1w e=some es):∃p,e=.List es p:=by
 cases e<;>simp[z1w]at h;subst h;exact⟨_,rfl⟩
theorem q3A(h:G0 e=some es):∃k p,e=.Tuple es k p:=by
 cases e<;>simp[G0]at h;subst h;exact⟨_,_,rfl⟩
theorem G1(h:M7 e=some (a,b)):∃p,e=.Subscript a b p:=by
 cases e<;>simp[M7]at h;obtain⟨rfl,rfl⟩:=h;exact⟨_,rfl⟩
theorem q4m(h:q4X e=some (a,b,c)):∃p,e=.Slice a b c p:=by
 cases e<;>simp[q4X]at h;obtain⟨rfl,rfl,rfl⟩:=h;exact⟨_,rfl⟩
theorem B1(h:D1 e=some (f,as,ks,p)):e=.Call f as ks p:=by
 cases e<;>simp[D1]at h;obtain⟨rfl,rfl,rfl,rfl⟩:=h;rfl
theorem q2s(h:O9 e=some (a,n,p)):e=.Attribute a n p:=by
 cases e<;>simp[O9]at h;obtain⟨rfl,rfl,rfl⟩:=h;rfl
theorem z0S(h:z2e e=some (x,gs,sc)):∃p,e=.ListComp x gs sc p:=by
 cases e<;>simp[z2e]at h;obtain⟨rfl,rfl,rfl⟩:=h;exact⟨_,rfl⟩
def visB(sg:Sg)(x:Str):Bool:=sg.sc.lookup x==some .local||sg.sc.lookup x==some .cell||sg.sc.lookup x==some .free
def gloB(sg:Sg)(x:Str):Bool:=sg.sc.lookup x==some .globalImplicit
def locB(sg:Sg)(x:Str):Bool:=sg.sc.lookup x==some .local||sg.sc.lookup x==some .cell
def G2(sg:Sg)(i:Nat)(x:Str):Bool:=sg.N[i]? == some x&&visB sg x&&x != "__debug__" && x != "__classdict__"
def bltB(sg:Sg)(x:Str)(f:Expr):Bool:=p0 f==some x&&gloB sg x&&sg.bl.contains x
def z8V:Bi->Str
 | .len=>"len" | .min=>"min" | .max=>"max" | .sorted=>"sorted" | .sset=>"sorted" | .int=>"int" | .list=>"list" | .tuple=>"tuple"
def z5u:Mt->Str
 | .bitLength=>"bit_length" | .index=>"index" | .get=>"get"
structure CParts where
 elt:Expr
 tg:Expr
 it:Expr
 ifs:List Expr
 sc:Scope
def q5O(e:Expr):Option CParts:=match z2e e with
 | some (elt,[⟨tg,it,ifs,a⟩],sc)=>if a=0 then some ⟨elt,tg,it,ifs,sc⟩else none
 | _=>none
theorem q4W(h:q5O e=some c):∃p,e=.ListComp c.elt [⟨c.tg,c.it,c.ifs,0⟩] c.sc p:=by
 unfold q5O at h;split at h
 ·rename_i elt tg it ifs a sc q;split at h
  ·rename_i ha;cases h;subst ha;exact z0S q
  ·cases h
 ·cases h
def E7(sg:Sg)(tn:List Str)(fr:List (Option Nat)):List Str:=tn++(fr.drop tn.length).map λo=>match o with | some i=>sg.N.getD i "" | none=>""
def z2z:Tg->Expr->Option (List Str)
 | .one _,e=>(p0 e).map λx=>[x]
 | .many is,e=>match G0 e with
  | some es=>if es.length=is.length then es.mapM p0 else none
  | none=>none
def tgOk(sg:Sg):Tg->Expr->Bool
 | .one i,e=>match p0 e with
  | some x=>sg.N[i]? == some x&&locB sg x
  | none=>false
 | .many is,e=>match G0 e with
  | some es=>es.length==is.length&&2<=es.length&&(is.zip es).all λp=>match p0 p.2 with
   | some x=>sg.N[p.1]? == some x&&locB sg x
   | none=>false
  | none=>false
def W5:List Str->Bool
 | []=>true
 | x::r=>!r.contains x&&W5 r
def W6:Tg->List Nat
 | .one i=>[i]
 | .many is=>is
def W7(sg:Sg)(N':List Str)(fr:List (Option Nat))(sc:Scope)(tg:Tg):Bool:=(W6 tg).all (λi=>fr[i]? == some none) &&
 sc.kind == .function&&W5 N'&&W5 (sc.names.map (·.1))&&fr.length==N'.length &&
 (fr.zip N').all (λp=>match p.1 with | some i=>sg.N[i]? == some p.2&&sc.names.contains (p.2,.free) | none=>true) &&
 sc.names.all λy=>if y.2 == .free then sg.sc.lookup y.1==some .cell||sg.sc.lookup y.1==some .free else true
def z0Q:ME->Bool
 | .comp _ _ _ _=>true
 | .compi _ _ _ _ _=>true
 | _=>false
def isZp:ME->Bool
 | .itm _=>true
 | .kys _=>true
 | _=>false
mutual
def corE(sg:Sg)(w:Bool):ME->Expr->Bool
 | .var i,e=>match p0 e with | some x=>G2 sg i x | none=>false
 | .int i,e=>W4 e==some (.int i)
 | .bl i,e=>W4 e==some (.bool i)
 | .str x,e=>W4 e==some (.str x)&&decide (x.length<=1000)
 | .non,e=>W4 e==some .none
 | .glb x,e=>p0 e==some x&&gloB sg x&&x != "__debug__"
 | .bin op a b,e=>match z4z e with | some (ea,o,eb)=>o==op&&corE sg false a ea&&corE sg false b eb | none=>false
 | .neg a,e=>match asUn e with | some (o,ea)=>o == .USub&&corE sg false a ea | none=>false
 | .not a,e=>match asUn e with | some (o,ea)=>o == .Not&&corE sg false a ea | none=>false
 | .cmp op a b,e=>match z1a e with | some (ea,[o],[eb])=>o==op&&corE sg false a ea&&corE sg false b eb && !E6 eb | _=>false
 | .chain op op' a b c,e=>match z1a e with | some (ea,[o,o'],[eb,ec])=>o==op&&o'==op'&&corE sg false a ea&&corE sg false b eb&&corE sg false c ec && !E6 ec | _=>false
 | .and ms,e=>match q8G e with | some (o,es)=>o == .And&&q9 sg ms es | none=>false
 | .or ms,e=>match q8G e with | some (o,es)=>o == .Or&&q9 sg ms es | none=>false
 | .lst ms,e=>match z1w e with | some es=>q9 sg ms es | none=>false
 | .tup ms,e=>match G0 e with | some es=>q9 sg ms es | none=>false
 | .dc0,e=>match e with | .Dict [] [] _=>true | _=>false
 | .ix a b,e=>match M7 e with | some (ea,eb)=>corE sg false a ea&&corE sg false b eb && !P0 eb | none=>false
 | .sl a lo hi,e=>match M7 e with
  | some (ea,es)=>(match q4X es with | some (some el,some eh,none)=>corE sg false a ea&&corE sg false lo el&&corE sg false hi eh | _=>false)
  | none=>false
 | .slf a lo,e=>match M7 e with
  | some (ea,es)=>(match q4X es with | some (some el,none,none)=>corE sg false a ea&&corE sg false lo el | _=>false)
  | none=>false
 | .slt a hi,e=>match M7 e with
  | some (ea,es)=>(match q4X es with | some (none,some eh,none)=>corE sg false a ea&&corE sg false hi eh | _=>false)
  | none=>false
 | .call f ms,e=>match D1 e with
  | some (ef,es,[],_)=>(match p0 ef with | some x=>sg.fn[f]? == some x&&gloB sg x&&x != "__debug__" | none=>false) && !es.isEmpty&&q9 sg ms es
  | _=>false
 | .bi f ms,e=>match D1 e with
  | some (ef,es,[],_)=>bltB sg (z8V f) ef && !es.isEmpty&&(match f with
   | .sset=>(match es with
    | [e1]=>(match D1 e1 with
     | some (ef',es',[],_)=>bltB sg "set" ef'&&es'.length==1&&q9 sg ms es'
     | _=>false)
    | _=>false)
   | _=>q9 sg ms es)
  | _=>false
 | .isi a ts,e=>match D1 e with
  | some (ef,[ea,et],[],_)=>bltB sg "isinstance" ef&&corE sg false a ea && !m7 ea && !m7 et&&(match ts with
   | [t]=>p0 et==some t&&gloB sg t&&sg.bl.contains t&&R6.contains t
   | _=>false)
  | _=>false
 | .isx a t,e=>match D1 e with
  | some (ef,[ea,et],[],_)=>bltB sg "isinstance" ef&&corE sg false a ea && !m7 ea && !m7 et&&p0 et==some t&&gloB sg t&&((sg.cl.contains t&&t != "__debug__")||(sg.bl.contains t&&z1L.contains t))
  | _=>false
 | .meth m a ms,e=>match D1 e with
  | some (ef,[],[],pos)=>(match O9 ef with
   | some (ea,n,apos)=>n==z5u m&&corE sg false a ea&&((p0 ea).isSome||(z4z ea).isSome)&&apos.endLine==pos.line&&ms.isEmpty
   | none=>false)
  | _=>false
 | .comp elt tg it fr,e=>match q5O e with
  | some c=>c.ifs.isEmpty&&(corE sg true it c.it&&(!isZp it||(G0 c.tg).isSome)) && !E6 c.it&&(match z2z tg c.tg with
   | some tn=>W7 sg (E7 sg tn fr) fr c.sc tg&&tgOk ⟨E7 sg tn fr,c.sc.names,sg.fn,sg.bl,sg.cl,false,true⟩ tg c.tg&&corE ⟨E7 sg tn fr,c.sc.names,sg.fn,sg.bl,sg.cl,false,true⟩ false elt c.elt
   | none=>false)
  | none=>false
 | .compi elt tg it cd fr,e=>match q5O e with
  | some c=>(corE sg true it c.it&&(!isZp it||(G0 c.tg).isSome)) && !E6 c.it&&(match z2z tg c.tg,c.ifs with
   | some tn,[ec]=>W7 sg (E7 sg tn fr) fr c.sc tg&&tgOk ⟨E7 sg tn fr,c.sc.names,sg.fn,sg.bl,sg.cl,false,true⟩ tg c.tg&&corE ⟨E7 sg tn fr,c.sc.names,sg.fn,sg.bl,sg.cl,false,true⟩ false elt c.elt&&corE ⟨E7 sg tn fr,c.sc.names,sg.fn,sg.bl,sg.cl,false,true⟩ false cd ec
   | _,_=>false)
  | none=>false
 | .idx a b,e=>match D1 e with
  | some (ef,[eb],[],pos)=>(match O9 ef with
   | some (ea,n,apos)=>n == "index" && corE sg false a ea&&(p0 ea).isSome&&apos.endLine==pos.line&&corE sg false b eb && !m7 eb
   | none=>false)
  | _=>false
 | .rng ms,e=>w&&(match D1 e with
  | some (ef,es,[],_)=>bltB sg "range" ef&&q9 sg ms es&&decide (es.length<=3)
  | _=>false)
 | .itm a,e=>w&&(match D1 e with
  | some (ef,[],[],pos)=>(match O9 ef with
   | some (o,n,apos)=>n == "items" && corE sg false a o&&apos.endLine==pos.line&&(p0 o).isSome
   | none=>false)
  | _=>false)
 | .dix a k,e=>match M7 e with | some (ea,eb)=>corE sg false a ea&&corE sg false k eb && !P0 eb | none=>false
 | .din i k,e=>match z1a e with
  | some (ek,[o],[eo])=>o == .In&&(match p0 eo with | some x=>G2 sg i x | none=>false)&&corE sg false k ek
  | _=>false
 | .kys a,e=>w&&(p0 e).isSome&&corE sg false a e
 | .dgp i k,e=>match M7 e with
  | some (o,ek)=>(match p0 o with | some x=>G2 sg i x | none=>false)&&corE sg false k ek && !P0 ek
  | none=>false
 | .callv i xs ms,e=>match D1 e with
  | some (ef,es,[],_)=>(match p0 ef with | some x=>G2 sg i x | none=>false)&&(xs.all λp=>sg.fn[p.2]? == some p.1) && !es.isEmpty&&q9 sg ms es
  | _=>false
def q9(sg:Sg):List ME->List Expr->Bool
 | [],[]=>true
 | m::ms,e::es=>corE sg false m e && !m7 e&&q9 sg ms es
 | _,_=>false
end
def q7D:ExceptHandler->Option (Option Expr×Option Str×List Stmt) | .ExceptHandler t n b _=>some (t,n,b)
def F1:Str:="_law_hung"
def hunB(sg:Sg)(i:Nat)(v:Expr):Option Expr:=match D1 v with
 | some (ef,[ea,eo],[],_)=>(match p0 ef,p0 eo with
  | some f,some x=>if f==F1&&gloB sg f&&G2 sg i x && !m7 ea then some ea else none
  | _,_=>none)
 | _=>none
mutual
def corS(sg:Sg):MS->Stmt->Bool
 | .set i _ e,s=>match s with
  | .Assign [t] v pos=>(match t with
   | .Name x pt=>sg.N[i]? == some x&&locB sg x&&corE sg false e v&&(!T4 v||z0Q e)
   | _=>false)
  | _=>false
 | .app i e,s=>match s with
  | .Expr v _=>(match D1 v with
   | some (ef,[ea],[],pos)=>(match O9 ef with
    | some (o,n,apos)=>n == "append" && (match p0 o with | some x=>G2 sg i x | none=>false)&&corE sg false e ea && !m7 ea&&apos.endLine==pos.line
    | none=>false)
   | _=>false)
  | _=>false
 | .ext i e,s=>match s with
  | .Expr v _=>(match D1 v with
   | some (ef,[ea],[],pos)=>(match O9 ef with
    | some (o,n,apos)=>n == "extend" && (match p0 o with | some x=>G2 sg i x | none=>false)&&corE sg false e ea && !m7 ea&&apos.endLine==pos.line
    | none=>false)
   | _=>false)
  | _=>false
 | .seti i k e,s=>match s with
  | .Assign [t] v _=>(match M7 t with
   | some (o,ek)=>(match p0 o with | some x=>G2 sg i x | none=>false)&&corE sg false k ek && !P0 ek&&corE sg false e v
   | none=>false)
  | _=>false
 | .clr i,s=>match s with
  | .Expr v _=>(match D1 v with
   | some (ef,[],[],pos)=>(match O9 ef with
    | some (o,n,apos)=>n == "clear" && (match p0 o with | some x=>G2 sg i x | none=>false)&&apos.endLine==pos.line
    | none=>false)
   | _=>false)
  | _=>false
 | .exp e,s=>match s with
  | .Expr v _=>corE sg false e v && !T4 v
  | _=>false
 | .ret e,s=>match s with
  | .Return (some v) _=>corE sg false e v
  | _=>false
 | .iff c a b,s=>match s with
  | .If ec ea eb _=>corE sg false c ec&&F2 sg a ea&&F2 sg b eb
  | _=>false
 | .fo tg it body,s=>match s with
  | .For t i b [] _=>sg.lp&&tgOk sg tg t&&(corE sg true it i&&(!isZp it||(G0 t).isSome)) && !E6 i&&F2 sg body b
  | _=>false
 | .sep i,s=>match s with
  | .Assign [t] v _=>(match p0 t with
   | some x=>(match v with | .Dict [] [] _=>sg.N[i]? == some x&&locB sg x | _=>false)
   | none=>false)
  | _=>false
 | .dpp i ks e,s=>match s with
  | .Assign [t] v _=>(match M7 t with
   | some (o,ek)=>(match p0 o with | some x=>G2 sg i x | none=>false)&&(match G0 ek with | some es=>q9 sg ks es | none=>false)&&corE sg false e v && !T4 v
   | none=>false)
  | _=>false
 | .retd i,s=>match s with
  | .Return (some v) _=>(match p0 v with | some x=>G2 sg i x | none=>false)
  | _=>false
 | .rse c e,s=>match s with
  | .Raise (some v) none _=>(match D1 v with
   | some (ef,[ea],[],_)=>sg.top&&p0 ef==some c&&gloB sg c&&c != "__debug__" && corE sg false e ea && !m7 ea
   | _=>false)
  | _=>false
 | .tryc body c ie ic,s=>match s with
  | .Try b [h] [] [] _=>sg.top&&F2 ⟨sg.N,sg.sc,sg.fn,sg.bl,sg.cl,false,false⟩ body b&&(match q7D h with
   | some (some t,some n,[.Assign [t2] v2 _])=>p0 t==some c&&gloB sg c&&c != "__debug__" && sg.cl.contains c&&sg.N[ie]? == some n&&sg.sc.lookup n==some .local&&n != "__debug__" && n != "__classdict__" &&
     p0 v2==some n&&(match p0 t2 with | some x=>sg.N[ic]? == some x&&locB sg x | none=>false)&&ie != ic
   | _=>false)
  | _=>false
 | .frz _,_=>false
def F2(sg:Sg):List MS->List Stmt->Bool
 | [],[]=>true
 | .frz _::ms,ss=>F2 sg ms ss
 | m::ms,s::ss=>corS sg m s&&F2 sg ms ss
 | _,_=>false
end
end
end L2
end
noncomputable section
namespace L2
open PySem PySem.Spec PyProof.Rows
section
structure Dm where
 K:PySem.W.Frag
 mg:Str->Option Value
abbrev Cx.D(X:Cx):Dm:=⟨X.K,X.mg⟩
def SqS(K:PySem.W.Frag)(H:Hp)(a:Addr)(xs:List V):Prop:=(∃o,H a=some (.frz o (.lst xs))) \/
 ∃(o:Obj) (its:Array Value) (n:Nat),K.lookup a=some o/\o.cls=.type "list" /\ o.dict=none/\o.data=.seq its n/\its.size<=sizeLine/\Vals xs its.toList
theorem SqS.sq{K:PySem.W.Frag}{H:Hp}{a:Addr}{xs:List V}(h:SqS K H a xs):SqL K H a xs:=by
 rcases h with h | h
 ·exact .inl (.inr h)
 ·exact .inr h
theorem SqS.of{K:PySem.W.Frag}{H:Hp}{a:Addr}{xs:List V}(hO:Only H)(h:SqL K H a xs):SqS K H a xs:=by
 rcases h with(h | h) | h
 ·rcases hO a with z | ⟨o,ys,z⟩
  ·rw[h]at z;cases z
  ·rw[h]at z;cases z
 ·exact .inl h
 ·exact .inr h
theorem Same.sqs{K:PySem.W.Frag}{H H':Hp}{a:Addr}{xs:List V}(e:Same H H')(h:SqS K H a xs):SqS K H' a xs:=by
 rcases h with⟨o,h⟩ | h
 ·exact .inl ⟨o,e _ _ h⟩
 ·exact .inr h
def dKey:Key->DKey
 | .inl i=>.i i
 | .inr x=>.s x
def mutO:HO->Bool
 | .lst _=>true
 | .dK _=>true
 | .dT _=>true
 | _=>false
mutual
def Rep(D:Dm)(H:Hp):DV->V->Prop
 | .non,v=>v=.non
 | .bl b,v=>v=.bl b
 | .int i,v=>v=.int i
 | .str x,v=>v=.str x/\x.length<=sizeLine
 | .tup ds,v=>∃a xs,v=.ref a/\SqT D.K H a xs/\RepL D H ds xs
 | .lst ds,v=>∃a xs,v=.ref a/\H a=some (.lst xs)/\RepL D H ds xs
 | .dct ks vs,v=>(∃a o kvs,v=.ref a/\H a=some (.frz o (.dK kvs))/\kvs.map (λp=>dKey p.1)=ks/\RepL D H vs (kvs.map (·.2)))\/∃a o kvs,v=.ref a/\H a=some (.frz o (.dT kvs))/\kvs.map (λp=>DKey.t p.1)=ks/\RepL D H vs (kvs.map (·.2))
 | .exc c,v=>∃a C,v=.ref a/\D.mg c=some C/\H a=some (excO a C)
 | .fn x,v=>∃f,v=.ref f/\D.mg x=some (.ref f)
 | .scr ns,v=>∃a,v=.ref a/\SqS D.K H a (ns.map V.int)
def RepL(D:Dm)(H:Hp):List DV->List V->Prop
 | [],xs=>xs=[]
 | d::ds,xs=>∃v vs,xs=v::vs/\Rep D H d v/\RepL D H ds vs
end
theorem Same.tseq{K:PySem.W.Frag}{H H':Hp}{a:Addr}{xs:List V}(e:Same H H')(h:SqT K H a xs):SqT K H' a xs:=by
 rcases h with(h | ⟨o,h⟩) | h
 ·exact .inl (.inl (e _ _ h))
 ·exact .inl (.inr ⟨o,e _ _ h⟩)
 ·exact .inr h
mutual
theorem Rep.mono(e:Same H H'):∀{d:DV} {v:V},Rep D H d v->Rep D H' d v
 | .non,_,h=>by unfold Rep at h ⊢;exact h
 | .bl _,_,h=>by unfold Rep at h ⊢;exact h
 | .int _,_,h=>by unfold Rep at h ⊢;exact h
 | .str _,_,h=>by unfold Rep at h ⊢;exact h
 | .tup ds,_,h=>by unfold Rep at h ⊢;obtain⟨a,xs,e1,e2,e3⟩:=h;exact⟨a,xs,e1,e.tseq e2,RepL.mono e e3⟩
 | .lst ds,_,h=>by unfold Rep at h ⊢;obtain⟨a,xs,e1,e2,e3⟩:=h;exact⟨a,xs,e1,e _ _ e2,RepL.mono e e3⟩
 | .dct _ _,_,h=>by
  unfold Rep at h ⊢;rcases h with⟨a,o,kvs,e1,e2,e3,e4⟩ | ⟨a,o,kvs,e1,e2,e3,e4⟩
  ·exact .inl ⟨a,o,kvs,e1,e _ _ e2,e3,RepL.mono e e4⟩
  ·exact .inr ⟨a,o,kvs,e1,e _ _ e2,e3,RepL.mono e e4⟩
 | .exc C,_,h=>by unfold Rep at h ⊢;obtain⟨a,C,e1,e2,e3⟩:=h;exact⟨a,C,e1,e2,e _ _ e3⟩
 | .fn _,_,h=>by unfold Rep at h ⊢;exact h
 | .scr _,_,h=>by unfold Rep at h ⊢;obtain⟨a,e1,e2⟩:=h;exact⟨a,e1,e.sqs e2⟩
theorem RepL.mono(e:Same H H'):∀{ds:List DV} {xs:List V},RepL D H ds xs->RepL D H' ds xs
 | [],_,h=>by unfold RepL at h ⊢;exact h
 | d::ds,_,h=>by unfold RepL at h ⊢;obtain⟨v,vs,e1,e2,e3⟩:=h;exact⟨v,vs,e1,Rep.mono e e2,RepL.mono e e3⟩
end
section
variable {D:Dm} {H H':Hp} {v:V} {xs ys:List V} {ds es:List DV} {d:DV}
theorem t5:Rep D H (.int i) v↔v=.int i:=by unfold Rep;exact K1
theorem W8:Rep D H (.bl i) v↔v=.bl i:=by unfold Rep;exact K1
theorem T5:Rep D H (.str i) v↔(v=.str i/\i.length<=sizeLine):=by unfold Rep;exact K1
theorem q4f:Rep D H .non v↔v=.non:=by unfold Rep;exact K1
theorem x6:Rep D H (.tup ds) v↔∃a xs,v=.ref a/\SqT D.K H a xs/\RepL D H ds xs:=by unfold Rep;exact K1
theorem y7:Rep D H (.lst ds) v↔∃a xs,v=.ref a/\H a=some (.lst xs)/\RepL D H ds xs:=by unfold Rep;exact K1
theorem q8s:Rep D H (.exc c) v↔∃a C,v=.ref a/\D.mg c=some C/\H a=some (excO a C):=by unfold Rep;exact K1
theorem z2V:Rep D H (.fn x) v↔∃f,v=.ref f/\D.mg x=some (.ref f):=by unfold Rep;exact K1
theorem M8:Rep D H (.scr ns) v↔∃a,v=.ref a/\SqS D.K H a (ns.map V.int):=by unfold Rep;exact K1
theorem J0:Rep D H (.dct ks vs) v↔((∃a o kvs,v=.ref a/\H a=some (.frz o (.dK kvs))/\kvs.map (λp=>dKey p.1)=ks/\RepL D H vs (kvs.map (·.2)))\/∃a o kvs,v=.ref a/\H a=some (.frz o (.dT kvs))/\kvs.map (λp=>DKey.t p.1)=ks/\RepL D H vs (kvs.map (·.2))):=by unfold Rep;exact K1
theorem x8:RepL D H [] xs↔xs=[]:=by unfold RepL;exact K1
theorem o7:RepL D H (d::ds) xs↔∃v vs,xs=v::vs/\Rep D H d v/\RepL D H ds vs:=by
 constructor
 ·intro h;unfold RepL at h;exact h
 ·intro h;unfold RepL;exact h
end
theorem RepL.length:∀{ds:List DV} {xs:List V},RepL D H ds xs->xs.length=ds.length
 | [],_,h=>by rw[x8.mp h];rfl
 | d::ds,_,h=>by obtain⟨v,vs,e1,_,e3⟩:=o7.mp h;rw[e1,x4,x4,RepL.length e3]
theorem RepL.get:∀{ds:List DV} {xs:List V} {i:Nat} {d:DV},RepL D H ds xs->ds[i]? = some d->∃v,xs[i]? = some v/\Rep D H d v
 | [],_,_,_,_,e=>by simp at e
 | d::ds,_,i,d',h,e=>by
  obtain⟨v,vs,e1,e2,e3⟩:=o7.mp h;subst e1;cases i with
  | zero=>simp at e;subst e;exact⟨v,rfl,e2⟩
  | succ i=>simpa using RepL.get (i:=i) e3 (by simpa using e)
theorem RepL.append:∀{ds es:List DV} {xs ys:List V},RepL D H ds xs->RepL D H es ys->RepL D H (ds++es) (xs++ys)
 | [],_,_,_,h,h'=>by rw[x8.mp h];exact h'
 | d::ds,_,_,_,h,h'=>by obtain⟨v,vs,e1,e2,e3⟩:=o7.mp h;subst e1;exact o7.mpr ⟨v,_,rfl,e2,RepL.append e3 h'⟩
theorem RepL.one(h:Rep D H d v):RepL D H [d] [v]:=o7.mpr ⟨v,[],rfl,h,x8.mpr rfl⟩
theorem RepL.take:∀{ds:List DV} {xs:List V} (n:Nat),RepL D H ds xs->RepL D H (ds.take n) (xs.take n)
 | _,_,0,_=>x8.mpr rfl
 | [],_,n+1,h=>by rw[x8.mp h];exact x8.mpr rfl
 | d::ds,_,n+1,h=>by obtain⟨v,vs,e1,e2,e3⟩:=o7.mp h;subst e1;exact o7.mpr ⟨v,_,rfl,e2,RepL.take n e3⟩
theorem RepL.drop:∀{ds:List DV} {xs:List V} (n:Nat),RepL D H ds xs->RepL D H (ds.drop n) (xs.drop n)
 | _,_,0,h=>h
 | [],_,n+1,h=>by rw[x8.mp h];exact x8.mpr rfl
 | d::ds,_,n+1,h=>by obtain⟨v,vs,e1,e2,e3⟩:=o7.mp h;subst e1;exact RepL.drop n e3
theorem RepL.set(q:Rep D H d v):∀{ds:List DV} {xs:List V} (n:Nat),RepL D H ds xs->RepL D H (ds.set n d) (xs.set n v)
 | [],_,n,h=>by rw[x8.mp h];exact x8.mpr rfl
 | _::ds,_,0,h=>by obtain⟨v,vs,e1,e2,e3⟩:=o7.mp h;subst e1;exact o7.mpr ⟨_,_,rfl,q,e3⟩
 | _::ds,_,n+1,h=>by obtain⟨v,vs,e1,e2,e3⟩:=o7.mp h;subst e1;exact o7.mpr ⟨_,_,rfl,e2,RepL.set q n e3⟩
theorem RepL.rep(h:RepL D H ds xs):∀k:Nat,RepL D H (List.replicate k ds).flatten (List.replicate k xs).flatten
 | 0=>x8.mpr rfl
 | k+1=>by rw[P8,P8,U6,U6];exact h.append (RepL.rep h k)
theorem X0:∀(ns:List Int),RepL D H (ns.map DV.int) (ns.map V.int)
 | []=>x8.mpr rfl
 | n::ns=>o7.mpr ⟨_,_,rfl,t5.mpr rfl,X0 ns⟩
def wo(O:List Addr)(H:Hp):Hp:=λb=>if b∈O then none else H b
theorem z8N(h:b∈O):wo O H b=none:=b8 h
theorem j9(h:b∉O):wo O H b=H b:=d7 h
theorem C4(h:wo O H b=some o):b∉O/\H b=some o:=by
 by_cases hb:b∈O
 ·rw[z8N hb]at h;cases h
 ·rw[j9 hb]at h;exact⟨hb,h⟩
theorem Same.wo(e:Same H H'):Same (wo O H) (wo O H'):=λb o h=>by
 obtain⟨hb,h⟩:=C4 h;rw[j9 hb];exact e b o h
theorem r9:Same (L2.wo O H) H:=λb o h=>(C4 h).2
theorem y8(h:∀b∈O',b∈O):Same (L2.wo O H) (L2.wo O' H):=λb o e=>by
 obtain⟨hb,e⟩:=C4 e;rw[j9 λz=>hb (h b z)];exact e
theorem w5(h:H p=none):Same H (upd H p o):=λb u q=>by rw[j6 (D9 q h)];exact q
structure Hid(O W:List Addr)(H0 H:Hp):Prop where
 ot:∀a∈O++W,H0 a≠none
 same:Same H0 H
 wl:∀a∈W,∃o,H0 a=some o/\mutO o=true
 dj:∀a∈W,a∉O
 om:∀a∈O,∃o,H0 a=some o/\mutO o=true
def Hdn(O:List Addr)(H:Hp):Prop:=∀a∈O,∃o,H a=some o/\mutO o=true
theorem Hdn.ne(h:Hdn O H):∀a∈O,H a≠none:=λa ha q=>by obtain⟨o,e,_⟩:=h a ha;rw[q]at e;cases e
theorem Hid.omS(h:Hid O W H0 H)(e:Same H0 H'):Hdn O H':=λa ha=>by obtain⟨o,q,m⟩:=h.om a ha;exact⟨o,e _ _ q,m⟩
theorem Hid.omW(h:Hid O W H0 H)(hp:p∈W):Hdn O (upd H0 p x):=λa ha=>by
 obtain⟨o,q,m⟩:=h.om a ha;exact⟨o,by rw[j6 λz=>h.dj p hp (by rw[←z];exact ha)];exact q,m⟩
theorem Hid.hdO(h:Hid O W H0 H):Hdn O H:=h.omS h.same
theorem Hid.hdA(h:Hid O W H0 H):Hdn (O++W) H:=λa ha=>by
 rcases A3.mp ha with z | z
 ·exact h.hdO a z
 ·obtain⟨o,q,m⟩:=h.wl a z;exact⟨o,h.same _ _ q,m⟩
theorem Hid.mono(h:Hid O W H0 H)(e:Same H H'):Hid O W H0 H':=⟨h.ot,h.same.trans e,h.wl,h.dj,h.om⟩
theorem Hid.newOut(h:Hid O W H0 H)(hp:H p=none):p∉O++W:=λz=>h.ot p z (h.same.free hp)
mutual
theorem Rep.immut(hw:∀a∈W,∃o,H a=some o/\mutO o=true):∀{d:DV} {v:V},d.immut=true->Rep D (L2.wo O H) d v->Rep D (L2.wo (O++W) H) d v
 | .non,_,_,h=>by unfold Rep at h ⊢;exact h
 | .bl _,_,_,h=>by unfold Rep at h ⊢;exact h
 | .int _,_,_,h=>by unfold Rep at h ⊢;exact h
 | .str _,_,_,h=>by unfold Rep at h ⊢;exact h
 | .tup ds,_,m,h=>by
  unfold Rep at h ⊢;obtain⟨a,xs,e1,e2,e3⟩:=h;have m':DV.immuts ds=true:=by unfold DV.immut at m;exact m
  refine⟨a,xs,e1,?_,RepL.immut hw m' e3⟩;rcases e2 with(h | ⟨o,h⟩) | h
  ·obtain⟨ha,h⟩:=C4 h;refine .inl (.inl ?_);rw[j9 λz=>?_]
   ·exact h
   ·rcases A3.mp z with z | z
    ·exact ha z
    ·obtain⟨ys,q,m⟩:=hw a z;rw[h]at q;cases q;cases m
  ·obtain⟨ha,h⟩:=C4 h;refine .inl (.inr ⟨o,?_⟩);rw[j9 λz=>?_]
   ·exact h
   ·rcases A3.mp z with z | z
    ·exact ha z
    ·obtain⟨ys,q,m⟩:=hw a z;rw[h]at q;cases q;cases m
  ·exact .inr h
 | .lst ds,_,m,_=>by unfold DV.immut at m;cases m
 | .dct ks vs,_,m,h=>by
  have m':DV.immuts vs=true:=by unfold DV.immut at m;exact m
  have ou:∀{a:Addr} {o:Obj} {u:HO},L2.wo O H a=some (.frz o u)->L2.wo (O++W) H a=some (.frz o u):=λ{a o u} e=>by
   obtain⟨ha,h⟩:=C4 e;rw[j9 λz=>?_]
   ·exact h
   ·rcases A3.mp z with z | z
    ·exact ha z
    ·obtain⟨ys,q,m⟩:=hw a z;rw[h]at q;cases q;cases m
  rcases J0.mp h with⟨a,o,kvs,e1,e2,e3,e4⟩ | ⟨a,o,kvs,e1,e2,e3,e4⟩
  ·exact J0.mpr (.inl ⟨a,o,kvs,e1,ou e2,e3,RepL.immut hw m' e4⟩)
  ·exact J0.mpr (.inr ⟨a,o,kvs,e1,ou e2,e3,RepL.immut hw m' e4⟩)
 | .exc C,_,_,h=>by
  unfold Rep at h ⊢;obtain⟨a,C,e1,e2,e3⟩:=h;obtain⟨ha,h⟩:=C4 e3;refine⟨a,C,e1,e2,?_⟩;rw[j9 λz=>?_]
  ·exact h
  ·rcases A3.mp z with z | z
   ·exact ha z
   ·obtain⟨ys,q,m⟩:=hw a z;rw[h]at q;cases q;cases m
 | .fn _,_,_,h=>by unfold Rep at h ⊢;exact h
 | .scr ns,_,_,h=>by
  unfold Rep at h ⊢;obtain⟨a,e1,e2⟩:=h;refine⟨a,e1,?_⟩;rcases e2 with⟨o,h⟩ | h
  ·obtain⟨ha,h⟩:=C4 h;refine .inl ⟨o,?_⟩;rw[j9 λz=>?_]
   ·exact h
   ·rcases A3.mp z with z | z
    ·exact ha z
    ·obtain⟨ys,q,m⟩:=hw a z;rw[h]at q;cases q;cases m
  ·exact .inr h
theorem RepL.immut(hw:∀a∈W,∃o,H a=some o/\mutO o=true):∀{ds:List DV} {xs:List V},DV.immuts ds=true->RepL D (L2.wo O H) ds xs->RepL D (L2.wo (O++W) H) ds xs
 | [],_,_,h=>by unfold RepL at h ⊢;exact h
 | d::ds,_,m,h=>by unfold RepL at h ⊢;obtain⟨v,vs,e1,e2,e3⟩:=h;unfold DV.immuts at m;rw[b9]at m;exact⟨v,vs,e1,Rep.immut hw m.1 e2,RepL.immut hw m.2 e3⟩
end
def RepT(D:Dm)(W:List Addr)(Ht H:Hp)(d:DV)(v:V):Prop:=match d with
 | .lst ds=>∃a xs,v=.ref a/\a∈W/\Ht a=some (.lst xs)/\RepL D H ds xs
 | d=>Rep D H d v
theorem RepT.mono(et:Same Ht Ht')(e:Same H H')(h:RepT D W Ht H d v):RepT D W Ht' H' d v:=by
 cases d with
 | lst ds=>obtain⟨a,xs,e1,e0,e2,e3⟩:=h;exact⟨a,xs,e1,e0,et _ _ e2,e3.mono e⟩
 | non=>exact Rep.mono (D:=D) (d:=.non) (v:=v) e h
 | bl b=>exact Rep.mono (D:=D) (d:=.bl b) (v:=v) e h
 | int b=>exact Rep.mono (D:=D) (d:=.int b) (v:=v) e h
 | str b=>exact Rep.mono (D:=D) (d:=.str b) (v:=v) e h
 | tup b=>exact Rep.mono (D:=D) (d:=.tup b) (v:=v) e h
 | dct b c=>exact Rep.mono (D:=D) (d:=.dct b c) (v:=v) e h
 | exc b=>exact Rep.mono (D:=D) (d:=.exc b) (v:=v) e h
 | fn b=>exact Rep.mono (D:=D) (d:=.fn b) (v:=v) e h
 | scr b=>exact Rep.mono (D:=D) (d:=.scr b) (v:=v) e h
theorem RepT.rep(e:Same H Ht)(h:RepT D W Ht H d v):Rep D Ht d v:=by
 cases d with
 | lst ds=>obtain⟨a,xs,e1,e0,e2,e3⟩:=h;exact y7.mpr ⟨a,xs,e1,e2,e3.mono e⟩
 | non=>exact Rep.mono (D:=D) (d:=.non) (v:=v) e h
 | bl b=>exact Rep.mono (D:=D) (d:=.bl b) (v:=v) e h
 | int b=>exact Rep.mono (D:=D) (d:=.int b) (v:=v) e h
 | str b=>exact Rep.mono (D:=D) (d:=.str b) (v:=v) e h
 | tup b=>exact Rep.mono (D:=D) (d:=.tup b) (v:=v) e h
 | dct b c=>exact Rep.mono (D:=D) (d:=.dct b c) (v:=v) e h
 | exc b=>exact Rep.mono (D:=D) (d:=.exc b) (v:=v) e h
 | fn b=>exact Rep.mono (D:=D) (d:=.fn b) (v:=v) e h
 | scr b=>exact Rep.mono (D:=D) (d:=.scr b) (v:=v) e h
def Got(D:Dm)(O W:List Addr)(H0 H:Hp)(d:DV)(c:Cl)(v:V):Prop:=match c with
 | .weak=>Rep D (L2.wo O H) d v
 | .top=>RepT D W (L2.wo O H) (L2.wo (O++W) H) d v
 | .strong=>Rep D (L2.wo (O++W) H) d v
 | .fresh=>∃p xs ds,v=.ref p/\d=.lst ds/\H0 p=none/\H p=some (.lst xs)/\RepL D (L2.wo (p::(O++W)) H) ds xs
 | .ft=>∃t ts p xs ds es,v=.ref t/\d=.tup (.lst ds::es)/\SqT D.K (L2.wo (O++W) H) t (.ref p::ts)/\H0 p=none/\H p=some (.lst xs)/\RepL D (L2.wo (p::(O++W)) H) ds xs/\RepL D (L2.wo (p::(O++W)) H) es ts
section
variable {D:Dm} {O W:List Addr} {H0 H H':Hp} {d:DV} {ds:List DV} {c:Cl} {v:V}
theorem T6:∀b∈O,b∈O++W:=λ_ h=>z8 _ h
theorem Got.mono(h:Got D O W H0 H d c v)(e:Same H H'):Got D O W H0 H' d c v:=by
 cases c with
 | weak=>exact Rep.mono e.wo h
 | top=>exact RepT.mono e.wo e.wo h
 | strong=>exact Rep.mono e.wo h
 | fresh=>
  obtain⟨p,xs,ds,e1,e2,e3,e4,e5⟩:=h;exact⟨p,xs,ds,e1,e2,e3,e _ _ e4,e5.mono e.wo⟩
 | ft=>
  obtain⟨t,ts,p,xs,ds,es,e1,e2,e0,e3,e4,e5,e6⟩:=h;exact⟨t,ts,p,xs,ds,es,e1,e2,e.wo.tseq e0,e3,e _ _ e4,e5.mono e.wo,e6.mono e.wo⟩
theorem Got.since(h:Got D O W H1 H d c v)(e:Same H0 H1):Got D O W H0 H d c v:=by
 cases c with
 | weak=>exact h
 | top=>exact h
 | strong=>exact h
 | fresh=>
  obtain⟨p,xs,ds,e1,e2,e3,e4,e5⟩:=h;exact⟨p,xs,ds,e1,e2,e.free e3,e4,e5⟩
 | ft=>
  obtain⟨t,ts,p,xs,ds,es,e1,e2,e0,e3,e4,e5,e6⟩:=h;exact⟨t,ts,p,xs,ds,es,e1,e2,e0,e.free e3,e4,e5,e6⟩
theorem Got.ft(h:Got D O W H0 H d .ft v)(hd:Hid O W H0 H):Rep D (L2.wo (O++W) H) d v:=by
 obtain⟨t,ts,p,xs,ds,es,e1,e2,e0,e3,e4,e5,e6⟩:=h;have hp:p∉O++W:=λz=>hd.ot p z e3
 have up:Same (L2.wo (p::(O++W)) H) (L2.wo (O++W) H):=y8 λb hb=>i6 _ hb;rw[e2];exact x6.mpr ⟨t,_,e1,e0,o7.mpr ⟨_,_,rfl,y7.mpr ⟨p,xs,rfl,by rw[j9 hp];exact e4,e5.mono up⟩,e6.mono up⟩⟩
theorem Got.strong(h:Got D O W H0 H d .fresh v)(hd:Hid O W H0 H):Rep D (L2.wo (O++W) H) d v:=by
 obtain⟨p,xs,ds,e1,e2,e3,e4,e5⟩:=h;have hp:p∉O++W:=λz=>hd.ot p z e3
 rw[e2];exact y7.mpr ⟨p,xs,e1,by rw[j9 hp];exact e4,e5.mono (y8 λb hb=>i6 _ hb)⟩
theorem Got.weak(h:Got D O W H0 H d c v)(hd:Hid O W H0 H):Rep D (L2.wo O H) d v:=by
 cases c with
 | weak=>exact h
 | top=>exact RepT.rep (y8 T6) h
 | strong=>exact Rep.mono (y8 T6) h
 | fresh=>exact Rep.mono (y8 T6) (h.strong hd)
 | ft=>exact Rep.mono (y8 T6) (h.ft hd)
theorem Got.all(h:Got D O W H0 H d c v)(hd:Hid O W H0 H):Rep D H d v:=Rep.mono r9 (h.weak hd)
theorem Got.stro(h:Got D O W H0 H d c v)(hd:Hid O W H0 H)(hs:L2.stro d c=true):Rep D (L2.wo (O++W) H) d v:=by
 cases c with
 | strong=>exact h
 | fresh=>exact h.strong hd
 | ft=>exact h.ft hd
 | weak=>exact Rep.immut (λa ha=>by obtain⟨xs,e,m⟩:=hd.wl a ha;exact⟨xs,hd.same _ _ e,m⟩) hs (h.weak hd)
 | top=>exact Rep.immut (λa ha=>by obtain⟨xs,e,m⟩:=hd.wl a ha;exact⟨xs,hd.same _ _ e,m⟩) hs (h.weak hd)
theorem Got.items(h:Got D O W H0 H (.lst ds) c v)(hd:Hid O W H0 H)(hc:c ≠ .weak):∃a xs,v=.ref a/\H a=some (.lst xs)/\RepL D (L2.wo (O++W) H) ds xs:=by
 cases c with
 | weak=>exact absurd rfl hc
 | top=>
  obtain⟨a,xs,e1,e0,e2,e3⟩:=h;exact⟨a,xs,e1,r9 _ _ e2,e3⟩
 | strong=>
  obtain⟨a,xs,e1,e2,e3⟩:=y7.mp h;exact⟨a,xs,e1,r9 _ _ e2,e3⟩
 | fresh=>
  obtain⟨a,xs,e1,e2,e3⟩:=y7.mp (h.strong hd);exact⟨a,xs,e1,r9 _ _ e2,e3⟩
 | ft=>
  obtain⟨a,xs,e1,e2,e3⟩:=y7.mp (h.ft hd);exact⟨a,xs,e1,r9 _ _ e2,e3⟩
theorem Got.itemsT(h:Got D O W H0 H (.tup ds) c v)(hd:Hid O W H0 H)(hc:c ≠ .weak):∃a xs,v=.ref a/\SqT D.K H a xs/\RepL D (L2.wo (O++W) H) ds xs:=by
 cases c with
 | weak=>exact absurd rfl hc
 | top=>
  obtain⟨a,xs,e1,e2,e3⟩:=x6.mp (show Rep D (L2.wo (O++W) H) (.tup ds) v from h);exact⟨a,xs,e1,r9.tseq e2,e3⟩
 | strong=>
  obtain⟨a,xs,e1,e2,e3⟩:=x6.mp h;exact⟨a,xs,e1,r9.tseq e2,e3⟩
 | fresh=>
  obtain⟨p,xs,ds,e1,e2,e3,e4,e5⟩:=h;cases e2
 | ft=>
  obtain⟨a,xs,e1,e2,e3⟩:=x6.mp (h.ft hd);exact⟨a,xs,e1,r9.tseq e2,e3⟩
theorem Got.lst(h:Got D O W H0 H (.lst ds) c v)(hd:Hid O W H0 H):∃a xs,v=.ref a/\H a=some (.lst xs)/\RepL D (L2.wo O H) ds xs:=by
 obtain⟨a,xs,e1,e2,e3⟩:=y7.mp (h.weak hd);exact⟨a,xs,e1,r9 _ _ e2,e3⟩
theorem Got.tup(h:Got D O W H0 H (.tup ds) c v)(hd:Hid O W H0 H):∃a xs,v=.ref a/\SqT D.K H a xs/\RepL D (L2.wo O H) ds xs:=by
 obtain⟨a,xs,e1,e2,e3⟩:=x6.mp (h.weak hd);exact⟨a,xs,e1,r9.tseq e2,e3⟩
def M9(O W:List Addr):Cl->List Addr
 | .weak=>O
 | _=>O++W
theorem Got.lstC(h:Got D O W H0 H (.lst ds) c v)(hd:Hid O W H0 H):∃a xs,v=.ref a/\H a=some (.lst xs)/\RepL D (L2.wo (M9 O W c) H) ds xs:=by
 cases c with
 | weak=>exact h.lst hd
 | top=>exact h.items hd (by intro z;cases z)
 | strong=>exact h.items hd (by intro z;cases z)
 | fresh=>exact h.items hd (by intro z;cases z)
 | ft=>exact h.items hd (by intro z;cases z)
theorem Got.tupC(h:Got D O W H0 H (.tup ds) c v)(hd:Hid O W H0 H):∃a xs,v=.ref a/\SqT D.K H a xs/\RepL D (L2.wo (M9 O W c) H) ds xs:=by
 cases c with
 | weak=>exact h.tup hd
 | top=>exact h.itemsT hd (by intro z;cases z)
 | strong=>exact h.itemsT hd (by intro z;cases z)
 | fresh=>exact h.itemsT hd (by intro z;cases z)
 | ft=>exact h.itemsT hd (by intro z;cases z)
theorem Got.item(h:Rep D (L2.wo (M9 O W c) H) d v):Got D O W H0 H d c.item v:=by
 cases c<;>exact h
theorem v6(hc:c ≠ .fresh:=by intro z;cases z)(hc':c ≠ .ft:=by intro z;cases z):Got D O W H0 H (.int i) c (.int i):=by
 have q:∀H,Rep D H (.int i) (.int i):=λH=>t5.mpr rfl;cases c with
 | fresh=>exact absurd rfl hc
 | ft=>exact absurd rfl hc'
 | weak=>exact q (L2.wo O H)
 | strong=>exact q (L2.wo (O++W) H)
 | top=>exact q (L2.wo (O++W) H)
theorem P1:Got D O W H0 H (.bl i) .strong (.bl i):=(W8.mpr rfl:Rep D (L2.wo (O++W) H) (.bl i) (.bl i))
theorem z6K:Got D O W H0 H .non .strong .non:=(q4f.mpr rfl:Rep D (L2.wo (O++W) H) .non .non)
theorem Got.int(h:Got D O W H0 H (.int i) c v)(hd:Hid O W H0 H):v=.int i:=t5.mp (h.weak hd)
theorem Got.bl(h:Got D O W H0 H (.bl i) c v)(hd:Hid O W H0 H):v=.bl i:=W8.mp (h.weak hd)
theorem Got.str(h:Got D O W H0 H (.str x) c v)(hd:Hid O W H0 H):v=.str x/\x.length<=sizeLine:=T5.mp (h.weak hd)
theorem N0(hd:Hid O W H0 H)(hp:H p=none)(r:RepL D (L2.wo (O++W) H) ds xs):Got D O W H0 (upd H p (.lst xs)) (.lst ds) .fresh (.ref p):=by
 refine⟨p,xs,ds,rfl,rfl,hd.same.free hp,y6,r.mono λb o e=>?_⟩;obtain⟨hb,e⟩:=C4 e;have hbp:b≠p:=D9 e hp;rw[j9 (by intro z;rcases e8.mp z with z | z;exact hbp z;exact hb z),j6 hbp];exact e
theorem q6g(hd:Hid O W H0 H)(hp:H p=none)(r:RepL D (L2.wo O H) ds xs):Got D O W H0 (upd H p (.lst xs)) (.lst ds) .weak (.ref p):=by
 have hpo:p∉O:=λz=>hd.newOut hp (z8 _ z);exact y7.mpr ⟨p,xs,rfl,by rw[j9 hpo];exact y6,r.mono (w5 hp).wo⟩
theorem q3W(hd:Hid O W H0 H)(hp:H p=none)(r:RepL D (L2.wo (M9 O W c) H) ds xs):Got D O W H0 (upd H p (.lst xs)) (.lst ds) (Cl.anew c c) (.ref p):=by
 cases c with
 | weak=>exact q6g hd hp r
 | top=>exact N0 hd hp r
 | strong=>exact N0 hd hp r
 | fresh=>exact N0 hd hp r
 | ft=>exact N0 hd hp r
theorem q4S(hd:Hid O W H0 H)(hp:H p=none)(r:RepL D (L2.wo (O++W) H) ds xs):Got D O W H0 (upd H p (.tup xs)) (.tup ds) .strong (.ref p):=
 x6.mpr ⟨p,xs,rfl,SqT.of (by rw[j9 (hd.newOut hp)];exact y6),r.mono (w5 hp).wo⟩
theorem q9B(hd:Hid O W H0 H)(hp:H p=none)(r:RepL D (L2.wo O H) ds xs):Got D O W H0 (upd H p (.tup xs)) (.tup ds) .weak (.ref p):=
 x6.mpr ⟨p,xs,rfl,SqT.of (by rw[j9 λz=>hd.newOut hp (z8 _ z)];exact y6),r.mono (w5 hp).wo⟩
theorem q8K(hd:Hid O W H0 H)(hp:H p=none)(r:RepL D (L2.wo (M9 O W c) H) ds xs):Got D O W H0 (upd H p (.tup xs)) (.tup ds) c.item (.ref p):=by
 cases c with
 | weak=>exact q9B hd hp r
 | top=>exact q4S hd hp r
 | strong=>exact q4S hd hp r
 | fresh=>exact q4S hd hp r
 | ft=>exact q4S hd hp r
end
inductive GotL (D:Dm) (O W:List Addr) (H0 H:Hp):List (DV×Cl)->List V->Prop where
 | nil:GotL D O W H0 H [] []
 | cons {d:DV} {c:Cl} {v:V} {l:List (DV×Cl)} {vs:List V}:Got D O W H0 H d c v->GotL D O W H0 H l vs->GotL D O W H0 H ((d,c)::l) (v::vs)
section
variable {D:Dm} {O W:List Addr} {H0 H H':Hp}
theorem GotL.repL(h:GotL D O W H0 H l vs)(hd:Hid O W H0 H):RepL D (L2.wo O H) (l.map (·.1)) vs:=by
 induction h with
 | nil=>exact x8.mpr rfl
 | cons h _ ih=>exact o7.mpr ⟨_,_,rfl,h.weak hd,ih⟩
theorem GotL.stros(h:GotL D O W H0 H l vs)(hd:Hid O W H0 H)(hs:L2.stros l=true):RepL D (L2.wo (O++W) H) (l.map (·.1)) vs:=by
 induction h with
 | nil=>exact x8.mpr rfl
 | cons h _ ih=>
  unfold L2.stros at hs;rw[List.all_cons,b9]at hs;exact o7.mpr ⟨_,_,rfl,h.stro hd hs.1,ih hs.2⟩
theorem GotL.length(h:GotL D O W H0 H l vs):vs.length=l.length:=by
 induction h with
 | nil=>rfl
 | cons _ _ ih=>rw[x4,x4,ih]
theorem GotL.strong(h:GotL D O W H0 H l vs)(hd:Hid O W H0 H)(hs:(l.all λp=>p.2 == .strong||p.2 == .fresh)=true):RepL D (L2.wo (O++W) H) (l.map (·.1)) vs:=by
 refine h.stros hd ?_;unfold L2.stros;rw[J8]at hs ⊢;intro p hp;have:=hs p hp;unfold L2.stro;cases e:p.2<;>rw[e]at this<;>first | rfl | cases this
theorem GotL.one(h:GotL D O W H0 H [(d,c)] vs):∃v,vs=[v]/\Got D O W H0 H d c v:=by
 cases h with
 | cons h t=>cases t;exact⟨_,rfl,h⟩
theorem GotL.two(h:GotL D O W H0 H [(d,c),(d',c')] vs):∃v v',vs=[v,v']/\Got D O W H0 H d c v/\Got D O W H0 H d' c' v':=by
 cases h with
 | cons h t=>obtain⟨v',e,h'⟩:=t.one;subst e;exact⟨_,_,rfl,h,h'⟩
theorem GotL.three(h:GotL D O W H0 H [(d,c),(d',c'),(d2,c2)] vs):∃v v' v2,vs=[v,v',v2]/\Got D O W H0 H d c v/\Got D O W H0 H d' c' v'/\Got D O W H0 H d2 c2 v2:=by
 cases h with
 | cons h t=>obtain⟨v',v2,e,h',h2⟩:=t.two;subst e;exact⟨_,_,_,rfl,h,h',h2⟩
end
def O2At(H:Hp)(W:List Addr)(p:Addr)(L:List (Addr×List Int)):Prop:=p∈W/\H p=some (.lst (L.map λq=>.ref q.1))/\(∀q∈L,q.1∈W/\H q.1=some (.lst (q.2.map V.int)))/\(p::L.map (·.1)).Nodup
def o2D(L:List (Addr×List Int)):DV:=.lst (L.map λq=>.lst (q.2.map DV.int))
theorem O2At.mono(h:O2At H W p L)(e:Same H H'):O2At H' W p L:=⟨h.1,e _ _ h.2.1,λq hq=>⟨(h.2.2.1 q hq).1,e _ _ (h.2.2.1 q hq).2⟩,h.2.2.2⟩
theorem O2At.sub(h:O2At H W p L)(e:∀a∈p::L.map (·.1),a∈W->a∈W'):O2At H W' p L:=
 ⟨e _ (i8 ..) h.1,h.2.1,λq hq=>⟨e _ (i6 _ (f9.mpr ⟨q,hq,rfl⟩)) (h.2.2.1 q hq).1,(h.2.2.1 q hq).2⟩,h.2.2.2⟩
theorem O2At.dom(h:O2At H W p L)(ha:a∈p::L.map (·.1)):a∈W/\∃xs,H a=some (.lst xs):=by
 rcases e8.mp ha with z | z
 ·rw[z];exact⟨h.1,_,h.2.1⟩
 ·obtain⟨q,hq,rfl⟩:=f9.mp z;exact⟨(h.2.2.1 q hq).1,_,(h.2.2.1 q hq).2⟩
theorem O2At.write(h:O2At H W p L)(ha:a∉p::L.map (·.1)):O2At (upd H a o) W p L:=
 ⟨h.1,by rw[j6 λz=>ha (by rw[←z];exact i8 ..)];exact h.2.1,λq hq=>⟨(h.2.2.1 q hq).1,by rw[j6 λz=>ha (by rw[←z];exact i6 _ (f9.mpr ⟨q,hq,rfl⟩))];exact(h.2.2.1 q hq).2⟩,h.2.2.2⟩
def odD(L:List (Int×Int)):DV:=.dct (L.map λp=>.i p.1) (L.map λp=>.int p.2)
def odK(L:List (Int×Int)):List (Key×V):=L.map λp=>(.inl p.1,.int p.2)
def oeD(L:List ((Int×Int)×Int)):DV:=.dct (L.map λp=>.t [.inl p.1.1,.inl p.1.2]) (L.map λp=>.int p.2)
def oeK(L:List ((Int×Int)×Int)):List (List Key×V):=L.map λp=>([.inl p.1.1,.inl p.1.2],.int p.2)
def dicO:HO->Bool
 | .dK _=>true
 | .dT _=>true
 | _=>false
def OdOk(d:DV)(o:HO):Prop:=(∃L,d=odD L/\o=.dK (odK L))\/∃L,d=.tup [oeD L]/\o=.dT (oeK L)
theorem OdOk.dic(h:OdOk d o):dicO o=true:=by rcases h with⟨L,_,e⟩ | ⟨L,_,e⟩<;>rw[e]<;>rfl
theorem OdOk.mut(h:OdOk d o):mutO o=true:=by rcases h with⟨L,_,e⟩ | ⟨L,_,e⟩<;>rw[e]<;>rfl
def OdAt(H:Hp)(σ:St)(δ:List Sv)(W:List Addr):Prop:=∀(i:Nat) d,δ[i]? = some (.od d)->(∃a o,OdOk d o/\σ[i]? = some (some (.ref a))/\a∈W/\H a=some o)/\∀(j:Nat) d',δ[j]? = some (.od d')->j=i
theorem OdAt.step(h:OdAt H σ δ W)(hδ:∀(j:Nat) d,δ'[j]? = some (.od d)->δ[j]? = some (.od d)/\σ'[j]? = σ[j]?)(hW:∀a∈W,(∃o,H a=some o/\dicO o=true)->a∈W')(hH:∀a o,a∈W->H a=some o->dicO o=true->H' a=some o):OdAt H' σ' δ' W':=λi d q=>by
 obtain⟨q1,q2⟩:=hδ i d q;obtain⟨⟨a,L,e0,e1,e2,e3⟩,u⟩:=h i d q1;exact⟨⟨a,L,e0,by rw[q2];exact e1,hW a e2 ⟨_,e3,e0.dic⟩,hH a _ e2 e3 e0.dic⟩,λj d' z=>u j d' (hδ j d' z).1⟩
theorem q7i{σ:St}{δ:List Sv}{i:Nat}{X:Sv}(x:Option V)(hX:∀d,X ≠ .od d):∀(j:Nat) d,(δ.set i X)[j]? = some (.od d)->δ[j]? = some (.od d)/\(σ.set i x)[j]? = σ[j]?:=λj d h=>by
 have hj:j≠i:=λz=>by
  subst z;have hl:j<δ.length:=by have:=(u5.mp h).1;rw[v4]at this;exact this
  rw[B7 hl]at h;exact hX d (C6 h)
 rw[d9 (Ne.symm hj)]at h ⊢;exact⟨h,rfl⟩
theorem z0J{σ:St}{δ:List Sv}{i:Nat}{X:Sv}(hX:∀d,X ≠ .od d):∀(j:Nat) d,(δ.set i X)[j]? = some (.od d)->δ[j]? = some (.od d)/\σ[j]? = σ[j]?:=λj d h=>⟨(q7i (σ:=σ) none hX j d h).1,rfl⟩
structure RSt(D:Dm)(H:Hp)(σ:St)(δ:List Sv)(O W:List Addr):Prop where
 val:∀(i:Nat) d,δ[i]? = some (.val d)->∃v,σ[i]? = some (some v)/\Rep D (L2.wo (O++W) H) d v
 own:∀(i:Nat) d,δ[i]? = some (.own d)->∃a xs ds,d=.lst ds/\σ[i]? = some (some (.ref a))/\a∈W/\H a=some (.lst xs)/\RepL D (L2.wo (O++W) H) ds xs
 inj:∀(i j:Nat) a d d',δ[i]? = some (.own d)->δ[j]? = some (.own d')->σ[i]? = some (some (.ref a))->σ[j]? = some (some (.ref a))->i=j
 ot:∀(i:Nat) d,δ[i]? = some (.ot d)->(∃t ts p xs ds es,d=.tup (.lst ds::es)/\σ[i]? = some (some (.ref t))/\SqT D.K (L2.wo (O++W) H) t (.ref p::ts)/\p∈W/\H p=some (.lst xs)/\RepL D (L2.wo (O++W) H) ds xs/\RepL D (L2.wo (O++W) H) es ts /\
  ∀(j:Nat) d',δ[j]? = some (.own d')->σ[j]? ≠ some (some (.ref p)))/\∀(j:Nat) d',δ[j]? = some (.ot d')->j=i
 o2:∀(i:Nat) d,δ[i]? = some (.o2 d)->(∃p L,d=o2D L/\σ[i]? = some (some (.ref p))/\O2At H W p L/\∀(j:Nat) d' a,δ[j]? = some (.own d')->σ[j]? = some (some (.ref a))->a∉p::L.map (·.1))/\(∀(j:Nat) d',δ[j]? = some (.o2 d')->j=i)/\∀(j:Nat) d',δ[j]? ≠ some (.ot d')
 od:OdAt H σ δ W
 len:σ.length=δ.length
 hid:Hid O W H H
theorem Hid.later(h:Hid O W H H)(e:Same H H'):Hid O W H' H':=⟨λa ha q=>h.ot a ha (e.free q),Same.refl _,λa ha=>by obtain⟨xs,q,m⟩:=h.wl a ha;exact⟨xs,e _ _ q,m⟩,h.dj,h.omS e⟩
theorem RSt.mono(R:RSt D H σ δ O W)(e:Same H H'):RSt D H' σ δ O W where
 val:=λi d h=>by obtain⟨v,e1,e2⟩:=R.val i d h;exact⟨v,e1,e2.mono e.wo⟩
 own:=λi ds h=>by obtain⟨a,xs,ds,e0,e1,e2,e3,e4⟩:=R.own i ds h;exact⟨a,xs,ds,e0,e1,e2,e _ _ e3,e4.mono e.wo⟩
 inj:=R.inj
 ot:=λi d h=>by obtain⟨⟨t,ts,p,xs,ds,es,e0,e1,e2,e3,e4,e5,e6,e7⟩,u⟩:=R.ot i d h;exact⟨⟨t,ts,p,xs,ds,es,e0,e1,e.wo.tseq e2,e3,e _ _ e4,e5.mono e.wo,e6.mono e.wo,e7⟩,u⟩
 o2:=λi d h=>by obtain⟨⟨p,L,e0,e1,e2,e3⟩,u,n⟩:=R.o2 i d h;exact⟨⟨p,L,e0,e1,e2.mono e,e3⟩,u,n⟩
 od:=R.od.step (λj d h=>⟨h,rfl⟩) (λ_ h _=>h) (λa kvs _ h _=>e _ _ h)
 len:=R.len
 hid:=R.hid.later e
def Post(D:Dm)(E:St->XK)(σ:St)(O W:List Addr)(H0 H:Hp)(Q:VK):Re->Prop
 | .ok d c=>∀v H',Same H H'->Got D O W H0 H' d c v->Q v H'
 | .ex c=>∀H' C,D.mg c=some C->Same H H'->E σ C none H'
def dE(D:Dm)(E:St->XK)(δ:List Sv)(r:Re):TE:=λσ H Q=>∃O W,RSt D H σ δ O W/\Post D E σ O W H H Q r
def y1V(D:Dm)(E:St->XK)(σ:St)(O W:List Addr)(H0 H:Hp)(Q:List V->Hp->Prop):Rs->Prop
 | .ok l=>∀vs H',Same H H'->GotL D O W H0 H' l vs->Q vs H'
 | .ex c=>∀H' C,D.mg c=some C->Same H H'->E σ C none H'
def dA(D:Dm)(E:St->XK)(δ:List Sv)(r:Rs):TA:=λσ H Q=>∃O W,RSt D H σ δ O W/\y1V D E σ O W H H Q r
def z3p(D:Dm)(E:St->XK)(σ:St)(H:Hp)(Q:Bool->Hp->Prop):Rt->Prop
 | .ok b=>∀H',Same H H'->Q b H'
 | .ex c=>∀H' C,D.mg c=some C->Same H H'->E σ C none H'
def dT(D:Dm)(E:St->XK)(δ:List Sv)(r:Rt):TT:=λσ H Q=>∃O W,RSt D H σ δ O W/\z3p D E σ H Q r
theorem Post.step(h:Post D E σ O W H0 H Q r)(e:Same H H1):Post D E σ O W H0 H1 Q r:=by
 cases r with
 | ok d c=>exact λv H' s g=>h v H' (e.trans s) g
 | ex c=>exact λH' C m s=>h H' C m (e.trans s)
theorem Post.later(h:Post D E σ O W H0 H Q r)(e:Same H H1)(e0:Same H0 H1):Post D E σ O W H1 H1 Q r:=by
 cases r with
 | ok d c=>exact λv H' s g=>h v H' (e.trans s) (g.since e0)
 | ex c=>exact λH' C m s=>h H' C m (e.trans s)
theorem GotL.since(h:GotL D O W H1 H l vs)(e:Same H0 H1):GotL D O W H0 H l vs:=by
 induction h with
 | nil=>exact .nil
 | cons g _ ih=>exact .cons (g.since e) ih
theorem z3p.later(h:z3p D E σ H Q r)(e:Same H H1):z3p D E σ H1 Q r:=by
 cases r with
 | ok b=>exact λH' s=>h H' (e.trans s)
 | ex c=>exact λH' C m s=>h H' C m (e.trans s)
theorem PE.weak(h:PE X e t)(k:∀σ H Q,t' σ H Q->t σ H Q):PE X e t':=λpins s σ H Q I q=>h pins s σ H Q I (k σ H Q q)
theorem PT.weak(h:PT X e t)(k:∀σ H Q,t' σ H Q->t σ H Q):PT X e t':=λpins s σ H Q I q=>h pins s σ H Q I (k σ H Q q)
theorem PW.weak(h:PW X e t)(k:∀σ H Q,t' σ H Q->t σ H Q):PW X e t':=λwhole pins s σ H Q I q=>h whole pins s σ H Q I (k σ H Q q)
theorem PA.weak(h:PA X e t)(k:∀σ H Q,t' σ H Q->t σ H Q):PA X e t':=λpos pins s σ H Q I q=>h pos pins s σ H Q I (k σ H Q q)
theorem PS.weak(h:PS X e t)(k:∀D σ H,t' D σ H->t D σ H):PS X e t':=λpins s σ H D I q=>h pins s σ H D I (k D σ H q)
theorem PSs.weak(h:PSs X e t)(k:∀D σ H,t' D σ H->t D σ H):PSs X e t':=λpins s σ H D I q=>h pins s σ H D I (k D σ H q)
theorem q6v:PW X e (λ_ _ _=>False):=λ_ _ _ _ _ _ _ h=>h.elim
theorem K5:PE X e (λ_ _ _=>False):=λ_ _ _ _ _ _ h=>h.elim
theorem z2i:PA X e (λ_ _ _=>False):=λ_ _ _ _ _ _ _ h=>h.elim
end
section
theorem X1(h:n<=mostLen):n<=sizeLine:=i7 h (by decide)
section
variable {X:Cx} {E:St->XK} {δ:List Sv} {a b c e:Expr} {es:List Expr}
theorem z5f(hop:∀ta,PE X a ta->PE X e (tUn r ta))(ha:∀q,ra=some q->PE X a (dE X.D E δ q))(h:Re.thn ra k=some re)
  (hr:∀O W H0 H x Q dx cx σ,k dx cx=some re->Hid O W H0 H->Got X.D O W H0 H dx cx x->Post X.D E σ O W H0 H Q re->r x H Q):PE X e (dE X.D E δ re):=by
 cases hra:ra with
 | none=>rw[hra]at h;cases h
 | some q=>
  rw[hra]at h;have A:=ha q hra;cases q with
  | ex c=>
   cases h;exact(hop _ A).weak λσ H Q ⟨O,W,R,p⟩=>⟨O,W,R,p⟩
  | ok dx cx=>
   have h':k dx cx=some re:=h;exact(hop _ A).weak λσ H Q ⟨O,W,R,p⟩=>⟨O,W,R,λx H1 s1 g1=>hr O W H H1 x Q dx cx σ h' (R.hid.mono s1) g1 (p.step s1)⟩
theorem q8W{r:R2}{k:DV->Cl->DV->Cl->Option Re}{ra rb:Option Re}{re:Re}(ha:∀q,ra=some q->PE X a (dE X.D E δ q))(hb:∀q,rb=some q->PE X b (dE X.D E δ q))
  (h:(Re.thn ra λx cx=>Re.thn rb λy cy=>k x cx y cy)=some re)
  (hr:∀O W H0 H x y Q dx cx dy cy σ,k dx cx dy cy=some re->Hid O W H0 H->Got X.D O W H0 H dx cx x->Got X.D O W H0 H dy cy y->Post X.D E σ O W H0 H Q re->r x y H Q) :
  ∃ta tb,PE X a ta/\PE X b tb/\∀σ H Q,dE X.D E δ re σ H Q->tOp r ta tb σ H Q:=by
 cases hra:ra with
 | none=>rw[hra]at h;cases h
 | some q=>
  rw[hra]at h;have A:=ha q hra;cases q with
  | ex c=>
   cases h;exact⟨_,_,A,K5,λσ H Q ⟨O,W,R,p⟩=>⟨O,W,R,p⟩⟩
  | ok dx cx=>
   have h':(Re.thn rb λy cy=>k dx cx y cy)=some re:=h;cases hrb:rb with
   | none=>rw[hrb]at h';cases h'
   | some q=>
    rw[hrb]at h';have B:=hb q hrb;cases q with
    | ex c=>
     cases h';exact⟨_,_,A,B,λσ H Q ⟨O,W,R,p⟩=>⟨O,W,R,λx H1 s1 g1=>⟨O,W,R.mono s1,λH' C m s=>p H' C m (s1.trans s)⟩⟩⟩
    | ok dy cy=>
     have h2:k dx cx dy cy=some re:=h';exact⟨_,_,A,B,λσ H Q ⟨O,W,R,p⟩=>⟨O,W,R,λx H1 s1 g1=>⟨O,W,R.mono s1,λy H2 s2 g2=>
      hr O W H H2 x y Q dx cx dy cy σ h2 ((R.hid.mono s1).mono s2) (g1.mono s2) (g2.since s1) (p.step (s1.trans s2))⟩⟩⟩
theorem z2M{r:R2}{k:DV->Cl->DV->Cl->Option Re}{ra rb:Option Re}{re:Re}(hop:∀ta tb,PE X a ta->PE X b tb->PE X e (tOp r ta tb))(ha:∀q,ra=some q->PE X a (dE X.D E δ q))(hb:∀q,rb=some q->PE X b (dE X.D E δ q))
  (h:(Re.thn ra λx cx=>Re.thn rb λy cy=>k x cx y cy)=some re)
  (hr:∀O W H0 H x y Q dx cx dy cy σ,k dx cx dy cy=some re->Hid O W H0 H->Got X.D O W H0 H dx cx x->Got X.D O W H0 H dy cy y->Post X.D E σ O W H0 H Q re->r x y H Q):PE X e (dE X.D E δ re):=by
 obtain⟨ta,tb,A,B,q⟩:=q8W ha hb h hr;exact(hop _ _ A B).weak q
theorem q3N(hop:∀t,PA X es t->PE X e (tCB r t))(ha:∀q,ra=some q->PA X es (dA X.D E δ q))(h:Rs.thn ra k=some re)
  (hr:∀O W H0 H vs Q l σ,k l=some re->Hid O W H0 H->GotL X.D O W H0 H l vs->Post X.D E σ O W H0 H Q re->r vs H Q):PE X e (dE X.D E δ re):=by
 cases hra:ra with
 | none=>rw[hra]at h;cases h
 | some q=>
  rw[hra]at h;have A:=ha q hra;cases q with
  | ex c=>
   cases h;exact(hop _ A).weak λσ H Q ⟨O,W,R,p⟩=>⟨O,W,R,p⟩
  | ok l=>
   have h':k l=some re:=h;exact(hop _ A).weak λσ H Q ⟨O,W,R,p⟩=>⟨O,W,R,λvs H1 s1 g1=>hr O W H H1 vs Q l σ h' (R.hid.mono s1) g1 (p.step s1)⟩
end
theorem q7Z:∀{L:List (Addr×List Int)},(∀q∈L,H q.1=some (.lst (q.2.map V.int)))->RepL D H (L.map λq=>.lst (q.2.map DV.int)) (L.map λq=>.ref q.1)
 | [],_=>x8.mpr rfl
 | q::L,h=>o7.mpr ⟨_,_,rfl,y7.mpr ⟨q.1,_,rfl,h q (i8 ..),X0 _⟩,q7Z λq' hq=>h q' (i6 _ hq)⟩
section
variable {X:Cx} {E:St->XK} {δ:List Sv} {pos:Pos}
theorem z6q{i:Nat}{x:Str}{r:Re}(hN:X.N[i]? = some x)(hv:Vis X.env.scope x)(hd:(x==("__debug__" : Str))=false)(hcd:(x==("__classdict__" : Str))=false)
  (h:(match δ[i]? with | some (.val d)=>some (Re.ok d .strong) | some (.own d)=>some (.ok d .top) | some (.ot d)=>some (.ok d .weak) | some (.o2 d)=>some (.ok d .weak) | _=>none)=some r):PE X (.Name x pos) (dE X.D E δ r):=
 (K2 hN hv hd hcd).weak λσ H Q ⟨O,W,R,p⟩=>by
  split at h
  ·rename_i d q;cases h;obtain⟨v,e1,e2⟩:=R.val i d q;exact⟨v,e1,p v H (Same.refl H) e2⟩
  ·rename_i d q;cases h;obtain⟨a,xs,ds,e0,e1,e2,e3,e4⟩:=R.own i d q;subst e0;refine⟨.ref a,e1,p _ H (Same.refl H) ⟨a,xs,rfl,e2,?_,e4⟩⟩;rw[j9 (R.hid.dj a e2)];exact e3
  ·rename_i d q;cases h;obtain⟨⟨t,ts,p1,xs,ds,es,e0,e1,e2,e3,e4,e5,e6,e7⟩,_⟩:=R.ot i d q;subst e0;have up:Same (L2.wo (O++W) H) (L2.wo O H):=y8 T6;refine⟨.ref t,e1,p _ H (Same.refl H) (x6.mpr ⟨t,_,rfl,up.tseq e2,o7.mpr ⟨_,_,rfl,y7.mpr ⟨p1,xs,rfl,?_,e5.mono up⟩,e6.mono up⟩⟩:Rep X.D (L2.wo O H) (.tup (.lst ds::es)) (.ref t))⟩;rw[j9 (R.hid.dj p1 e3)];exact e4
  ·rename_i d q;cases h;obtain⟨⟨a,L,e0,e1,e2,_⟩,_,_⟩:=R.o2 i d q;subst e0;refine⟨.ref a,e1,p _ H (Same.refl H) (y7.mpr ⟨a,_,rfl,by rw[j9 (R.hid.dj a e2.1)];exact e2.2.1,?_⟩:Rep X.D (L2.wo O H) (o2D L) (.ref a))⟩;exact q7Z λq hq=>by rw[j9 (R.hid.dj q.1 (e2.2.2.1 q hq).1)];exact(e2.2.2.1 q hq).2
  ·cases h
theorem z6E:PE X (.Constant (.int i) j pos) (dE X.D E δ (.ok (.int i) .strong)):=y0n.weak λσ H Q ⟨O,W,R,p⟩=>p _ H (Same.refl H) v6
theorem z8s:PE X (.Constant (.bool i) j pos) (dE X.D E δ (.ok (.bl i) .strong)):=y1e.weak λσ H Q ⟨O,W,R,p⟩=>p _ H (Same.refl H) P1
theorem z6W(h:i.length<=sizeLine):PE X (.Constant (.str i) j pos) (dE X.D E δ (.ok (.str i) .strong)):=z9X.weak λσ H Q ⟨O,W,R,p⟩=>p _ H (Same.refl H) (T5.mpr ⟨rfl,h⟩:Rep X.D (L2.wo (O++W) H) (.str i) (.str i))
theorem z7o:PE X (.Constant .none j pos) (dE X.D E δ (.ok .non .strong)):=z8J.weak λσ H Q ⟨O,W,R,p⟩=>p _ H (Same.refl H) z6K
end
section
variable {X:Cx} {E:St->XK} {δ:List Sv} {a b c e:Expr} {pos:Pos} {ra rb:Option Re} {re:Re}
theorem z2B(hd:Hid O W H0 H)(gx:Got D O W H0 H (.int i) ca x)(gy:Got D O W H0 H (.int j) cb y)(hc:C i j)(q:Q (g i j) H):rI C g x y H Q:=
 ⟨i,j,gx.int hd,gy.int hd,hc,q⟩
theorem z0N(hd:Hid O W H0 H)(gx:Got D O W H0 H (.int i) ca x)(gy:Got D O W H0 H (.int j) cb y)(q:Q (g i j) H):rI0 g x y H Q:=
 ⟨i,j,gx.int hd,gy.int hd,q⟩
theorem z7X(h:ca ≠ .weak)(h':cb ≠ .weak):Cl.anew ca cb=.fresh:=by
 cases ca<;>cases cb<;>first | rfl | exact absurd rfl h | exact absurd rfl h'
def z4u(i j:Int):Prop:=CMul i j\/(i.natAbs<2^2000/\j.natAbs<2^2000)
theorem z0x(h:i.natAbs<2^n):Builtin.Int.intBits i<=n:=by
 unfold Builtin.Int.intBits;by_cases hi:i=0
 ·subst hi;exact A7 n
 ·rw[d7 (by simpa using hi)];have:i.natAbs≠0:=λz=>hi (Int.natAbs_eq_zero.mp z)
  exact(w4b this).mpr h
theorem z4u.ok(h:z4u i j):IntMulOk i j:=by
 rcases h with h | ⟨h1,h2⟩
 ·exact h.ok
 ·unfold IntMulOk;have b1:=z0x h1;have b2:=z0x h2;have:Builtin.Int.intTooBig ((Builtin.Int.intBits i:Int)+(Builtin.Int.intBits j:Int))=false:=by
   unfold Builtin.Int.intTooBig;rw[D4];have:((bitsLine:Nat):Int)=134217728:=by decide
   omega
  rw[this,w3h];exact v9
theorem z7H:OpR X (binaryOp .Mult) (rI z4u λi j=>.int (i*j)):=opI λ_ _ _ _ _ _ _ hc q=>mul_int q hc.ok
theorem z4k:OpR X (binaryOp .FloorDiv) (rI (λ_ j=>0<j/\j<2^200) λi j=>.int (i/j)):=opI λi j _ _ _ _ _ hc q=>by
 have h1:(0:Int)<j:=hc.1;have h2:j.natAbs<2^200:=by have:=hc.2;omega
 refine floordiv_int (by omega) (by rw[w3v i (by omega)];exact q) (.inl (PyProof.noPylong_of_log2 ?_));exact u4 ((w4b (by omega)).mpr h2) (by decide)
def binR(X:Cx):Operator->R2
 | .Add=>λx y H Q=>rI0 (λi j=>.int (i+j)) x y H Q\/rCat x y H Q
 | .Sub=>rI0 λi j=>.int (i - j)
 | .Mult=>λx y H Q=>rI z4u (λi j=>.int (i*j)) x y H Q\/rRep x y H Q
 | .Mod=>rI (λ_ j=>0<j) λi j=>.int (i%j)
 | .FloorDiv=>rI (λ_ j=>0<j/\j<2^200) λi j=>.int (i/j)
 | .LShift=>rI CPow λi j=>.int (i*2^j.toNat)
 | .RShift=>rI (λ_ j=>0<=j) λi j=>.int (i/2^j.toNat)
 | .BitAnd=>rI0 λi j=>.int (Builtin.bitAnd i j)
 | _=>λ_ _ _ _=>False
theorem z9e:OpR X (binaryOp op) (binR X op):=by
 cases op with
 | Add=>exact z9y.or z8W
 | Sub=>exact z8t
 | Mult=>exact z7H.or z9n
 | Mod=>exact z9P
 | FloorDiv=>exact z4k
 | LShift=>exact z9i
 | RShift=>exact z8B
 | BitAnd=>exact z8K
 | BitOr=>exact λ_ _ _ _ _ _ _ _ _ _ _ _ h=>h.elim
 | BitXor=>exact λ_ _ _ _ _ _ _ _ _ _ _ _ h=>h.elim
 | MatMult=>exact λ_ _ _ _ _ _ _ _ _ _ _ _ h=>h.elim
 | Div=>exact λ_ _ _ _ _ _ _ _ _ _ _ _ h=>h.elim
 | Pow=>exact λ_ _ _ _ _ _ _ _ _ _ _ _ h=>h.elim
theorem z9g(h:binD op dx dy cx cy=some re)(hd:Hid O W H0 H)(gx:Got X.D O W H0 H dx cx x)(gy:Got X.D O W H0 H dy cy y)
  (p:Post X.D E σ O W H0 H Q re):binR X op x y H Q:=by
 unfold binD at h;split at h
 ·cases h;exact .inl (z0N hd gx gy (p _ H (Same.refl H) v6))
 ·cases h;exact z0N hd gx gy (p _ H (Same.refl H) v6)
 ·split at h
  ·rename_i m;cases h;refine .inl (z2B hd gx gy ?_ (p _ H (Same.refl H) v6));unfold F9 at m;simp only[C7,b9,A2]at m;exact m
  ·cases h
 ·split at h
  ·rename_i m;cases h;exact z2B hd gx gy m (p _ H (Same.refl H) v6)
  ·cases h
 ·split at h
  ·rename_i m;cases h;exact z2B hd gx gy m (p _ H (Same.refl H) v6)
  ·cases h
 ·split at h
  ·rename_i m;cases h;exact z2B hd gx gy m (p _ H (Same.refl H) v6)
  ·cases h
 ·split at h
  ·rename_i m;cases h;exact z2B hd gx gy m (p _ H (Same.refl H) v6)
  ·cases h
 ·cases h;exact z0N hd gx gy (p _ H (Same.refl H) v6)
 ·rename_i xs ys;split at h
  ·rename_i m;cases h;by_cases hw:cx ≠ .weak/\cy ≠ .weak
   ·obtain⟨l1,v1,e1,k1,r1⟩:=gx.items hd hw.1;obtain⟨l2,v2,e2,k2,r2⟩:=gy.items hd hw.2;refine .inr (⟨l1,l2,v1,v2,e1,e2,k1,k2,by rw[r1.length,r2.length];exact X1 m,λq hq=>p _ _ (w5 hq) ?_⟩);rw[z7X hw.1 hw.2];exact N0 hd hq (r1.append r2)
   ·obtain⟨l1,v1,e1,k1,r1⟩:=gx.lst hd;obtain⟨l2,v2,e2,k2,r2⟩:=gy.lst hd;refine .inr (⟨l1,l2,v1,v2,e1,e2,k1,k2,by rw[r1.length,r2.length];exact X1 m,λq hq=>p _ _ (w5 hq) ?_⟩);have:Cl.anew cx cy=.weak:=(by cases cx<;>cases cy<;>first | rfl | exact absurd ⟨(by intro z;cases z),(by intro z;cases z)⟩ hw);rw[this];exact q6g hd hq (r1.append r2)
  ·cases h
 ·rename_i xs k;split at h
  ·rename_i m;cases h;obtain⟨l1,v1,e1,k1,r1⟩:=gx.lstC hd;refine .inr ⟨l1,k,v1,e1,gy.int hd,k1,m.2.1,m.2.2,by rw[r1.length];exact X1 m.1,λq hq=>p _ _ (w5 hq) (q3W hd hq (r1.rep _))⟩
  ·cases h
 ·cases h
theorem z6r(ha:∀q,ra=some q->PE X a (dE X.D E δ q))(hb:∀q,rb=some q->PE X b (dE X.D E δ q))(h:(Re.thn ra λx cx=>Re.thn rb λy cy=>binD op x y cx cy)=some re):PE X (.BinOp a op b pos) (dE X.D E δ re):=
 z2M (λ_ _=>y1A z9e) ha hb h λO W H0 H x y Q dx cx dy cy σ k hd gx gy p=>z9g k hd gx gy p
theorem z6N(ha:∀q,ra=some q->PE X a (dE X.D E δ q))(h:(Re.thn ra λx _=>match x with | .int i=>some (.ok (.int (-i)) .strong) | _=>none)=some re):PE X (.UnaryOp .USub a pos) (dE X.D E δ re):=
 z5f (λ_=>y0I z9z) ha h λO W H0 H x Q dx cx σ k hd gx p=>by
  split at k
  ·cases k;exact⟨_,gx.int hd,p _ H (Same.refl H) v6⟩
  ·cases k
theorem z9K:atD ds i=L2.atI ds i:=rfl
theorem RepL.atI(h:RepL D H ds xs)(e:atD ds i=some d):∃v,L2.atI xs i=some v/\Rep D H d v:=by
 rw[z9K]at e;unfold L2.atI at e ⊢;rw[h.length];cases q:ixN ds.length i with
 | none=>rw[q]at e;cases e
 | some j=>
  rw[q]at e;exact h.get e
theorem y1v(h:((ixD dx dy).map λd=>Re.ok d cx.item)=some re)(hd:Hid O W H0 H)(gx:Got X.D O W H0 H dx cx x)(gy:Got X.D O W H0 H dy cy y)
  (p:Post X.D E σ O W H0 H Q re):rIx X.K x y H Q:=by
 obtain⟨d,h1,h2⟩:=u7.mp h;cases h2;unfold ixD at h1;split at h1
 ·rename_i ns i;obtain⟨a,e1,e2⟩:=M8.mp (gx.all hd);obtain⟨n,h3,h4⟩:=u7.mp h1;cases h4;have q:L2.atI (ns.map V.int) i=some (.int n):=by
   unfold L2.atI;rw[d5];have h3':((ixN ns.length i).bind λj=>ns[j]?)=some n:=h3;cases z:ixN ns.length i with
   | none=>rw[z]at h3';cases h3'
   | some j=>
    rw[z]at h3';have h5:ns[j]? = some n:=h3';show(ns.map V.int)[j]? = _;rw[n9,h5];rfl
  refine .inl ⟨a,_,i,_,e1,gy.int hd,e2.sq,q,p _ H (Same.refl H) ?_⟩;cases cx<;>exact v6
 ·obtain⟨a,xs,e1,e2,e3⟩:=gx.lstC hd;obtain⟨v,q1,q2⟩:=e3.atI h1;exact .inl ⟨a,xs,_,v,e1,gy.int hd,SqL.of e2,q1,p _ H (Same.refl H) (Got.item q2)⟩
 ·obtain⟨a,xs,e1,e2,e3⟩:=gx.tupC hd;obtain⟨v,q1,q2⟩:=e3.atI h1;exact .inr (.inl ⟨a,xs,_,v,e1,gy.int hd,e2,q1,p _ H (Same.refl H) (Got.item q2)⟩)
 ·rename_i z i;obtain⟨e1,e2⟩:=gx.str hd;cases q:A4 z.cps.size i with
  | none=>rw[q]at h1;cases h1
  | some j=>
   rw[q]at h1;obtain⟨ch,h3,h4⟩:=u7.mp (show((z.cps[j]?).map λc=>DV.str ⟨#[c]⟩)=some d from h1);cases h4;refine .inr (.inr ⟨z,i,ch,e1,gy.int hd,e2,?_,p _ H (Same.refl H) ?_⟩)
   ·unfold L2.atI;have:ixN z.cps.toList.length i=some j:=by rw[x3];exact q
    rw[this];show z.cps.toList[j]? = some ch;rw[F4];exact h3
   ·have one:Rep X.D (L2.wo (O++W) H) (.str ⟨#[ch]⟩) (.str ⟨#[ch]⟩):=T5.mpr ⟨rfl,by show(1:Nat)<=sizeLine;decide⟩;have one':Rep X.D (L2.wo O H) (.str ⟨#[ch]⟩) (.str ⟨#[ch]⟩):=T5.mpr ⟨rfl,by show(1:Nat)<=sizeLine;decide⟩;cases cx<;>first | exact one | exact one'
 ·cases h1
theorem y0c(ha:∀q,ra=some q->PE X a (dE X.D E δ q))(hb:∀q,rb=some q->PE X b (dE X.D E δ q))(hs:P0 b=false)(h:(Re.thn ra λx cx=>Re.thn rb λy _=>(ixD x y).map λd=>.ok d cx.item)=some re):PE X (.Subscript a b pos) (dE X.D E δ re):=
 z2M (λ_ _ h1 h2=>y1c z9Z h1 h2 (by cases b<;>first | (intro _ _;rfl) | cases hs)) ha hb h λO W H0 H x y Q dx cx dy cy σ k hd gx gy p=>y1v k hd gx gy p
theorem q6f(n d:Nat)(o:Option Int):slIx n d o=HT.sIx n d o:=by cases o<;>rfl
theorem RepL.cut(h:RepL D H ds xs)(lo hi:Option Int):RepL D H (cutD ds lo hi) (cutV xs lo hi):=by
 unfold cutD cutV;rw[q6f,q6f,←h.length];exact(h.drop _).take _
theorem z8f{O W:List Addr}{H0 H:Hp}{x:V}{dx:DV}{cx:Cl}{Q:VK}{σ:St}{lo hi:Option Int}(h:((slD dx lo hi).map λd=>Re.ok d (slCl dx cx))=some re)(hd:Hid O W H0 H)(gx:Got X.D O W H0 H dx cx x)
  (p:Post X.D E σ O W H0 H Q re):rSlL X.K x lo hi H Q\/rSlT X.K x lo hi H Q:=by
 obtain⟨d,h1,h2⟩:=u7.mp h;cases h2;unfold slD at h1;split at h1
 ·rename_i ns;cases h1;obtain⟨a,e1,e2⟩:=M8.mp (gx.all hd);exact .inl ⟨a,_,e1,e2.sq,λq hq=>p _ _ (w5 hq) (N0 hd hq ((X0 ns).cut lo hi))⟩
 ·cases h1;obtain⟨a,xs,e1,e2,e3⟩:=gx.lstC hd;exact .inl ⟨a,xs,e1,SqL.of e2,λq hq=>p _ _ (w5 hq) (q3W hd hq (e3.cut lo hi))⟩
 ·rename_i ds;split at h1
  ·cases h1
  ·rename_i m;cases h1;obtain⟨a,xs,e1,e2,e3⟩:=gx.tupC hd;refine .inr ⟨a,xs,e1,e2,?_,λq hq=>p _ _ (w5 hq) (q8K hd hq (e3.cut lo hi))⟩;rw[q6f,q6f,←e3.length]at m;exact m
 ·cases h1
theorem N1:SlR X (λx lo hi H Q=>rSlL X.K x lo hi H Q\/rSlT X.K x lo hi H Q):=z6n.or z9O
theorem q6L(h:PE X b (dE X.D E δ (.ok (.int i) cl))):PO X (some b) (λσ H Q=>∃O W,RSt X.D H σ δ O W/\∀H',Same H H'->Q (some i) H'):=λpins s σ H Q I ⟨O,W,R,p⟩=>
 z0B h pins s σ H Q I ⟨O,W,R,λv H' s1 g=>⟨i,g.int (R.hid.mono s1),p H' s1⟩⟩
theorem z3L{c:Str}(h:PE X b (dE X.D E δ (.ex c))):PO X (some b) (λσ H Q=>∃O W,RSt X.D H σ δ O W/\Post X.D E σ O W H H (λ_ _=>False) (.ex c)):=λpins s σ H Q I ⟨O,W,R,p⟩=>
 z0B h pins s σ H Q I ⟨O,W,R,p⟩
theorem q3M:PO X o (λ_ _ _=>False):=λ_ _ _ _ _ _ h=>h.elim
theorem z6R(ha:∀q,ra=some q->PE X a (dE X.D E δ q))(hb:∀q,rb=some q->PE X b (dE X.D E δ q))(h:(Re.thn ra λx cx=>Re.thn rb λl _=>match l with
  | .int l=>(slD x (some l) none).map λd=>.ok d (slCl x cx) | _=>none)=some re):PE X (.Subscript a (.Slice (some b) none none p2) pos) (dE X.D E δ re):=by
 cases hra:ra with
 | none=>rw[hra]at h;cases h
 | some q=>
  rw[hra]at h;have A:=ha q hra;cases q with
  | ex c=>cases h;exact(M5 N1 A q3M q4d).weak λσ H Q ⟨O,W,R,p⟩=>⟨O,W,R,p⟩
  | ok dx cx=>
   cases hrb:rb with
   | none=>rw[hrb]at h;cases h
   | some q=>
    rw[hrb]at h;have B:=hb q hrb;cases q with
    | ex c=>cases h;exact(M5 N1 A (z3L B) q4d).weak λσ H Q ⟨O,W,R,p⟩=>⟨O,W,R,λx H1 s1 g1=>⟨O,W,R.mono s1,λH' C m s=>p H' C m (s1.trans s)⟩⟩
    | ok dy cy=>
     have h':(match(generalizing:=false) dy with | .int l=>(slD dx (some l) none).map λd=>Re.ok d (slCl dx cx) | _=>none)=some re:=h;split at h'
     ·rename_i l;exact(M5 N1 A (q6L B) q4d).weak λσ H Q ⟨O,W,R,p⟩=>⟨O,W,R,λx H1 s1 g1=>⟨O,W,R.mono s1,λH2 s2=>z8f h' ((R.hid.mono s1).mono s2) (g1.mono s2) (p.step (s1.trans s2))⟩⟩
     ·cases h'
theorem z5O(ha:∀q,ra=some q->PE X a (dE X.D E δ q))(hb:∀q,rb=some q->PE X b (dE X.D E δ q))(h:(Re.thn ra λx cx=>Re.thn rb λl _=>match l with
  | .int l=>(slD x none (some l)).map λd=>.ok d (slCl x cx) | _=>none)=some re):PE X (.Subscript a (.Slice none (some b) none p2) pos) (dE X.D E δ re):=by
 cases hra:ra with
 | none=>rw[hra]at h;cases h
 | some q=>
  rw[hra]at h;have A:=ha q hra;cases q with
  | ex c=>cases h;exact(M5 N1 A q4d q3M).weak λσ H Q ⟨O,W,R,p⟩=>⟨O,W,R,p⟩
  | ok dx cx=>
   cases hrb:rb with
   | none=>rw[hrb]at h;cases h
   | some q=>
    rw[hrb]at h;have B:=hb q hrb;cases q with
    | ex c=>cases h;exact(M5 N1 A q4d (z3L B)).weak λσ H Q ⟨O,W,R,p⟩=>⟨O,W,R,λx H1 s1 g1=>⟨O,W,R.mono s1,λH' C m s=>p H' C m (s1.trans s)⟩⟩
    | ok dy cy=>
     have h':(match(generalizing:=false) dy with | .int l=>(slD dx none (some l)).map λd=>Re.ok d (slCl dx cx) | _=>none)=some re:=h;split at h'
     ·rename_i l;exact(M5 N1 A q4d (q6L B)).weak λσ H Q ⟨O,W,R,p⟩=>⟨O,W,R,λx H1 s1 g1=>⟨O,W,R.mono s1,λH2 s2=>z8f h' ((R.hid.mono s1).mono s2) (g1.mono s2) (p.step (s1.trans s2))⟩⟩
     ·cases h'
theorem z9F(ha:∀q,ra=some q->PE X a (dE X.D E δ q))(hb:∀q,rb=some q->PE X b (dE X.D E δ q))(hc:∀q,rc=some q->PE X c (dE X.D E δ q))(h:(Re.thn ra λx cx=>Re.thn rb λl _=>match l with
  | .int l=>Re.thn rc λu _=>(match u with
   | .int u=>(slD x (some l) (some u)).map λd=>.ok d (slCl x cx) | _=>none) | _=>none)=some re):PE X (.Subscript a (.Slice (some b) (some c) none p2) pos) (dE X.D E δ re):=by
 cases hra:ra with
 | none=>rw[hra]at h;cases h
 | some q=>
  rw[hra]at h;have A:=ha q hra;cases q with
  | ex c=>cases h;exact(M5 N1 A q3M q3M).weak λσ H Q ⟨O,W,R,p⟩=>⟨O,W,R,p⟩
  | ok dx cx=>
   cases hrb:rb with
   | none=>rw[hrb]at h;cases h
   | some q=>
    rw[hrb]at h;have B:=hb q hrb;cases q with
    | ex c=>cases h;exact(M5 N1 A (z3L B) q3M).weak λσ H Q ⟨O,W,R,p⟩=>⟨O,W,R,λx H1 s1 g1=>⟨O,W,R.mono s1,λH' C m s=>p H' C m (s1.trans s)⟩⟩
    | ok dy cy=>
     have h':(match(generalizing:=false) dy with | .int l=>Re.thn rc λu _=>(match u with | .int u=>(slD dx (some l) (some u)).map λd=>Re.ok d (slCl dx cx) | _=>none) | _=>none)=some re:=h;split at h'
     ·rename_i l;cases hrc:rc with
      | none=>rw[hrc]at h';cases h'
      | some q=>
       rw[hrc]at h';have C:=hc q hrc;cases q with
       | ex c'=>
        cases h';exact(M5 N1 A (q6L B) (z3L C)).weak λσ H Q ⟨O,W,R,p⟩=>⟨O,W,R,λx H1 s1 g1=>⟨O,W,R.mono s1,λH2 s2=>⟨O,W,(R.mono s1).mono s2,λH' C m s=>p H' C m (s1.trans (s2.trans s))⟩⟩⟩
       | ok dz cz=>
        have h2:(match(generalizing:=false) dz with | .int u=>(slD dx (some l) (some u)).map λd=>Re.ok d (slCl dx cx) | _=>none)=some re:=h';split at h2
        ·rename_i u;exact(M5 N1 A (q6L B) (q6L C)).weak λσ H Q ⟨O,W,R,p⟩=>⟨O,W,R,λx H1 s1 g1=>⟨O,W,R.mono s1,λH2 s2=>⟨O,W,(R.mono s1).mono s2,λH3 s3=>z8f h2 (((R.hid.mono s1).mono s2).mono s3) ((g1.mono s2).mono s3) (p.step (s1.trans (s2.trans s3)))⟩⟩⟩
        ·cases h2
     ·cases h'
end
end
section
mutual
def toP:DV->PyData
 | .non=>.none | .bl b=>.bool b | .int i=>.int i | .str x=>.str x
 | .tup ds=>.tuple (toPs ds) | .lst ds=>.list (toPs ds)
 | _=>.none
def toPs:List DV->List PyData
 | []=>[]
 | d::r=>toP d::toPs r
end
mutual
theorem q5f:∀(n m:Nat) (d e:DV),d.plain n=true->e.plain m=true->PyData.eqv (toP d) (toP e)=deq d e
 | n,m,.non,e,_,h=>by cases e<;>first | (cases m<;>simp[DV.plain]at h;done) | (simp only[toP,PyData.eqv,deq])
 | n,m,.bl _,e,_,h=>by cases e<;>first | (cases m<;>simp[DV.plain]at h;done) | (simp only[toP,PyData.eqv,deq])
 | n,m,.int _,e,_,h=>by cases e<;>first | (cases m<;>simp[DV.plain]at h;done) | (simp only[toP,PyData.eqv,deq])
 | n,m,.str x,e,_,h=>by
  cases e with
  | str y=>simp only[toP,PyData.eqv,deq];rfl
  | non=>simp only[toP,PyData.eqv,deq]
  | bl _=>simp only[toP,PyData.eqv,deq]
  | int _=>simp only[toP,PyData.eqv,deq]
  | tup _=>simp only[toP,PyData.eqv,deq]
  | lst _=>simp only[toP,PyData.eqv,deq]
  | dct _ _=>cases m<;>simp[DV.plain]at h
  | exc _=>cases m<;>simp[DV.plain]at h
  | fn _=>cases m<;>simp[DV.plain]at h
  | scr _=>cases m<;>simp[DV.plain]at h
 | 0,_,.tup _,_,h,_=>by simp[DV.plain]at h
 | 0,_,.lst _,_,h,_=>by simp[DV.plain]at h
 | n+1,m,.tup ds,e,h,h'=>by
  cases e with
  | tup es=>
   cases m with
   | zero=>simp[DV.plain]at h'
   | succ m=>
    simp only[toP,PyData.eqv,deq];exact q6h n m ds es (by simpa[DV.plain]using h) (by simpa[DV.plain]using h')
  | non=>simp only[toP,PyData.eqv,deq]
  | bl _=>simp only[toP,PyData.eqv,deq]
  | int _=>simp only[toP,PyData.eqv,deq]
  | str _=>simp only[toP,PyData.eqv,deq]
  | lst _=>simp only[toP,PyData.eqv,deq]
  | dct _ _=>cases m<;>simp[DV.plain]at h'
  | exc _=>cases m<;>simp[DV.plain]at h'
  | fn _=>cases m<;>simp[DV.plain]at h'
  | scr _=>cases m<;>simp[DV.plain]at h'
 | n+1,m,.lst ds,e,h,h'=>by
  cases e with
  | lst es=>
   cases m with
   | zero=>simp[DV.plain]at h'
   | succ m=>
    simp only[toP,PyData.eqv,deq];exact q6h n m ds es (by simpa[DV.plain]using h) (by simpa[DV.plain]using h')
  | non=>simp only[toP,PyData.eqv,deq]
  | bl _=>simp only[toP,PyData.eqv,deq]
  | int _=>simp only[toP,PyData.eqv,deq]
  | str _=>simp only[toP,PyData.eqv,deq]
  | tup _=>simp only[toP,PyData.eqv,deq]
  | dct _ _=>cases m<;>simp[DV.plain]at h'
  | exc _=>cases m<;>simp[DV.plain]at h'
  | fn _=>cases m<;>simp[DV.plain]at h'
  | scr _=>cases m<;>simp[DV.plain]at h'
 | n,_,.dct _ _,_,h,_=>by cases n<;>simp[DV.plain]at h
 | n,_,.exc _,_,h,_=>by cases n<;>simp[DV.plain]at h
 | n,_,.fn _,_,h,_=>by cases n<;>simp[DV.plain]at h
 | n,_,.scr _,_,h,_=>by cases n<;>simp[DV.plain]at h
theorem q6h:∀(n m:Nat) (ds es:List DV),DV.plains n ds=true->DV.plains m es=true->PyData.eqvAll (toPs ds) (toPs es)=deqs ds es
 | _,_,[],[],_,_=>by simp only[toPs,PyData.eqvAll,deqs]
 | _,_,[],_::_,_,_=>by simp only[toPs,PyData.eqvAll,deqs]
 | _,_,_::_,[],_,_=>by simp only[toPs,PyData.eqvAll,deqs]
 | n,m,d::ds,e::es,h,h'=>by simp only[DV.plains,b9]at h h';simp only[toPs,PyData.eqvAll,deqs,q5f n m d e h.1 h'.1,q6h n m ds es h.2 h'.2]
end
mutual
theorem q4g:∀(n:Nat) (d:DV),d.plain n=true->(toP d).canLay0=true/\(toP d).depth<=n
 | n,.non,_=>by simp[toP,PyData.canLay0,PyData.depth]
 | n,.bl _,_=>by simp[toP,PyData.canLay0,PyData.depth]
 | n,.int _,_=>by simp[toP,PyData.canLay0,PyData.depth]
 | n,.str x,h=>by
  have h':(x.cps.all (· < 0x110000))=true:=by cases n<;>simpa[DV.plain]using h
  simp only[toP,PyData.canLay0,PyData.depth];exact⟨h',A7 _⟩
 | 0,.tup _,h=>by simp[DV.plain]at h
 | 0,.lst _,h=>by simp[DV.plain]at h
 | n+1,.tup ds,h=>by have q:=X2 n ds (by simpa[DV.plain]using h);simp only[toP,PyData.canLay0,PyData.depth,q.1,true_and];have:=q.2;omega
 | n+1,.lst ds,h=>by have q:=X2 n ds (by simpa[DV.plain]using h);simp only[toP,PyData.canLay0,PyData.depth,q.1,true_and];have:=q.2;omega
 | n,.dct _ _,h=>by cases n<;>simp[DV.plain]at h
 | n,.exc _,h=>by cases n<;>simp[DV.plain]at h
 | n,.fn _,h=>by cases n<;>simp[DV.plain]at h
 | n,.scr _,h=>by cases n<;>simp[DV.plain]at h
theorem X2:∀(n:Nat) (ds:List DV),DV.plains n ds=true->PyData.canLayAll0 (toPs ds)=true/\PyData.depthAll (toPs ds)<=n
 | _,[],_=>by simp[toPs,PyData.canLayAll0,PyData.depthAll]
 | n,d::ds,h=>by simp only[DV.plains,b9]at h;have q:=q4g n d h.1;have q':=X2 n ds h.2;simp only[toPs,PyData.canLayAll0,PyData.depthAll,q.1,q'.1,Bool.and_self,true_and];have a:=q.2;have b:=q'.2;omega
end
section
variable {X:Cx} {pins:List (Addr×Obj)} {σ:St} {H:Hp} {s:Shared}
mutual
theorem J1(I:Inv X pins σ H s):∀(n:Nat) {d:DV} {v:V} {u:Value},d.plain n=true->Rep X.D H d v->RelV v u->∃as,Reads s.heap u (toP d) as
 | _,.non,_,_,_,h,r=>by rw[q4f.mp h]at r;cases r;exact⟨_,Reads.none⟩
 | _,.bl b,_,_,_,h,r=>by rw[W8.mp h]at r;cases r;exact⟨_,Reads.bool b⟩
 | _,.int i,_,_,_,h,r=>by rw[t5.mp h]at r;obtain⟨t,rfl⟩:=r;exact⟨_,Reads.int i t⟩
 | _,.str x,_,_,_,h,r=>by rw[(T5.mp h).1]at r;obtain⟨t,rfl⟩:=r;exact⟨_,Reads.str x t⟩
 | 0,.tup _,_,_,p,_,_=>by simp[DV.plain]at p
 | 0,.lst _,_,_,p,_,_=>by simp[DV.plain]at p
 | n+1,.tup ds,_,_,p,h,r=>by obtain⟨a,xs,e1,e2,e3⟩:=x6.mp h;rw[e1]at r;cases r;obtain⟨its,rv,⟨o,h1,h2,k,h3⟩,_⟩:=I.tuple e2;obtain⟨as,q⟩:=q5o I n (by simpa[DV.plain]using p) e3 rv;rw[toP];exact⟨as,Reads.tuple h1 h2 h3 (by simpa using q)⟩
 | n+1,.lst ds,_,_,p,h,r=>by obtain⟨a,xs,e1,e2,e3⟩:=y7.mp h;rw[e1]at r;cases r;obtain⟨_,its,k,rv,_,h1⟩:=I.lstM e2;obtain⟨as,q⟩:=q5o I n (by simpa[DV.plain]using p) e3 rv;rw[toP];exact⟨_,Reads.list h1 rfl rfl (by simpa using q)⟩
 | n,.dct _ _,_,_,h,_,_=>by cases n<;>simp[DV.plain]at h
 | n,.exc _,_,_,h,_,_=>by cases n<;>simp[DV.plain]at h
 | n,.fn _,_,_,h,_,_=>by cases n<;>simp[DV.plain]at h
 | n,.scr _,_,_,h,_,_=>by cases n<;>simp[DV.plain]at h
theorem q5o(I:Inv X pins σ H s):∀(n:Nat) {ds:List DV} {vs:List V} {us:List Value},DV.plains n ds=true->RepL X.D H ds vs->Vals vs us->∃as,ReadsAll s.heap us (toPs ds) as
 | _,[],_,_,_,h,r=>by rw[x8.mp h]at r;cases r;exact⟨_,ReadsAll.nil⟩
 | n,d::ds,_,_,p,h,r=>by
  simp only[DV.plains,b9]at p;obtain⟨v,vs,e1,e2,e3⟩:=o7.mp h;subst e1;cases r with
  | cons r1 r2=>
   obtain⟨as,q⟩:=J1 I n p.1 e2 r1;obtain⟨bs,q'⟩:=q5o I n p.2 e3 r2;rw[toPs];exact⟨_,ReadsAll.cons q q'⟩
end
theorem q4a(h:d.plain 60=true):SeqAt.shaped (toP d)=true:=by
 have q:=q4g 60 d h;unfold SeqAt.shaped;rw[q.1,V1];exact B8 (i7 q.2 (by decide))
theorem q8x(h:d.plain 60=true):∀(ds:List DV),DV.plains 60 ds=true->((toPs ds).any λy=>PyData.eqv y (toP d))=ds.any λx=>deq x d
 | [],_=>rfl
 | e::ds,p=>by simp only[DV.plains,b9]at p;rw[toPs,D8,D8,q5f 60 60 e d p.1 h,q8x h ds p.2]
end
section
variable {X:Cx} {E:St->XK} {δ:List Sv} {a b c e:Expr} {pos:Pos} {ra rb rc:Option Re} {re:Re}
def cmpR(X:Cx)(op:CmpOp):R2:=λx y H Q=>∃dx dy k,cmpD op dx dy=some k/\Rep X.D H dx x/\Rep X.D H dy y/\Q (.bl k) H
theorem z9v(r:Rep D H d v):decide (v=.non)=isN d:=by
 cases d with
 | non=>rw[q4f.mp r];rfl
 | bl _=>rw[W8.mp r];rfl
 | int _=>rw[t5.mp r];rfl
 | str _=>rw[(T5.mp r).1];rfl
 | tup _=>obtain⟨a,xs,e,_⟩:=x6.mp r;rw[e];rfl
 | lst _=>obtain⟨a,xs,e,_⟩:=y7.mp r;rw[e];rfl
 | exc _=>obtain⟨a,C,e,_⟩:=q8s.mp r;rw[e];rfl
 | fn _=>obtain⟨a,e,_⟩:=z2V.mp r;rw[e];rfl
 | scr _=>obtain⟨a,e,_⟩:=M8.mp r;rw[e];rfl
 | dct _ _=>rcases J0.mp r with⟨a,o,kvs,e,_⟩ | ⟨a,o,kvs,e,_⟩<;>rw[e]<;>rfl
theorem q5Q(hu:X.A.units+64<cLine):OpR X (compareOp op) (cmpR X op):=by
 intro pins s σ H x y v u Q I rx ry h;obtain⟨dx,dy,k,hk,r1,r2,q⟩:=h;have fin:∀{k':Bool},k'=k->EP X pins σ Q (.bool k') s:=λ{k'} e=>⟨.bl k',H,I,rfl,by rw[e];exact q⟩
 unfold cmpD at hk;split at hk
 ·cases hk;exact y1s pins s σ H x y v u Q I rx ry ⟨_,_,t5.mp r1,t5.mp r2,q⟩
 ·cases hk;exact y0P pins s σ H x y v u Q I rx ry ⟨_,_,t5.mp r1,t5.mp r2,q⟩
 ·split at hk
  ·rename_i p;rw[b9]at p;cases hk;obtain⟨as,q1⟩:=J1 I 60 p.1 r1 rx;obtain⟨bs,q2⟩:=J1 I 60 p.2 r2 ry;exact eq_dataH q1 q2 (q4a p.1) (q4a p.2) hu (fin (q5f 60 60 _ _ p.1 p.2))
  ·cases hk
 ·split at hk
  ·rename_i p;rw[b9]at p;cases hk;obtain⟨as,q1⟩:=J1 I 60 p.1 r1 rx;obtain⟨bs,q2⟩:=J1 I 60 p.2 r2 ry;exact ne_dataH q1 q2 (q4a p.1) (q4a p.2) hu (fin (by rw[q5f 60 60 _ _ p.1 p.2]))
  ·cases hk
 ·cases hk;exact z8z pins s σ H x y v u Q I rx ry ⟨q4f.mp r2,by rw[z9v r1];exact q⟩
 ·rename_i ds;split at hk
  ·rename_i p;rw[b9]at p;cases hk;obtain⟨as,q1⟩:=J1 I 60 p.1 r1 rx;obtain⟨bs,q2⟩:=J1 I 61 (d:=.lst ds) (by simpa[DV.plain]using p.2) r2 ry;rw[toP]at q2;have l1:=q4g 60 _ p.1;have l2:=X2 60 ds p.2;have l3:=l1.2;exact SeqAt.notIn_list_reads q2 q1 l2.1 l1.1 (by omega) (fin (by rw[q8x p.1 ds p.2]))
  ·cases hk
 ·rename_i ds;split at hk
  ·rename_i p;rw[b9]at p;cases hk;obtain⟨as,q1⟩:=J1 I 60 p.1 r1 rx;obtain⟨bs,q2⟩:=J1 I 61 (d:=.tup ds) (by simpa[DV.plain]using p.2) r2 ry;rw[toP]at q2;have l1:=q4g 60 _ p.1;have l2:=X2 60 ds p.2;have l3:=l1.2;exact SeqAt.notIn_tuple_reads q2 q1 l2.1 l1.1 (by omega) (fin (by rw[q8x p.1 ds p.2]))
  ·cases hk
 ·cases hk
theorem q5u(h:E6 b=false):behindInMarks op b=false:=by
 cases b<;>first | rfl | cases h
theorem z7u(hu:X.A.units+64<cLine)(ha:∀q,ra=some q->PE X a (dE X.D E δ q))(hb:∀q,rb=some q->PE X b (dE X.D E δ q))(hs:E6 b=false)
  (h:(Re.thn ra λx _=>Re.thn rb λy _=>(cmpD op x y).map λk=>.ok (.bl k) .strong)=some re):PE X (.Compare a [op] [b] pos) (dE X.D E δ re):=
 z2M (λ_ _ h1 h2=>z8c (q5Q hu) h1 h2 (q5u hs)) ha hb h λO W H0 H x y Q dx cx dy cy σ k hd gx gy p=>by obtain⟨k',e1,e2⟩:=u7.mp k;cases e2;exact⟨dx,dy,k',e1,gx.all hd,gy.all hd,p _ H (Same.refl H) P1⟩
theorem z2S(ha:∀q,ra=some q->PE X a (dE X.D E δ q))(hb:∀q,rb=some q->PE X b (dE X.D E δ q))
  (h:(Re.thn ra λx _=>Re.thn rb λy _=>(cmpD op x y).map λk=>.ok (.bl k) .strong)=some re):∃ta tb,PE X a ta/\PE X b tb/\∀σ H Q,dE X.D E δ re σ H Q->tOp (cmpR X op) ta tb σ H Q:=
 q8W ha hb h λO W H0 H x y Q dx cx dy cy σ k hd gx gy p=>by obtain⟨k',e1,e2⟩:=u7.mp k;cases e2;exact⟨dx,dy,k',e1,gx.all hd,gy.all hd,p _ H (Same.refl H) P1⟩
theorem z0C(hb:∀d c,re=.ok d c->∃k,d=.bl k)(h:tstD (some re)=some r)(q:dT X.D E δ r σ H Q):dE X.D E δ re σ H (λx H'=>∃k,x=.bl k/\Q k H'):=by
 obtain⟨O,W,R,p⟩:=q;cases re with
 | ex c=>cases h;exact⟨O,W,R,p⟩
 | ok d c=>
  obtain⟨k,rfl⟩:=hb d c rfl;cases h;exact⟨O,W,R,λv H' s g=>⟨k,g.bl (R.hid.mono s),p H' s⟩⟩
theorem z8x(h:(Re.thn ra λx _=>Re.thn rb λy _=>(cmpD op x y).map λk=>.ok (.bl k) .strong)=some re):∀d c,re=.ok d c->∃k,d=.bl k:=by
 intro d c e;subst e;cases ra with
 | none=>cases h
 | some q=>
  cases q with
  | ex c=>cases h
  | ok d c=>
   cases rb with
   | none=>cases h
   | some q=>
    cases q with
    | ex c=>cases h
    | ok d' c'=>
     obtain⟨k,_,e⟩:=u7.mp (show((cmpD op d d').map λk=>Re.ok (.bl k) .strong)=_ from h);cases e;exact⟨k,rfl⟩
theorem z4r(hu:X.A.units+64<cLine)(ha:∀q,ra=some q->PE X a (dE X.D E δ q))(hb:∀q,rb=some q->PE X b (dE X.D E δ q))(hs:E6 b=false)
  (h:tstD (Re.thn ra λx _=>Re.thn rb λy _=>(cmpD op x y).map λk=>.ok (.bl k) .strong)=some r):PT X (.Compare a [op] [b] pos) (dT X.D E δ r):=by
 cases q:(Re.thn ra λx _=>Re.thn rb λy _=>(cmpD op x y).map λk=>Re.ok (.bl k) .strong)with
 | none=>rw[q]at h;cases h
 | some re=>
  rw[q]at h;obtain⟨ta,tb,A,B,w⟩:=z2S ha hb q;exact(z7K (q5Q hu) A B (q5u hs)).weak λσ H Q z=>w σ H _ (z0C (z8x q) h z)
theorem q4p(h:E6 c=false):lastMarks [op,op'] [b,c]=false:=by
 show behindInMarks op' c=false;exact q5u h
theorem q4Y(ha:∀q,ra=some q->PE X a (dE X.D E δ q))(hb:∀q,rb=some q->PE X b (dE X.D E δ q))(hc:∀q,rc=some q->PE X c (dE X.D E δ q))
  (h:(Re.thn ra λx _=>Re.thn rb λy _=>match cmpD op x y with
   | none=>none
   | some false=>some (.ok (.bl false) .strong)
   | some true=>Re.thn rc λz _=>(cmpD op' y z).map λk=>.ok (.bl k) .strong)=some re):∃ta tb tc,PE X a ta/\PE X b tb/\PE X c tc/\(∀σ H Q,dE X.D E δ re σ H Q->z2f (cmpR X op) (cmpR X op') ta tb tc σ H Q)/\∀d cl,re=.ok d cl->∃k,d=.bl k:=by
 cases hra:ra with
 | none=>rw[hra]at h;cases h
 | some q=>
  rw[hra]at h;have A:=ha q hra;cases q with
  | ex c=>cases h;exact⟨_,_,_,A,K5,K5,λσ H Q ⟨O,W,R,p⟩=>⟨O,W,R,p⟩,λd cl z=>nomatch z⟩
  | ok dx cx=>
   cases hrb:rb with
   | none=>rw[hrb]at h;cases h
   | some q=>
    rw[hrb]at h;have B:=hb q hrb;cases q with
    | ex c=>cases h;exact⟨_,_,_,A,B,K5,λσ H Q ⟨O,W,R,p⟩=>⟨O,W,R,λx H1 s1 g1=>⟨O,W,R.mono s1,λH' C m s=>p H' C m (s1.trans s)⟩⟩,λd cl z=>nomatch z⟩
    | ok dy cy=>
     have h':(match(generalizing:=false) cmpD op dx dy with
      | none=>none
      | some false=>some (Re.ok (.bl false) .strong)
      | some true=>Re.thn rc λz _=>(cmpD op' dy z).map λk=>.ok (.bl k) .strong)=some re:=h
     split at h'
     ·cases h'
     ·rename_i e1;cases h';exact⟨_,_,_,A,B,K5,λσ H Q ⟨O,W,R,p⟩=>⟨O,W,R,λx H1 s1 g1=>⟨O,W,R.mono s1,λy H2 s2 g2=>
       ⟨dx,dy,false,e1,(g1.mono s2).all ((R.hid.mono s1).mono s2),g2.all ((R.mono s1).hid.mono s2),false,rfl,by rw[d7 v9];exact p _ _ (s1.trans s2) P1⟩⟩⟩,λd cl z=>by cases z;exact⟨_,rfl⟩⟩
     ·rename_i e1;cases hrc:rc with
      | none=>rw[hrc]at h';cases h'
      | some q=>
       rw[hrc]at h';have C:=hc q hrc;cases q with
       | ex c'=>
        cases h';exact⟨_,_,_,A,B,C,λσ H Q ⟨O,W,R,p⟩=>⟨O,W,R,λx H1 s1 g1=>⟨O,W,R.mono s1,λy H2 s2 g2=>
         ⟨dx,dy,true,e1,(g1.mono s2).all ((R.hid.mono s1).mono s2),g2.all ((R.mono s1).hid.mono s2),true,rfl,by rw[b8 rfl];exact⟨O,W,(R.mono s1).mono s2,λH' C m s=>p H' C m (s1.trans (s2.trans s))⟩⟩⟩⟩,λd cl z=>nomatch z⟩
       | ok dz cz=>
        obtain⟨k,e2,e3⟩:=u7.mp (show((cmpD op' dy dz).map λk=>Re.ok (.bl k) .strong)=some re from h');cases e3;exact⟨_,_,_,A,B,C,λσ H Q ⟨O,W,R,p⟩=>⟨O,W,R,λx H1 s1 g1=>⟨O,W,R.mono s1,λy H2 s2 g2=>
         ⟨dx,dy,true,e1,(g1.mono s2).all ((R.hid.mono s1).mono s2),g2.all ((R.mono s1).hid.mono s2),true,rfl,by
          rw[b8 rfl];exact⟨O,W,(R.mono s1).mono s2,λz H3 s3 g3=>⟨dy,dz,k,e2,(g2.mono s3).all (((R.mono s1).hid.mono s2).mono s3),g3.all (((R.mono s1).mono s2).hid.mono s3),p _ _ (s1.trans (s2.trans s3)) P1⟩⟩⟩⟩⟩,λd cl z=>by cases z;exact⟨_,rfl⟩⟩
theorem z2L(hu:X.A.units+64<cLine)(ha:∀q,ra=some q->PE X a (dE X.D E δ q))(hb:∀q,rb=some q->PE X b (dE X.D E δ q))(hc:∀q,rc=some q->PE X c (dE X.D E δ q))(hs:E6 c=false)
  (h:(Re.thn ra λx _=>Re.thn rb λy _=>match cmpD op x y with
   | none=>none
   | some false=>some (.ok (.bl false) .strong)
   | some true=>Re.thn rc λz _=>(cmpD op' y z).map λk=>.ok (.bl k) .strong)=some re):PE X (.Compare a [op,op'] [b,c] pos) (dE X.D E δ re):=by
 obtain⟨ta,tb,tc,A,B,C,w,_⟩:=q4Y ha hb hc h;exact(z3y (q5Q hu) (q5Q hu) A B C (q4p hs)).weak w
theorem z0s(hu:X.A.units+64<cLine)(ha:∀q,ra=some q->PE X a (dE X.D E δ q))(hb:∀q,rb=some q->PE X b (dE X.D E δ q))(hc:∀q,rc=some q->PE X c (dE X.D E δ q))(hs:E6 c=false)
  (h:tstD (Re.thn ra λx _=>Re.thn rb λy _=>match cmpD op x y with
   | none=>none
   | some false=>some (.ok (.bl false) .strong)
   | some true=>Re.thn rc λz _=>(cmpD op' y z).map λk=>.ok (.bl k) .strong)=some r):PT X (.Compare a [op,op'] [b,c] pos) (dT X.D E δ r):=by
 cases q:(Re.thn ra λx _=>Re.thn rb λy _=>match cmpD op x y with
   | none=>none
   | some false=>some (Re.ok (.bl false) .strong)
   | some true=>Re.thn rc λz _=>(cmpD op' y z).map λk=>.ok (.bl k) .strong)with
 | none=>rw[q]at h;cases h
 | some re=>
  rw[q]at h;obtain⟨ta,tb,tc,A,B,C,w,hbl⟩:=q4Y ha hb hc q;exact(z4d (q5Q hu) (q5Q hu) A B C (q4p hs)).weak λσ H Q z=>w σ H _ (z0C hbl h z)
end
section
variable {X:Cx} {E:St->XK} {δ:List Sv} {a b c e:Expr} {es:List Expr} {pos:Pos} {ra:Option Re} {rt ru:Option Rt} {r:Rt} {re:Re}
theorem q5U(h:C2 d=some k)(r:Rep D H d v):TruV D.K v H k:=by
 cases d with
 | non=>cases h;rw[q4f.mp r];rfl
 | bl b=>cases h;rw[W8.mp r];rfl
 | int i=>cases h;rw[t5.mp r];rfl
 | str x=>
  cases h;obtain⟨e1,e2⟩:=T5.mp r;rw[e1];refine⟨e2,?_⟩;show(x.cps.size != 0)=(((x.cps.size:Nat):Int) != 0);cases x.cps.size with
  | zero=>rfl
  | succ n=>simp only[bne,Nat.add_eq_zero_iff];rw[U9];simp;omega
 | tup ds=>
  cases h;obtain⟨a,xs,e1,e2,e3⟩:=x6.mp r;rw[e1];refine .inr (.inl ⟨xs,e2,?_⟩);have:=e3.length;cases xs<;>cases ds<;>first | rfl | cases this
 | lst ds=>
  cases h;obtain⟨a,xs,e1,e2,e3⟩:=y7.mp r;rw[e1];refine .inl ⟨xs,SqL.of e2,?_⟩;have:=e3.length;cases xs<;>cases ds<;>first | rfl | cases this
 | dct _ _=>cases h
 | exc _=>cases h
 | fn _=>cases h
 | scr _=>cases h
theorem z1D(ha:∀q,ra=some q->PE X e (dE X.D E δ q))(he:∀whole,isTrue e X.env whole=(do let v ←whole;standAt e.pos;holding [v] (truthy v)))(h:tstD ra=some r):PT X e (dT X.D E δ r):=by
 cases hra:ra with
 | none=>rw[hra]at h;cases h
 | some q=>
  rw[hra]at h;have A:=ha q hra;cases q with
  | ex c=>cases h;exact(q8L A he).weak λσ H Q ⟨O,W,R,p⟩=>⟨O,W,R,p⟩
  | ok d cl=>
   obtain⟨k,e1,e2⟩:=u7.mp (show(C2 d).map Rt.ok=some r from h);cases e2;exact(q8L A he).weak λσ H Q ⟨O,W,R,p⟩=>⟨O,W,R,λx H1 s1 g1=>⟨k,q5U e1 (g1.all (R.hid.mono s1)),p H1 s1⟩⟩
theorem z5N(ha:PE X a ta):PE X (.UnaryOp .Not a pos) (tUn (λx H Q=>∃k,TruV X.K x H k/\Q (.bl (!k)) H) ta):=by
 intro pins s σ H Q I h;refine UnaryOp_ (thn (ha pins s σ H _ I h) λv s1 ⟨x,H1,I1,r1,q1⟩=>?_);obtain⟨k,t,q1⟩:=q1;exact not_of (thn (q8F pins s1 σ H1 x v (λb H'=>b=k/\H'=H1) I1 r1 ⟨k,t,rfl,rfl⟩) λb s2 ⟨H2,I2,e1,e2⟩=>by
  subst e1 e2;exact⟨.bl (!b),H2,I2,rfl,q1⟩)
theorem z7I(ha:∀q,ra=some q->PE X a (dE X.D E δ q))(h:(Re.thn ra λx _=>(C2 x).map λk=>.ok (.bl (!k)) .strong)=some re):PE X (.UnaryOp .Not a pos) (dE X.D E δ re):=
 z5f (λ_=>z5N) ha h λO W H0 H x Q dx cx σ k hd gx p=>by obtain⟨b,e1,e2⟩:=u7.mp k;cases e2;exact⟨b,q5U e1 (gx.all hd),p _ H (Same.refl H) P1⟩
theorem q8j(ha:PE X a ta)(hb:PE X (.BoolOp .And (b::es) pos) tb):PE X (.BoolOp .And (a::b::es) pos) (λσ H Q=>ta σ H λx H1=>∃k,TruV X.K x H1 k/\if k=true then tb σ H1 Q else Q x H1):=by
 intro pins s σ H Q I h;refine BoolOp_and (thn (ha pins s σ H _ I h) λv s1 ⟨x,H1,I1,r1,q1⟩=>?_);obtain⟨k,t,q1⟩:=q1;refine thn (q8F pins s1 σ H1 x v (λb H'=>b=k/\H'=H1) I1 r1 ⟨k,t,rfl,rfl⟩) λc s2 ⟨H2,I2,e1,e2⟩=>?_
 subst e1 e2;cases c with
 | true=>exact hb pins s2 σ H2 Q I2 q1
 | false=>exact⟨x,H2,I2,r1,q1⟩
theorem z2y(ha:PE X a ta)(hb:PE X (.BoolOp .Or (b::es) pos) tb):PE X (.BoolOp .Or (a::b::es) pos) (λσ H Q=>ta σ H λx H1=>∃k,TruV X.K x H1 k/\if k=true then Q x H1 else tb σ H1 Q):=by
 intro pins s σ H Q I h;refine BoolOp_or (thn (ha pins s σ H _ I h) λv s1 ⟨x,H1,I1,r1,q1⟩=>?_);obtain⟨k,t,q1⟩:=q1;refine thn (q8F pins s1 σ H1 x v (λb H'=>b=k/\H'=H1) I1 r1 ⟨k,t,rfl,rfl⟩) λc s2 ⟨H2,I2,e1,e2⟩=>?_
 subst e1 e2;cases c with
 | false=>exact hb pins s2 σ H2 Q I2 q1
 | true=>exact⟨x,H2,I2,r1,q1⟩
theorem z7d(ha:∀q,ra=some q->PE X a (dE X.D E δ q))(hb:∀q,rb=some q->PE X (.BoolOp .And (b::es) pos) (dE X.D E δ q))(h:(Re.thn ra λx c=>andD x c rb)=some re):PE X (.BoolOp .And (a::b::es) pos) (dE X.D E δ re):=by
 cases hra:ra with
 | none=>rw[hra]at h;cases h
 | some q=>
  rw[hra]at h;have A:=ha q hra;cases q with
  | ex c=>cases h;exact(q8j A K5).weak λσ H Q ⟨O,W,R,p⟩=>⟨O,W,R,p⟩
  | ok d cl=>
   have h':andD d cl rb=some re:=h;unfold andD at h';split at h'
   ·cases h'
   ·rename_i t;exact(q8j A (hb re h')).weak λσ H Q ⟨O,W,R,p⟩=>⟨O,W,R,λx H1 s1 g1=>⟨true,q5U t (g1.all (R.hid.mono s1)),iteT ⟨O,W,R.mono s1,p.later s1 s1⟩⟩⟩
   ·rename_i t;cases h';exact(q8j A K5).weak λσ H Q ⟨O,W,R,p⟩=>⟨O,W,R,λx H1 s1 g1=>⟨false,q5U t (g1.all (R.hid.mono s1)),iteF (p _ H1 s1 g1)⟩⟩
theorem y0x(ha:∀q,ra=some q->PE X a (dE X.D E δ q))(hb:∀q,rb=some q->PE X (.BoolOp .Or (b::es) pos) (dE X.D E δ q))(h:(Re.thn ra λx c=>orD x c rb)=some re):PE X (.BoolOp .Or (a::b::es) pos) (dE X.D E δ re):=by
 cases hra:ra with
 | none=>rw[hra]at h;cases h
 | some q=>
  rw[hra]at h;have A:=ha q hra;cases q with
  | ex c=>cases h;exact(z2y A K5).weak λσ H Q ⟨O,W,R,p⟩=>⟨O,W,R,p⟩
  | ok d cl=>
   have h':orD d cl rb=some re:=h;unfold orD at h';split at h'
   ·cases h'
   ·rename_i t;cases h';exact(z2y A K5).weak λσ H Q ⟨O,W,R,p⟩=>⟨O,W,R,λx H1 s1 g1=>⟨true,q5U t (g1.all (R.hid.mono s1)),iteT (p _ H1 s1 g1)⟩⟩
   ·rename_i t;exact(z2y A (hb re h')).weak λσ H Q ⟨O,W,R,p⟩=>⟨O,W,R,λx H1 s1 g1=>⟨false,q5U t (g1.all (R.hid.mono s1)),iteF ⟨O,W,R.mono s1,p.later s1 s1⟩⟩⟩
theorem q7R(h:tstD (Re.thn ra k)=some r):(ra=none/\False)\/(∃c,ra=some (.ex c)/\r=.ex c)\/∃d c,ra=some (.ok d c)/\tstD (k d c)=some r:=by
 cases hra:ra with
 | none=>rw[hra]at h;cases h
 | some q=>
  rw[hra]at h;cases q with
  | ex c=>cases h;exact .inr (.inl ⟨c,rfl,rfl⟩)
  | ok d c=>exact .inr (.inr ⟨d,c,rfl,h⟩)
theorem z4I{d:DV}{c:Cl}{r:Rt}(h:tstD (some (.ok d c))=some r):∃k,C2 d=some k/\r=.ok k:=by
 obtain⟨k,e1,e2⟩:=u7.mp (show(C2 d).map Rt.ok=some r from h);exact⟨k,e1,e2.symm⟩
theorem z3O(ha:∀q,tstD ra=some q->PT X a (dT X.D E δ q))(h:tstD (Re.thn ra λx _=>(C2 x).map λk=>.ok (.bl (!k)) .strong)=some r):PT X (.UnaryOp .Not a pos) (dT X.D E δ r):=by
 rcases q7R h with⟨_,z⟩ | ⟨c,e1,e2⟩ | ⟨d,c,e1,e2⟩
 ·exact z.elim
 ·subst e1 e2;exact(z5A (ha (.ex c) rfl)).weak λσ H Q ⟨O,W,R,p⟩=>⟨O,W,R,p⟩
 ·cases t:C2 d with
  | none=>rw[t]at e2;cases e2
  | some k=>
   rw[t]at e2;cases e2;have A:=ha (.ok k) (by rw[e1];show(C2 d).map Rt.ok=_;rw[t];rfl);exact(z5A A).weak λσ H Q ⟨O,W,R,p⟩=>⟨O,W,R,λH1 s1=>p H1 s1⟩
theorem z3S(ha:∀q,tstD ra=some q->PT X a (dT X.D E δ q))(hb:∀q,tstD rb=some q->PW X (.BoolOp .And (b::es) pos) (dT X.D E δ q))(h:tstD (Re.thn ra λx c=>andD x c rb)=some r):PW X (.BoolOp .And (a::b::es) pos) (dT X.D E δ r):=by
 rcases q7R h with⟨_,z⟩ | ⟨c,e1,e2⟩ | ⟨d,c,e1,e2⟩
 ·exact z.elim
 ·subst e1 e2;exact(z3f (ha (.ex c) rfl) q6v).weak λσ H Q ⟨O,W,R,p⟩=>⟨O,W,R,p⟩
 ·unfold andD at e2;cases t:C2 d with
  | none=>rw[t]at e2;cases e2
  | some k=>
   rw[t]at e2;have A:=ha (.ok k) (by rw[e1];show(C2 d).map Rt.ok=_;rw[t];rfl);cases k with
   | true=>exact(z3f A (hb r e2)).weak λσ H Q ⟨O,W,R,p⟩=>⟨O,W,R,λH1 s1=>iteT ⟨O,W,R.mono s1,p.later s1⟩⟩
   | false=>
    obtain⟨k,t',rfl⟩:=z4I e2;rw[t]at t';cases t';exact(z3f A q6v).weak λσ H Q ⟨O,W,R,p⟩=>⟨O,W,R,λH1 s1=>iteF (p H1 s1)⟩
theorem z6f(ha:∀q,tstD ra=some q->PT X a (dT X.D E δ q))(hb:∀q,tstD rb=some q->PW X (.BoolOp .Or (b::es) pos) (dT X.D E δ q))(h:tstD (Re.thn ra λx c=>orD x c rb)=some r):PW X (.BoolOp .Or (a::b::es) pos) (dT X.D E δ r):=by
 rcases q7R h with⟨_,z⟩ | ⟨c,e1,e2⟩ | ⟨d,c,e1,e2⟩
 ·exact z.elim
 ·subst e1 e2;exact(z6C (ha (.ex c) rfl) q6v).weak λσ H Q ⟨O,W,R,p⟩=>⟨O,W,R,p⟩
 ·unfold orD at e2;cases t:C2 d with
  | none=>rw[t]at e2;cases e2
  | some k=>
   rw[t]at e2;have A:=ha (.ok k) (by rw[e1];show(C2 d).map Rt.ok=_;rw[t];rfl);cases k with
   | false=>exact(z6C A (hb r e2)).weak λσ H Q ⟨O,W,R,p⟩=>⟨O,W,R,λH1 s1=>iteF ⟨O,W,R.mono s1,p.later s1⟩⟩
   | true=>
    obtain⟨k,t',rfl⟩:=z4I e2;rw[t]at t';cases t';exact(z6C A q6v).weak λσ H Q ⟨O,W,R,p⟩=>⟨O,W,R,λH1 s1=>iteT (p H1 s1)⟩
theorem t6(h:m7 e=false):starEach (e::es) env=(false,eval e env)::starEach es env:=by
 cases e<;>first | rfl | cases h
theorem z3v:PA X [] (dA X.D E δ (.ok [])):=V6.weak λσ H Q ⟨O,W,R,p⟩=>p [] H (Same.refl H) .nil
theorem z1R(hs:m7 e=false)(ha:∀q,ra=some q->PE X e (dE X.D E δ q))(hb:∀q,rs=some q->PA X es (dA X.D E δ q))
  (h:(match(generalizing:=false) ra with | none=>none | some (.ex c)=>some (Rs.ex c) | some (.ok d c)=>(match(generalizing:=false) rs with | none=>none | some (.ex c)=>some (.ex c) | some (.ok l)=>some (.ok ((d,c)::l))))=some q):PA X (e::es) (dA X.D E δ q):=by
 cases hra:ra with
 | none=>rw[hra]at h;cases h
 | some z=>
  rw[hra]at h;have A:=ha z hra;cases z with
  | ex c=>cases h;exact(L3 A z2i (t6 hs)).weak λσ H Q ⟨O,W,R,p⟩=>⟨O,W,R,p⟩
  | ok d cl=>
   cases hrs:rs with
   | none=>rw[hrs]at h;cases h
   | some y=>
    rw[hrs]at h;have B:=hb y hrs;cases y with
    | ex c=>cases h;exact(L3 A B (t6 hs)).weak λσ H Q ⟨O,W,R,p⟩=>⟨O,W,R,λx H1 s1 g1=>⟨O,W,R.mono s1,λH' C m s=>p H' C m (s1.trans s)⟩⟩
    | ok l=>
     cases h;exact(L3 A B (t6 hs)).weak λσ H Q ⟨O,W,R,p⟩=>⟨O,W,R,λx H1 s1 g1=>⟨O,W,R.mono s1,λvs H2 s2 g2=>p _ H2 (s1.trans s2) (.cons (g1.mono s2) (g2.since s1))⟩⟩
theorem z8g(ha:∀q,rs=some q->PA X es (dA X.D E δ q))(h:(Rs.thn rs λl=>if l.length<=mostLen then some (.ok (.lst (l.map (·.1))) (if stros l then .fresh else .weak))else none)=some re):PE X (.List es pos) (dE X.D E δ re):=
 q3N (r:=λvs H Q=>vs.length<=sizeLine/\∀p,H p=none->Q (.ref p) (upd H p (.lst vs))) (λ_=>y0i) ha h λO W H0 H vs Q l σ k hd g p=>by
  split at k
  ·rename_i m;cases k;refine⟨by rw[g.length];exact X1 m,λq hq=>p _ _ (w5 hq) ?_⟩;by_cases z:stros l=true
   ·rw[b8 z];exact N0 hd hq (g.stros hd z)
   ·rw[d7 z];exact q6g hd hq (g.repL hd)
  ·cases k
theorem z7D(ha:∀q,rs=some q->PA X es (dA X.D E δ q))(h:(Rs.thn rs λl=>if l.length<=mostLen then some (.ok (.tup (l.map (·.1))) (if stros l then .strong else .weak))else none)=some re):PE X (.Tuple es x1 pos) (dE X.D E δ re):=
 q3N (r:=λvs H Q=>vs.length<=sizeLine/\∀p,H p=none->Q (.ref p) (upd H p (.tup vs))) (λ_=>z5w) ha h λO W H0 H vs Q l σ k hd g p=>by
  split at k
  ·rename_i m;cases k;refine⟨by rw[g.length];exact X1 m,λq hq=>p _ _ (w5 hq) ?_⟩;by_cases z:stros l=true
   ·rw[b8 z];exact q4S hd hq (g.stros hd z)
   ·rw[d7 z];exact q9B hd hq (g.repL hd)
  ·cases k
end
end
section
theorem q6t:∀ds:List DV,toPs ds=ds.map toP
 | []=>by rw[toPs];rfl
 | d::r=>by rw[toPs,q6t r];rfl
theorem q8f:∀{ds:List DV} {j:Nat},K4 y ds=some j->∃h:j<ds.length,deq ds[j] y=true/\∀m (hm:m<ds.length),m<j->deq ds[m] y=false
 | [],j,h=>by cases h
 | d::r,j,h=>by
  unfold K4 at h;split at h
  ·rename_i e;cases h;exact⟨Nat.succ_pos _,e,λm _ hm=>absurd hm (Nat.not_lt_zero _)⟩
  ·rename_i e;obtain⟨k,h1,rfl⟩:=u7.mp h;obtain⟨hk,h2,h3⟩:=q8f h1;refine⟨Nat.succ_lt_succ hk,h2,λm hm hlt=>?_⟩;cases m with
   | zero=>exact Bool.eq_false_iff.mpr e
   | succ m=>exact h3 m (w2W hm) (w2W hlt)
theorem q7y:∀{ds:List DV} {m:Nat} (h:m<ds.length),DV.plains n ds=true->(ds[m]).plain n=true
 | d::r,0,_,p=>by simp only[DV.plains,b9]at p;exact p.1
 | d::r,m+1,h,p=>by simp only[DV.plains,b9]at p;exact q7y (ds:=r) (w2W h) p.2
section
variable {X:Cx} {pins:List (Addr×Obj)} {σ:St} {H:Hp} {s:Shared} {E:St->XK} {δ:List Sv} {o e:Expr} {to te:TE} {apos cpos:Pos} {ra rb:Option Re} {re:Re}
theorem q9y(p:y.plain 60=true)(q:DV.plains 60 ds=true)(h:K4 y ds=some j) :
  ∃h:j<(toPs ds).length,PyData.eqv (toPs ds)[j] (toP y)=true/\∀m (hm:m<(toPs ds).length),m<j->PyData.eqv (toPs ds)[m] (toP y)=false:=by
 obtain⟨hj,h1,h2⟩:=q8f h;have hl:(toPs ds).length=ds.length:=by rw[q6t,d5]
 have ha:∀m (h1:m<(toPs ds).length) (h2:m<ds.length),PyData.eqv (toPs ds)[m] (toP y)=deq ds[m] y:=λm h1 h2=>by
  rw[←q5f 60 60 ds[m] y (q7y h2 q) p]
  congr 1
  simp only[q6t,List.getElem_map]
 exact⟨by omega,(ha j (by omega) hj).trans h1,λm hm hlt=>(ha m hm (by omega)).trans (h2 m (by omega) hlt)⟩
theorem z6T(hu:X.A.units+64<cLine)(I:Inv X pins σ H s)(rx:RelV x v)(ry:RelV y u)(r1:Rep X.D H (.lst ds) x)(r2:Rep X.D H dy y)(p:dy.plain 60=true)(q:DV.plains 60 ds=true)(hl:ds.length<=mostLen)
  (h:K4 dy ds=some j) (k:Q (.int j) H):wpAny (model X.prog X.w) X.A (call (.builtin "list.index") [v,u]) (EP X pins σ Q) X.xe s:=by
 obtain⟨as,q1⟩:=J1 I 60 p r2 ry;obtain⟨bs,q2⟩:=J1 I 61 (d:=.lst ds) (by simpa[DV.plain]using q) r1 rx;rw[toP]at q2;have l1:=q4g 60 _ p;have l2:=X2 60 ds q;have l3:=l1.2;obtain⟨hj,f1,f2⟩:=q9y p q h;have hj2:=(q8f h).1;exact SeqAt.index_list_reads q2 q1 l2.1 l1.1 (by omega) hj (by have:mostLen=1000000:=rfl;omega) f1 f2 ⟨.int j,H,I.tok _,⟨_,rfl⟩,k⟩
theorem z7P(hu:X.A.units+64<cLine)(I:Inv X pins σ H s)(rx:RelV x v)(ry:RelV y u)(r1:Rep X.D H (.tup ds) x)(r2:Rep X.D H dy y)(p:dy.plain 60=true)(q:DV.plains 60 ds=true)
  (h:K4 dy ds=some j) (k:Q (.int j) H):wpAny (model X.prog X.w) X.A (call (.builtin "tuple.index") [v,u]) (EP X pins σ Q) X.xe s:=by
 obtain⟨as,q1⟩:=J1 I 60 p r2 ry;obtain⟨bs,q2⟩:=J1 I 61 (d:=.tup ds) (by simpa[DV.plain]using q) r1 rx;rw[toP]at q2;have l1:=q4g 60 _ p;have l2:=X2 60 ds q;have l3:=l1.2;obtain⟨hj,f1,f2⟩:=q9y p q h;exact SeqAt.index_tuple_reads q2 q1 l2.1 l1.1 (by omega) hj f1 f2 ⟨.int j,H,I.tok _,⟨_,rfl⟩,k⟩
def tIdx(X:Cx)(to te:TE):TE:=λσ H Q=>to σ H λx H1=>(∃ds,Rep X.D H1 (.lst ds) x/\te σ H1 λy H2=>∃ds dy j,Rep X.D H2 (.lst ds) x/\Rep X.D H2 dy y/\dy.plain 60=true/\DV.plains 60 ds=true/\ds.length<=mostLen/\K4 dy ds=some j/\Q (.int j) H2) \/
 (∃ds,Rep X.D H1 (.tup ds) x/\te σ H1 λy H2=>∃ds dy j,Rep X.D H2 (.tup ds) x/\Rep X.D H2 dy y/\dy.plain 60=true/\DV.plains 60 ds=true/\K4 dy ds=some j/\Q (.int j) H2)
theorem z5s(hu:X.A.units+64<cLine)(ho:PE X o to)(ha:PE X e te)(hbase:attributeBase o "index" X.env (eval o X.env)=eval o X.env)(hline:(apos.endLine==cpos.line)=true)(hs:starEach [e] X.env=[(false,eval e X.env)]) :
  PE X (.Call (.Attribute o "index" apos) [e] [] cpos) (tIdx X to te):=by
 intro pins s σ H Q I h;refine w38 hbase (by rw[hs];rfl) hline rfl (thn (ho pins s σ H _ I h) λv s1 ⟨x,H1,I1,r1,q1⟩=>?_);rcases q1 with⟨ds,d1,q1⟩ | ⟨ds,d1,q1⟩
 ·obtain⟨a,xs,e1,e2,e3⟩:=y7.mp d1;subst e1;cases(show v=Value.ref a from r1);obtain⟨its,_,pl,_⟩:=I1.list (SqL.of e2);refine⟨"list","list.index",w2g,w3V,PySem.F.type_list_index,pl.isList.typeIs,λb eb=>?_,?_⟩
  ·cases eb;obtain⟨o,n,e,c,hd,_⟩:=pl;exact⟨o,e,hd⟩
  ·rw[hs];refine Y3 rfl (w2v (w3o (thn (ha pins s1 σ H1 _ I1 q1) λu s2 ⟨y,H2,I2,r2,ds',dy,j,d2,d3,p1,p2,p3,p4,k⟩=>w3z ?_)));exact z6T hu I2 (show RelV (.ref a) (Value.ref a)from rfl) r2 d2 d3 p1 p2 p3 p4 k
 ·obtain⟨a,xs,e1,e2,e3⟩:=x6.mp d1;subst e1;cases(show v=Value.ref a from r1);obtain⟨ob,n1,n2,n3⟩:=I1.tupleN e2;refine⟨"tuple","tuple.index",PySem.F.plainAttrs_tuple,w3N,PySem.F.type_tuple_index,⟨ob,n1,n2⟩,λb eb=>?_,?_⟩
  ·cases eb;exact⟨ob,n1,n3⟩
  ·rw[hs];refine Y3 rfl (w2v (w3o (thn (ha pins s1 σ H1 _ I1 q1) λu s2 ⟨y,H2,I2,r2,ds',dy,j,d2,d3,p1,p2,p3,k⟩=>w3z ?_)));exact z7P hu I2 (show RelV (.ref a) (Value.ref a)from rfl) r2 d2 d3 p1 p2 p3 k
theorem z7W(hu:X.A.units+64<cLine)(ha:∀q,ra=some q->PE X o (dE X.D E δ q))(hb:∀q,rb=some q->PE X e (dE X.D E δ q))(hbase:attributeBase o "index" X.env (eval o X.env)=eval o X.env)(hline:(apos.endLine==cpos.line)=true)(hs:starEach [e] X.env=[(false,eval e X.env)])
  (h:(Re.thn ra λx _=>if seqB x then Re.thn rb λy _=>(idxD x y).map λd=>.ok d .strong else none)=some re):PE X (.Call (.Attribute o "index" apos) [e] [] cpos) (dE X.D E δ re):=by
 cases hra:ra with
 | none=>rw[hra]at h;cases h
 | some q=>
  rw[hra]at h;have A:=ha q hra;cases q with
  | ex c=>
   cases h;exact(z5s hu A K5 hbase hline hs).weak λσ H Q ⟨O,W,R,p⟩=>⟨O,W,R,p⟩
  | ok dx cx=>
   have h0:(if seqB dx then Re.thn rb λy _=>(idxD dx y).map λd=>Re.ok d .strong else none)=some re:=h;have hsq:seqB dx=true:=by
    cases z:seqB dx with
    | true=>rfl
    | false=>rw[z]at h0;cases h0
   rw[b8 hsq]at h0;have h':(Re.thn rb λy _=>(idxD dx y).map λd=>.ok d .strong)=some re:=h0;cases hrb:rb with
   | none=>rw[hrb]at h';cases h'
   | some q=>
    rw[hrb]at h';have B:=hb q hrb;have C:=z5s hu A B hbase hline hs (apos:=apos) (cpos:=cpos);cases q with
    | ex c=>
     cases h';cases dx with
     | lst ds=>exact C.weak λσ H Q ⟨O,W,R,p⟩=>⟨O,W,R,λx H1 s1 g1=>.inl ⟨ds,g1.all (R.hid.mono s1),O,W,R.mono s1,λH' C m s=>p H' C m (s1.trans s)⟩⟩
     | tup ds=>exact C.weak λσ H Q ⟨O,W,R,p⟩=>⟨O,W,R,λx H1 s1 g1=>.inr ⟨ds,g1.all (R.hid.mono s1),O,W,R.mono s1,λH' C m s=>p H' C m (s1.trans s)⟩⟩
     | _=>cases hsq
    | ok dy cy=>
     have h2:((idxD dx dy).map λd=>Re.ok d .strong)=some re:=h';obtain⟨d,h3,h4⟩:=u7.mp h2;subst h4;unfold idxD at h3;split at h3
     ·rename_i ds;split at h3
      ·rename_i m;obtain⟨j,f1,rfl⟩:=u7.mp h3;rw[b9,b9,A2]at m;exact C.weak λσ H Q ⟨O,W,R,p⟩=>⟨O,W,R,λx H1 s1 g1=>.inl ⟨ds,g1.all (R.hid.mono s1),O,W,R.mono s1,λy H2 s2 g2=>
        ⟨ds,dy,j,(g1.mono s2).all ((R.hid.mono s1).mono s2),(g2.since s1).all ((R.hid.mono s1).mono s2),m.1.1,m.1.2,m.2,f1,p _ H2 (s1.trans s2) v6⟩⟩⟩
      ·cases h3
     ·rename_i ds;split at h3
      ·rename_i m;obtain⟨j,f1,rfl⟩:=u7.mp h3;rw[b9,b9,A2]at m;exact C.weak λσ H Q ⟨O,W,R,p⟩=>⟨O,W,R,λx H1 s1 g1=>.inr ⟨ds,g1.all (R.hid.mono s1),O,W,R.mono s1,λy H2 s2 g2=>
        ⟨ds,dy,j,(g1.mono s2).all ((R.hid.mono s1).mono s2),(g2.since s1).all ((R.hid.mono s1).mono s2),m.1.1,m.1.2,f1,p _ H2 (s1.trans s2) v6⟩⟩⟩
      ·cases h3
     ·cases h3
end
end
section
def GotR(D:Dm)(O:List Addr)(H0 H:Hp)(d:DV)(fr:Bool)(v:V):Prop:=match fr with
 | false=>Rep D (L2.wo O H) d v
 | true=>∃p xs ds,v=.ref p/\d=.lst ds/\H0 p=none/\H p=some (.lst xs)/\RepL D (L2.wo (p::O) H) ds xs
def GotF(H H':Hp)(xs:List DV)(v:V):Prop:=∃(p:Addr) (L:List (Addr×List Int)),v=.ref p/\xs=L.map (λq=>.lst (q.2.map DV.int))/\H p=none/\H' p=some (.lst (L.map λq=>.ref q.1))/\(∀q∈L,H q.1=none/\H' q.1=some (.lst (q.2.map V.int)))/\(p::L.map (·.1)).Nodup
theorem GotF.since(g:GotF H1 H xs v)(f:∀a,H1 a=none->H0 a=none):GotF H0 H xs v:=by
 obtain⟨p,L,e1,e2,e3,e4,e5,e6⟩:=g;exact⟨p,L,e1,e2,f _ e3,e4,λq hq=>⟨f _ (e5 q hq).1,(e5 q hq).2⟩,e6⟩
theorem GotF.items(g:GotF H0 H xs v)(hz:∀a∈Z,H0 a≠none):∃p vs,v=.ref p/\H0 p=none/\H p=some (.lst vs)/\RepL D (L2.wo (p::Z) H) xs vs:=by
 obtain⟨p,L,e1,e2,e3,e4,e5,e6⟩:=g;refine⟨p,_,e1,e3,e4,?_⟩;rw[e2];refine q7Z λq hq=>?_
 rw[j9 λz=>?_]
 ·exact(e5 q hq).2
 ·rcases e8.mp z with z | z
  ·exact(O1.mp e6).1 (f9.mpr ⟨q,hq,z⟩)
  ·exact hz _ z (e5 q hq).1
theorem GotF.fresh(g:GotF H0 H xs v)(hd:Hid O W H0 H1):Got D O W H0 H (.lst xs) .fresh v:=by
 obtain⟨p,vs,e1,e2,e3,e4⟩:=g.items (D:=D) (Z:=O++W) hd.ot;exact⟨p,vs,xs,e1,rfl,e2,e3,e4⟩
def GotT(D:Dm)(O:List Addr)(H0 H:Hp)(d:DV)(v:V):Prop:=(∃t ts p xs ds es,v=.ref t/\d=.tup (.lst ds::es)/\SqT D.K (L2.wo O H) t (.ref p::ts)/\H0 p=none/\H p=some (.lst xs)/\RepL D (L2.wo (p::O) H) ds xs/\RepL D (L2.wo (p::O) H) es ts)\/∃xs,d=.lst xs/\GotF H0 H xs v
def spF(D:Dm)(n:Nat)(f:List DV->Option Ou):Sp:=λvs H Q E=>∃O ds o,Hdn O H/\ds.length=n/\RepL D (L2.wo O H) ds vs/\f ds=some o /\
 (match o with | .v d fr=>∀v H',Same H H'->GotR D O H H' d fr v->Q v H' | .t d=>∀v H',Same H H'->GotT D O H H' d v->Q v H' | .x c=>∀H' C,D.mg c=some C->Same H H'->E C none H')
def spH(D:Dm)(f:DV->List DV->Option (DV×List DV)):Sp:=λvs H Q _=>∃O p v d ds xs r,vs=[v,.ref p]/\Hdn O H/\p∉O/\H p=some (.lst xs)/\Rep D (L2.wo (O++[p]) H) d v/\RepL D (L2.wo (O++[p]) H) ds xs/\f d ds=some r /\
 ∀v' H' xs',Same (L2.wo [p] H) H'->H' p=some (.lst xs')->Rep D (L2.wo (O++[p]) H') r.1 v'->RepL D (L2.wo (O++[p]) H') r.2 xs'->Q v' H'
section
variable {X:Cx} {E:St->XK} {δ:List Sv} {e:Expr} {es:List Expr} {pos p:Pos} {re:Re} {rs:Option Rs} {k:Nat} {fa:Addr} {fd:FuncData} {ps:List Str} {x:Str}
theorem q6T{F:Nat->List DV->Option Ou}{f:Nat}{e0:Expr}{Pre:St->Hp->Prop}(hn:∀ds o,F f ds=some o->ds.length=ps.length)(C:∀t,PA X (e::es) t->PE X e0 (λσ H Q=>Pre σ H/\z0F (spF X.D ps.length (F f)) [] E t σ H Q))(pre:∀σ H O W,RSt X.D H σ δ O W->Pre σ H)(ha:∀q,rs=some q->PA X (e::es) (dA X.D E δ q))
  (h:(Rs.thn rs λl=>A5 F f l)=some re):PE X e0 (dE X.D E δ re):=by
 cases hrs:rs with
 | none=>rw[hrs]at h;cases h
 | some q=>
  rw[hrs]at h;have A:=ha q hrs;cases q with
  | ex c=>cases h;exact(C _ A).weak λσ H Q ⟨O,W,R,p⟩=>⟨pre _ _ _ _ R,O,W,R,p⟩
  | ok l=>
   have h':A5 F f l=some re:=h;unfold A5 at h';split at h'
   ·cases h'
   ·rename_i c e1;cases h';refine(C _ A).weak λσ H Q ⟨O,W,R,p⟩=>⟨pre _ _ _ _ R,O,W,R,λvs H1 s1 g1=>?_⟩
    have hd:=R.hid.mono s1;show spF X.D ps.length (F f) (vs++[]) H1 Q (E σ);rw[B3];exact⟨O,_,_,hd.hdO,hn _ _ e1,g1.repL hd,e1,λH' C m s=>p H' C m (s1.trans s)⟩
   ·rename_i d e1;cases h';refine(C _ A).weak λσ H Q ⟨O,W,R,p⟩=>⟨pre _ _ _ _ R,O,W,R,λvs H1 s1 g1=>?_⟩
    have hd:=R.hid.mono s1;show spF X.D ps.length (F f) (vs++[]) H1 Q (E σ);rw[B3];by_cases z:(l.all λp=>p.2 == .strong||p.2 == .fresh)=true
    ·rw[b8 z]at p;refine⟨O++W,_,_,hd.hdA,hn _ _ e1,g1.strong hd z,e1,λv H' s g=>p v H' (s1.trans s) ?_⟩;rcases g with⟨t,ts,q,xs,ds,es,f1,f2,f0,f3,f4,f5,f6⟩ | ⟨xs,f1,f2⟩
     ·subst f2;exact⟨t,ts,q,xs,ds,es,f1,rfl,f0,s1.free f3,f4,f5,f6⟩
     ·subst f1;exact(f2.since λa ha=>s1.free ha).fresh hd
    ·rw[d7 z]at p;refine⟨O,_,_,hd.hdO,hn _ _ e1,g1.repL hd,e1,λv H' s g=>p v H' (s1.trans s) ?_⟩;rcases g with⟨t,ts,q,xs,ds,es,f1,f2,f0,f3,f4,f5,f6⟩ | ⟨xs,f1,f2⟩
     ·have hq:q∉O:=λz=>hd.ot q (z8 _ z) (s1.free f3);have up:Same (L2.wo (q::O) H') (L2.wo O H'):=y8 λb hb=>i6 _ hb;rw[f2];exact x6.mpr ⟨t,_,f1,f0,o7.mpr ⟨_,_,rfl,y7.mpr ⟨q,xs,rfl,by rw[j9 hq];exact f4,f5.mono up⟩,f6.mono up⟩⟩
     ·subst f1;have hO:∀a∈O,H1 a≠none:=λa ha q=>hd.ot a (z8 _ ha) (s1.free q)
      obtain⟨q,vs,g1',g2',g3',g4'⟩:=f2.items (D:=X.D) hO;have hq:q∉O:=λz=>hO q z g2'
      exact y7.mpr ⟨q,vs,g1',by rw[j9 hq];exact g3',g4'.mono (y8 λb hb=>i6 _ hb)⟩
   ·rename_i d fr e1;cases h';refine(C _ A).weak λσ H Q ⟨O,W,R,p⟩=>⟨pre _ _ _ _ R,O,W,R,λvs H1 s1 g1=>?_⟩
    have hd:=R.hid.mono s1;show spF X.D ps.length (F f) (vs++[]) H1 Q (E σ);rw[B3];by_cases z:(l.all λp=>p.2 == .strong||p.2 == .fresh)=true
    ·rw[b8 z]at p;refine⟨O++W,_,_,hd.hdA,hn _ _ e1,g1.strong hd z,e1,λv H' s g=>p v H' (s1.trans s) ?_⟩;cases fr with
     | false=>exact g
     | true=>
      obtain⟨q,xs,ds,e1,e2,e3,e4,e5⟩:=g;exact⟨q,xs,ds,e1,e2,s1.free e3,e4,e5⟩
    ·rw[d7 z]at p;refine⟨O,_,_,hd.hdO,hn _ _ e1,g1.repL hd,e1,λv H' s g=>p v H' (s1.trans s) ?_⟩;cases fr with
     | false=>exact g
     | true=>
      obtain⟨q,xs,ds,e1,e2,e3,e4,e5⟩:=g;have hq:q∉O:=λz=>hd.ot q (z8 _ z) (s1.free e3)
      rw[e2];exact y7.mpr ⟨q,xs,e1,by rw[j9 hq];exact e4,e5.mono (y8 λb hb=>i6 _ hb)⟩
theorem z4A(fo:FnOk X.prog X.w X.K X.mg X.base (CXx X.prog X.w X.base) k fa fd ps (spF X.D ps.length (F f)))(hn:∀ds o,F f ds=some o->ds.length=ps.length)(hr:Room k X.A)(hg:Gl X x)(hm:X.mg x=some (.ref fa))(hk:PySem.W.keepIn X.K (.ref fa)=true)
  (hb:D5 X.K fd ps []) (hx:R4 (CXx X.prog X.w X.base) X E) (ha:∀q,rs=some q->PA X (e::es) (dA X.D E δ q)) (hdb:(x==("__debug__" : Str))=false) (hs:m7 e=false) (hss:es.any m7=false)
  (h:(Rs.thn rs λl=>A5 F f l)=some re):PE X (.Call (.Name x p) (e::es) [] pos) (dE X.D E δ re):=by
 have plain:∀(es:List Expr),es.any m7=false->(backTo pos (starEach es X.env)).any (·.1)=false:=by
  intro es
  induction es with
  | nil=>intro _;rfl
  | cons y ys ih=>
   intro q;rw[D8,K8]at q;rw[t6 q.1];show(false||(backTo pos (starEach ys X.env)).any (·.1))=false;rw[ih q.2];rfl
 exact q6T (Pre:=λ_ _=>True) hn (λt hA=>(z4b (p:=p) (pos:=pos) fo hr hg hm hk hb .nil hx hA hdb (t6 hs) (plain es hss)).weak λσ H Q h=>h.2) (λ_ _ _ _ _=>trivial) ha h
end
section
variable {X:Cx} {E:St->XK} {δ:List Sv} {e:Expr} {es:List Expr} {pos p:Pos} {re:Re} {rs:Option Rs}
theorem q2Y:∀(es:List Expr),es.any m7=false->(backTo pos (starEach es env)).any (·.1)=false
 | [],_=>rfl
 | y::ys,q=>by rw[D8,K8]at q;rw[t6 q.1];show(false||(backTo pos (starEach ys env)).any (·.1))=false;rw[q2Y ys q.2];rfl
theorem z3x(fo:FnOk X.prog X.w X.K X.mg X.base CX k fa fd ps sp)(hr:Room k X.A)(hv:PE X (.Name x p) (tVar i))(hk:PySem.W.keepIn X.K (.ref fa)=true)(hb:D5 X.K fd ps ds)(hd:Vals dvs ds)(hx:R4 CX X E)
  (ha:PA X (e::es) t) (he:starEach (e::es) X.env=(false,eval e X.env)::starEach es X.env:=by rfl) (hpl:(backTo pos (starEach es X.env)).any (·.1)=false:=by rfl) :
  PE X (.Call (.Name x p) (e::es) [] pos) (λσ H Q=>σ[i]? = some (some (.ref fa))/\z0F sp dvs E t σ H Q):=by
 intro pins s σ H Q I h;obtain⟨h0,h⟩:=h;refine w2K (thn (hv pins s σ H (λv H1=>v=.ref fa/\H1=H) I ⟨_,h0,rfl,rfl⟩) λu s1 ⟨v,H1,I1,r1,q1,q2⟩=>?_);subst q1 q2;obtain rfl:u=Value.ref fa:=r1;refine PySem.W.callWith_K (h₀:=X.base) I.ok.mod.kin hk (thn (ha pos pins s1 σ H1 _ I1 h) λus s2 ⟨vs,H2,I2,r,q⟩=>⟨I2.kIn,?_⟩) he hpl;exact z0M fo hr hb hd hx I2 r q
theorem z2j(fo:FnOk X.prog X.w X.K X.mg X.base (CXx X.prog X.w X.base) k fa fd ps (spF X.D ps.length (F f)))(hn:∀ds o,F f ds=some o->ds.length=ps.length)(hr:Room k X.A)(hv:PE X (.Name x p) (tVar i))(hm:X.mg y=some (.ref fa))(hk:PySem.W.keepIn X.K (.ref fa)=true)
  (hb:D5 X.K fd ps []) (hx:R4 (CXx X.prog X.w X.base) X E) (hi:δ[i]? = some (.val (.fn y))) (ha:∀q,rs=some q->PA X (e::es) (dA X.D E δ q)) (hs:m7 e=false) (hss:es.any m7=false)
  (h:(Rs.thn rs λl=>A5 F f l)=some re):PE X (.Call (.Name x p) (e::es) [] pos) (dE X.D E δ re):=by
 refine q6T (Pre:=λσ _=>σ[i]? = some (some (.ref fa))) hn (λt hA=>z3x (p:=p) (pos:=pos) fo hr hv hk hb .nil hx hA (t6 hs) (q2Y es hss)) (λσ H O W R=>?_) ha h;obtain⟨v,e1,e2⟩:=R.val i _ hi;obtain⟨g,q1,q2⟩:=z2V.mp e2;have q3:X.mg y=some (.ref g):=q2;rw[hm]at q3;cases q3;rw[e1,q1]
def biR(X:Cx)(k:List (DV×Cl)->Option Re):List V->Hp->VK->Prop:=λvs H Q=>∃l re O W H0,k l=some re/\Hid O W H0 H/\GotL X.D O W H0 H l vs/\∃d c,re=.ok d c/\∀v H',Same H H'->Got X.D O W H0 H' d c v->Q v H'
theorem q8R{k:List (DV×Cl)->Option Re}{x:Str}{id:String}(hc:x0 X (.builtin id) (biR X k))(hk:∀l re,k l=some re->∃d c,re=.ok d c)(hg:Gl X x)(hm:X.mg x=none)(hv:bootBuiltins x=some (.builtin id))(hn:x ≠ "__name__")(hdb:(x==("__debug__" : Str))=false)
  (ha:∀q,rs=some q->PA X (e::es) (dA X.D E δ q)) (hs:m7 e=false) (hss:es.any m7=false) (h:Rs.thn rs k=some re):PE X (.Call (.Name x p) (e::es) [] pos) (dE X.D E δ re):=
 q3N (λ_ hA=>q4N hc hg hm hv hA hn hdb (t6 hs) (q2Y es hss)) ha h λO W H0 H vs Q l σ hl hd g p=>by obtain⟨d,c,rfl⟩:=hk l re hl;exact⟨l,_,O,W,H0,hl,hd,g,d,c,rfl,p⟩
theorem q7T(hc:x0 X (.type T) (biR X k))(hk:∀l re,k l=some re->∃d c,re=.ok d c)(hg:Gl X x)(hm:X.mg x=none)(hv:bootBuiltins x=some (.type T))(hn:x ≠ "__name__")(hdb:(x==("__debug__" : Str))=false)
  (ha:∀q,rs=some q->PA X (e::es) (dA X.D E δ q)) (hs:m7 e=false) (hss:es.any m7=false) (h:Rs.thn rs k=some re):PE X (.Call (.Name x p) (e::es) [] pos) (dE X.D E δ re):=
 q3N (λ_ hA=>q7A hc hg hm hv hA hn hdb (t6 hs) (q2Y es hss)) ha h λO W H0 H vs Q l σ hl hd g p=>by obtain⟨d,c,rfl⟩:=hk l re hl;exact⟨l,_,O,W,H0,hl,hd,g,d,c,rfl,p⟩
theorem z6M:∀l re,lenD l=some re->∃d c,re=.ok d c:=λl re h=>by unfold lenD at h;split at h<;>cases h<;>exact⟨_,_,rfl⟩
theorem z8l:∀l re,minD l=some re->∃d c,re=.ok d c:=λl re h=>by
 unfold minD at h;split at h
 ·cases h;exact⟨_,_,rfl⟩
 ·split at h
  ·cases h;exact⟨_,_,rfl⟩
  ·cases h
 ·split at h
  ·cases h;exact⟨_,_,rfl⟩
  ·cases h
 ·cases h
theorem q9O:∀l re,q4c l=some re->∃d c,re=.ok d c:=λl re h=>by
 unfold q4c at h;split at h
 ·split at h
  ·split at h
   ·cases h;exact⟨_,_,rfl⟩
   ·cases h
  ·cases h
 ·cases h
theorem z6P:∀l re,maxD l=some re->∃d c,re=.ok d c:=λl re h=>by
 unfold maxD at h;split at h
 ·cases h;exact⟨_,_,rfl⟩
 ·split at h
  ·cases h;exact⟨_,_,rfl⟩
  ·cases h
 ·cases h
theorem q3L:∀{ds:List DV} {ns:List Int} {xs:List V},ints? ds=some ns->RepL D H ds xs->xs=ns.map V.int
 | [],ns,xs,h,r=>by cases h;exact x8.mp r
 | .int i::ds,ns,xs,h,r=>by have h':(ints? ds).map (i :: ·)=some ns:=h;obtain⟨ms,e1,e2⟩:=u7.mp h';obtain⟨v,vs,e3,e4,e5⟩:=o7.mp r;have q:=q3L e1 e5;rw[←e2,e3,y0,t5.mp e4,q]
 | .non::ds,ns,xs,h,_=>by cases h
 | .bl _::ds,ns,xs,h,_=>by cases h
 | .str _::ds,ns,xs,h,_=>by cases h
 | .tup _::ds,ns,xs,h,_=>by cases h
 | .lst _::ds,ns,xs,h,_=>by cases h
 | .dct _ _::ds,ns,xs,h,_=>by cases h
 | .exc _::ds,ns,xs,h,_=>by cases h
 | .fn _::ds,ns,xs,h,_=>by cases h
 | .scr _::ds,ns,xs,h,_=>by cases h
theorem q8Q:∀(r:List Int) (m:Int),(minI m r=m\/minI m r∈r)/\minI m r<=m/\∀x∈r,minI m r<=x
 | [],m=>⟨.inl rfl,w4c _,λx h=>by cases h⟩
 | y::r,m=>by
  obtain⟨h0,h1,h2⟩:=q8Q r (if y<m then y else m);unfold minI;by_cases q:y<m
  ·rw[b8 q]at h0 h1 h2 ⊢;refine⟨.inr ?_,by omega,λx hx=>?_⟩
   ·rcases h0 with z | z
    ·rw[z];exact i8 ..
    ·exact i6 _ z
   ·rcases e8.mp hx with z | z
    ·rw[z];exact h1
    ·exact h2 x z
  ·rw[d7 q]at h0 h1 h2 ⊢;refine⟨h0.imp id (i6 _),h1,λx hx=>?_⟩;rcases e8.mp hx with z | z
   ·rw[z];omega
   ·exact h2 x z
theorem q6I:∀(r:List Int) (m:Int),(maxI m r=m\/maxI m r∈r)/\m<=maxI m r/\∀x∈r,x<=maxI m r
 | [],m=>⟨.inl rfl,w4c _,λx h=>by cases h⟩
 | y::r,m=>by
  obtain⟨h0,h1,h2⟩:=q6I r (if m<y then y else m);unfold maxI;by_cases q:m<y
  ·rw[b8 q]at h0 h1 h2 ⊢;refine⟨.inr ?_,by omega,λx hx=>?_⟩
   ·rcases h0 with z | z
    ·rw[z];exact i8 ..
    ·exact i6 _ z
   ·rcases e8.mp hx with z | z
    ·rw[z];exact h1
    ·exact h2 x z
  ·rw[d7 q]at h0 h1 h2 ⊢;refine⟨h0.imp id (i6 _),h1,λx hx=>?_⟩;rcases e8.mp hx with z | z
   ·rw[z];omega
   ·exact h2 x z
theorem q8U(h1:M∈n::r)(h2:∀x∈n::r,M<=x):M=minI n r:=by
 obtain⟨a,b,c⟩:=q8Q r n;have d:minI n r∈n::r:=a.elim (λz=>by rw[z];exact i8 ..) (i6 _);have e:=h2 _ d;have f:minI n r<=M:=by
  rcases e8.mp h1 with z | z
  ·rw[z];exact b
  ·exact c M z
 omega
theorem z3m(h1:M∈n::r)(h2:∀x∈n::r,x<=M):M=maxI n r:=by
 obtain⟨a,b,c⟩:=q6I r n;have d:maxI n r∈n::r:=a.elim (λz=>by rw[z];exact i8 ..) (i6 _);have e:=h2 _ d;have f:M<=maxI n r:=by
  rcases e8.mp h1 with z | z
  ·rw[z];exact b
  ·exact c M z
 omega
theorem q5b(x:Int):∀l:List Int,(insI x l).Perm (x::l)
 | []=>.rfl
 | y::r=>by
  unfold insI;split
  ·exact .rfl
  ·exact(List.Perm.cons y (q5b x r)).trans (List.Perm.swap x y r)
theorem q5F:∀l:List Int,(C8 l).Perm l
 | []=>.rfl
 | x::r=>(q5b x (C8 r)).trans (List.Perm.cons x (q5F r))
theorem z2Y(x:Int):∀{l:List Int},l.Pairwise (· <= ·)->(insI x l).Pairwise (· <= ·)
 | [],_=>w3X _ _
 | y::r,h=>by
  obtain⟨h1,h2⟩:=F5.mp h;unfold insI;split
  ·rename_i q;refine F5.mpr ⟨λz hz=>?_,h⟩;rcases e8.mp hz with e | e
   ·omega
   ·have:=h1 z e;omega
  ·rename_i q;refine F5.mpr ⟨λz hz=>?_,z2Y x h2⟩;rcases e8.mp ((q5b x r).mem_iff.mp hz)with e | e
   ·omega
   ·exact h1 z e
theorem q8V:∀l:List Int,(C8 l).Pairwise (· <= ·)
 | []=>.nil
 | x::r=>z2Y x (q8V r)
theorem z4M:∀{a b:List Int},a.Perm b->a.Pairwise (· <= ·)->b.Pairwise (· <= ·)->a=b
 | [],b,p,_,_=>(List.Perm.nil_eq p)
 | x::a,b,p,ha,hb=>by
  cases b with
  | nil=>exact absurd p.length_eq (by simp)
  | cons y b=>
   obtain⟨a1,a2⟩:=F5.mp ha;obtain⟨b1,b2⟩:=F5.mp hb;have e:x=y:=by
    have q1:=p.mem_iff.mp (i8 (a:=x) (l:=a));have q2:=p.mem_iff.mpr (i8 (a:=y) (l:=b));rcases e8.mp q1 with z | z
    ·exact z
    ·rcases e8.mp q2 with z2 | z2
     ·exact z2.symm
     ·have:=a1 y z2;have:=b1 x z;omega
   subst e;rw[z4M (List.Perm.cons_inv p) a2 b2]
theorem z6X:∀l re,intD l=some re->∃d c,re=.ok d c:=λl re h=>by unfold intD at h;split at h<;>cases h<;>exact⟨_,_,rfl⟩
theorem z3T:∀l re,V8 l=some re->∃d c,re=.ok d c:=λl re h=>by unfold V8 at h;split at h<;>cases h<;>exact⟨_,_,rfl⟩
theorem z0X:∀l re,q5Z l=some re->∃d c,re=.ok d c:=λl re h=>by unfold q5Z at h;split at h<;>cases h<;>exact⟨_,_,rfl⟩
theorem z8M:x0 X (.builtin "len") (biR X lenD):=by
 intro pins s σ H xs us Q I r h;obtain⟨l,re,O,W,H0,hb,hd,g,d,c,rfl,p⟩:=h;unfold lenD at hb;split at hb
 ·cases hb;obtain⟨v,rfl,gv⟩:=g.one;obtain⟨a,ys,e1,e2,e3⟩:=gv.lst hd;exact q2L pins s σ H _ us Q I r ⟨a,ys,by rw[e1],.inl (SqL.of e2),by rw[e3.length];exact p _ H (Same.refl H) v6⟩
 ·cases hb;obtain⟨v,rfl,gv⟩:=g.one;obtain⟨a,ys,e1,e2,e3⟩:=gv.tup hd;exact q2L pins s σ H _ us Q I r ⟨a,ys,by rw[e1],.inr e2,by rw[e3.length];exact p _ H (Same.refl H) v6⟩
 ·cases hb;obtain⟨v,rfl,gv⟩:=g.one;obtain⟨a,e1,e2⟩:=M8.mp (gv.all hd);exact q2L pins s σ H _ us Q I r ⟨a,_,by rw[e1],.inl e2.sq,by rw[d5];exact p _ H (Same.refl H) v6⟩
 ·cases hb;obtain⟨v,rfl,gv⟩:=g.one;obtain⟨e1,e2⟩:=gv.str hd;exact q6P pins s σ H _ us Q I r ⟨_,by rw[e1],e2,p _ H (Same.refl H) v6⟩
 ·cases hb
theorem q6Y:∀{ds:List DV} {ps:List (Int×Int×Int)} {xs:List V},trips? ds=some ps->RepL D H ds xs->TrsV D.K H xs ps
 | [],ps,xs,h,r=>by cases h;rw[x8.mp r];exact trivial
 | d0::ds,ps,xs,h,r=>by
  unfold trips? at h;split at h
  ·rename_i q;cases q
  ·rename_i a b c r' q;cases q;obtain⟨ms,e1,e2⟩:=u7.mp h;obtain⟨v,vs,e3,e4,e5⟩:=o7.mp r;have q:=q6Y e1 e5;obtain⟨c',ys,f1,f2,f3⟩:=x6.mp e4;obtain⟨v1,l1,g1,g2,g3⟩:=o7.mp f3;obtain⟨v2,l2,g4,g5,g6⟩:=o7.mp g3;obtain⟨v3,l3,g7,g8,g9⟩:=o7.mp g6;rw[←e2,e3];refine⟨⟨c',f1,?_⟩,q⟩;rw[g1,g4,g7,x8.mp g9,t5.mp g2,t5.mp g5,t5.mp g8]at f2;exact f2
  ·cases h
theorem TrsV.le{K:PySem.W.Frag}{H H':Hp}(e:Same H H'):∀{vs:List V} {ps:List (Int×Int×Int)},TrsV K H vs ps->TrsV K H' vs ps
 | [],[],_=>trivial
 | _::_,_::_,x=>by obtain⟨⟨a,h1,h2⟩,h3⟩:=x;exact⟨⟨a,h1,e.tseq h2⟩,h3.le e⟩
 | [],_::_,x=>x.elim
 | _::_,[],x=>x.elim
theorem z9L(hc:X.calm=true)(hu:X.A.units+1<cLine):x0 X (.builtin "min") (biR X minD):=by
 intro pins s σ H xs us Q I r h;obtain⟨l,re,O,W,H0,hb,hd,g,d,c,rfl,p⟩:=h;unfold minD at hb;split at hb
 ·cases hb;obtain⟨v,v',rfl,gv,gv'⟩:=g.two;exact z1q hc pins s σ H _ us Q I r ⟨_,_,by rw[gv.int hd,gv'.int hd],p _ H (Same.refl H) v6⟩
 ·split at hb
  ·rename_i n r' hq;cases hb;obtain⟨v,rfl,gv⟩:=g.one;obtain⟨a,ys,e1,e2,e3⟩:=gv.lst hd;have e4:=q3L hq e3;subst e4;exact z1A hc pins s σ H _ us Q I r ⟨a,n::r',by rw[e1],SqL.of e2,by simp,λM m1 m2=>by rw[q8U m1 m2];exact p _ H (Same.refl H) v6⟩
  ·cases hb
 ·split at hb
  ·rename_i n r' hq;cases hb;obtain⟨v,rfl,gv⟩:=g.one;obtain⟨a,ys,e1,e2,e3⟩:=gv.tup hd;have e4:=q3L hq e3;subst e4;exact z2P hc pins s σ H _ us Q I r ⟨a,n::r',by rw[e1],e2,by simp,λM m1 m2=>by rw[q8U m1 m2];exact p _ H (Same.refl H) v6⟩
  ·cases hb
 ·cases hb
theorem z9U(hc:X.calm=true):x0 X (.builtin "max") (biR X maxD):=by
 intro pins s σ H xs us Q I r h;obtain⟨l,re,O,W,H0,hb,hd,g,d,c,rfl,p⟩:=h;unfold maxD at hb;split at hb
 ·cases hb;obtain⟨v,v',rfl,gv,gv'⟩:=g.two;exact z2v hc pins s σ H _ us Q I r ⟨_,_,by rw[gv.int hd,gv'.int hd],p _ H (Same.refl H) v6⟩
 ·split at hb
  ·rename_i n r' hq;cases hb;obtain⟨v,rfl,gv⟩:=g.one;obtain⟨a,ys,e1,e2,e3⟩:=gv.lst hd;have e4:=q3L hq e3;subst e4;exact z2u hc pins s σ H _ us Q I r ⟨a,n::r',by rw[e1],SqL.of e2,by simp,λM m1 m2=>by rw[z3m m1 m2];exact p _ H (Same.refl H) v6⟩
  ·cases hb
 ·cases hb
theorem q4w:bootBuiltins "sorted" = some (.builtin "sorted"):=by decide +kernel
theorem z1c:bootBuiltins "set" = some (.type "set"):=by decide +kernel
theorem z3E(hc:X.calm=true)(hg:Gl X "sorted")(hm:X.mg "sorted" = none)(hg':Gl X "set")(hm':X.mg "set" = none)
  (ha:∀q,rs=some q->PA X [e] (dA X.D E δ q)) (hs:m7 e=false) (h:Rs.thn rs z2p=some re):PE X (.Call (.Name "sorted" p) [.Call (.Name "set" p') [e] [] pos'] [] pos) (dE X.D E δ re):=
 q3N (r:=λvs H Q=>(∃(a:Addr) (ns:List Int),vs=[.ref a]/\SqL X.K H a (ns.map V.int)/\ns.length<4000/\∀p,H p=none->∃(p1:Addr) (ks:List Int),[V.ref p]=[.ref p1]/\upd H p (setO X.prog X.w p (ns.foldl dk [])) p1=some (setO X.prog X.w p1 ks)/\ks.length<64 /\
   ∀(q:Addr) (ms:List Int),upd H p (setO X.prog X.w p (ns.foldl dk [])) q=none->ms.Perm ks->ms.Pairwise (· <= ·)->Q (.ref q) (upd (upd H p (setO X.prog X.w p (ns.foldl dk []))) q (.lst (ms.map V.int)))))
  (λt hA=>by
   have q1:=q7A (p:=p') (pos:=pos') (z2h hc) hg' hm' z1c hA (by decide) (by decide) (t6 hs) rfl;have q2:=q4N (p:=p) (pos:=pos) (q9K hc) hg hm q4w (L3 q1 V6) (by decide) (by decide) rfl rfl;exact q2.weak λσ H Q h=>h) ha h λO W H0 H vs Q l σ hl hd g pp=>by
  unfold z2p at hl;split at hl
  ·split at hl
   ·rename_i ds c ns hq;split at hl
    ·rename_i hb;cases hl;obtain⟨v,rfl,gv⟩:=g.one;obtain⟨a,ys,e1,e2,e3⟩:=gv.lst hd;have e4:=q3L hq e3;subst e4;refine⟨a,ns,by rw[e1],SqL.of e2,hb.1,λp1 hp1=>⟨p1,_,rfl,y6,hb.2,λq ms hq1 pm pw=>?_⟩⟩;have e5:ms=C8 (ns.foldl dk []):=z4M (pm.trans (q5F _).symm) pw (q8V _);subst e5;have s1:Same H (upd H p1 (setO X.prog X.w p1 (ns.foldl dk []))):=w5 hp1;exact pp _ _ (s1.trans (w5 hq1)) (N0 (hd.mono s1) hq1 (X0 _))
    ·cases hl
   ·cases hl
  ·cases hl
theorem y0j:x0 X (.type "int") (biR X intD):=by
 intro pins s σ H xs us Q I r h;obtain⟨l,re,O,W,H0,hb,hd,g,d,c,rfl,p⟩:=h;unfold intD at hb;split at hb
 ·cases hb;obtain⟨v,rfl,gv⟩:=g.one;exact q7C pins s σ H _ us Q I r (.inl ⟨_,by rw[gv.int hd],p _ H (Same.refl H) v6⟩)
 ·cases hb;obtain⟨v,rfl,gv⟩:=g.one;exact q7C pins s σ H _ us Q I r (.inr ⟨_,by rw[gv.bl hd],p _ H (Same.refl H) v6⟩)
 ·cases hb
theorem z5L:x0 X (.type "list") (biR X V8):=by
 intro pins s σ H xs us Q I r h;obtain⟨l,re,O,W,H0,hb,hd,g,d,c,rfl,p⟩:=h;unfold V8 at hb;split at hb
 ·cases hb;obtain⟨v,rfl,gv⟩:=g.one;obtain⟨a,e1,e2⟩:=M8.mp (gv.all hd);exact q2U pins s σ H _ us Q I r ⟨a,_,by rw[e1],.inl e2.sq,λq hq=>p _ _ (w5 hq) (N0 hd hq (X0 _))⟩
 ·cases hb;obtain⟨v,rfl,gv⟩:=g.one;obtain⟨a,ys,e1,e2,e3⟩:=gv.lstC hd;exact q2U pins s σ H _ us Q I r ⟨a,ys,by rw[e1],.inl (SqL.of e2),λq hq=>p _ _ (w5 hq) (q3W hd hq e3)⟩
 ·cases hb;obtain⟨v,rfl,gv⟩:=g.one;obtain⟨a,ys,e1,e2,e3⟩:=gv.tupC hd;exact q2U pins s σ H _ us Q I r ⟨a,ys,by rw[e1],.inr e2,λq hq=>p _ _ (w5 hq) (q3W hd hq e3)⟩
 ·cases hb
theorem z1m:x0 X (.builtin "sorted") (biR X q4c):=by
 intro pins s σ H xs us Q I r h;obtain⟨l,re,O,W,H0,hb,hd,g,d,c,rfl,p⟩:=h;unfold q4c at hb;split at hb
 ·split at hb
  ·rename_i ps hq;split at hb
   ·rename_i m;cases hb;obtain⟨v,rfl,gv⟩:=g.one;obtain⟨a,ys,e1,e2,e3⟩:=gv.lstC hd;exact q9R pins s σ H _ us Q I r ⟨a,ys,ps,by rw[e1],SqL.of e2,(q6Y hq e3).le r9,m.1,m.2,λq hq=>p _ _ (w5 hq) (q3W hd hq e3)⟩
   ·cases hb
  ·cases hb
 ·cases hb
theorem z3Q:x0 X (.type "tuple") (biR X q5Z):=by
 intro pins s σ H xs us Q I r h;obtain⟨l,re,O,W,H0,hb,hd,g,d,c,rfl,p⟩:=h;unfold q5Z at hb;split at hb
 ·cases hb;obtain⟨v,rfl,gv⟩:=g.one;obtain⟨a,ys,e1,e2,e3⟩:=gv.lstC hd;exact q3I pins s σ H _ us Q I r ⟨a,ys,by rw[e1],.inl ⟨SqL.of e2,λq hq=>p _ _ (w5 hq) (q8K hd hq e3)⟩⟩
 ·cases hb;obtain⟨v,rfl,gv⟩:=g.one;obtain⟨a,ys,e1,e2,e3⟩:=gv.tupC hd;exact q3I pins s σ H _ us Q I r ⟨a,ys,by rw[e1],.inr ⟨e2,p _ _ (Same.refl H) (by rw[←e1];exact gv)⟩⟩
 ·cases hb
end
def tyS:DV->Option String
 | .non=>some "NoneType" | .bl _=>some "bool" | .int _=>some "int" | .str _=>some "str" | .tup _=>some "tuple" | .lst _=>some "list" | .dct _ _=>some "dict"
 | _=>none
def y0d(T t:String):Option Bool:=if(Value.type T==Value.type t)=true then some true else if PySem.W.kitMeta t=true then(fastBuiltinMro T).map (·.contains (.type t))else none
theorem z2O:(["NoneType","bool","int","str","tuple","list","dict"]:List String).all (λT=>(["int","bool","str","list","tuple","dict"]:List String).all λt=>y0d T t==some (T==t||(T == "bool" && t == "int")))=true:=by decide +kernel
theorem T7{K:PySem.W.Frag}(T t:String)(h1:T∈["NoneType","bool","int","str","tuple","list","dict"])(h2:t∈["int","bool","str","list","tuple","dict"]) :
  PySem.W.kitOne K (.type T) (.type t)=some (T==t||(T == "bool" && t == "int")):=by
 have q:=J8.mp (J8.mp z2O T h1) t h2;exact(show y0d T t=_ from by simpa using q)
section
variable {X:Cx} {E:St->XK} {δ:List Sv} {e e':Expr} {pos p p':Pos} {re:Re} {ra:Option Re}
theorem y0q{σ:St}(I:Inv X pins σ H s)(r:Rep X.D H d v)(rv:RelV v u)(hT:tyS d=some T)(ht:t∈["int","bool","str","list","tuple","dict"])
  (h:∀tk,Q (.bool (T==t||(T == "bool" && t == "int"))) {s with toks:=tk}):wpAny (model X.prog X.w) X.A (call (.builtin "isinstance") [u,.type t]) Q EE s:=by
 cases d with
 | non=>cases hT;rw[q4f.mp r]at rv;cases rv;exact Q3 PySem.W.kitx_none I.kIn True.intro (T7 _ _ (by simp) ht) (λz=>nomatch z) h
 | bl b=>cases hT;rw[W8.mp r]at rv;cases rv;exact Q3 PySem.W.kitx_bool I.kIn True.intro (T7 _ _ (by simp) ht) (λz=>nomatch z) h
 | int b=>cases hT;rw[t5.mp r]at rv;obtain⟨tk,rfl⟩:=rv;exact Q3 PySem.W.kitx_int I.kIn True.intro (T7 _ _ (by simp) ht) (λz=>nomatch z) h
 | str b=>cases hT;rw[(T5.mp r).1]at rv;obtain⟨tk,rfl⟩:=rv;exact Q3 PySem.W.kitx_str I.kIn True.intro (T7 _ _ (by simp) ht) (λz=>nomatch z) h
 | tup ds=>
  cases hT;obtain⟨a,xs,e1,e2,e3⟩:=x6.mp r;rw[e1]at rv;cases rv;obtain⟨its,_,⟨o,h1,h2,_⟩,_⟩:=I.tuple e2;exact Q3 PySem.W.kitx_tuple I.kIn ⟨o,h1,h2⟩ (T7 _ _ (by simp) ht) (λz=>nomatch z) h
 | lst ds=>
  cases hT;obtain⟨a,xs,e1,e2,e3⟩:=y7.mp r;rw[e1]at rv;cases rv;obtain⟨_,its,n,_,_,h1⟩:=I.lstM e2;exact Q3 PySem.W.kitx_list I.kIn ⟨_,h1,rfl⟩ (T7 _ _ (by simp) ht) (λz=>nomatch z) h
 | dct ks vs=>
  cases hT;rcases J0.mp r with⟨a,ob,kvs,e1,e2,_⟩ | ⟨a,ob,kvs,e1,e2,_⟩
  ·rw[e1]at rv;cases rv;obtain⟨_,_,_,_,_,⟨o,_,_,h1,h2,_⟩⟩:=(show n4 X.prog X.w H s.heap a (.frz ob (.dK kvs))from I.hok a _ e2);exact Q3 PySem.W.kitx_dict I.kIn ⟨o,h1,h2.1⟩ (T7 _ _ (by simp) ht) (λz=>nomatch z) h
  ·rw[e1]at rv;cases rv;obtain⟨_,_,_,_,_,o,_,_,h1,h2,_⟩:=(show n4 X.prog X.w H s.heap a (.frz ob (.dT kvs))from I.hok a _ e2);exact Q3 PySem.W.kitx_dict I.kIn ⟨o,h1,h2.1⟩ (T7 _ _ (by simp) ht) (λz=>nomatch z) h
 | exc _=>cases hT
 | fn _=>cases hT
 | scr _=>cases hT
def rIsi(X:Cx):List V->Hp->VK->Prop:=λxs H Q=>∃d T t x,xs=[x,.ty t]/\Rep X.D H d x/\tyS d=some T/\t∈["int","bool","str","list","tuple","dict"]/\Q (.bl (T==t||(T == "bool" && t == "int"))) H
theorem z4y:x0 X (.builtin "isinstance") (rIsi X):=by
 intro pins s σ H xs us Q I r h;obtain⟨d,T,t,x,rfl,r1,hT,ht,q⟩:=h;obtain⟨u,w',rfl,ru,rw'⟩:=z0w r;cases rw';exact y0q I r1 ru hT ht λtk=>⟨.bl _,H,I.tok tk,rfl,q⟩
def q5H:Str->Option String:=λx=>(["int","bool","str","list","tuple","dict"]:List String).find? λt=>Str.ofString t==x
theorem z2Q(h:q5H x=some t):bootBuiltins x=some (.type t)/\t∈["int","bool","str","list","tuple","dict"]/\Str.ofString t=x:=by
 unfold q5H at h;have h1:=List.find?_some h;have h2:=List.mem_of_find?_eq_some h;have h3:Str.ofString t=x:=by simpa using h1
 refine⟨?_,h2,h3⟩;subst h3;simp only[e8,w2y,w4q]at h2;rcases h2 with rfl | rfl | rfl | rfl | rfl | rfl
 ·exact boot_int
 ·exact boot_bool
 ·exact boot_str
 ·exact boot_list
 ·exact boot_tuple
 ·exact boot_dict
def z1y:String->List Str
 | "NoneType"=>["NoneType"] | "bool"=>["bool","int"] | "int"=>["int"] | "str"=>["str"] | "tuple"=>["tuple"] | "list"=>["list"] | "dict"=>["dict"]
 | _=>[]
theorem q7U:(["NoneType","bool","int","str","tuple","list","dict"]:List String).all (λT=>(["int","bool","str","list","tuple","dict"]:List String).all λt=>(z1y T).contains (Str.ofString t)==(T==t||(T == "bool" && t == "int")))=true:=by decide +kernel
theorem y0C(h:q5H x=some t)(hT:tyS d=some T):(tyOf d).contains x=(T==t||(T == "bool" && t == "int")):=by
 obtain⟨_,h2,h3⟩:=z2Q h;subst h3;have key:∀T∈(["NoneType","bool","int","str","tuple","list","dict"]:List String),(z1y T).contains (Str.ofString t)=(T==t||(T == "bool" && t == "int")):=λT hT=>by have q:=J8.mp (J8.mp q7U T hT) t h2;simpa using q
 cases d<;>cases hT
 ·exact key "NoneType" (by simp)
 ·exact key "bool" (by simp)
 ·exact key "int" (by simp)
 ·exact key "str" (by simp)
 ·exact key "tuple" (by simp)
 ·exact key "list" (by simp)
 ·exact key "dict" (by simp)
theorem z8e(ht:q5H x=some t)(hg:Gl X "isinstance")(hm:X.mg "isinstance" = none)(hgx:Gl X x)(hmx:X.mg x=none)(hnx:x ≠ "__name__")(hdx:(x==("__debug__" : Str))=false)
  (ha:∀q,ra=some q->PE X e (dE X.D E δ q)) (hs:m7 e=false) (h:(Re.thn ra λy _=>(isiD G y [x]).map λk=>.ok (.bl k) .strong)=some re):PE X (.Call (.Name "isinstance" p) [e,.Name x p'] [] pos) (dE X.D E δ re):=by
 obtain⟨b1,b2,b3⟩:=z2Q ht;have T:PE X (.Name x p') (tC (.ty t)):=z2k hgx hmx b1 rfl hnx hdx;have C:=λta (hA:PE X e ta)=>q4N (p:=p) (pos:=pos) z4y hg hm boot_isinstance (L3 hA (L3 T V6) (t6 hs)) (by decide) (by decide) (t6 hs)
 cases hra:ra with
 | none=>rw[hra]at h;cases h
 | some q=>
  rw[hra]at h;have A:=ha q hra;cases q with
  | ex c=>cases h;exact(C _ A).weak λσ H Q ⟨O,W,R,p⟩=>⟨O,W,R,p⟩
  | ok d cl=>
   obtain⟨k,e1,e2⟩:=u7.mp (show((isiD G d [x]).map λk=>Re.ok (.bl k) .strong)=some re from h);cases e2;have key:∃T,tyS d=some T/\k=(tyOf d).contains x:=by
    unfold isiD at e1;have px:R6.contains x=true:=by
     rw[←b3];simp only[e8,w2y,w4q]at b2;rcases b2 with rfl | rfl | rfl | rfl | rfl | rfl<;>decide +kernel
    cases d<;>first
     | (simp only[px,if_true]at e1;cases e1;exact⟨_,rfl,rfl⟩)
     | cases e1
   obtain⟨T,hT,hk⟩:=key;exact(C _ A).weak λσ H Q ⟨O,W,R,p⟩=>⟨O,W,R,λv H1 s1 g1=>⟨d,T,t,v,rfl,g1.all (R.hid.mono s1),hT,b2,by rw[←y0C ht hT,←hk];exact p _ H1 s1 P1⟩⟩
end
end
section
section
variable {X:Cx} {E:St->XK} {δ:List Sv} {v:Expr} {te:TE} {pos kpos:Pos} {i:Int} {j:Nat}
theorem Inv.notSys{σ:St}(I:Inv X pins σ H s){a:Addr}(h:s.heap.objs.size<=a):(a==sysModules)=false:=by
 have h1:mainGlobals<X.base.objs.size:=I.mod.glob.lt;have h2:=i7 I.ok.bsz I.sz;have:(1:Nat)<a:=u4 (O0 (by decide:(1:Nat)<=mainGlobals) h1) (i7 h2 h);exact t7.mpr (Q6 this)
theorem X3(hp:H p=some (.dK []))(h:L2.wo O H b=some u)(hu:u ≠ .dK []):L2.wo O (upd H p o) b=some u:=by
 obtain⟨hb,e⟩:=C4 h;rw[j9 hb,j6 (λz=>by rw[z,hp]at e;cases e;exact hu rfl)];exact e
mutual
theorem z7T(hp:H p=some (.dK [])):∀{d:DV} {v:V},Rep D (L2.wo O H) d v->Rep D (L2.wo O (upd H p o)) d v
 | .non,_,h=>by unfold Rep at h ⊢;exact h
 | .bl _,_,h=>by unfold Rep at h ⊢;exact h
 | .int _,_,h=>by unfold Rep at h ⊢;exact h
 | .str _,_,h=>by unfold Rep at h ⊢;exact h
 | .tup ds,_,h=>by
  unfold Rep at h ⊢;obtain⟨a,xs,e1,e2,e3⟩:=h;refine⟨a,xs,e1,?_,q3O hp e3⟩;rcases e2 with(h | ⟨o,h⟩) | h
  ·exact .inl (.inl (X3 hp h (by intro z;cases z)))
  ·exact .inl (.inr ⟨o,X3 hp h (by intro z;cases z)⟩)
  ·exact .inr h
 | .lst ds,_,h=>by unfold Rep at h ⊢;obtain⟨a,xs,e1,e2,e3⟩:=h;exact⟨a,xs,e1,X3 hp e2 (by intro z;cases z),q3O hp e3⟩
 | .dct _ _,_,h=>by
  unfold Rep at h ⊢;rcases h with⟨a,ob,kvs,e1,e2,e3,e4⟩ | ⟨a,ob,kvs,e1,e2,e3,e4⟩
  ·exact .inl ⟨a,ob,kvs,e1,X3 hp e2 (by intro z;cases z),e3,q3O hp e4⟩
  ·exact .inr ⟨a,ob,kvs,e1,X3 hp e2 (by intro z;cases z),e3,q3O hp e4⟩
 | .exc C,_,h=>by unfold Rep at h ⊢;obtain⟨a,C,e1,e2,e3⟩:=h;exact⟨a,C,e1,e2,X3 hp e3 (by intro z;cases z)⟩
 | .fn _,_,h=>by unfold Rep at h ⊢;exact h
 | .scr _,_,h=>by
  unfold Rep at h ⊢;obtain⟨a,e1,e2⟩:=h;refine⟨a,e1,?_⟩;rcases e2 with⟨o,h⟩ | h
  ·exact .inl ⟨o,X3 hp h (by intro z;cases z)⟩
  ·exact .inr h
theorem q3O(hp:H p=some (.dK [])):∀{ds:List DV} {xs:List V},RepL D (L2.wo O H) ds xs->RepL D (L2.wo O (upd H p o)) ds xs
 | [],_,h=>by unfold RepL at h ⊢;exact h
 | d::ds,_,h=>by unfold RepL at h ⊢;obtain⟨v,vs,e1,e2,e3⟩:=h;exact⟨v,vs,e1,z7T hp e2,q3O hp e3⟩
end
theorem z5V:PE X (.Dict [] [] pos) (λσ H Q=>∀a o,H a=none->Q (.ref a) (upd H a (.frz o (.dK [])))):=λpins s σ H Q I h=>
 wpAny_Dict_empty ⟨.ref s.heap.objs.size,_,I.laid (a:=s.heap.objs.size) (o:=.frz {cls:=.type "dict",data:=.dict #[]} (.dK [])) (t':=s.toks) (λ_ _ q=>j2 _ q) (e9 _) ⟨p8 _ rfl,A7 _,I.notSys (e9 _),[],.nil,Heap.DictOf.new _⟩,rfl,h _ _ (I.hok.fresh (e9 _))⟩
theorem z6i:PE X (.Dict [] [] pos) (dE X.D E δ (.ok (.dct [] []) .strong)):=
 z5V.weak λσ H Q ⟨O,W,R,p⟩ a ob ha=>p _ _ (w5 ha) (J0.mpr (.inl ⟨a,ob,_,rfl,by rw[j9 λz=>R.hid.ot a z ha];exact y6,rfl,x8.mpr rfl⟩):Rep X.D (L2.wo (O++W) _) (.dct [] []) _)
end
end
section
structure Wk(D:Dm)(J:It)(ds:List DV)(Oc Oi:List Addr)(H1:Hp):Prop where
 go:∀i H,Same (L2.wo Oc H1) (L2.wo Oc H)->i<ds.length->J.go i H
 same:∀i H x H',J.yld i H x H'->Same H H'
 yld:∀i H x H' d O2,Same (L2.wo Oc H1) (L2.wo Oc H)->Same (L2.wo Oi H1) (L2.wo Oi H)->J.yld i H x H'->ds[i]? = some d->(∀a∈O2,H a≠none/\(a∈Oi\/H1 a=none))->Rep D (L2.wo O2 H') d x
 stop:∀H,Same (L2.wo Oc H1) (L2.wo Oc H)->J.stop ds.length H
def hidW(O W:List Addr):Cl->List Addr
 | .top=>O
 | .weak=>O
 | _=>O++W
def y1G(D:Dm)(E:St->XK)(σ:St)(O W:List Addr)(H:Hp)(R:It->Hp->Prop):Ri->Prop
 | .ok ds c=>∀J H',Same H H'->Wk D J ds (hidW O W c) (M9 O W c) H'->R J H'
 | .ex c=>∀H' C,D.mg c=some C->Same H H'->E σ C none H'
def dI(D:Dm)(E:St->XK)(δ:List Sv)(r:Ri):TI:=λσ H R=>∃O W,RSt D H σ δ O W/\y1G D E σ O W H R r
theorem PI.weak(h:PI X tg iter t)(k:∀σ H R,t' σ H R->t σ H R):PI X tg iter t':=λpins s σ H R I q=>h pins s σ H R I (k σ H R q)
theorem z5D(s:Same (L2.wo O H1) (L2.wo O H))(h:∀a∈O2,H a≠none/\(a∈O\/H1 a=none)):Same (L2.wo O H1) (L2.wo O2 H):=λb o e=>by
 have q:=s b o e;obtain⟨hb,e⟩:=C4 e;obtain⟨_,q⟩:=C4 q;rw[j9 λz=>?_]
 ·exact q
 ·rcases(h b z).2 with w | w
  ·exact hb w
  ·rw[w]at e;cases e
theorem Wk.list(h:SqL D.K (L2.wo Oc H1) a xs)(r:RepL D (L2.wo Oi H1) ds xs):Wk D (Itl D.K a) ds Oc Oi H1 where
 go:=λi H s hi=>⟨xs,xs[i]'(by rw[r.length];exact hi),r9.seq (s.seq h),p7 _⟩
 same:=λi H x H' y=>by rw[y.1];exact Same.refl _
 yld:=λi H x H' d O2 s s' y e ho=>by obtain⟨e1,y⟩:=y;subst e1;obtain⟨v,q1,q2⟩:=r.get e;have:=y xs (r9.seq (s.seq h));rw[q1]at this;cases this;exact q2.mono (z5D s' ho)
 stop:=λH s=>⟨xs,r9.seq (s.seq h),by rw[r.length];exact e9 _⟩
theorem Wk.tup(h:SqT D.K (L2.wo Oc H1) a xs)(r:RepL D (L2.wo Oi H1) ds xs):Wk D (Itt D.K a) ds Oc Oi H1 where
 go:=λi H s hi=>⟨xs,xs[i]'(by rw[r.length];exact hi),r9.tseq (s.tseq h),p7 _⟩
 same:=λi H x H' y=>by rw[y.1];exact Same.refl _
 yld:=λi H x H' d O2 s s' y e ho=>by obtain⟨e1,y⟩:=y;subst e1;obtain⟨v,q1,q2⟩:=r.get e;have:=y xs (r9.tseq (s.tseq h));rw[q1]at this;cases this;exact q2.mono (z5D s' ho)
 stop:=λH s=>⟨xs,r9.tseq (s.tseq h),by rw[r.length];exact e9 _⟩
theorem q3y(lo:Int)(n:Nat):(upTo lo n).length=n:=by unfold upTo;rw[d5,w6]
theorem z4a{lo:Int}{n i:Nat}{d:DV}(h:(upTo lo n)[i]? = some d):i<n/\d=.int (lo+i):=by
 have hl:i<n:=by have:=(u5.mp h).1;rw[q3y]at this;exact this
 unfold upTo at h;rw[n9,w2c hl]at h;cases h;exact⟨hl,rfl⟩
theorem Wk.range(lo:Int)(n:Nat):Wk D (Itr lo n) (upTo lo n) Oc Oi H1 where
 go:=λi H s hi=>by rw[q3y]at hi;exact hi
 same:=λi H x H' y=>by rw[y.1];exact Same.refl _
 yld:=λi H x H' d O2 s s' y e ho=>by obtain⟨e1,y⟩:=y;subst e1;obtain⟨_,e2⟩:=z4a e;subst e2;exact t5.mpr y
 stop:=λH s=>by rw[q3y];exact e9 _
theorem q2B(hi:Int)(n:Nat):(q5Y hi n).length=n:=by unfold q5Y;rw[d5,w6]
theorem z0l(h:(q5Y hi n)[i]? = some d):i<n/\d=.int (hi - i):=by
 have hl:i<n:=by have:=(u5.mp h).1;rw[q2B]at this;exact this
 unfold q5Y at h;rw[n9,w2c hl]at h;cases h;exact⟨hl,rfl⟩
theorem Wk.down(hi:Int)(n:Nat):Wk D (Itd hi n) (q5Y hi n) Oc Oi H1 where
 go:=λi H s h=>by rw[q2B]at h;exact h
 same:=λi H x H' y=>by rw[y.1];exact Same.refl _
 yld:=λi H x H' d O2 s s' y e ho=>by obtain⟨e1,y⟩:=y;subst e1;obtain⟨_,e2⟩:=z0l e;subst e2;exact t5.mpr y
 stop:=λH s=>by rw[q2B];exact e9 _
section
variable {X:Cx} {E:St->XK} {δ:List Sv} {tg e e':Expr} {es:List Expr} {pos p:Pos} {ra rb:Option Re} {rs:Option Rs} {ri:Ri}
theorem Got.walkL(g:Got D O W H0 H (.lst ds) c v)(hd:Hid O W H0 H):∃a xs,v=.ref a/\SqL D.K (L2.wo (hidW O W c) H) a xs/\RepL D (L2.wo (M9 O W c) H) ds xs:=by
 cases c with
 | weak=>obtain⟨a,xs,e1,e2,e3⟩:=y7.mp g;exact⟨a,xs,e1,SqL.of e2,e3⟩
 | top=>obtain⟨a,xs,e1,e0,e2,e3⟩:=g;exact⟨a,xs,e1,SqL.of e2,e3⟩
 | strong=>obtain⟨a,xs,e1,e2,e3⟩:=y7.mp g;exact⟨a,xs,e1,SqL.of e2,e3⟩
 | fresh=>obtain⟨a,xs,e1,e2,e3⟩:=y7.mp (g.strong hd);exact⟨a,xs,e1,SqL.of e2,e3⟩
 | ft=>obtain⟨a,xs,e1,e2,e3⟩:=y7.mp (g.ft hd);exact⟨a,xs,e1,SqL.of e2,e3⟩
theorem Got.walkT(g:Got D O W H0 H (.tup ds) c v)(hd:Hid O W H0 H):∃a xs,v=.ref a/\SqT D.K (L2.wo (hidW O W c) H) a xs/\RepL D (L2.wo (M9 O W c) H) ds xs:=by
 cases c with
 | weak=>exact x6.mp g
 | top=>
  obtain⟨a,xs,e1,e2,e3⟩:=x6.mp (show Rep D (L2.wo (O++W) H) (.tup ds) v from g);exact⟨a,xs,e1,(y8 T6).tseq e2,e3⟩
 | strong=>exact x6.mp g
 | fresh=>obtain⟨_,_,_,_,q,_⟩:=g;cases q
 | ft=>exact x6.mp (g.ft hd)
theorem Got.walkS(g:Got D O W H0 H (.scr ns) c v)(hd:Hid O W H0 H):∃a,v=.ref a/\SqL D.K (L2.wo (hidW O W c) H) a (ns.map V.int):=by
 cases c with
 | weak=>obtain⟨a,e1,e2⟩:=M8.mp g;exact⟨a,e1,e2.sq⟩
 | top=>obtain⟨a,e1,e2⟩:=M8.mp (show Rep D (L2.wo (O++W) H) (.scr ns) v from g);exact⟨a,e1,(y8 T6).seq e2.sq⟩
 | strong=>obtain⟨a,e1,e2⟩:=M8.mp g;exact⟨a,e1,e2.sq⟩
 | fresh=>obtain⟨_,_,_,_,q,_⟩:=g;cases q
 | ft=>obtain⟨a,e1,e2⟩:=M8.mp (g.ft hd);exact⟨a,e1,e2.sq⟩
theorem q8T(ha:∀q,ra=some q->PE X e (dE X.D E δ q))(h:j3 ra=some ri):PI X tg e (dI X.D E δ ri):=by
 cases hra:ra with
 | none=>rw[hra]at h;cases h
 | some q=>
  rw[hra]at h;have A:=ha q hra;cases q with
  | ex c=>cases h;exact(q7K A).weak λσ H R' ⟨O,W,R,p⟩=>⟨O,W,R,p⟩
  | ok d c=>
   obtain⟨ds,e1,e2⟩:=u7.mp (show((seqD d).map λds=>Ri.ok ds c)=some ri from h);cases e2;unfold seqD at e1;split at e1
   ·cases e1;exact(q7K A).weak λσ H R' ⟨O,W,R,p⟩=>⟨O,W,R,λv H1 s1 g1=>by
     obtain⟨a,e1,e2⟩:=g1.walkS (R.hid.mono s1);exact⟨a,e1,⟨_,r9.seq e2⟩,p _ H1 s1 (.list e2 (X0 _))⟩⟩
   ·cases e1;exact(q7K A).weak λσ H R' ⟨O,W,R,p⟩=>⟨O,W,R,λv H1 s1 g1=>by
     obtain⟨a,xs,e1,e2,e3⟩:=g1.walkL (R.hid.mono s1);exact⟨a,e1,⟨xs,r9.seq e2⟩,p _ H1 s1 (.list e2 e3)⟩⟩
   ·cases e1;exact(z9Q A).weak λσ H R' ⟨O,W,R,p⟩=>⟨O,W,R,λv H1 s1 g1=>by
     obtain⟨a,xs,e1,e2,e3⟩:=g1.walkT (R.hid.mono s1);exact⟨a,e1,⟨xs,r9.tseq e2⟩,p _ H1 s1 (.tup e2 e3)⟩⟩
   ·cases e1
theorem q2p(h:C9 i=true) : -(2^62)<=i/\i<2^62:=by
 unfold C9 at h;simpa[b9]using h
theorem q6A(h:j3 (o.map λds=>Re.ok (.lst ds) .fresh)=some ri):∃ds,o=some ds/\ri=.ok ds .fresh:=by
 cases o with
 | none=>cases h
 | some ds=>cases h;exact⟨ds,rfl,rfl⟩
theorem z0c(hg:Gl X "range")(hm:X.mg "range" = none)(ha:∀q,rs=some q->PA X [e] (dA X.D E δ q))(hs:m7 e=false)(h:j3 (Rs.thn rs λl=>(rngD l).map λds=>Re.ok (.lst ds) .fresh)=some ri)(hl:∀l,rs=some (.ok l)->l.length=1) :
  PI X tg (.Call (.Name "range" p) [e] [] pos) (dI X.D E δ ri):=by
 have C:=λt (hA:PA X [e] t)=>z2N (tg:=tg) (p:=p) (pos:=pos) hg hm hA (t6 hs);cases hrs:rs with
 | none=>rw[hrs]at h;cases h
 | some q=>
  rw[hrs]at h;have A:=ha q hrs;cases q with
  | ex c=>cases h;exact(C _ A).weak λσ H R' ⟨O,W,R,p⟩=>⟨O,W,R,p⟩
  | ok l=>
   have l1:=hl l hrs;obtain⟨ds,e1,e2⟩:=q6A (show j3 ((rngD l).map λds=>Re.ok (.lst ds) .fresh)=some ri from h);cases e2;unfold rngD at e1;split at e1
   ·rename_i j c;split at e1
    ·rename_i m;cases e1;rw[b9]at m;have q:=q2p m.1;exact(C _ A).weak λσ H R' ⟨O,W,R,p⟩=>⟨O,W,R,λvs H1 s1 g1=>by
      obtain⟨v,rfl,gv⟩:=g1.one;exact⟨j,by rw[gv.int (R.hid.mono s1)],q.1,q.2,p _ H1 s1 (.range _ _)⟩⟩
    ·cases e1
   ·cases l1
   ·cases l1
   ·cases e1
theorem z0f(hg:Gl X "range")(hm:X.mg "range" = none)(ha:∀q,rs=some q->PA X [e,e'] (dA X.D E δ q))(hs:m7 e=false)(hs':m7 e'=false)(h:j3 (Rs.thn rs λl=>(rngD l).map λds=>Re.ok (.lst ds) .fresh)=some ri)(hl:∀l,rs=some (.ok l)->l.length=2) :
  PI X tg (.Call (.Name "range" p) [e,e'] [] pos) (dI X.D E δ ri):=by
 have C:=λt (hA:PA X [e,e'] t)=>z3e (tg:=tg) (p:=p) (pos:=pos) hg hm hA (by rw[t6 hs,t6 hs'];rfl) (t6 hs');cases hrs:rs with
 | none=>rw[hrs]at h;cases h
 | some q=>
  rw[hrs]at h;have A:=ha q hrs;cases q with
  | ex c=>cases h;exact(C _ A).weak λσ H R' ⟨O,W,R,p⟩=>⟨O,W,R,p⟩
  | ok l=>
   have l1:=hl l hrs;obtain⟨ds,e1,e2⟩:=q6A (show j3 ((rngD l).map λds=>Re.ok (.lst ds) .fresh)=some ri from h);cases e2;unfold rngD at e1;split at e1
   ·cases l1
   ·rename_i i c j c';split at e1
    ·rename_i m;cases e1;rw[b9,b9]at m;have q:=q2p m.1.1;have q':=q2p m.1.2;exact(C _ A).weak λσ H R' ⟨O,W,R,p⟩=>⟨O,W,R,λvs H1 s1 g1=>by
      obtain⟨v,v',rfl,gv,gv'⟩:=g1.two;exact⟨i,j,by rw[gv.int (R.hid.mono s1),gv'.int (R.hid.mono s1)],⟨q.1,q.2,q'.1,q'.2⟩,p _ H1 s1 (.range _ _)⟩⟩
    ·cases e1
   ·cases l1
   ·cases e1
theorem z0p(hg:Gl X "range")(hm:X.mg "range" = none)(ha:∀q,rs=some q->PA X [e,e',e''] (dA X.D E δ q))(hs:m7 e=false)(hs':m7 e'=false)(hs'':m7 e''=false)(h:j3 (Rs.thn rs λl=>(rngD l).map λds=>Re.ok (.lst ds) .fresh)=some ri)(hl:∀l,rs=some (.ok l)->l.length=3) :
  PI X tg (.Call (.Name "range" p) [e,e',e''] [] pos) (dI X.D E δ ri):=by
 have C:=λt (hA:PA X [e,e',e''] t)=>z3a (tg:=tg) (p:=p) (pos:=pos) hg hm hA (by rw[t6 hs,t6 hs',t6 hs''];rfl) (by rw[t6 hs',t6 hs''];rfl);cases hrs:rs with
 | none=>rw[hrs]at h;cases h
 | some q=>
  rw[hrs]at h;have A:=ha q hrs;cases q with
  | ex c=>cases h;exact(C _ A).weak λσ H R' ⟨O,W,R,p⟩=>⟨O,W,R,p⟩
  | ok l=>
   have l1:=hl l hrs;obtain⟨ds,e1,e2⟩:=q6A (show j3 ((rngD l).map λds=>Re.ok (.lst ds) .fresh)=some ri from h);cases e2;unfold rngD at e1;split at e1
   ·cases l1
   ·cases l1
   ·rename_i i c j c' k c'';split at e1
    ·rename_i m;cases e1;rw[b9,b9,b9,A2,A2]at m;have q:=q2p m.1.1.1;have q':=q2p m.1.1.2;have k1:=m.2;subst k1;exact(C _ A).weak λσ H R' ⟨O,W,R,p⟩=>⟨O,W,R,λvs H1 s1 g1=>by
      obtain⟨v,v',v'',rfl,gv,gv',gv''⟩:=g1.three;exact⟨i,j,by rw[gv.int (R.hid.mono s1),gv'.int (R.hid.mono s1),gv''.int (R.hid.mono s1)],⟨q.1,q.2,q'.1,q'.2⟩,p _ H1 s1 (.down _ _)⟩⟩
    ·cases e1
   ·cases e1
end
def q8B:List Nat->TGs
 | []=>gNil
 | i::is=>z9x (q9F i) (q8B is)
def gT(K:PySem.W.Frag):Tg->TG
 | .one i=>q9F i
 | .many is=>gTup K is.length (q8B is)
theorem RSt.setVal(R:RSt D H σ δ O W)(r:Rep D (L2.wo (O++W) H) d v)(i:Nat):RSt D H (σ.set i (some v)) (δ.set i (.val d)) O W where
 val:=λj d' h=>by
  by_cases hj:j=i
  ·subst hj;have hl:j<δ.length:=by
    have:=(u5.mp h).1;rw[v4]at this;exact this
   rw[B7 hl]at h;cases h;exact⟨v,B7 (by rw[R.len];exact hl),r⟩
  ·rw[d9 (Ne.symm hj)]at h ⊢;exact R.val j d' h
 own:=λj ds' h=>by
  by_cases hj:j=i
  ·subst hj;have hl:j<δ.length:=by
    have:=(u5.mp h).1;rw[v4]at this;exact this
   rw[B7 hl]at h;cases h
  ·rw[d9 (Ne.symm hj)]at h ⊢;exact R.own j ds' h
 inj:=λj k a d1 d2 h1 h2 e1 e2=>by
  have ne:∀{j:Nat} {d1:DV},(δ.set i (.val d))[j]? = some (.own d1)->j≠i:=λ{j d1} h1 z=>by
   subst z;have hl:j<δ.length:=by have:=(u5.mp h1).1;rw[v4]at this;exact this
   rw[B7 hl]at h1;cases h1
  have n1:=ne h1;have n2:=ne h2;rw[d9 (Ne.symm n1)]at h1 e1;rw[d9 (Ne.symm n2)]at h2 e2;exact R.inj j k a d1 d2 h1 h2 e1 e2
 ot:=λj d' h=>by
  have ne:∀{j:Nat} {s:Sv},(∀d,s ≠ .val d)->(δ.set i (.val d))[j]? = some s->j≠i:=λ{j s} hs h1 z=>by
   subst z;have hl:j<δ.length:=by have:=(u5.mp h1).1;rw[v4]at this;exact this
   rw[B7 hl]at h1;cases h1;exact hs _ rfl
  have nj:=ne (by intro d z;cases z) h;rw[d9 (Ne.symm nj)]at h ⊢;obtain⟨⟨t,ts,p,xs,ds,es,e0,e1,e2,e3,e4,e5,e6,e7⟩,u⟩:=R.ot j d' h;refine⟨⟨t,ts,p,xs,ds,es,e0,e1,e2,e3,e4,e5,e6,λk d2 q=>?_⟩,λk d2 q=>?_⟩
  ·have nk:=ne (by intro d z;cases z) q;rw[d9 (Ne.symm nk)]at q ⊢;exact e7 k d2 q
  ·have nk:=ne (by intro d z;cases z) q;rw[d9 (Ne.symm nk)]at q;exact u k d2 q
 o2:=λj d' h=>by
  have ne:∀{j:Nat} {s:Sv},(∀d,s ≠ .val d)->(δ.set i (.val d))[j]? = some s->j≠i:=λ{j s} hs h1 z=>by
   subst z;have hl:j<δ.length:=by have:=(u5.mp h1).1;rw[v4]at this;exact this
   rw[B7 hl]at h1;cases h1;exact hs _ rfl
  have nj:=ne (by intro d z;cases z) h;rw[d9 (Ne.symm nj)]at h ⊢;obtain⟨⟨p,L,e0,e1,e2,e3⟩,u,n⟩:=R.o2 j d' h;refine⟨⟨p,L,e0,e1,e2,λk d2 a q q2=>?_⟩,λk d2 q=>?_,λk d2 q=>?_⟩
  ·have nk:=ne (by intro d z;cases z) q;rw[d9 (Ne.symm nk)]at q q2;exact e3 k d2 a q q2
  ·have nk:=ne (by intro d z;cases z) q;rw[d9 (Ne.symm nk)]at q;exact u k d2 q
  ·have nk:=ne (by intro d z;cases z) q;rw[d9 (Ne.symm nk)]at q;exact n k d2 q
 od:=R.od.step (q7i _ (by intro d z;cases z)) (λ_ h _=>h) (λ_ _ _ h _=>h)
 len:=by rw[v4,v4];exact R.len
 hid:=R.hid
theorem q7G:∀{is:List Nat} {ds:List DV} {xs:List V} {σ:St} {δ δ':List Sv},RSt D H σ δ O W->RepL D (L2.wo (O++W) H) ds xs->q5I δ is ds=some δ'->(∀σ',RSt D H σ' δ' O W->Q σ' H)->q8B is xs σ H Q
 | [],[],xs,σ,δ,δ',R,r,h,q=>by cases h;exact⟨x8.mp r,q σ R⟩
 | i::is,d::ds,xs,σ,δ,δ',R,r,h,q=>by obtain⟨v,vs,e1,e2,e3⟩:=o7.mp r;exact⟨v,vs,e1,q7G (R.setVal e2 i) e3 h q⟩
 | [],_::_,_,_,_,_,_,_,h,_=>by cases h
 | _::_,[],_,_,_,_,_,_,h,_=>by cases h
theorem q2C:∀{is:List Nat} {ds:List DV} {δ δ':List Sv},q5I δ is ds=some δ'->is.length=ds.length/\δ'.length=δ.length
 | [],[],_,_,h=>by cases h;exact⟨rfl,rfl⟩
 | i::is,d::ds,δ,δ',h=>by obtain⟨a,b⟩:=q2C (is:=is) h;exact⟨by rw[x4,x4,a],by rw[b,v4]⟩
 | [],_::_,_,_,h=>by cases h
 | _::_,[],_,_,h=>by cases h
theorem q7S(R:RSt D H σ δ O W)(r:Rep D (L2.wo (O++W) H) d x)(h:tg.bind d δ=some δ')(q:∀σ',RSt D H σ' δ' O W->Q σ' H):gT D.K tg x σ H Q:=by
 cases tg with
 | one i=>cases h;exact q _ (R.setVal r i)
 | many is=>
  unfold Tg.bind at h;dsimp only at h;split at h
  ·rename_i ds;obtain⟨a,xs,e1,e2,e3⟩:=x6.mp r;exact⟨a,xs,e1,r9.tseq e2,by rw[e3.length,(q2C h).1],q7G R e3 h q⟩
  ·cases h
theorem RSt.less(R:RSt D H σ δ' O W)(hl:δ.length=δ'.length)(h:∀(i:Nat) sv,δ[i]? = some sv->sv=.no\/δ'[i]? = some sv):RSt D H σ δ O W where
 val:=λi d e=>by
  rcases h i _ e with z | z
  ·cases z
  ·exact R.val i d z
 own:=λi d e=>by
  rcases h i _ e with z | z
  ·cases z
  ·exact R.own i d z
 inj:=λi j a d d' e e'=>by
  rcases h i _ e with z | z
  ·cases z
  ·rcases h j _ e' with y | y
   ·cases y
   ·exact R.inj i j a d d' z y
 ot:=λi d e=>by
  rcases h i _ e with z | z
  ·cases z
  ·obtain⟨⟨t,ts,p,xs,ds,es,e0,e1,e2,e3,e4,e5,e6,e7⟩,u⟩:=R.ot i d z;refine⟨⟨t,ts,p,xs,ds,es,e0,e1,e2,e3,e4,e5,e6,λk d2 q=>?_⟩,λk d2 q=>?_⟩
   ·rcases h k _ q with y | y
    ·cases y
    ·exact e7 k d2 y
   ·rcases h k _ q with y | y
    ·cases y
    ·exact u k d2 y
 o2:=λi d e=>by
  rcases h i _ e with z | z
  ·cases z
  ·obtain⟨⟨p,L,e0,e1,e2,e3⟩,u,n⟩:=R.o2 i d z;refine⟨⟨p,L,e0,e1,e2,λk d2 a q q2=>?_⟩,λk d2 q=>?_,λk d2 q=>?_⟩
   ·rcases h k _ q with y | y
    ·cases y
    ·exact e3 k d2 a y q2
   ·rcases h k _ q with y | y
    ·cases y
    ·exact u k d2 y
   ·rcases h k _ q with y | y
    ·cases y
    ·exact n k d2 y
 od:=R.od.step (λj d e=>by
  rcases h j _ e with z | z
  ·cases z
  ·exact⟨z,rfl⟩) (λ_ h _=>h) (λ_ _ _ h _=>h)
 len:=by rw[hl];exact R.len
 hid:=R.hid
theorem q7V:∀{is:List Nat} {ds:List DV} {δ δ':List Sv},q5I δ is ds=some δ'->(∀i∈is,δ[i]? = some .no\/δ[i]? = none)->∀(i:Nat) sv,δ[i]? = some sv->sv=.no\/δ'[i]? = some sv
 | [],[],_,_,h,_,i,sv,e=>by cases h;exact .inr e
 | j::is,d::ds,δ,δ',h,hn,i,sv,e=>by
  by_cases hij:i∈j::is
  ·rcases hn i hij with z | z
   ·rw[z]at e;cases e;exact .inl rfl
   ·rw[z]at e;cases e
  ·have hne:j≠i:=λz=>hij (by rw[z];exact i8);have hni:i∉is:=λz=>hij (i6 _ z);have key:∀{is:List Nat} {ds:List DV} {δ δ':List Sv},q5I δ is ds=some δ'->i∉is->δ[i]? = some sv->δ'[i]? = some sv:=by
    intro is
    induction is with
    | nil=>intro ds δ δ' h _ e;cases ds with
     | nil=>cases h;exact e
     | cons _ _=>cases h
    | cons k is ih=>intro ds δ δ' h hi e;cases ds with
     | nil=>cases h
     | cons d ds=>
      refine ih h (λz=>hi (i6 _ z)) ?_;rw[d9 (λz=>hi (by rw[z];exact i8))];exact e
   exact .inr (key h hij e)
 | [],_::_,_,_,h,_,_,_,_=>by cases h
 | _::_,[],_,_,h,_,_,_,_=>by cases h
theorem q6W(h:tg.bind d δ=some δ')(hn:∀i∈W6 tg,δ[i]? = some .no\/δ[i]? = none):δ.length=δ'.length/\∀(i:Nat) sv,δ[i]? = some sv->sv=.no\/δ'[i]? = some sv:=by
 cases tg with
 | one j=>
  cases h;refine⟨(v4 ..).symm,λi sv e=>?_⟩;by_cases hij:i=j
  ·subst hij;rcases hn i (by simp[W6])with z | z
   ·rw[z]at e;cases e;exact .inl rfl
   ·rw[z]at e;cases e
  ·exact .inr (by rw[d9 (Ne.symm hij)];exact e)
 | many is=>
  unfold Tg.bind at h;dsimp only at h;split at h
  ·exact⟨(q2C h).2.symm,q7V h hn⟩
  ·cases h
theorem RSt.inner(R:RSt D H σ δ O W)(fr:List (Option Nat))(hnd:∀(j k i:Nat),fr[j]? = some (some i)->fr[k]? = some (some i)->j=k):RSt D H (L2.inner fr σ) (t4 fr δ) O W:=by
 have look:∀(j:Nat) sv,(t4 fr δ)[j]? = some sv->sv ≠ .no->∃i,fr[j]? = some (some i)/\δ[i]? = some sv:=λj sv h hn=>by
  unfold t4 at h;rw[n9]at h;cases q:fr[j]? with
  | none=>rw[q]at h;cases h
  | some o=>
   rw[q]at h;cases o with
   | none=>cases h;exact absurd rfl hn
   | some i=>
    refine⟨i,rfl,?_⟩;have h':(δ.getD i .no).plain=sv:=by simpa using h
    rw[D2]at h';cases z:δ[i]? with
    | none=>rw[z]at h';exact absurd h'.symm hn
    | some sv'=>
     rw[z]at h';cases sv' with
     | ot d=>exact absurd h'.symm hn
     | o2 d=>exact absurd h'.symm hn
     | od d=>exact congrArg some h'
     | no=>exact congrArg some h'
     | val d=>exact congrArg some h'
     | own d=>exact congrArg some h'
 have sig:∀(j i:Nat) (v:V),fr[j]? = some (some i)->σ[i]? = some (some v)->(L2.inner fr σ)[j]? = some (some v):=λj i v q e=>by unfold L2.inner;rw[n9,q];simp[e]
 have noot:∀(j:Nat) d,(t4 fr δ)[j]? ≠ some (.ot d):=λj d h=>by
  unfold t4 at h;rw[n9]at h;cases q:fr[j]? with
  | none=>rw[q]at h;cases h
  | some o=>
   rw[q]at h;cases o with
   | none=>cases h
   | some i=>
    have h':(δ.getD i .no).plain=.ot d:=by simpa using h
    cases z:δ.getD i .no with
    | ot d2=>rw[z]at h';cases h'
    | o2 d2=>rw[z]at h';cases h'
    | od d2=>rw[z]at h';cases h'
    | no=>rw[z]at h';cases h'
    | val d2=>rw[z]at h';cases h'
    | own d2=>rw[z]at h';cases h'
 have noo2:∀(j:Nat) d,(t4 fr δ)[j]? ≠ some (.o2 d):=λj d h=>by
  unfold t4 at h;rw[n9]at h;cases q:fr[j]? with
  | none=>rw[q]at h;cases h
  | some o=>
   rw[q]at h;cases o with
   | none=>cases h
   | some i=>
    have h':(δ.getD i .no).plain=.o2 d:=by simpa using h
    cases z:δ.getD i .no with
    | ot d2=>rw[z]at h';cases h'
    | o2 d2=>rw[z]at h';cases h'
    | od d2=>rw[z]at h';cases h'
    | no=>rw[z]at h';cases h'
    | val d2=>rw[z]at h';cases h'
    | own d2=>rw[z]at h';cases h'
 refine⟨λj d h=>?_,λj d h=>?_,λj k a d d' h1 h2 e1 e2=>?_,λj d h=>absurd h (noot j d),λj d h=>absurd h (noo2 j d),λj d h=>?_,?_,R.hid⟩
 ·obtain⟨i,q1,q2⟩:=look j _ h (by intro z;cases z);obtain⟨v,e1,e2⟩:=R.val i d q2;exact⟨v,sig j i v q1 e1,e2⟩
 ·obtain⟨i,q1,q2⟩:=look j _ h (by intro z;cases z);obtain⟨a,xs,ds,e0,e1,e2⟩:=R.own i d q2;exact⟨a,xs,ds,e0,sig j i _ q1 e1,e2⟩
 ·obtain⟨i,q1,q2⟩:=look j _ h1 (by intro z;cases z);obtain⟨i',q1',q2'⟩:=look k _ h2 (by intro z;cases z);obtain⟨b,xs,ds,_,z1,_⟩:=R.own i d q2;obtain⟨b',xs',ds',_,z1',_⟩:=R.own i' d' q2';have y:=sig j i _ q1 z1;have y':=sig k i' _ q1' z1';rw[e1]at y;rw[e2]at y';cases y;cases y';have:=R.inj i i' a d d' q2 q2' z1 z1';subst this;exact hnd j k i q1 q1'
 ·obtain⟨i,q1,q2⟩:=look j _ h (by intro z;cases z);obtain⟨⟨a,o,e0,e1,e2⟩,u⟩:=R.od i d q2;refine⟨⟨a,o,e0,sig j i _ q1 e1,e2⟩,λk d' z=>?_⟩;obtain⟨i',q1',q2'⟩:=look k _ z (by intro z;cases z);rw[u i' d' q2']at q1';exact hnd k j i q1' q1
 ·unfold L2.inner t4;rw[d5,d5]
section
variable {X:Cx} {E:St->XK} {δ:List Sv} {iter elt tgE:Expr} {ifs:List Expr} {pos:Pos} {N':List Str} {scope:Scope} {fr:List (Option Nat)} {tg:Tg} {ri:Option Ri} {re:Re}
theorem q8A{D:Dm}{J:It}{ds:List DV}{O W:List Addr}{H H1:Hp}{σ:St}{c:Cl}{g:DV->Option Rc}{xs:List DV}{tc:TT}{te:TE}{δ0:List Sv}{Q:VK}(w:Wk D J ds (hidW O W c) (M9 O W c) H1)(hd0:Hid O W H H)(hc:c ≠ .weak)(R:RSt D H1 σ δ0 O W)
  (hn:∀i∈W6 tg,δ0[i]? = some .no\/δ0[i]? = none) (hz:ds.length<=sizeLine) (hx:t9 g ds=some xs) (s1:Same H H1)
  (step:∀d rc,d∈ds->g d=some rc->∃δ',tg.bind d δ0=some δ'/\∀σ' H2,Same H1 H2->RSt D H2 σ' δ' O W->∀K:Bool->Hp->Prop,(rc=.skip->∀H3,Same H2 H3->K false H3)->(∀x,rc=.item x->∀H3,Same H2 H3->K true H3)->tc σ' H2 K)
  (stepE:∀d x,d∈ds->g d=some (.item x)->∀δ',tg.bind d δ0=some δ'->∀σ' H2,Same H1 H2->RSt D H2 σ' δ' O W->∀K:VK,(∀v H3,Same H2 H3->Rep D (L2.wo (O++W) H3) x v->K v H3)->te σ' H2 K)
  (fin:∀v H',Same H H'->Got D O W H H' (.lst xs) .fresh v->Q v H') :
  z5G J (gT D.K tg) tc te (λys H'=>∀p,H' p=none->Q (.ref p) (upd H' p (.lst ys))) σ H1:=by
 have ci:M9 O W c=O++W:=by cases c<;>first | rfl | exact absurd rfl hc
 rw[ci]at w;refine⟨λi n ys σ' H'=>n=ds.length - i/\i<=ds.length/\ys.length<=i/\RSt D H' σ' δ0 O W/\Same H1 H'/\∃done rest,t9 g (ds.drop i)=some rest/\done++rest=xs/\RepL D (L2.wo (O++W) H') done ys,
  ⟨ds.length,rfl,A7 _,A7 _,R,Same.refl _,[],xs,hx,rfl,x8.mpr rfl⟩,?_⟩
 rintro i n ys σ2 H2 ⟨rfl,hi',hy,R2,s2,done,rest,h1,h2,r2⟩
 by_cases hlt:i<ds.length
 ·refine .inr ⟨w.go i H2 s2.wo hlt,O0 hy (u4 hlt hz),λx' H3 y=>?_⟩;have y1:=w.same i H2 x' H3 y;have y3:Rep D (L2.wo (O++W) H3) ds[i] x':=w.yld i H2 x' H3 _ (O++W) s2.wo s2.wo y (p7 hlt) λa ha=>⟨R2.hid.ot a ha,.inl ha⟩;rw[w3H hlt]at h1;have hm:ds[i]∈ds:=Z1 hlt;unfold t9 at h1;split at h1
  ·cases h1
  ·rename_i q;obtain⟨δ',b1,b2⟩:=step _ _ hm q;refine q7S (R2.mono y1) y3 b1 λσ3 R3=>?_
   have back:=q6W b1 hn;refine b2 σ3 H3 (s2.trans y1) R3 _ (λ_ H4 s4=>?_) (λx z=>nomatch z);show if false=true then _ else _
   rw[d7 v9];exact⟨ds.length - (i+1),by omega,rfl,hlt,Nat.le_succ_of_le hy,(R3.less back.1 back.2).mono s4,(s2.trans y1).trans s4,done,rest,h1,h2,r2.mono (y1.trans s4).wo⟩
  ·rename_i x q;split at h1
   ·cases h1
   ·rename_i rest' q';cases h1;obtain⟨δ',b1,b2⟩:=step _ _ hm q;refine q7S (R2.mono y1) y3 b1 λσ3 R3=>?_
    have back:=q6W b1 hn;refine b2 σ3 H3 (s2.trans y1) R3 _ (λz=>nomatch z) (λx' z H4 s4=>?_);cases z;show if true=true then _ else _
    rw[b8 rfl];refine stepE _ x hm q δ' b1 σ3 H4 ((s2.trans y1).trans s4) (R3.mono s4) _ λv H5 s5 rv=>?_
    exact⟨ds.length - (i+1),by omega,rfl,hlt,by rw[p9,N7];omega,(R3.less back.1 back.2).mono (s4.trans s5),((s2.trans y1).trans s4).trans s5,done++[x],rest',q',by rw[J3];exact h2,
     (r2.mono ((y1.trans s4).trans s5).wo).append (RepL.one rv)⟩
 ·have e:i=ds.length:=by omega
  subst e;rw[w3Q]at h1;cases h1;rw[B3]at h2;subst h2;have s0:=s1.trans s2;refine .inl ⟨w.stop H2 s2.wo,λp hp=>fin _ _ (s0.trans (w5 hp)) ?_⟩;have hd:Hid O W H H2:=hd0.mono s0;exact N0 hd hp r2
abbrev E0s:St->XK:=λ_ _ _ _=>False
theorem PE.any{Y:Cx}{e:Expr}{ι:Sort _}{t:ι->TE}(h:∀k,PE Y e (t k)):PE Y e (λσ H Q=>∃k,t k σ H Q):=λpins s σ H Q I ⟨k,q⟩=>h k pins s σ H Q I q
theorem PTs.any{Y:Cx}{ι:Sort _}{es:List Expr}{t:ι->TT}(h:∀k,PTs Y es (t k)):PTs Y es (λσ H Q=>∃k,t k σ H Q):=λpins s σ H Q I ⟨k,q⟩=>h k pins s σ H Q I q
theorem Rc.of_item(h:Rc.of r=some (.item x)):∃c,r=some (.ok x c)/\stro x c=true:=by
 unfold Rc.of at h;split at h
 ·rename_i d c;split at h
  ·rename_i m;cases h;exact⟨c,rfl,m⟩
  ·cases h
 ·cases h
theorem Rc.of_skip(h:Rc.of r=some .skip):False:=by
 unfold Rc.of at h;split at h
 ·split at h<;>cases h
 ·cases h
theorem q6R{fr:List (Option Nat)}{δ:List Sv}{i:Nat}(h:fr[i]? = some none):(t4 fr δ)[i]? = some .no:=by
 unfold t4;rw[n9,h];rfl
def T8(X:Cx)(E:St->XK)(δ:List Sv)(tgE iter:Expr)(ifs:List Expr)(elt:Expr)(scope:Scope)(N':List Str)(fr:List (Option Nat))(tg:Tg)(re:Re):Prop:=
 ∃wi tc te,PI X tgE iter wi/\(∀C cells s₂ H₂ fp,PTs (o8 X scope N' C cells s₂ H₂ fp) ifs tc)/\(∀C cells s₂ H₂ fp,PE (o8 X scope N' C cells s₂ H₂ fp) elt te) /\
  ∀σ H Q,dE X.D E δ re σ H Q->z7n fr wi (gT X.K tg) tc te σ H Q
theorem q6l(hset:E6 iter=false):∀x,foldedSetIterable iter env x=pure x:=by cases iter<;>first | (intro _;rfl) | cases hset
theorem T8.pe(P:T8 X E δ tgE iter ifs elt scope N' fr tg re)(S:CompScope X.N N' scope X.env.scope fr)(hc:X.calm=true)(hG:∀C cells s₂ H₂ fp,PG (o8 X scope N' C cells s₂ H₂ fp) tgE (gT X.K tg))(hset:E6 iter=false) :
  PE X (.ListComp elt [⟨tgE,iter,ifs,0⟩] scope pos) (dE X.D E δ re):=by
 obtain⟨wi,tc,te,h1,h2,h3,h4⟩:=P;exact(z6L (pos:=pos) S hc h1 hG h2 h3 (q6l hset)).weak h4
theorem q5y{evElt:List Sv->Option Re}(S:CompScope X.N N' scope X.env.scope fr)(hc:X.calm=true)(hnd:∀(j k i:Nat),fr[j]? = some (some i)->fr[k]? = some (some i)->j=k)(hsl:∀i∈W6 tg,fr[i]? = some none)(hi:∀q,ri=some q->PI X tgE iter (dI X.D E δ q))
  (hG:∀C cells s₂ H₂ fp,PG (o8 X scope N' C cells s₂ H₂ fp) tgE (gT X.K tg)) (he:∀δ' r,evElt δ'=some r->∀C cells s₂ H₂ fp,PE (o8 X scope N' C cells s₂ H₂ fp) elt (dE X.D E0s δ' r))
  (h:(Ri.thn ri λds c=>if c=.weak\/mostLen<ds.length then none else G8 (t9 (λd=>(tg.bind d (t4 fr δ)).bind λδ'=>Rc.of (evElt δ')) ds))=some re):T8 X E δ tgE iter [] elt scope N' fr tg re:=by
 cases hri:ri with
 | none=>rw[hri]at h;cases h
 | some q=>
  rw[hri]at h;have A:=hi q hri;refine⟨_,_,_,A,(λC cells s₂ H₂ fp=>z8j),(λC cells s₂ H₂ fp=>PE.any (ι:={p:List Sv×Re // evElt p.1=some p.2}) (t:=λk=>dE X.D E0s k.1.1 k.1.2) λk=>he k.1.1 k.1.2 k.2 C cells s₂ H₂ fp),?_⟩;cases q with
  | ex c=>cases h;exact λσ H Q ⟨O,W,R,p⟩=>⟨O,W,R,p⟩
  | ok ds c=>
   have h':(if c=.weak\/mostLen<ds.length then none else G8 (t9 (λd=>(tg.bind d (t4 fr δ)).bind λδ'=>Rc.of (evElt δ')) ds))=some re:=h;split at h'
   ·cases h'
   ·rename_i m;rw[not_or]at m;unfold G8 at h';split at h'
    ·cases h'
    ·rename_i xs hx;cases h';refine λσ H Q ⟨O,W,R,p⟩=>⟨O,W,R,λJ H1 s1 w=>?_⟩
     refine q8A (tg:=tg) (D:=X.D) w R.hid m.1 ((R.mono s1).inner fr hnd) (λi hi=>.inl (q6R (hsl i hi))) (X1 (by omega)) hx s1 (λd rc hm hg=>?_) (λd x hm hg δ' hb σ' H2 s2 R2 K hK=>?_) p
     ·cases hb:tg.bind d (t4 fr δ)with
      | none=>rw[hb]at hg;cases hg
      | some δ'=>
       rw[hb]at hg;refine⟨δ',rfl,λσ' H2 s2 R2 K k1 k2=>?_⟩;cases rc with
       | skip=>exact(Rc.of_skip hg).elim
       | item x=>exact k2 x rfl H2 (Same.refl _)
     ·rw[hb]at hg;obtain⟨cl,e1,e2⟩:=Rc.of_item hg;exact⟨⟨⟨δ',.ok x cl⟩,e1⟩,O,W,R2,λv H3 s3 g3=>hK v H3 s3 (g3.stro (R2.hid.mono s3) e2)⟩
theorem q5p{evElt:List Sv->Option Re}{evC:List Sv->Option Rt}{cond:Expr}(S:CompScope X.N N' scope X.env.scope fr)(hc:X.calm=true)(hnd:∀(j k i:Nat),fr[j]? = some (some i)->fr[k]? = some (some i)->j=k)(hsl:∀i∈W6 tg,fr[i]? = some none)(hi:∀q,ri=some q->PI X tgE iter (dI X.D E δ q))
  (hG:∀C cells s₂ H₂ fp,PG (o8 X scope N' C cells s₂ H₂ fp) tgE (gT X.K tg)) (he:∀δ' r,evElt δ'=some r->∀C cells s₂ H₂ fp,PE (o8 X scope N' C cells s₂ H₂ fp) elt (dE X.D E0s δ' r))
  (ht:∀δ' r,evC δ'=some r->∀C cells s₂ H₂ fp,PT (o8 X scope N' C cells s₂ H₂ fp) cond (dT X.D E0s δ' r))
  (h:(Ri.thn ri λds c=>if c=.weak\/mostLen<ds.length then none else G8 (t9 (λd=>(tg.bind d (t4 fr δ)).bind λδ'=>Rc.test (evC δ') (Rc.of (evElt δ'))) ds))=some re):T8 X E δ tgE iter [cond] elt scope N' fr tg re:=by
 cases hri:ri with
 | none=>rw[hri]at h;cases h
 | some q=>
  rw[hri]at h;have A:=hi q hri;refine⟨_,_,_,A,(λC cells s₂ H₂ fp=>PTs.any (ι:={p:List Sv×Rt // evC p.1=some p.2}) (t:=λk=>dT X.D E0s k.1.1 k.1.2) λk=>z5M (ht k.1.1 k.1.2 k.2 C cells s₂ H₂ fp)),
   (λC cells s₂ H₂ fp=>PE.any (ι:={p:List Sv×Re // evElt p.1=some p.2}) (t:=λk=>dE X.D E0s k.1.1 k.1.2) λk=>he k.1.1 k.1.2 k.2 C cells s₂ H₂ fp),?_⟩
  cases q with
  | ex c=>cases h;exact λσ H Q ⟨O,W,R,p⟩=>⟨O,W,R,p⟩
  | ok ds c=>
   have h':(if c=.weak\/mostLen<ds.length then none else G8 (t9 (λd=>(tg.bind d (t4 fr δ)).bind λδ'=>Rc.test (evC δ') (Rc.of (evElt δ'))) ds))=some re:=h;split at h'
   ·cases h'
   ·rename_i m;rw[not_or]at m;unfold G8 at h';split at h'
    ·cases h'
    ·rename_i xs hx;cases h';refine λσ H Q ⟨O,W,R,p⟩=>⟨O,W,R,λJ H1 s1 w=>?_⟩
     refine q8A (tg:=tg) (D:=X.D) w R.hid m.1 ((R.mono s1).inner fr hnd) (λi hi=>.inl (q6R (hsl i hi))) (X1 (by omega)) hx s1 (λd rc hm hg=>?_) (λd x hm hg δ' hb σ' H2 s2 R2 K hK=>?_) p
     ·cases hb:tg.bind d (t4 fr δ)with
      | none=>rw[hb]at hg;cases hg
      | some δ'=>
       rw[hb]at hg;have hg':Rc.test (evC δ') (Rc.of (evElt δ'))=some rc:=hg;refine⟨δ',rfl,λσ' H2 s2 R2 K k1 k2=>?_⟩;unfold Rc.test at hg';split at hg'
       ·rename_i q;refine⟨⟨⟨δ',.ok true⟩,q⟩,O,W,R2,λH3 s3=>?_⟩;cases rc with
        | skip=>exact(Rc.of_skip hg').elim
        | item x=>exact k2 x rfl H3 s3
       ·rename_i q;cases hg';exact⟨⟨⟨δ',.ok false⟩,q⟩,O,W,R2,λH3 s3=>k1 rfl H3 s3⟩
       ·cases hg'
     ·rw[hb]at hg;have hg':Rc.test (evC δ') (Rc.of (evElt δ'))=some (.item x):=hg;unfold Rc.test at hg';split at hg'
      ·obtain⟨cl,e1,e2⟩:=Rc.of_item hg';exact⟨⟨⟨δ',.ok x cl⟩,e1⟩,O,W,R2,λv H3 s3 g3=>hK v H3 s3 (g3.stro (R2.hid.mono s3) e2)⟩
      ·cases hg'
      ·cases hg'
end
end
section
theorem Inv.turnedL{X:Cx}{pins:List (Addr×Obj)}{σ:St}{H:Hp}{s:Shared}{h':Heap}{t':Nat}{ch:List Addr}(I:Inv X pins σ H s)(k:∀b o,b∉ch->s.heap.get? b=some o->h'.get? b=some o)(hf:∀b∈ch,FpOk X pins H b):Inv X pins σ H {s with heap:=h',toks:=t'}:=by
 have nit:∀b u,H b=some u->b∉ch:=λb u e z=>by rw[(hf b z).1]at e;cases e
 refine I.step (g':=s.gens) (d':=s.drawn) (ch:=ch) (λb hb=>?_) (λb o _ _ hc e _=>k b o hc e) (λb o _ _ hc e _=>⟨o.slots,k b o hc e⟩) (λ_ _ _ _ n=>n)
  (λb o hc e=>⟨o,k b o hc e⟩) (λ_ _ e=>e) (λ_ _ _ e=>e) (λb ps e=>⟨#[],by rw[e];simp⟩) (λm hm=>?_) (λb u e=>?_) I.bare
 ·obtain⟨_,f1,_,f3,f4,f5⟩:=hf b hb;exact⟨f3,f1,f4,f5⟩
 ·obtain⟨o,es,ep,ho,r⟩:=hm;exact⟨o,es,ep,k _ o (λz=>(hf _ z).2.1 rfl) ho,r⟩
 ·refine(I.hok b u e).stay (λc v hc q=>k c v ?_ q) (λ_ q=>q) λ_ _ q=>q;rcases hc with z | z
  ·rw[z];exact nit b u e
  ·exact nit c _ z
section
variable {X:Cx} {E:St->XK} {δ:List Sv} {e e':Expr} {elts:List Expr} {k:Nat} {tpos pos p:Pos} {ra rb:Option Re} {ri:Ri}
end
end
section
def dEnd(D:Dm)(E:St->XK)(H0:Hp)(O:List Addr)(Dn:Ends):Out->Prop
 | .nx δ=>∀σ H W,RSt D H σ δ O W->(∀a∈W,H0 a=none)->Same H0 H->Dn.nx σ H
 | .rt d fr=>∀v H,Same H0 H->GotR D O H0 H d fr v->Dn.rt v H
 | .rtt d=>∀v H,Same H0 H->GotT D O H0 H d v->Dn.rt v H
 | .ex c δ=>∀σ H W C,D.mg c=some C->RSt D H σ δ O W->(∀a∈W,H0 a=none)->Same H0 H->E σ C none H
def dS(D:Dm)(E:St->XK)(δ:List Sv)(o:Out):TS:=λDn σ H=>∃H0 O W,RSt D H σ δ O W/\(∀a∈W,H0 a=none)/\(∀a∈O,H0 a≠none)/\Same H0 H/\dEnd D E H0 O Dn o
section
variable {X:Cx} {E:St->XK} {δ δ1:List Sv} {st:Stmt} {rest body els:List Stmt} {o:Out} {e c:Expr} {pos pos':Pos} {ra:Option Re} {rt:Option Rt} {i:Nat} {x:Str}
theorem z6I:PSs X [] (dS X.D E δ (.nx δ)):=z5U.weak λDn σ H ⟨H0,O,W,R,fr,fo,sm,k⟩=>k σ H W R fr sm
theorem z4g(h1:PS X st (dS X.D E δ (.nx δ1)))(h2:PSs X rest (dS X.D E δ1 o)):PSs X (st::rest) (dS X.D E δ o):=
 (q4G h1 h2).weak λDn σ H ⟨H0,O,W,R,fr,fo,sm,k⟩=>⟨H0,O,W,R,fr,fo,sm,λσ' H' W' R' fr' sm'=>⟨H0,O,W',R',fr',fo,sm',k⟩⟩
theorem z9m(h1:PS X st (dS X.D E δ (.rt d fr))):PSs X (st::rest) (dS X.D E δ (.rt d fr)):=
 (q4G h1 V4).weak λDn σ H ⟨H0,O,W,R,fr,fo,sm,k⟩=>⟨H0,O,W,R,fr,fo,sm,k⟩
theorem z6S(h1:PS X st (dS X.D E δ (.rtt d))):PSs X (st::rest) (dS X.D E δ (.rtt d)):=
 (q4G h1 V4).weak λDn σ H ⟨H0,O,W,R,fr,fo,sm,k⟩=>⟨H0,O,W,R,fr,fo,sm,k⟩
theorem y0A{c:Str}{δ':List Sv}(h1:PS X st (dS X.D E δ (.ex c δ'))):PSs X (st::rest) (dS X.D E δ (.ex c δ')):=
 (q4G h1 V4).weak λDn σ H ⟨H0,O,W,R,fr,fo,sm,k⟩=>⟨H0,O,W,R,fr,fo,sm,k⟩
theorem L9{D:Dm}{H0 H:Hp}{O W:List Addr}{σ:St}{Dn:Ends}{c:Str}{Q:VK}(R:RSt D H σ δ O W)(fr:∀a∈W,H0 a=none)(sm:Same H0 H)(k:dEnd D E H0 O Dn (.ex c δ)):Post D E σ O W H H Q (.ex c):=
 λH' C m s=>k σ H' W C m (R.mono s) fr (sm.trans s)
theorem z9G(hc:∀q,rt=some q->PT X c (dT X.D E δ q))(h1:∀q,ro=some q->PSs X body (dS X.D E δ q))(h2:∀q,rp=some q->PSs X els (dS X.D E δ q))(h:(Rt.thnS δ rt λk=>if k then ro else rp)=some o):PS X (.If c body els pos) (dS X.D E δ o):=by
 cases hrt:rt with
 | none=>rw[hrt]at h;cases h
 | some q=>
  rw[hrt]at h;have C:=hc q hrt;cases q with
  | ex c=>cases h;exact(z7g C V4 V4).weak λDn σ H ⟨H0,O,W,R,fr,fo,sm,k⟩=>⟨O,W,R,λH' C m s=>k σ H' W C m (R.mono s) fr (sm.trans s)⟩
  | ok b=>
   cases b with
   | true=>
    have h':ro=some o:=h;exact(z7g C (h1 o h') V4).weak λDn σ H ⟨H0,O,W,R,fr,fo,sm,k⟩=>⟨O,W,R,λH1 s1=>iteT ⟨H0,O,W,R.mono s1,fr,fo,sm.trans s1,k⟩⟩
   | false=>
    have h':rp=some o:=h;exact(z7g C V4 (h2 o h')).weak λDn σ H ⟨H0,O,W,R,fr,fo,sm,k⟩=>⟨O,W,R,λH1 s1=>iteF ⟨H0,O,W,R.mono s1,fr,fo,sm.trans s1,k⟩⟩
theorem z6V(ha:∀q,ra=some q->PE X e (dE X.D E δ q))(h:(Re.thnS δ ra λd c=>some (retD d c))=some o):PS X (.Return (some e) pos) (dS X.D E δ o):=by
 cases hra:ra with
 | none=>rw[hra]at h;cases h
 | some q=>
  rw[hra]at h;have A:=ha q hra;cases q with
  | ex c=>cases h;exact(q9u A).weak λDn σ H ⟨H0,O,W,R,fr,fo,sm,k⟩=>⟨O,W,R,L9 R fr sm k⟩
  | ok d cl=>
   have h2:some (retD d cl)=some o:=h;cases h2;by_cases hft:cl=.ft
   ·subst hft;refine(q9u A).weak λDn σ H ⟨H0,O,W,R,fr,fo,sm,k⟩=>⟨O,W,R,λv H1 s1 g=>(k:dEnd X.D E H0 O Dn (.rtt d)) v H1 (sm.trans s1) ?_⟩
    obtain⟨t,ts,p,xs,ds,es,e1,e2,e0,e3,e4,e5,e6⟩:=g;have up:Same (L2.wo (p::(O++W)) H1) (L2.wo (p::O) H1):=y8 λb hb=>by rcases e8.mp hb with z | z;exact e8.mpr (.inl z);exact i6 _ (z8 _ z)
    exact .inl ⟨t,ts,p,xs,ds,es,e1,e2,(y8 T6).tseq e0,sm.free e3,e4,e5.mono up,e6.mono up⟩
   have hrt:retD d cl=.rt d (frD d cl):=by cases cl<;>first | rfl | exact absurd rfl hft
   rw[hrt];refine(q9u A).weak λDn σ H ⟨H0,O,W,R,fr,fo,sm,k⟩=>⟨O,W,R,λv H1 s1 g=>(k:dEnd X.D E H0 O Dn (.rt d (frD d cl))) v H1 (sm.trans s1) ?_⟩
   have hd:=R.hid.mono s1;cases hf:frD d cl with
   | false=>exact g.weak hd
   | true=>
    unfold frD at hf;split at hf
    ·obtain⟨p,xs,ds,e1,e2,e3,e4,e5⟩:=g;exact⟨p,xs,ds,e1,e2,sm.free e3,e4,e5.mono (y8 λb hb=>by rcases e8.mp hb with z | z;exact e8.mpr (.inl z);exact i6 _ (z8 _ z))⟩
    ·obtain⟨a,xs,e1,e0,e2,e3⟩:=g;exact⟨a,xs,_,e1,rfl,fr a e0,r9 _ _ e2,e3.mono (y8 λb hb=>by rcases e8.mp hb with z | z;rw[z];exact y9 _ e0;exact z8 _ z)⟩
    ·cases hf
theorem q2X(h:T4 v=false):swapsWith v t l env=pure false:=by
 cases v<;>first | rfl | cases h
theorem z7v(ha:∀q,ra=some q->PE X e (dE X.D E δ q))(hc:T4 e=false)(h:(Re.thnS δ ra λ_ _=>some (.nx δ))=some o):PS X (.Expr e pos) (dS X.D E δ o):=by
 cases hra:ra with
 | none=>rw[hra]at h;cases h
 | some q=>
  rw[hra]at h;have A:=ha q hra;cases q with
  | ex c=>cases h;exact(q5a A (q2X hc)).weak λDn σ H ⟨H0,O,W,R,fr,fo,sm,k⟩=>⟨O,W,R,L9 R fr sm k⟩
  | ok d cl=>cases h;exact(q5a A (q2X hc)).weak λDn σ H ⟨H0,O,W,R,fr,fo,sm,k⟩=>⟨O,W,R,λv H1 s1 g=>k σ H1 W (R.mono s1) fr (sm.trans s1)⟩
theorem P2{O W:List Addr}{p b:Addr}:b∈O++p::W↔b∈p::(O++W):=by
 simp only[A3,e8];constructor
 ·rintro(h | h | h)
  ·exact .inr (.inl h)
  ·exact .inl h
  ·exact .inr (.inr h)
 ·rintro(h | h | h)
  ·exact .inr (.inl h)
  ·exact .inl h
  ·exact .inr (.inr h)
theorem j1{α:Type}{l:List α}{i j:Nat}{a b:α}(h:(l.set i a)[j]? = some b)(hn:a≠b):j≠i:=λz=>by
 subst z;have hl:j<l.length:=by have:=(u5.mp h).1;rw[v4]at this;exact this
 rw[B7 hl]at h;exact hn (C6 h)
theorem P3{α:Type}{l:List α}{i:Nat}{a b:α}(h:(l.set i a)[i]? = some b):i<l.length/\a=b:=by
 have hl:i<l.length:=(by have:=(u5.mp h).1;rw[v4]at this;exact this);rw[B7 hl]at h;exact⟨hl,C6 h⟩
theorem RSt.alloc(R:RSt D H σ δ O W)(s:Same H H')(hp:H p=none)(hp':H' p=some (.lst xs))(r:RepL D (L2.wo (p::(O++W)) H') ds xs)(i:Nat) :
  RSt D H' (σ.set i (some (.ref p))) (δ.set i (.own (.lst ds))) O (p::W):=by
 have old:Same (L2.wo (O++W) H) (L2.wo (O++p::W) H'):=λb o e=>by obtain⟨hb,e⟩:=C4 e;have hbp:b≠p:=D9 e hp;rw[j9 (λz=>by rcases e8.mp (P2.mp z)with z | z;exact hbp z;exact hb z)];exact s b o e
 have eqv:Same (L2.wo (p::(O++W)) H') (L2.wo (O++p::W) H'):=y8 λb hb=>P2.mp hb;refine⟨λj d h=>?_,λj ds' h=>?_,λj k a d1 d2 h1 h2 e1 e2=>?_,λj d h=>?_,λj d h=>by
   have hj:=j1 h (by intro z;cases z);rw[d9 (Ne.symm hj)]at h ⊢;obtain⟨⟨p1,L,e0,e1,e2,e3⟩,u,n⟩:=R.o2 j d h;refine⟨⟨p1,L,e0,e1,(e2.mono s).sub λa _ ha=>i6 _ ha,λk d2 a q q2=>?_⟩,λk d2 q=>?_,λk d2 q=>?_⟩
   ·by_cases hk:k=i
    ·subst hk;obtain⟨_,z⟩:=P3 q2;cases z;intro z;obtain⟨_,ys,w⟩:=e2.dom z;rw[hp]at w;cases w
    ·rw[d9 (Ne.symm hk)]at q q2;exact e3 k d2 a q q2
   ·have hk:=j1 q (by intro z;cases z);rw[d9 (Ne.symm hk)]at q;exact u k d2 q
   ·have hk:=j1 q (by intro z;cases z);rw[d9 (Ne.symm hk)]at q;exact n k d2 q,R.od.step (q7i _ (by intro d z;cases z)) (λ_ h _=>i6 _ h) (λa kvs _ h _=>s _ _ h),by rw[v4,v4];exact R.len,⟨λa ha=>?_,Same.refl _,λa ha=>?_,λa ha=>?_,R.hid.omS s⟩⟩
 ·have hj:=j1 h (by intro z;cases z);rw[d9 (Ne.symm hj)]at h ⊢;obtain⟨v,e1,e2⟩:=R.val j d h;exact⟨v,e1,e2.mono old⟩
 ·by_cases hj:j=i
  ·subst hj;obtain⟨hl,e⟩:=P3 h;cases e;exact⟨p,xs,ds,rfl,B7 (by rw[R.len];exact hl),i8,hp',r.mono eqv⟩
  ·rw[d9 (Ne.symm hj)]at h ⊢;obtain⟨a,ys,ds1,e0,e1,e2,e3,e4⟩:=R.own j ds' h;exact⟨a,ys,ds1,e0,e1,i6 _ e2,s _ _ e3,e4.mono old⟩
 ·have key:∀{j:Nat} {d1:DV},(δ.set i (.own (.lst ds)))[j]? = some (.own d1)->(σ.set i (some (.ref p)))[j]? = some (some (V.ref a))->(j=i/\a=p)\/(j≠i/\δ[j]? = some (.own d1)/\σ[j]? = some (some (V.ref a))/\a≠p):=λ{j d1} h e=>by
   by_cases hj:j=i
   ·subst hj;obtain⟨_,z⟩:=P3 e;cases z;exact .inl ⟨rfl,rfl⟩
   ·rw[d9 (Ne.symm hj)]at h e;refine .inr ⟨hj,h,e,λz=>?_⟩;obtain⟨a',ys,ds1,_,q1,_,q3,_⟩:=R.own j d1 h;rw[e]at q1;cases q1;rw[z,hp]at q3;cases q3
  rcases key h1 e1 with⟨z1,z2⟩ | ⟨z1,z2,z3,z4⟩<;>rcases key h2 e2 with⟨y1,y2⟩ | ⟨y1,y2,y3,y4⟩
  ·rw[z1,y1]
  ·exact absurd z2 y4
  ·exact absurd y2 z4
  ·exact R.inj j k a d1 d2 z2 y2 z3 y3
 ·have hj:=j1 h (by intro z;cases z);rw[d9 (Ne.symm hj)]at h ⊢;obtain⟨⟨t,ts,p1,ys,ds1,es,e0,e1,e2,e3,e4,e5,e6,e7⟩,u⟩:=R.ot j d h;refine⟨⟨t,ts,p1,ys,ds1,es,e0,e1,old.tseq e2,i6 _ e3,s _ _ e4,e5.mono old,e6.mono old,λk d2 q=>?_⟩,λk d2 q=>?_⟩
  ·by_cases hk:k=i
   ·subst hk;intro z;obtain⟨_,z⟩:=P3 z;cases z;rw[hp]at e4;cases e4
   ·rw[d9 (Ne.symm hk)]at q ⊢;exact e7 k d2 q
  ·have hk:=j1 q (by intro z;cases z);rw[d9 (Ne.symm hk)]at q;exact u k d2 q
 ·rcases e8.mp (P2.mp ha)with z | z
  ·rw[z,hp'];intro q;cases q
  ·intro q;exact R.hid.ot a z (s.free q)
 ·rcases e8.mp ha with z | z
  ·exact⟨_,by rw[z];exact hp',rfl⟩
  ·obtain⟨ys,q,m⟩:=R.hid.wl a z;exact⟨ys,s _ _ q,m⟩
 ·rcases e8.mp ha with z | z
  ·intro q;exact R.hid.ot p (z8 _ (by rw[←z];exact q)) hp
  ·exact R.hid.dj a z
theorem q8m(h:noOt i δ=true)(q:δ[j]? = some (.ot d)):j=i:=by
 unfold noOt at h;rw[J8]at h;have hj:j<δ.length:=(u5.mp q).1;have:=h j (s9.mpr hj);rw[q]at this;simpa using this
theorem z1F(h:noOt i δ=true)(q:δ[j]? = some (.o2 d)):j=i:=by
 unfold noOt at h;rw[J8]at h;have hj:j<δ.length:=(u5.mp q).1;have:=h j (s9.mpr hj);rw[q]at this;simpa using this
theorem z1U(h:noOt i δ=true)(q:δ[j]? = some (.od d)):j=i:=by
 unfold noOt at h;rw[J8]at h;have hj:j<δ.length:=(u5.mp q).1;have:=h j (s9.mpr hj);rw[q]at this;simpa using this
theorem RSt.allocT(R:RSt D H σ δ O W)(s:Same H H')(ht:SqT D.K (L2.wo (O++W) H') t (.ref p::ts))(hp:H p=none)(hp':H' p=some (.lst xs))(r:RepL D (L2.wo (p::(O++W)) H') ds xs)(r2:RepL D (L2.wo (p::(O++W)) H') es ts)(i:Nat)(hno:noOt i δ=true) :
  RSt D H' (σ.set i (some (.ref t))) (δ.set i (.ot (.tup (.lst ds::es)))) O (p::W):=by
 have old:Same (L2.wo (O++W) H) (L2.wo (O++p::W) H'):=λb o e=>by obtain⟨hb,e⟩:=C4 e;have hbp:b≠p:=D9 e hp;rw[j9 (λz=>by rcases e8.mp (P2.mp z)with z | z;exact hbp z;exact hb z)];exact s b o e
 have eqv:Same (L2.wo (p::(O++W)) H') (L2.wo (O++p::W) H'):=y8 λb hb=>P2.mp hb;have ht':SqT D.K (L2.wo (O++p::W) H') t (.ref p::ts):=by
  have ne:∀{o:HO},L2.wo (O++W) H' t=some o->(∀ys,o ≠ .lst ys)->L2.wo (O++p::W) H' t=some o:=λ{o} e ho=>by
   obtain⟨hb,e⟩:=C4 e;rw[j9 (λz=>by
    rcases e8.mp (P2.mp z)with z | z
    ·rw[z,hp']at e;cases e;exact ho _ rfl
    ·exact hb z)]
   exact e
  rcases ht with(h | ⟨o,h⟩) | h
  ·exact .inl (.inl (ne h (by intro ys z;cases z)))
  ·exact .inl (.inr ⟨o,ne h (by intro ys z;cases z)⟩)
  ·exact .inr h
 refine⟨λj d h=>?_,λj ds' h=>?_,λj k a d1 d2 h1 h2 e1 e2=>?_,λj d h=>?_,λj d h=>absurd (z1F hno (by have hj:=j1 h (by intro z;cases z);rw[d9 (Ne.symm hj)]at h;exact h)) (j1 h (by intro z;cases z)),R.od.step (q7i _ (by intro d z;cases z)) (λ_ h _=>i6 _ h) (λa kvs _ h _=>s _ _ h),by rw[v4,v4];exact R.len,⟨λa ha=>?_,Same.refl _,λa ha=>?_,λa ha=>?_,R.hid.omS s⟩⟩
 ·have hj:=j1 h (by intro z;cases z);rw[d9 (Ne.symm hj)]at h ⊢;obtain⟨v,e1,e2⟩:=R.val j d h;exact⟨v,e1,e2.mono old⟩
 ·have hj:=j1 h (by intro z;cases z);rw[d9 (Ne.symm hj)]at h ⊢;obtain⟨a,ys,ds1,e0,e1,e2,e3,e4⟩:=R.own j ds' h;exact⟨a,ys,ds1,e0,e1,i6 _ e2,s _ _ e3,e4.mono old⟩
 ·have n1:=j1 h1 (by intro z;cases z);have n2:=j1 h2 (by intro z;cases z);rw[d9 (Ne.symm n1)]at h1 e1;rw[d9 (Ne.symm n2)]at h2 e2;exact R.inj j k a d1 d2 h1 h2 e1 e2
 ·have hj:j=i:=by
   by_cases hj:j=i
   ·exact hj
   ·rw[d9 (Ne.symm hj)]at h;exact q8m hno h
  subst hj;obtain⟨hl,e⟩:=P3 h;cases e;refine⟨⟨t,ts,p,xs,ds,es,rfl,B7 (by rw[R.len];exact hl),ht',i8,hp',r.mono eqv,r2.mono eqv,λk d2 q=>?_⟩,λk d2 q=>?_⟩
  ·have hk:=j1 q (by intro z;cases z);rw[d9 (Ne.symm hk)]at q ⊢;intro z;obtain⟨a,ys,ds1,f0,f1,f2,f3,f4⟩:=R.own k d2 q;rw[z]at f1;cases f1;rw[hp]at f3;cases f3
  ·by_cases hk:k=j
   ·exact hk
   ·rw[d9 (Ne.symm hk)]at q;exact q8m hno q
 ·rcases e8.mp (P2.mp ha)with z | z
  ·rw[z,hp'];intro q;cases q
  ·intro q;exact R.hid.ot a z (s.free q)
 ·rcases e8.mp ha with z | z
  ·exact⟨_,by rw[z];exact hp',rfl⟩
  ·obtain⟨ys,q,m⟩:=R.hid.wl a z;exact⟨ys,s _ _ q,m⟩
 ·rcases e8.mp ha with z | z
  ·intro q;exact R.hid.ot p (z8 _ (by rw[←z];exact q)) hp
  ·exact R.hid.dj a z
theorem RSt.write(R:RSt D H σ δ O W)(hi:δ[i]? = some (.own (.lst ds)))(ha:σ[i]? = some (some (.ref a)))(r:RepL D (L2.wo (O++W) H) ds' xs') :
  RSt D (upd H a (.lst xs')) σ (δ.set i (.own (.lst ds'))) O W:=by
 obtain⟨a',xs,ds0,e0,e1,e2,e3,e4⟩:=R.own i _ hi;rw[ha]at e1;cases e1;have old:Same (L2.wo (O++W) H) (L2.wo (O++W) (upd H a (.lst xs'))):=λb o e=>by obtain⟨hb,e⟩:=C4 e;rw[j9 hb,j6 λz=>hb (by rw[z];exact y9 _ e2)];exact e
 have hl:i<δ.length:=(u5.mp hi).1;refine⟨λj d h=>?_,λj ds'' h=>?_,λj k b d1 d2 h1 h2 q1 q2=>?_,λj d h=>?_,λj d h=>by
   have hj:=j1 h (by intro z;cases z);rw[d9 (Ne.symm hj)]at h;obtain⟨⟨p1,L,f0,f1,f2,f3⟩,u,n⟩:=R.o2 j d h;refine⟨⟨p1,L,f0,f1,f2.write (f3 i _ a hi ha),λk d2 b q q2=>?_⟩,λk d2 q=>?_,λk d2 q=>?_⟩
   ·by_cases hk:k=i
    ·subst hk;exact f3 k _ b hi q2
    ·rw[d9 (Ne.symm hk)]at q;exact f3 k d2 b q q2
   ·have hk:=j1 q (by intro z;cases z);rw[d9 (Ne.symm hk)]at q;exact u k d2 q
   ·have hk:=j1 q (by intro z;cases z);rw[d9 (Ne.symm hk)]at q;exact n k d2 q,R.od.step (z0J (by intro d z;cases z)) (λ_ h _=>h) (λb kvs _ h m=>by rw[j6 (λz=>by rw[z,e3]at h;cases h;cases m)];exact h),by rw[v4];exact R.len,⟨λb hb q=>?_,Same.refl _,λb hb=>?_,R.hid.dj,R.hid.omW (by assumption)⟩⟩
 ·have hj:=j1 h (by intro z;cases z);rw[d9 (Ne.symm hj)]at h;obtain⟨v,q1,q2⟩:=R.val j d h;exact⟨v,q1,q2.mono old⟩
 ·by_cases hj:j=i
  ·subst hj;obtain⟨_,e⟩:=P3 h;cases e;exact⟨a,xs',ds',rfl,ha,e2,y6,r.mono old⟩
  ·rw[d9 (Ne.symm hj)]at h;obtain⟨b,ys,ds1,q0,q1,q2,q3,q4⟩:=R.own j ds'' h;refine⟨b,ys,ds1,q0,q1,q2,?_,q4.mono old⟩;rw[j6 λz=>hj (R.inj j i a ds'' _ h hi (by rw[←z];exact q1) ha)];exact q3
 ·have key:∀{j:Nat} {d1:DV},(δ.set i (.own (.lst ds')))[j]? = some (.own d1)->∃d0,δ[j]? = some (.own d0):=λ{j d1} h=>by
   by_cases hj:j=i
   ·subst hj;exact⟨_,hi⟩
   ·rw[d9 (Ne.symm hj)]at h;exact⟨d1,h⟩
  obtain⟨d1',z1⟩:=key h1;obtain⟨d2',z2⟩:=key h2;exact R.inj j k b d1' d2' z1 z2 q1 q2
 ·have hj:=j1 h (by intro z;cases z);rw[d9 (Ne.symm hj)]at h;obtain⟨⟨t,ts,p1,ys,ds1,es,f0,f1,f2,f3,f4,f5,f6,f7⟩,u⟩:=R.ot j d h;refine⟨⟨t,ts,p1,ys,ds1,es,f0,f1,old.tseq f2,f3,?_,f5.mono old,f6.mono old,λk d2 q=>?_⟩,λk d2 q=>?_⟩
  ·rw[j6 λz=>f7 i _ hi (by rw[z];exact ha)];exact f4
  ·by_cases hk:k=i
   ·subst hk;exact f7 k _ hi
   ·rw[d9 (Ne.symm hk)]at q;exact f7 k d2 q
  ·have hk:=j1 q (by intro z;cases z);rw[d9 (Ne.symm hk)]at q;exact u k d2 q
 ·by_cases hba:b=a
  ·rw[hba,y6]at q;cases q
  ·rw[j6 hba]at q;exact R.hid.ot b hb q
 ·by_cases hba:b=a
  ·exact⟨_,by rw[hba];exact y6,rfl⟩
  ·obtain⟨ys,q,m⟩:=R.hid.wl b hb;exact⟨ys,by rw[j6 hba];exact q,m⟩
theorem q1Q{H0 H:Hp}{a:Addr}{o:HO}(h:Same H0 H)(ha:H0 a=none):Same H0 (upd H a o):=λb u e=>by
 rw[j6 (D9 e ha)];exact h b u e
theorem z5g{Dn:Ends}{σ:St}{H H0:Hp}{O W:List Addr}{own:Bool}{d:DV}{cl:Cl}{D:Dm}(h:(if own then V9 i δ d cl else(if stro d cl then some (.nx (δ.set i (.val d)))else none))=some o)
  (R:RSt D H σ δ O W) (fr:∀a∈W,H0 a=none) (sm:Same H0 H) (k:dEnd D E H0 O Dn o):∀v H',Same H H'->Got D O W H H' d cl v->Dn.nx (σ.set i (some v)) H':=λv H1 s1 g=>by
 cases own with
 | true=>
  simp only[if_true]at h;unfold V9 at h;split at h
  ·cases h;obtain⟨p,xs,ds,e1,e2,e3,e4,e5⟩:=g;subst e1 e2;exact k _ H1 (p::W) (R.alloc s1 e3 e4 e5 i) (λa ha=>by
    rcases e8.mp ha with z | z
    ·rw[z];exact sm.free e3
    ·exact fr a z) (sm.trans s1)
  ·split at h
   ·rename_i hno;cases h;obtain⟨t,ts,p,xs,ds,es,e1,e2,e0,e3,e4,e5,e6⟩:=g;subst e1 e2;exact k _ H1 (p::W) (R.allocT s1 e0 e3 e4 e5 e6 i hno) (λa ha=>by
     rcases e8.mp ha with z | z
     ·rw[z];exact sm.free e3
     ·exact fr a z) (sm.trans s1)
   ·cases h
  ·cases h
 | false=>
  simp only[N9,if_false]at h;split at h
  ·rename_i m;cases h;exact k _ H1 W ((R.mono s1).setVal (g.stro (R.hid.mono s1) m) i) fr (sm.trans s1)
  ·cases h
theorem z1s{own:Bool}(hN:X.N.Nodup)(hi:X.N[i]? = some x)(hx:Loc X.env.scope x)(hf:X.fn x=true\/X.env.scope.names.lookup x=some .local)(ha:∀q,ra=some q->PE X e (dE X.D E δ q))(hc:swapsWith e (some (.Name x pos')) pos.line X.env=pure false)
  (h:(Re.thnS δ ra λd c=>if own then V9 i δ d c else(if stro d c then some (.nx (δ.set i (.val d)))else none))=some o):PS X (.Assign [.Name x pos'] e pos) (dS X.D E δ o):=by
 cases hra:ra with
 | none=>rw[hra]at h;cases h
 | some q=>
  rw[hra]at h;have A:=ha q hra;cases q with
  | ex c=>cases h;exact(q9v hN hi hx A hc hf).weak λDn σ H ⟨H0,O,W,R,fr,fo,sm,k⟩=>⟨O,W,R,L9 R fr sm k⟩
  | ok d cl=>exact(q9v hN hi hx A hc hf).weak λDn σ H ⟨H0,O,W,R,fr,fo,sm,k⟩=>⟨O,W,R,z5g h R fr sm k⟩
theorem q8k{own:Bool}{tgE iter elt:Expr}{ifs:List Expr}{scope:Scope}{N':List Str}{fr:List (Option Nat)}{tg:Tg}{re:Re}(S:CompScope X.N N' scope X.env.scope fr)(hc:X.calm=true)(hN:X.N.Nodup)(hi:X.N[i]? = some x)(hx:X.env.scope.names.lookup x=some .local)
  (P:T8 X E δ tgE iter ifs elt scope N' fr tg re) (hG:∀C cells s₂ H₂ fp,PG (o8 X scope N' C cells s₂ H₂ fp) tgE (gT X.K tg)) (hset:E6 iter=false) {cpos:Pos} (hsw:swapsWith (.ListComp elt [⟨tgE,iter,ifs,0⟩] scope cpos) (some (.Name x pos')) pos.line X.env=pure true)
  (h:(Re.thnS δ (some re) λd c=>if own then V9 i δ d c else(if stro d c then some (.nx (δ.set i (.val d)))else none))=some o):PS X (.Assign [.Name x pos'] (.ListComp elt [⟨tgE,iter,ifs,0⟩] scope cpos) pos) (dS X.D E δ o):=by
 obtain⟨wi,tc,te,h1,h2,h3,h4⟩:=P;refine(q9M S hc hN hi hx h1 hG h2 h3 hsw (q6l hset)).weak λDn σ H ⟨H0,O,W,R,fr,fo,sm,k⟩=>h4 σ H _ ⟨O,W,R,?_⟩
 cases re with
 | ex c=>cases h;exact L9 R fr sm k
 | ok d cl=>exact z5g h R fr sm k
theorem z0Z(hv:PE X (.Name x npos) (tVar i))(hline:(apos.endLine==cpos.line)=true)
  (h:(match δ[i]? with
   | some (.own (.lst _))=>some (Out.nx (δ.set i (.own (.lst []))))
   | _=>none)=some o):PS X (.Expr (.Call (.Attribute (.Name x npos) "clear" apos) [] [] cpos) pos) (dS X.D E δ o):=by
 split at h
 ·rename_i ds hi;cases h;exact(q5a (pos:=pos) (z4N w2g PySem.F.slot_list_clear PySem.F.type_list_clear z3t hv rfl hline) rfl).weak λDn σ H ⟨H0,O,W,R,fr,fo,sm,k⟩=>by obtain⟨a,xs,ds0,e0,e1,e2,e3,e4⟩:=R.own i _ hi;cases e0;refine⟨.ref a,e1,.inl ⟨rfl,xs,SqL.of e3⟩,a,xs,rfl,rfl,e3,?_⟩;exact k σ _ W (R.write hi e1 (x8.mpr rfl)) fr (q1Q sm (fr a e2))
 ·cases h
theorem q9Q(hv:PE X (.Name x npos) (tVar i))(he:∀q,ra=some q->PE X e (dE X.D E δ q))(hs:m7 e=false)(hline:(apos.endLine==cpos.line)=true)
  (h:(match δ[i]? with
   | some (.own (.lst ds))=>Re.thnS δ ra λd c=>if stro d c/\ds.length<mostLen then some (.nx (δ.set i (.own (.lst (ds++[d])))))else none
   | _=>none)=some o):PS X (.Expr (.Call (.Attribute (.Name x npos) "append" apos) [e] [] cpos) pos) (dS X.D E δ o):=by
 split at h
 ·rename_i ds hi;have C:=λt (hA:PE X e t)=>q5a (pos:=pos) (z9M w2g PySem.F.slot_list_append PySem.F.type_list_append z2o hv (L3 hA V6 (t6 hs)) rfl (by rw[t6 hs];rfl) hline (t6 hs) rfl) rfl
  cases hra:ra with
  | none=>rw[hra]at h;cases h
  | some q=>
   rw[hra]at h;have A:=he q hra;cases q with
   | ex c=>
    cases h;exact(C _ A).weak λDn σ H ⟨H0,O,W,R,fr,fo,sm,k⟩=>by obtain⟨a,xs,ds0,e0,e1,e2,e3,e4⟩:=R.own i _ hi;exact⟨.ref a,e1,.inl ⟨rfl,xs,SqL.of e3⟩,O,W,R,L9 (Q:=λ_ _=>False) R fr sm k⟩
   | ok d cl=>
    have h':(if stro d cl/\ds.length<mostLen then some (Out.nx (δ.set i (.own (.lst (ds++[d])))))else none)=some o:=h;split at h'
    ·rename_i m;cases h';exact(C _ A).weak λDn σ H ⟨H0,O,W,R,fr,fo,sm,k⟩=>by obtain⟨a,xs,ds0,e0,e1,e2,e3,e4⟩:=R.own i _ hi;cases e0;refine⟨.ref a,e1,.inl ⟨rfl,xs,SqL.of e3⟩,O,W,R,λv H1 s1 g=>?_⟩;have R1:=R.mono s1;refine⟨a,xs,v,rfl,rfl,s1 _ _ e3,by rw[e4.length];exact u4 m.2 (by decide),?_⟩;exact k σ _ W (R1.write hi e1 ((e4.mono s1.wo).append (RepL.one (g.stro (R.hid.mono s1) m.1)))) fr (q1Q (sm.trans s1) (fr a e2))
    ·cases h'
 ·cases h
theorem z0R(hv:PE X (.Name x npos) (tVar i))(he:∀q,ra=some q->PE X e (dE X.D E δ q))(hx:∀q,rb=some q->PE X ix (dE X.D E δ q))(hsl:P0 ix=false)
  (h:(match δ[i]? with
   | some (.own (.lst ds))=>Re.thnS δ ra λd c=>Re.thnS δ rb λk _=>(match k with
    | .int k=>(match A4 ds.length k with
     | some j=>if stro d c then some (.nx (δ.set i (.own (.lst (ds.set j d)))))else none
     | none=>none)
    | _=>none)
   | _=>none)=some o):PS X (.Assign [.Subscript (.Name x npos) ix spos] e pos) (dS X.D E δ o):=by
 have sub:∀v,assign (.Subscript (.Name x npos) ix spos) X.env v=(do
   let ov ←holding [v] (eval (.Name x npos) X.env)
   let iv ←holding [v,ov] (eval ix X.env)
   standAt spos
   holding [v,ov,iv] (setItem ov iv v)
   release [v,ov,iv] []):=by cases ix<;>first | (intro _;rfl) | cases hsl
 have C:=λt tk (hA:PE X e t) (hK:PE X ix tk)=>z8O (pos:=pos) hA (y0B hv hK z3h sub) (by cases e<;>rfl) (by cases e<;>rfl) rfl;split at h
 ·rename_i ds hi;cases hra:ra with
  | none=>rw[hra]at h;cases h
  | some q=>
   rw[hra]at h;have A:=he q hra;cases q with
   | ex c=>
    cases h;exact(C _ _ A K5).weak λDn σ H ⟨H0,O,W,R,fr,fo,sm,k⟩=>⟨O,W,R,L9 (Q:=λ_ _=>False) R fr sm k⟩
   | ok d cl=>
    cases hrb:rb with
    | none=>rw[hrb]at h;cases h
    | some q=>
     rw[hrb]at h;have B:=hx q hrb;cases q with
     | ex c=>
      cases h;exact(C _ _ A B).weak λDn σ H ⟨H0,O,W,R,fr,fo,sm,k⟩=>⟨O,W,R,λv H1 s1 g=>by
       have R1:=R.mono s1;obtain⟨a,xs,ds0,e0,e1,e2,e3,e4⟩:=R1.own i _ hi;exact⟨.ref a,e1,O,W,R1,L9 (Q:=λ_ _=>False) R1 fr (sm.trans s1) k⟩⟩
     | ok dk ck=>
      have h':(match(generalizing:=false) dk with
       | .int k=>(match A4 ds.length k with
        | some j=>if stro d cl then some (Out.nx (δ.set i (.own (.lst (ds.set j d)))))else none
        | none=>none)
       | _=>none)=some o:=h
      split at h'
      ·rename_i k0;split at h'
       ·rename_i j hj;split at h'
        ·rename_i m;cases h';exact(C _ _ A B).weak λDn σ H ⟨H0,O,W,R,fr,fo,sm,k⟩=>⟨O,W,R,λv H1 s1 g=>by
          have R1:=R.mono s1;obtain⟨a,xs,ds0,e0,e1,e2,e3,e4⟩:=R1.own i _ hi;cases e0;refine⟨.ref a,e1,O,W,R1,λy H2 s2 g2=>?_⟩;have R2:=R1.mono s2;refine⟨a,xs,k0,j,rfl,g2.int (R1.hid.mono s2),s2 _ _ e3,by rw[e4.length];exact hj,?_⟩;exact k σ _ W (R2.write hi e1 (RepL.set ((g.mono s2).stro ((R.hid.mono s1).mono s2) m) j (e4.mono s2.wo))) fr (q1Q ((sm.trans s1).trans s2) (fr a e2))⟩
        ·cases h'
       ·cases h'
      ·cases h'
 ·cases h
theorem RSt.freeze(R:RSt D H σ δ O W)(hi:δ[i]? = some (.own d)):∃W',(∀a∈W',a∈W)/\RSt D H σ (δ.set i (.val d)) O W':=by
 obtain⟨a,xs,ds,e0,e1,e2,e3,e4⟩:=R.own i d hi;subst e0;have hl:i<δ.length:=(u5.mp hi).1;have sub:∀b∈O++W.filter (λb=>decide (b≠a)),b∈O++W:=λb hb=>by
  rcases A3.mp hb with z | z
  ·exact z8 _ z
  ·exact y9 _ (u9.mp z).1
 have hao:a∉O++W.filter (λb=>decide (b≠a)):=λz=>by
  rcases A3.mp z with z | z
  ·exact R.hid.dj a e2 z
  ·exact absurd rfl (of_decide_eq_true (u9.mp z).2)
 refine⟨W.filter λb=>decide (b≠a),λb hb=>(u9.mp hb).1,⟨λj d h=>?_,λj ds' h=>?_,λj k b d1 d2 h1 h2 q1 q2=>?_,λj d h=>?_,λj d h=>by
   have hj:=j1 h (by intro z;cases z);rw[d9 (Ne.symm hj)]at h;obtain⟨⟨p1,L,f0,f1,f2,f3⟩,u,n⟩:=R.o2 j d h;refine⟨⟨p1,L,f0,f1,f2.sub λb hb hbw=>u9.mpr ⟨hbw,B8 λz=>f3 i _ a hi e1 (by rw[←z];exact hb)⟩,λk d2 b q q2=>?_⟩,λk d2 q=>?_,λk d2 q=>?_⟩
   ·have hk:=j1 q (by intro z;cases z);rw[d9 (Ne.symm hk)]at q;exact f3 k d2 b q q2
   ·have hk:=j1 q (by intro z;cases z);rw[d9 (Ne.symm hk)]at q;exact u k d2 q
   ·have hk:=j1 q (by intro z;cases z);rw[d9 (Ne.symm hk)]at q;exact n k d2 q,R.od.step (z0J (by intro d z;cases z)) (λb hb ⟨kvs,h,m⟩=>u9.mpr ⟨hb,B8 λz=>by rw[z,e3]at h;cases h;cases m⟩) (λ_ _ _ h _=>h),by rw[v4];exact R.len,
  ⟨λb hb=>R.hid.ot b (sub b hb),Same.refl _,λb hb=>R.hid.wl b (u9.mp hb).1,λb hb=>R.hid.dj b (u9.mp hb).1,R.hid.om⟩⟩⟩
 ·by_cases hj:j=i
  ·subst hj;obtain⟨_,e⟩:=P3 h;cases e;exact⟨.ref a,e1,y7.mpr ⟨a,xs,rfl,by rw[j9 hao];exact e3,e4.mono (y8 sub)⟩⟩
  ·rw[d9 (Ne.symm hj)]at h;obtain⟨v,q1,q2⟩:=R.val j d h;exact⟨v,q1,q2.mono (y8 sub)⟩
 ·have hj:=j1 h (by intro z;cases z);rw[d9 (Ne.symm hj)]at h;obtain⟨b,ys,ds1,q0,q1,q2,q3,q4⟩:=R.own j ds' h;refine⟨b,ys,ds1,q0,q1,u9.mpr ⟨q2,B8 λz=>hj (R.inj j i a ds' _ h hi (by rw[←z];exact q1) e1)⟩,q3,q4.mono (y8 sub)⟩
 ·have n1:=j1 h1 (by intro z;cases z);have n2:=j1 h2 (by intro z;cases z);rw[d9 (Ne.symm n1)]at h1;rw[d9 (Ne.symm n2)]at h2;exact R.inj j k b d1 d2 h1 h2 q1 q2
 ·have hj:=j1 h (by intro z;cases z);rw[d9 (Ne.symm hj)]at h;obtain⟨⟨t,ts,p1,ys,ds1,es,f0,f1,f2,f3,f4,f5,f6,f7⟩,u⟩:=R.ot j d h;refine⟨⟨t,ts,p1,ys,ds1,es,f0,f1,(y8 sub).tseq f2,u9.mpr ⟨f3,B8 λz=>f7 i _ hi (by rw[z];exact e1)⟩,f4,f5.mono (y8 sub),f6.mono (y8 sub),λk d2 q=>?_⟩,λk d2 q=>?_⟩
  ·have hk:=j1 q (by intro z;cases z);rw[d9 (Ne.symm hk)]at q;exact f7 k d2 q
  ·have hk:=j1 q (by intro z;cases z);rw[d9 (Ne.symm hk)]at q;exact u k d2 q
theorem z0i(hi:δ[i]? = some (.own d))(h:PSs X rest (dS X.D E (δ.set i (.val d)) o)):PSs X rest (dS X.D E δ o):=h.weak λDn σ H ⟨H0,O,W,R,fr,fo,sm,k⟩=>by
 obtain⟨W',hs,R'⟩:=R.freeze hi;exact⟨H0,O,W',R',λa ha=>fr a (hs a ha),fo,sm,k⟩
end
end
section
section
variable {X:Cx} {E:St->XK} {δ δ1:List Sv} {o:Out} {e c:Expr} {pos pos':Pos} {ra:Option Re} {i:Nat} {x:Str}
theorem Got.seq{D:Dm}{O W:List Addr}{H0 H:Hp}{d:DV}{ys:List DV}{b:Bool}{c:Cl}{v:V}(g:Got D O W H0 H d c v)(hd:Hid O W H0 H)(hc:c=.strong\/c=.fresh)(hk:z0K d=some (b,ys)):∃a xs,v=.ref a/\(SqL D.K H a xs\/SqT D.K H a xs)/\RepL D (L2.wo (O++W) H) ys xs:=by
 have hw:c ≠ .weak:=by rcases hc with z | z<;>(rw[z];intro q;cases q)
 unfold z0K at hk;split at hk
 ·cases hk;obtain⟨a,xs,e1,e2,e3⟩:=g.items hd hw;exact⟨a,xs,e1,.inl (SqL.of e2),e3⟩
 ·cases hk;obtain⟨a,xs,e1,e2,e3⟩:=g.itemsT hd hw;exact⟨a,xs,e1,.inr e2,e3⟩
 ·cases hk
theorem z0r(hv:PE X (.Name x npos) (tVar i))(he:∀q,ra=some q->PE X e (dE X.D E δ q))(hs:m7 e=false)(hline:(apos.endLine==cpos.line)=true)
  (h:(match δ[i]? with
   | some (.own (.lst ds))=>Re.thnS δ ra λd c=>if c=.strong\/c=.fresh then(match z0K d with
    | some (_,ys)=>if ds.length+ys.length<=mostLen then some (.nx (δ.set i (.own (.lst (ds++ys)))))else none
    | none=>none)else none
   | _=>none)=some o):PS X (.Expr (.Call (.Attribute (.Name x npos) "extend" apos) [e] [] cpos) pos) (dS X.D E δ o):=by
 split at h
 ·rename_i ds hi;have C:=λt (hA:PE X e t)=>q5a (pos:=pos) (z9M w2g PySem.F.slot_list_extend PySem.F.type_list_extend z9u hv (L3 hA V6 (t6 hs)) rfl (by rw[t6 hs];rfl) hline (t6 hs) rfl) rfl
  cases hra:ra with
  | none=>rw[hra]at h;cases h
  | some q=>
   rw[hra]at h;have A:=he q hra;cases q with
   | ex c=>
    cases h;exact(C _ A).weak λDn σ H ⟨H0,O,W,R,fr,fo,sm,k⟩=>by obtain⟨a,xs,ds0,e0,e1,e2,e3,e4⟩:=R.own i _ hi;exact⟨.ref a,e1,.inl ⟨rfl,xs,SqL.of e3⟩,O,W,R,L9 (Q:=λ_ _=>False) R fr sm k⟩
   | ok d cl=>
    have h':(if cl=.strong\/cl=.fresh then(match z0K d with
     | some (_,ys)=>if ds.length+ys.length<=mostLen then some (Out.nx (δ.set i (.own (.lst (ds++ys)))))else none
     | none=>none)else none)=some o:=h
    split at h'
    ·rename_i hcl;split at h'
     ·rename_i b ys hk;split at h'
      ·rename_i m;cases h';exact(C _ A).weak λDn σ H ⟨H0,O,W,R,fr,fo,sm,k⟩=>by obtain⟨a,xs,ds0,e0,e1,e2,e3,e4⟩:=R.own i _ hi;cases e0;refine⟨.ref a,e1,.inl ⟨rfl,xs,SqL.of e3⟩,O,W,R,λv H1 s1 g=>?_⟩;have R1:=R.mono s1;obtain⟨a2,xs2,f1,f2,f3⟩:=g.seq (R.hid.mono s1) hcl hk;refine⟨a,a2,xs,xs2,rfl,by rw[f1],s1 _ _ e3,f2,by rw[e4.length,f3.length];exact i7 m (by decide),?_⟩;exact k σ _ W (R1.write hi e1 ((e4.mono s1.wo).append f3)) fr (q1Q (sm.trans s1) (fr a e2))
      ·cases h'
     ·cases h'
    ·cases h'
 ·cases h
end
end
section
theorem PSs.any{X:Cx}{body:List Stmt}{ι:Sort _}{t:ι->TS}(h:∀k,PSs X body (t k)):PSs X body (λD σ H=>∃k,t k D σ H):=λpins s σ H D I ⟨k,q⟩=>h k pins s σ H D I q
structure Lp(H0 H1:Hp)(O W:List Addr):Prop where
 out:∀{H:Hp},Same (L2.wo W H1) H->Same H0 H
 outW:∀{a:Addr},L2.wo W H1 a=none->H0 a=none
 in1:∀a∈W,L2.wo W H1 a=none
 in2:∀a∈O,L2.wo W H1 a≠none
 wsame:∀{H:Hp},Same (L2.wo W H1) H->Same (L2.wo (O++W) H1) (L2.wo (O++W) H)
theorem Lp.mk'(fr:∀a∈W,H0 a=none)(fo:∀a∈O,H0 a≠none)(sm:Same H0 H1):Lp H0 H1 O W where
 out:=λ{H} s b u e=>s b u (by
  rw[j9 λz=>by rw[fr b z]at e;cases e];exact sm b u e)
 outW:=λ{a} q=>by
  by_cases z:a∈W
  ·exact fr a z
  ·rw[j9 z]at q;exact sm.free q
 in1:=λa ha=>z8N ha
 in2:=λa ha=>by rw[j9 λz=>fo a ha (fr a z)];intro q;exact fo a ha (sm.free q)
 wsame:=λ{H} s b u e=>by obtain⟨hb,e⟩:=C4 e;rw[j9 hb];exact s b u (by rw[j9 λz=>hb (y9 _ z)];exact e)
theorem Lp.gotR(L:Lp H0 H1 O W)(g:GotR D O (L2.wo W H1) H d fr v):GotR D O H0 H d fr v:=by
 cases fr with
 | false=>exact g
 | true=>
  obtain⟨p,xs,ds,e1,e2,e3,e4,e5⟩:=g;exact⟨p,xs,ds,e1,e2,L.outW e3,e4,e5⟩
theorem Lp.gotT(L:Lp H0 H1 O W)(g:GotT D O (L2.wo W H1) H d v):GotT D O H0 H d v:=by
 rcases g with⟨t,ts,p,xs,ds,es,e1,e2,e0,e3,e4,e5,e6⟩ | ⟨xs,e1,e2⟩
 ·exact .inl ⟨t,ts,p,xs,ds,es,e1,e2,e0,L.outW e3,e4,e5,e6⟩
 ·exact .inr ⟨xs,e1,e2.since λa ha=>L.outW ha⟩
section
variable {X:Cx} {E:St->XK} {δ:List Sv} {tgE iter c:Expr} {body:List Stmt} {o:Out} {pos:Pos} {tg:Tg} {ri:Option Ri} {evB:List Sv->Option Out} {evC:List Sv->Option Rt}
theorem z7p(hp:PassesOwn (model X.prog X.w) X.A X.env X.xe)(hc:X.calm=true)(hi:∀q,ri=some q->PI X tgE iter (dI X.D E δ q))(hG:PG X tgE (gT X.K tg))(hb:∀δ' o,evB δ'=some o->PSs X body (dS X.D E δ' o))(hset:E6 iter=false)
  (h:(Ri.thnS δ ri λds c=>if c=.strong\/c=.fresh then A9 tg evB ds δ else none)=some o):PS X (.For tgE iter body [] pos) (dS X.D E δ o):=by
 have B:PSs X body (λD σ H=>∃k:{p:List Sv×Out // evB p.1=some p.2},dS X.D E k.1.1 k.1.2 D σ H):=PSs.any λk=>hb k.1.1 k.1.2 k.2;cases hri:ri with
 | none=>rw[hri]at h;cases h
 | some q=>
  rw[hri]at h;have A:=hi q hri;cases q with
  | ex c=>cases h;exact(z4Z hp hc A hG B (q6l hset)).weak λDn σ H ⟨H0,O,W,R,fr,fo,sm,k⟩=>⟨O,W,R,λH' C m s=>k σ H' W C m (R.mono s) fr (sm.trans s)⟩
  | ok ds c=>
   have h':(if c=.strong\/c=.fresh then A9 tg evB ds δ else none)=some o:=h;split at h'
   ·rename_i m;refine(z4Z hp hc A hG B (q6l hset)).weak λDn σ H ⟨H0,O,W,R,fr,fo,sm,k⟩=>⟨O,W,R,λJ H1 s1 w=>?_⟩
    have R1:=R.mono s1;have L:=Lp.mk' fr fo (sm.trans s1);have w:Wk X.D J ds (O++W) (O++W) H1:=(by rcases m with m | m<;>subst m<;>exact w);refine⟨λi n σ H=>n=ds.length - i/\i<=ds.length/\∃δi W',A9 tg evB (ds.drop i) δi=some o/\RSt X.D H σ δi O W'/\(∀a∈W',L2.wo W H1 a=none)/\Same (L2.wo W H1) H,
     ⟨ds.length,rfl,A7 _,δ,W,h',R1,L.in1,r9⟩,?_⟩
    rintro i n σ2 H2 ⟨rfl,hi,δi,W2,hgo,R2,b1,b2⟩
    by_cases hlt:i<ds.length
    ·refine .inr ⟨w.go i H2 (L.wsame b2) hlt,λσ H=>∃δi W',A9 tg evB (ds.drop (i+1)) δi=some o/\RSt X.D H σ δi O W'/\(∀a∈W',L2.wo W H1 a=none)/\Same (L2.wo W H1) H,
      λσ' H' q=>⟨ds.length - (i+1),by omega,rfl,hlt,q⟩,λx H3 y=>?_⟩
     have y1:=w.same i H2 x H3 y;have y3:Rep X.D (L2.wo (O++W2) H3) ds[i] x:=w.yld i H2 x H3 _ (O++W2) (L.wsame b2) (L.wsame b2) y (p7 hlt) λa ha=>⟨R2.hid.ot a ha,by
      rcases A3.mp ha with z | z
      ·exact .inl (z8 _ z)
      ·have q:=b1 a z;by_cases hw:a∈W
       ·exact .inl (y9 _ hw)
       ·rw[j9 hw]at q;exact .inr q⟩
     rw[w3H hlt]at hgo;unfold A9 at hgo;split at hgo
     ·cases hgo
     ·rename_i δ1 hb1;refine q7S (R2.mono y1) y3 hb1 λσ3 R3=>?_
      split at hgo
      ·rename_i δ2 hev;exact⟨⟨⟨δ1,.nx δ2⟩,hev⟩,L2.wo W H1,O,W2,R3,b1,L.in2,b2.trans y1,λσ' H' W' R' fr' sm'=>⟨δ2,W',hgo,R',fr',sm'⟩⟩
      ·rename_i hne;refine⟨⟨⟨δ1,o⟩,hgo⟩,L2.wo W H1,O,W2,R3,b1,L.in2,b2.trans y1,?_⟩;cases o with
       | nx δ2=>exact absurd hgo (hne δ2)
       | rt d fr'=>exact λv H' s' g=>k v H' (L.out s') (L.gotR g)
       | rtt d=>exact λv H' s' g=>k v H' (L.out s') (L.gotT g)
       | ex c' δ'=>exact λσ' H' W' C m R' fr' sm'=>k σ' H' W' C m R' (λa ha=>L.outW (fr' a ha)) (L.out sm')
    ·have e:i=ds.length:=by omega
     subst e;rw[w3Q]at hgo;cases hgo;exact .inl ⟨w.stop H2 (L.wsame b2),k σ2 H2 W2 R2 (λa ha=>L.outW (b1 a ha)) (L.out b2)⟩
   ·cases h'
end
end
section
section
variable {κ:Type} [DecidableEq κ]
def valV(kvs:List (κ×V))(k:κ):Option V:=(kvs.find? λkv=>decide (kv.1=k)).map (·.2)
def putK(kvs:List (κ×V))(k:κ)(v:V):List (κ×V):=
 if(kvs.any λkv=>decide (kv.1=k))=true then kvs.map (λkv=>if kv.1=k then(kv.1,v)else kv)else kvs++[(k,v)]
theorem q3c{p:κ×V}{r:List (κ×V)}{k:κ}(e:p.1=k):valV (p::r) k=some p.2:=by simp[valV,Z5,e]
theorem q3g{p:κ×V}{r:List (κ×V)}{k:κ}(e:¬p.1=k):valV (p::r) k=valV r k:=by simp[valV,Z5,e]
theorem q6n(k:κ):∀kvs:List (κ×V),(kvs.any λkv=>decide (kv.1=k))=(valV kvs k).isSome
 | []=>rfl
 | p::r=>by
  rw[D8];by_cases e:p.1=k
  ·simp only[q3c e,B8 e,Bool.true_or,Option.isSome_some]
  ·rw[q3g e,D4 e,w4u];exact q6n k r
theorem q5v(kvs:List (κ×V))(k:κ)(v:V):(putK kvs k v).length<=kvs.length+1:=by
 unfold putK;split
 ·rw[d5];omega
 ·rw[p9,x4,w33];omega
theorem RelO.isSome_eq(r:RelO o u):o.isSome=u.isSome:=by
 cases o with
 | none=>cases u with
  | none=>rfl
  | some _=>exact(show False from r).elim
 | some _=>cases u with
  | none=>exact(show False from r).elim
  | some _=>rfl
theorem KV.val(r:KV kvs vs)(k:κ):RelO (valV kvs k) (valueAt vs k):=by
 unfold KV at r
 induction r with
 | nil=>exact True.intro
 | @cons p q ps qs h t ih=>
  obtain⟨h1,h2⟩:=h;by_cases e:p.1=k
  ·have e':q.1=k:=h1.symm.trans e;have b:valueAt (q::qs) k=some q.2:=by simp[valueAt,Z5,e']
   rw[q3c e,b];exact h2
  ·have e':¬q.1=k:=λz=>e (h1.trans z);have b:valueAt (q::qs) k=valueAt qs k:=by simp[valueAt,Z5,e']
   rw[q3g e,b];exact ih
theorem KV.any(r:KV kvs vs)(k:κ):(kvs.any λkv=>decide (kv.1=k))=vs.any λkv=>decide (kv.1=k):=by
 unfold KV at r
 induction r with
 | nil=>rfl
 | cons h t ih=>rw[D8,D8,ih,h.1]
theorem KV.repl(r:KV kvs vs)(k:κ)(ry:RelV y u) :
  KV (kvs.map λkv=>if kv.1=k then(kv.1,y)else kv) (vs.map λkv=>if kv.1=k then(kv.1,u)else kv):=by
 unfold KV at r ⊢
 induction r with
 | nil=>exact .nil
 | @cons p q ps qs h t ih=>
  rw[y0,y0];refine .cons ?_ ih;obtain⟨h1,h2⟩:=h;by_cases e:p.1=k
  ·rw[b8 e,b8 (h1.symm.trans e)];exact⟨h1,ry⟩
  ·rw[d7 e,d7 (λz=>e (h1.trans z))];exact⟨h1,h2⟩
theorem KV.put(r:KV kvs vs)(k:κ)(ry:RelV y u):KV (putK kvs k y) (stored vs k u):=by
 unfold putK stored;rw[r.any k];by_cases e:(vs.any λkv=>decide (kv.1=k))=true
 ·rw[b8 e,b8 e];exact r.repl k ry
 ·rw[d7 e,d7 e];exact Paired.snoc r ⟨rfl,ry⟩
theorem KV.length(r:KV kvs vs):kvs.length=vs.length:=w3t r
end
theorem z7Q(r:RelV (kV k) u):(A8 P w).is k u=true:=by
 cases k with
 | inl i=>obtain⟨t,e⟩:=(show ∃t,u=Value.int i t from r);subst e;exact q8l P w i t
 | inr x=>obtain⟨t,e⟩:=(show ∃t,u=Value.str x t from r);subst e;exact q8u P w x t
theorem q3D:∀{ks:List Key} {us:List Value},Vals (ks.map kV) us->ItemsAre (A8 P w) ks us
 | [],_,r=>by rw[w4w]at r;cases r;exact .nil
 | k::ks,_,r=>by
  rw[y0]at r;cases r with
  | cons h t=>exact .cons (z7Q h) (q3D t)
abbrev KT(H:Hp):List (List Key×V)->List (List Key×Addr×Value)->Prop:=Paired λp q=>p.1=q.1/\H q.2.1=some (.tup (p.1.map kV))/\RelV p.2 q.2.2
theorem KT.val(r:KT H kvs xs)(k:List Key):RelO (valV kvs k) ((atKey xs k).map (·.2)):=by
 induction r with
 | nil=>exact True.intro
 | @cons p q ps qs h t ih=>
  obtain⟨h1,_,h2⟩:=h;by_cases e:p.1=k
  ·have e':q.1=k:=h1.symm.trans e;have b:atKey (q::qs) k=some q.2:=by simp[atKey,Z5,e']
   rw[q3c e,b];exact h2
  ·have e':¬q.1=k:=λz=>e (h1.trans z);have b:atKey (q::qs) k=atKey qs k:=by simp[atKey,Z5,e']
   rw[q3g e,b];exact ih
theorem KT.repl(r:KT H kvs xs)(k:List Key)(ry:RelV y u) :
  KT H (kvs.map λkv=>if kv.1=k then(kv.1,y)else kv) (xs.map (putAt k u)):=by
 induction r with
 | nil=>exact .nil
 | @cons p q ps qs h t ih=>
  rw[y0,y0];refine .cons ?_ ih;obtain⟨h1,h2,h3⟩:=h;unfold putAt;by_cases e:p.1=k
  ·rw[b8 e,b8 (h1.symm.trans e)];exact⟨h1,h2,ry⟩
  ·rw[d7 e,d7 (λz=>e (h1.trans z))];exact⟨h1,h2,h3⟩
theorem KT.put(r:KT H kvs xs)(k:List Key)(hb:H b=some (.tup (k.map kV)))(ry:RelV y u) :
  KT H (putK kvs k y) (storedH xs k b u):=by
 have e:(kvs.any λkv=>decide (kv.1=k))=(atKey xs k).isSome:=(by rw[q6n,(r.val k).isSome_eq,Option.isSome_map]);unfold putK storedH;rw[e];by_cases q:(atKey xs k).isSome=true
 ·rw[b8 q,b8 q];exact r.repl k ry
 ·rw[d7 q,d7 q];exact Paired.snoc r ⟨rfl,hb,ry⟩
theorem KT.keeps(r:KT H kvs xs)(ht:∀b ys,H b=some (.tup ys)->H' b=some (.tup ys)):KT H' kvs xs:=
 Paired.mapP r λ_ _ z=>⟨z.1,ht _ _ z.2.1,z.2.2⟩
section
variable {P:Program} {w:World} {H:Hp} {h:Heap} {a:Addr}
theorem z8a(ok:HOk P w H h)(e:Rd H a u):n4 P w H h a u:=e.ok ok
theorem z7w(ok:HOk P w H h)(e:Rd H a (.dK kvs)):kvs.length<=sizeLine/\(a==sysModules)=false/\∃vs,KV kvs vs/\h.DictOf (A8 P w) a vs:=
 show n4 P w H h a (.dK kvs)from z8a ok e
theorem y0J(ok:HOk P w H h)(e:H a=some (.dK kvs)):kvs.length<=sizeLine/\(a==sysModules)=false/\∃vs,KV kvs vs/\h.DictOf (A8 P w) a vs:=z7w ok (.inl e)
theorem z0I(ok:HOk P w H h)(e:H a=some (.tup (ks.map kV))):(tupleKind (A8 P w)).is h ks a:=by
 obtain⟨_,its,r,o,h1,h2,n,h3⟩:=(show n4 P w H h a (.tup (ks.map kV))from ok a _ e);exact⟨o,its.toArray,n,h1,h2.1,h3,by simpa using q3D r⟩
theorem q9W(ok:HOk P w H h)(e:Rd H a (.dT kvs)):kvs.length<=sizeLine/\(a==sysModules)=false /\
  ∃xs,KT H kvs xs/\h.DictOfH (tupleKind (A8 P w)) a xs:=by
 obtain⟨z,y,xs,r,o,es,ep,h1,h2,h3,h4,h5⟩:=(show n4 P w H h a (.dT kvs)from z8a ok e);refine⟨z,y,xs,r,o,es,ep,h1,h2,h3,h4,λx hx=>?_,h5⟩;have all:∀{l:List (List Key×V)} {m:List (List Key×Addr×Value)},KT H l m->∀x∈m,(tupleKind (A8 P w)).is h x.1 x.2.1:=by
  intro l m q
  induction q with
  | nil=>intro x hx;exact nomatch hx
  | @cons p q ps qs hq t ih=>
   intro x hx;rcases e8.mp hx with e | hx
   ·subst e;exact z0I ok (by rw[←hq.1];exact hq.2.1)
   ·exact ih x hx
 exact all r x hx
theorem y2f(ok:HOk P w H h)(e:H a=some (.dT kvs)):kvs.length<=sizeLine/\(a==sysModules)=false /\
  ∃xs,KT H kvs xs/\h.DictOfH (tupleKind (A8 P w)) a xs:=q9W ok (.inl e)
end
def DGet(H:Hp)(a:Addr)(y:V)(r:Option V):Prop:=
 (∃kvs k,Rd H a (.dK kvs)/\y=kV k/\r=valV kvs k)\/∃kvs k b,Rd H a (.dT kvs)/\y=.ref b/\H b=some (.tup (k.map kV))/\r=valV kvs k
def DPut(H:Hp)(a:Addr)(y v:V)(H':Hp):Prop:=
 (∃kvs k,H a=some (.dK kvs)/\y=kV k/\kvs.length<sizeLine/\H'=upd H a (.dK (putK kvs k v))) \/
 ∃kvs k b,H a=some (.dT kvs)/\y=.ref b/\H b=some (.tup (k.map kV))/\kvs.length<sizeLine/\H'=upd H a (.dT (putK kvs k v))
theorem DPut.t(e:H a=some (.dT kvs))(eb:H b=some (.tup (k.map kV)))(hl:kvs.length<sizeLine) :
  DPut H a (.ref b) v (upd H a (.dT (putK kvs k v))):=.inr ⟨kvs,k,b,e,rfl,eb,hl,rfl⟩
section
variable {X:Cx} {pins:List (Addr×Obj)} {σ:St} {H:Hp} {s:Shared} {a:Addr} {y v:V} {u r:Value} {o:Option V} {A:Around} {E:Value->Shared->Prop}
theorem Inv.big(I:Inv X pins σ H s):sysModules<s.heap.objs.size:=by
 have h:mainGlobals<s.heap.objs.size:=(I.mod.glob.keeps I.bk).lt;exact w3O (by decide) h
theorem z1T(hu:A.units+1<cLine)(I:Inv X pins σ H s)(g:DGet H a y (some v))(ry:RelV y u)(h:∀w' s',Inv X pins σ H s'->RelV v w'->Q w' s') :
  wpAny (model X.prog X.w) A (getItem (.ref a) u) Q E s:=by
 rcases g with⟨kvs,k,e,ey,l⟩ | ⟨kvs,k,b,e,ey,eb,l⟩
 ·subst ey;obtain⟨z,hd,vs,rel,dd⟩:=z7w I.hok e;obtain⟨w',hw,rw'⟩:=RelO.some_of (v:=v) (o:=valueAt vs k) (by rw[l];exact rel.val k);exact wpAny_getItem_of (z7Q ry) dd.mapOf hw (h w' _ (I.tok _) rw')
 ·subst ey;cases(show u=Value.ref b from ry);obtain⟨z,hd,xs,rel,dd⟩:=q9W I.hok e;obtain⟨w',hw,rw'⟩:=RelO.some_of (v:=v) (o:=(atKey xs k).map (·.2)) (by rw[l];exact rel.val k);obtain⟨p,hp,hp2⟩:=u7.mp hw;refine wpAny_getItem_heap (w2M hu) (z0I I.hok eb) dd hp ?_;rw[hp2];exact h w' _ (I.tok _) rw'
theorem z1Y(I:Inv X pins σ H s)(mu:Mut (H a))(hs:Heap.SameBut a s.heap h')(he:∃q,h'.get? a=some q)(new:n4 X.prog X.w (upd H a ob) h' a ob) :
  Inv X pins σ (upd H a ob) {s with heap:=h',toks:=t'}:=
 I.write (x:=a) (e:=a) mu (.inl rfl) (λb q hb z=>(hs.2 b hb).trans z) he new
theorem z8o(z:kvs.length<=sizeLine)(hd:(a==sysModules)=false)(rel:KV kvs vs)(dd:h'.DictOf (A8 P w) a vs) :
  n4 P w H' h' a (.dK kvs):=⟨z,hd,vs,rel,dd⟩
theorem z2G(hu:A.units+1<cLine)(I:Inv X pins σ H s)(g:DPut H a y v H')(ry:RelV y u)(rv:RelV v r)(h:∀s',Inv X pins σ H' s'->Q () s') :
  wpAny (model X.prog X.w) A (setItem (.ref a) u r) Q E s:=by
 rcases g with⟨kvs,k,e,ey,l,eH⟩ | ⟨kvs,k,b,e,ey,eb,l,eH⟩
 ·subst ey eH;obtain⟨z,hd,vs,rel,dd⟩:=y0J I.hok e;have hz:vs.length<=sizeLine:=by rw[←rel.length];exact z
  have hl:(putK kvs k v).length<=sizeLine:=by have:=q5v kvs k v;omega
  refine wpAny_setItem_pairs (hsz:=hz) (z7Q ry) dd λh' dd' hs=>h _ ?_;have he:∃q,h'.get? a=some q:=let ⟨q,_,_,hq,_⟩:=dd';⟨q,hq⟩;exact z1Y I (by rw[e];exact True.intro) hs he (z8o hl hd (rel.put k rv) dd')
 ·subst ey eH;cases(show u=Value.ref b from ry);obtain⟨z,hd,xs,rel,dd⟩:=y2f I.hok e;have hz:xs.length<=sizeLine:=by rw[←w3t rel];exact z
  have hl:(putK kvs k v).length<=sizeLine:=by have:=q5v kvs k v;omega
  refine wpAny_setItem_heap (hsz:=hz) (w2M hu) (z0I I.hok eb) dd λh' dd' hs=>h _ ?_;obtain⟨q,es,ep,hq,h2,h3,h4,_,h5⟩:=dd';refine z1Y I (by rw[e];exact True.intro) hs ⟨q,hq⟩ ⟨hl,hd,_,(rel.put k eb rv).keeps λc ys ec=>?_,q,es,ep,hq,h2,h3,h4,h5⟩;rw[j6 (y1m ec e (λz=>nomatch z))];exact ec
end
section
variable {X:Cx} {pins:List (Addr×Obj)} {σ:St} {H:Hp} {s:Shared} {a:Addr} {kvs:List (Key×V)} {k:Key} {u:Value} {A:Around} {E:Value->Shared->Prop}
end
def NoSl(i:Expr):Prop:=∀ov iv,subscripted i false ov iv=operate [ov,iv] (getItem ov iv)
theorem z7B{prog:Program}{w:World}{A:Around}{E:Value->Shared->Prop}{s:Shared}{env:Env}{value slice:Expr}{pos:Pos}{T id:String}{Q:Value->Shared->Prop}
  (hl:typeLookup (.type T) "__getitem__" = pure (some (.builtin id))) (hs:NoSl slice)
  (h:wpAny (model prog w) A (eval value env) (λo s₁=>wpAny (model prog w) A (eval slice env) (λi s₂=>s₂.TypeIs o T/\wpAny (model prog w) A (getItem o i) Q E s₂) E s₁) E s) :
  wpAny (model prog w) A (eval (.Subscript value slice pos) env) Q E s:=by
 refine Subscript_ (B4 h (λo s₁ h₁=>B4 h₁ (λi s₂ h₂=>?_) λ_ _ x=>x) λ_ _ x=>x);obtain⟨hT,h₂⟩:=h₂;unfold subscriptTail;refine b6 ?_;rw[getitemInPython_of_ne hT.not_modules];refine b6 (wpAny_specialOf hT hl ?_);have fin:wpAny (model prog w) A (subscripted slice false o i) (λr s₃=>wpAny (model prog w) A (letTemporaryGo value o r >>= λ_=>pure r) Q E s₃) E s₂:=by rw[hs o i];exact wpAny_operating (B4 h₂ (λr s₃ h₃=>b6 (wpAny_letTemporaryGo (d4 h₃))) λ_ _ x=>x)
 first
  | exact d4 (b6 fin)
  | exact b6 (d4 (b6 fin))
  | exact b6 fin
theorem q7W{σ:St}(I:Inv X pins σ H s)(g:DGet H a y o):s.TypeIs (.ref a) "dict":=by
 rcases g with⟨kvs,k,e,_,_⟩ | ⟨kvs,k,b,e,_,_,_⟩
 ·obtain⟨_,_,vs,_,dd⟩:=z7w I.hok e;exact dd.typeIs
 ·obtain⟨_,_,xs,_,dd⟩:=q9W I.hok e;exact dd.typeIs
def y1F(td ty tv:TE):TS:=λD σ H=>tv σ H λv H1=>td σ H1 λx H2=>ty σ H2 λy H3=>∃a H4,x=.ref a/\DPut H3 a y v H4/\D.nx σ H4
section
variable {X:Cx} {o i e value:Expr} {pos pos' tpos:Pos} {td ty tv:TE}
theorem z6s(hu:X.A.units+1<cLine)(ho:PE X o td)(hi:PE X i ty)(hv:PE X value tv)(hs:swapsWith value (some (.Subscript o i pos')) pos.line X.env=pure false) :
  PS X (.Assign [.Subscript o i pos'] value pos) (y1F td ty tv):=by
 intro pins s σ H D I h;refine wpAny_Assign_Subscript (thn (hv pins s σ H _ I h) λr s1 ⟨v,H1,I1,rv,q1⟩=>thn (ho pins s1 σ H1 _ I1 q1) λu s2 ⟨x,H2,I2,rx,q2⟩=>thn (hi pins s2 σ H2 _ I2 q2) λiv s3 ⟨y,H3,I3,ry,a,H4,ex,g,q3⟩=>?_) hs;subst ex;obtain rfl:u=Value.ref a:=rx;exact z2G hu I3 g ry rv λs4 I4=>⟨σ,H4,I4,q3⟩
end
theorem z3F(h:Heap)(hb:sysModules<h.objs.size):n4 P w H (h.push {cls:=.type "dict",data:=.dict #[]}) h.objs.size (.dT []):=
 ⟨A7 _,t7.mpr (Ne.symm (o4 hb)),[],.nil,_,#[],0,p8 _ rfl,⟨rfl,rfl,rfl⟩,rfl,rfl,w4m⟩
def z9w:TE:=λ_ H Q=>∀p,H p=none->Q (.ref p) (upd H p (.dT []))
section
variable {X:Cx} {pos:Pos}
theorem z3R:PE X (.Dict [] [] pos) z9w:=λpins s σ H Q I h=>
 wpAny_Dict_empty ⟨.ref s.heap.objs.size,_,I.laid (a:=s.heap.objs.size) (o:=.dT []) (t':=s.toks) (λ_ _ q=>j2 _ q) (e9 _) (z3F s.heap I.big),rfl,h _ (I.hok.fresh (e9 _))⟩
end
end
section
theorem z7A(L:List (Int×Int)):RepL D H (L.map λp=>.int p.2) ((odK L).map (·.2)):=by
 have:=X0 (D:=D) (H:=H) (L.map (·.2));rw[j4,j4]at this;unfold odK;rw[j4];exact this
theorem z7x(L:List (Int×Int)):(odK L).map (λp=>dKey p.1)=L.map λp=>.i p.1:=by
 unfold odK;rw[j4];rfl
section
variable {D:Dm} {H H':Hp} {σ:St} {δ:List Sv} {O W:List Addr} {i:Nat}
theorem RSt.growD(R:RSt D H σ δ O W)(hp:H p=none)(hm:mutO o0=true):RSt D (upd H p o0) σ δ O (p::W):=by
 have s:Same H (upd H p o0):=w5 hp;have old:Same (L2.wo (O++W) H) (L2.wo (O++(p::W)) (upd H p o0)):=λb o e=>by
  obtain⟨hb,e⟩:=C4 e;rw[j9 λz=>?_]
  ·exact s b o e
  ·rcases e8.mp (P2.mp z)with z | z
   ·rw[z,hp]at e;cases e
   ·exact hb z
 refine⟨λj d h=>?_,λj d h=>?_,R.inj,λj d h=>?_,λj d h=>?_,R.od.step (λj d h=>⟨h,rfl⟩) (λ_ h _=>i6 _ h) (λa _ _ h _=>s _ _ h),R.len,⟨λa ha=>?_,Same.refl _,λa ha=>?_,λa ha=>?_,R.hid.omS s⟩⟩
 ·obtain⟨v,e1,e2⟩:=R.val j d h;exact⟨v,e1,e2.mono old⟩
 ·obtain⟨a,ys,ds1,e0,e1,e2,e3,e4⟩:=R.own j d h;exact⟨a,ys,ds1,e0,e1,i6 _ e2,s _ _ e3,e4.mono old⟩
 ·obtain⟨⟨t,ts,p1,ys,ds1,es,e0,e1,e2,e3,e4,e5,e6,e7⟩,u⟩:=R.ot j d h;exact⟨⟨t,ts,p1,ys,ds1,es,e0,e1,old.tseq e2,i6 _ e3,s _ _ e4,e5.mono old,e6.mono old,e7⟩,u⟩
 ·obtain⟨⟨p1,L,e0,e1,e2,e3⟩,u,n⟩:=R.o2 j d h;exact⟨⟨p1,L,e0,e1,(e2.mono s).sub λa _ ha=>i6 _ ha,e3⟩,u,n⟩
 ·rcases e8.mp (P2.mp ha)with z | z
  ·rw[z,y6];intro q;cases q
  ·intro q;exact R.hid.ot a z (s.free q)
 ·rcases e8.mp ha with z | z
  ·exact⟨_,by rw[z];exact y6,hm⟩
  ·obtain⟨ys,q,m⟩:=R.hid.wl a z;exact⟨ys,s _ _ q,m⟩
 ·rcases e8.mp ha with z | z
  ·intro q;exact R.hid.ot p (z8 _ (by rw[←z];exact q)) hp
  ·exact R.hid.dj a z
theorem RSt.setOd(R:RSt D H σ δ O W)(hp:p∈W)(hok:OdOk d0 o0)(hH:H p=some o0)(hno:noOt i δ=true):RSt D H (σ.set i (some (.ref p))) (δ.set i (.od d0)) O W:=by
 refine⟨λj d h=>?_,λj d h=>?_,λj k a d1 d2 q1 q2 e1 e2=>?_,λj d h=>?_,λj d h=>?_,λj d h=>?_,by rw[v4,v4];exact R.len,R.hid⟩
 ·have hj:=j1 h (by intro z;cases z);rw[d9 (Ne.symm hj)]at h ⊢;exact R.val j d h
 ·have hj:=j1 h (by intro z;cases z);rw[d9 (Ne.symm hj)]at h ⊢;exact R.own j d h
 ·have n1:=j1 q1 (by intro z;cases z);have n2:=j1 q2 (by intro z;cases z);rw[d9 (Ne.symm n1)]at q1 e1;rw[d9 (Ne.symm n2)]at q2 e2;exact R.inj j k a d1 d2 q1 q2 e1 e2
 ·have hj:=j1 h (by intro z;cases z);rw[d9 (Ne.symm hj)]at h;exact absurd (q8m hno h) hj
 ·have hj:=j1 h (by intro z;cases z);rw[d9 (Ne.symm hj)]at h;exact absurd (z1F hno h) hj
 ·have hj:j=i:=by
   by_cases hj:j=i
   ·exact hj
   ·rw[d9 (Ne.symm hj)]at h;exact z1U hno h
  subst hj;obtain⟨hl,e⟩:=P3 h;cases e;refine⟨⟨p,o0,hok,B7 (by rw[R.len];exact hl),hp,hH⟩,λk d' q=>?_⟩;by_cases hk:k=j
  ·exact hk
  ·rw[d9 (Ne.symm hk)]at q;exact z1U hno q
theorem RSt.writeOd(R:RSt D H σ δ O W)(hi:δ[i]? = some (.od d))(ha:σ[i]? = some (some (.ref p)))(hp:p∈W)(hH:H p=some o0)(hdc:dicO o0=true)(hok:OdOk d1 o1):RSt D (upd H p o1) σ (δ.set i (.od d1)) O W:=by
 have old:Same (L2.wo (O++W) H) (L2.wo (O++W) (upd H p o1)):=λb o e=>by obtain⟨hb,e⟩:=C4 e;rw[j9 hb,j6 λz=>hb (by rw[z];exact y9 _ hp)];exact e
 have lne:∀{b:Addr} {ys:List V},H b=some (.lst ys)->b≠p:=λ{b ys} h z=>by rw[z,hH]at h;cases h;cases hdc
 refine⟨λj d h=>?_,λj d h=>?_,λj k a d1 d2 q1 q2 e1 e2=>?_,λj d h=>?_,λj d h=>?_,λj d h=>?_,by rw[v4];exact R.len,⟨λb hb q=>?_,Same.refl _,λb hb=>?_,R.hid.dj,R.hid.omW hp⟩⟩
 ·have hj:=j1 h (by intro z;cases z);rw[d9 (Ne.symm hj)]at h;obtain⟨v,q1,q2⟩:=R.val j d h;exact⟨v,q1,q2.mono old⟩
 ·have hj:=j1 h (by intro z;cases z);rw[d9 (Ne.symm hj)]at h;obtain⟨b,ys,ds1,q0,q1,q2,q3,q4⟩:=R.own j d h;exact⟨b,ys,ds1,q0,q1,q2,by rw[j6 (lne q3)];exact q3,q4.mono old⟩
 ·have n1:=j1 q1 (by intro z;cases z);have n2:=j1 q2 (by intro z;cases z);rw[d9 (Ne.symm n1)]at q1;rw[d9 (Ne.symm n2)]at q2;exact R.inj j k a d1 d2 q1 q2 e1 e2
 ·have hj:=j1 h (by intro z;cases z);rw[d9 (Ne.symm hj)]at h;obtain⟨⟨t,ts,p1,ys,ds1,es,f0,f1,f2,f3,f4,f5,f6,f7⟩,u⟩:=R.ot j d h;refine⟨⟨t,ts,p1,ys,ds1,es,f0,f1,old.tseq f2,f3,by rw[j6 (lne f4)];exact f4,f5.mono old,f6.mono old,λk d2 q=>?_⟩,λk d2 q=>?_⟩
  ·have hk:=j1 q (by intro z;cases z);rw[d9 (Ne.symm hk)]at q;exact f7 k d2 q
  ·have hk:=j1 q (by intro z;cases z);rw[d9 (Ne.symm hk)]at q;exact u k d2 q
 ·have hj:=j1 h (by intro z;cases z);rw[d9 (Ne.symm hj)]at h;obtain⟨⟨p1,L1,f0,f1,f2,f3⟩,u,n⟩:=R.o2 j d h;refine⟨⟨p1,L1,f0,f1,f2.write λz=>?_,λk d2 b q q2=>?_⟩,λk d2 q=>?_,λk d2 q=>?_⟩
  ·obtain⟨_,ys,w⟩:=f2.dom z;exact lne w rfl
  ·have hk:=j1 q (by intro z;cases z);rw[d9 (Ne.symm hk)]at q;exact f3 k d2 b q q2
  ·have hk:=j1 q (by intro z;cases z);rw[d9 (Ne.symm hk)]at q;exact u k d2 q
  ·have hk:=j1 q (by intro z;cases z);rw[d9 (Ne.symm hk)]at q;exact n k d2 q
 ·have hj:j=i:=by
   by_cases hj:j=i
   ·exact hj
   ·rw[d9 (Ne.symm hj)]at h;exact(R.od i _ hi).2 j _ h
  subst hj;obtain⟨hl,e⟩:=P3 h;cases e;refine⟨⟨p,o1,hok,ha,hp,y6⟩,λk d' q=>?_⟩;by_cases hk:k=j
  ·exact hk
  ·rw[d9 (Ne.symm hk)]at q;exact(R.od j _ hi).2 k _ q
 ·by_cases hba:b=p
  ·rw[hba,y6]at q;cases q
  ·rw[j6 hba]at q;exact R.hid.ot b hb q
 ·by_cases hba:b=p
  ·exact⟨_,by rw[hba];exact y6,hok.mut⟩
  ·obtain⟨ys,q,m⟩:=R.hid.wl b hb;exact⟨ys,by rw[j6 hba];exact q,m⟩
end
section
variable {X:Cx} {E:St->XK} {δ:List Sv} {o:Out} {e ek ed ea:Expr} {pos pos' npos spos apos cpos:Pos} {ra rb rc:Option Re} {i:Nat} {x:Str} {re:Re}
theorem z4m(L:List ((Int×Int)×Int)):(oeK L).map (λp=>DKey.t p.1)=L.map λp=>.t [.inl p.1.1,.inl p.1.2]:=by
 unfold oeK;rw[j4];rfl
theorem z3I(L:List ((Int×Int)×Int)):RepL D H (L.map λp=>.int p.2) ((oeK L).map (·.2)):=by
 unfold oeK;rw[j4]
 induction L with
 | nil=>exact x8.mpr rfl
 | cons p r ih=>exact o7.mpr ⟨_,_,rfl,t5.mpr rfl,ih⟩
theorem y0t(hv:PE X (.Name x npos) (tVar i)):PE X (.Name x npos) (λσ H Q=>∃a o,σ[i]? = some (some (.ref a))/\H a=some o/\dicO o=true/\∀ob,Q (.ref a) (upd H a (.frz ob o))):=by
 intro pins s σ H Q I h;obtain⟨a,o,e1,e2,e3,q⟩:=h;refine thn (hv pins s σ H (λv H1=>v=.ref a/\H1=H) I ⟨_,e1,rfl,rfl⟩) λu s1 ⟨v,H1,I1,r1,q1,q2⟩=>?_
 subst q1 q2;have ok:=I1.hok _ _ e2;obtain⟨ob,z5⟩:∃ob,s1.heap.get? a=some ob:=by
  cases o with
  | dK kvs=>obtain⟨_,_,_,_,ob,_,_,e,_⟩:=ok;exact⟨ob,e⟩
  | dT kvs=>obtain⟨_,_,_,_,ob,_,_,e,_⟩:=ok;exact⟨ob,e⟩
  | _=>cases e3
 have ok2:n4 X.prog X.w (upd H1 a (.frz ob o)) s1.heap a o:=by
  refine ok.stay (λ_ _ _ e=>e) (λb e=>?_) λb xs e=>?_
  ·rw[j6 λz=>by rw[z,e2]at e;cases e;cases e3];exact e
  ·rw[j6 λz=>by rw[z,e2]at e;cases e;cases e3];exact e
 exact⟨.ref a,upd H1 a (.frz ob o),I1.write (x:=a) (e:=a) (t':=s1.toks) (by rw[e2];cases o<;>first | trivial | cases e3) (.inl rfl) (λb u hb e=>e) ⟨ob,z5⟩ ⟨z5,ok2⟩,r1,q ob⟩
theorem z4x(hv:PE X (.Name x npos) (tVar i))(h:(match δ[i]? with
   | some (.od d)=>some (Out.rt (unT d) false)
   | _=>none)=some o):PS X (.Return (some (.Name x npos)) pos) (dS X.D E δ o):=by
 split at h
 ·rename_i d hi;cases h;refine(q9u (y0t hv)).weak λDn σ H ⟨H0,O,W,R,fr,fo,sm,k⟩=>?_
  obtain⟨⟨p,ob,e0,e1,e2,e3⟩,u⟩:=R.od i _ hi;refine⟨p,ob,e1,e3,e0.dic,λo1=>k _ _ (q1Q sm (fr p e2)) ?_⟩;rcases e0 with⟨L,q1,q2⟩ | ⟨L,q1,q2⟩
  ·subst q1 q2;show Rep X.D (L2.wo O (upd H p (.frz o1 (.dK (odK L))))) (odD L) (.ref p);exact J0.mpr (.inl ⟨p,o1,odK L,rfl,by rw[j9 (R.hid.dj p e2)];exact y6,z7x L,z7A L⟩)
  ·subst q1 q2;show Rep X.D (L2.wo O (upd H p (.frz o1 (.dT (oeK L))))) (oeD L) (.ref p);exact J0.mpr (.inr ⟨p,o1,oeK L,rfl,by rw[j9 (R.hid.dj p e2)];exact y6,z4m L,z3I L⟩)
 ·cases h
theorem z1v(h:P0 ek=false):NoSl ek:=λov iv=>by cases ek<;>first | rfl | cases h
theorem q8Z:∀{kvs:List (Key×V)} {vs:List DV},RepL D H vs (kvs.map (·.2))->E2 (.i k) (kvs.map λp=>dKey p.1) vs=some (.int v)->valV kvs (.inl k)=some (.int v)
 | [],vs,r,h=>by cases vs<;>cases h
 | (k1,v1)::kvs,[],r,h=>by cases h
 | (k1,v1)::kvs,d::vs,r,h=>by
  obtain⟨w,ws,e1,e2,e3⟩:=o7.mp r;cases e1;have h':(if dKey k1=.i k then some d else E2 (.i k) (kvs.map λp=>dKey p.1) vs)=some (.int v):=h;by_cases hk:k1=.inl k
  ·subst hk;rw[b8 (show dKey (.inl k)=.i k from rfl)]at h';cases h';rw[q3c rfl];show some v1=_;rw[show v1=.int v from t5.mp e2]
  ·rw[d7 (λz=>hk (by cases k1 with | inl j=>cases z;rfl | inr j=>cases z))]at h';rw[q3g hk];exact q8Z e3 h'
theorem q7P{k:DKey}{α:Type}{f:α->DKey}:∀{l:List α} {vs:List DV},(∀a∈l,f a≠k)->E2 k (l.map f) vs=none
 | [],vs,_=>by cases vs<;>rfl
 | a::l,[],_=>rfl
 | a::l,v::vs,h=>by
  show(if f a=k then some v else E2 k (l.map f) vs)=none;rw[d7 (h a (i8 ..))];exact q7P λb hb=>h b (i6 _ hb)
theorem q7o{k:List Key}:∀{kvs:List (List Key×V)} {vs:List DV},RepL D H vs (kvs.map (·.2))->E2 (.t k) (kvs.map λp=>DKey.t p.1) vs=some (.int v)->valV kvs k=some (.int v)
 | [],vs,r,h=>by cases vs<;>cases h
 | (k1,v1)::kvs,[],r,h=>by cases h
 | (k1,v1)::kvs,d::vs,r,h=>by
  obtain⟨w,ws,e1,e2,e3⟩:=o7.mp r;cases e1;have h':(if DKey.t k1=.t k then some d else E2 (.t k) (kvs.map λp=>DKey.t p.1) vs)=some (.int v):=h;by_cases hk:k1=k
  ·subst hk;rw[b8 rfl]at h';cases h';rw[q3c rfl];show some v1=_;rw[show v1=.int v from t5.mp e2]
  ·rw[d7 (λz=>hk (DKey.t.inj z))]at h';rw[q3g hk];exact q7o e3 h'
def z6H(K:PySem.W.Frag)(H:Hp)(a:Addr)(y:V)(r:Option V):Prop:=DGet H a y r\/∃kvs k b,Rd H a (.dT kvs)/\y=.ref b/\SqT K H b (k.map kV)/\r=valV kvs k
theorem z1f{σ:St}(I:Inv X pins σ H s)(e:SqT X.K H a (ks.map kV)):(tupleKind (A8 X.prog X.w)).is s.heap ks a:=by
 rcases e with h | ⟨o,its,n,h1,h2,h3,_,h5⟩
 ·obtain⟨_,its,r,o,h1,h2,n,h3⟩:=(show n4 X.prog X.w H s.heap a (.tup (ks.map kV))from z8a I.hok h);exact⟨o,its.toArray,n,h1,h2.1,h3,by simpa using q3D r⟩
 ·exact⟨o,its,n,I.kIn a o h1,h2.1,h3,q3D h5⟩
theorem q9U{pins:List (Addr×Obj)}{σ:St}{H:Hp}{s:Shared}{a:Addr}{y v:V}{u:Value}{A:Around}{E:Value->Shared->Prop}{Q:Value->Shared->Prop}(hu:A.units+1<cLine)(I:Inv X pins σ H s)(g:z6H X.K H a y (some v))(ry:RelV y u)(h:∀w' s',Inv X pins σ H s'->RelV v w'->Q w' s') :
  wpAny (model X.prog X.w) A (getItem (.ref a) u) Q E s:=by
 rcases g with g | ⟨kvs,k,b,e,ey,eb,l⟩
 ·exact z1T hu I g ry h
 ·subst ey;cases(show u=Value.ref b from ry);obtain⟨z,hd,xs,rel,dd⟩:=q9W I.hok e;obtain⟨w',hw,rw'⟩:=RelO.some_of (v:=v) (o:=(atKey xs k).map (·.2)) (by rw[l];exact rel.val k);obtain⟨p,hp,hp2⟩:=u7.mp hw;refine wpAny_getItem_heap (w2M hu) (z1f I eb) dd hp ?_;rw[hp2];exact h w' _ (I.tok _) rw'
theorem q7m{pins:List (Addr×Obj)}{σ:St}{H:Hp}{s:Shared}{a:Addr}{y:V}{o:Option V}(I:Inv X pins σ H s)(g:z6H X.K H a y o):s.TypeIs (.ref a) "dict":=by
 rcases g with g | ⟨kvs,k,b,e,ey,eb,l⟩
 ·exact q7W I g
 ·obtain⟨_,_,xs,_,dd⟩:=q9W I.hok e;exact dd.typeIs
def z9J(K:PySem.W.Frag)(td ty:TE):TE:=λσ H Q=>td σ H λx H1=>ty σ H1 λy H2=>∃a v,x=.ref a/\z6H K H2 a y (some v)/\Q v H2
theorem q9A(hu:X.A.units+1<cLine)(ho:PE X ea td)(hi:PE X ek ty)(hs:NoSl ek):PE X (.Subscript ea ek pos) (z9J X.K td ty):=by
 intro pins s σ H Q I h;refine z7B PySem.F.slot_dict_getitem.lookup hs (thn (ho pins s σ H _ I h) λu s1 ⟨x,H1,I1,rx,q1⟩=>thn (hi pins s1 σ H1 _ I1 q1) λiv s2 ⟨y,H2,I2,ry,a,v,ex,g,q2⟩=>?_);subst ex;obtain rfl:u=Value.ref a:=rx;exact⟨q7m I2 g,q9U hu I2 g ry λw' s3 I3 rw'=>⟨v,H2,I3,rw',q2⟩⟩
theorem q8n(h:Rep D H (.tup [.int a,.int b]) v):∃p,v=.ref p/\SqT D.K H p (([.inl a,.inl b]:List Key).map kV):=by
 obtain⟨p,xs,e1,e2,e3⟩:=x6.mp h;obtain⟨v1,vs,rfl,r1,r2⟩:=o7.mp e3;obtain⟨v2,vs2,rfl,r3,r4⟩:=o7.mp r2;rw[t5.mp r1,t5.mp r3,x8.mp r4]at e2;exact⟨p,e1,e2⟩
theorem z7e(hu:X.A.units+1<cLine)(ha:∀q,ra=some q->PE X ea (dE X.D E δ q))(hk:∀q,rb=some q->PE X ek (dE X.D E δ q))(hs:P0 ek=false)
  (h:(Re.thn ra λx _=>Re.thn rb λy _=>dixD x y)=some re):PE X (.Subscript ea ek pos) (dE X.D E δ re):=by
 have C:=λt t' (hA:PE X ea t) (hB:PE X ek t')=>q9A (pos:=pos) hu hA hB (z1v hs);cases hra:ra with
 | none=>rw[hra]at h;cases h
 | some q=>
  rw[hra]at h;have A:=ha q hra;cases q with
  | ex c=>cases h;exact(C _ _ A K5).weak λσ H Q ⟨O,W,R,p⟩=>⟨O,W,R,p⟩
  | ok dx cx=>
   cases hrb:rb with
   | none=>rw[hrb]at h;cases h
   | some q2=>
    rw[hrb]at h;have B:=hk q2 hrb;cases q2 with
    | ex c=>cases h;exact(C _ _ A B).weak λσ H Q ⟨O,W,R,p⟩=>⟨O,W,R,λv H1 s1 g=>⟨O,W,R.mono s1,λH' C m s=>p H' C m (s1.trans s)⟩⟩
    | ok dk ck=>
     have h':dixD dx dk=some re:=h;unfold dixD at h';split at h'
     ·rename_i ks vs k0;split at h'
      ·rename_i v0 hv0;cases h';refine(C _ _ A B).weak λσ H Q ⟨O,W,R,p⟩=>⟨O,W,R,λv H1 s1 g=>⟨O,W,R.mono s1,λv2 H2 s2 g2=>?_⟩⟩
       have hv2:=g2.int ((R.mono s1).hid.mono s2);subst hv2;rcases J0.mp (g.all (R.hid.mono s1))with⟨a,ob,kvs,e1,e2,e3,e4⟩ | ⟨a,ob,kvs,e1,e2,e3,e4⟩
       ·subst e3;exact⟨a,.int v0,e1,.inl (.inl ⟨kvs,.inl k0,.inr ⟨ob,s2 _ _ e2⟩,rfl,(q8Z e4 hv0).symm⟩),p _ H2 (s1.trans s2) v6⟩
       ·subst e3;rw[q7P (λa _ z=>by cases z)]at hv0;cases hv0
      ·cases h'
     ·rename_i ks vs a0 b0;split at h'
      ·rename_i v0 hv0;cases h';refine(C _ _ A B).weak λσ H Q ⟨O,W,R,p⟩=>⟨O,W,R,λv H1 s1 g=>⟨O,W,R.mono s1,λv2 H2 s2 g2=>?_⟩⟩
       obtain⟨pk,ek1,ek2⟩:=q8n (g2.all ((R.mono s1).hid.mono s2));rcases J0.mp (g.all (R.hid.mono s1))with⟨a,ob,kvs,e1,e2,e3,e4⟩ | ⟨a,ob,kvs,e1,e2,e3,e4⟩
       ·subst e3;rw[q7P (λa _ z=>by rcases a with⟨k | k,_⟩<;>cases z)]at hv0;cases hv0
       ·subst e3;exact⟨a,.int v0,e1,.inr ⟨kvs,_,pk,.inr ⟨ob,s2 _ _ e2⟩,ek1,ek2,(q7o e4 hv0).symm⟩,p _ H2 (s1.trans s2) v6⟩
      ·cases h'
     ·cases h'
end
end
section
def kP(p:Int×Int):List Key:=[.inl p.1,.inl p.2]
theorem q7d(h:kP p=kP q):p=q:=by
 unfold kP at h;obtain⟨a,b⟩:=p;obtain⟨c,d⟩:=q;simp at h;rw[h.1,h.2]
def putP(L:List ((Int×Int)×Int))(k:Int×Int)(z:Int):List ((Int×Int)×Int):=if(L.any λp=>decide (p.1=k))=true then L.map (λp=>if p.1=k then(p.1,z)else p)else L++[(k,z)]
theorem z7Z(L:List ((Int×Int)×Int))(k:Int×Int)(z:Int):putK (oeK L) (kP k) (.int z)=oeK (putP L k z):=by
 have e:((oeK L).any λkv=>decide (kv.1=kP k))=L.any λp=>decide (p.1=k):=by
  unfold oeK;rw[Q9]
  congr 1
  funext p
  show decide (kP p.1=kP k)=decide (p.1=k);by_cases h:p.1=k
  ·rw[B8 (by rw[h]),B8 h]
  ·rw[D4 (λz=>h (q7d z)),D4 h]
 unfold putK putP;rw[e];split
 ·unfold oeK;rw[j4,j4];apply G5;intro p _;show(if kP p.1=kP k then(kP p.1,V.int z)else(kP p.1,V.int p.2))=(kP (if p.1=k then(p.1,z)else p).1,V.int (if p.1=k then(p.1,z)else p).2);by_cases h:p.1=k
  ·rw[b8 (by rw[h]),b8 h]
  ·rw[d7 (λz=>h (q7d z)),d7 h]
 ·unfold oeK;rw[z9];rfl
def kD(p:Int×Int):DKey:=.t [.inl p.1,.inl p.2]
theorem q9c(h:kD p=kD q):p=q:=q7d (DKey.t.inj h)
theorem z7C(L:List ((Int×Int)×Int))(k:Int×Int)(z:Int):putD (kD k) (.int z) (L.map λp=>kD p.1) (L.map λp=>.int p.2)=((putP L k z).map (λp=>kD p.1),(putP L k z).map (λp=>.int p.2)):=by
 have e:(kD k∈L.map λp=>kD p.1)↔(L.any λp=>decide (p.1=k))=true:=by
  rw[f9,M4];constructor
  ·rintro⟨p,h1,h2⟩;exact⟨p,h1,by rw[A2];exact q9c h2⟩
  ·rintro⟨p,h1,h2⟩;exact⟨p,h1,by rw[A2.mp h2]⟩
 unfold putD putP;by_cases h:(L.any λp=>decide (p.1=k))=true
 ·rw[b8 (e.mpr h),b8 h,j4,j4];refine Prod.ext ?_ ?_
  ·apply G5;intro p _;show kD p.1=kD (if p.1=k then(p.1,z)else p).1;split<;>rfl
  ·show List.map _ (List.zip _ _)=_;rw[List.zip_map_left,List.zip_map_right];have:∀(L:List ((Int×Int)×Int)),List.zip L L=L.map λp=>(p,p):=by
    intro L
    induction L with
    | nil=>rfl
    | cons a r ih=>rw[List.zip_cons_cons,ih];rfl
   rw[this,j4,j4,j4];apply G5;intro p _;show(if kD p.1=kD k then DV.int z else DV.int p.2)=DV.int (if p.1=k then(p.1,z)else p).2;by_cases h:p.1=k
   ·rw[b8 (by rw[h]),b8 h]
   ·rw[d7 (λz=>h (q9c z)),d7 h]
 ·rw[d7 (λz=>h (e.mp z)),d7 h,z9,z9];rfl
section
variable {X:Cx} {E:St->XK} {δ:List Sv} {o:Out} {e ek ed ea:Expr} {es:List Expr} {x1:Nat} {pos pos' npos spos apos cpos tpos:Pos} {ra rb rc:Option Re} {rs:Option Rs} {i:Nat} {x:Str} {re:Re}
theorem z6k(hN:X.N.Nodup)(hi:X.N[i]? = some x)(hx:Loc X.env.scope x)(hf:X.fn x=true\/X.env.scope.names.lookup x=some .local)(h:(if noOt i δ then some (Out.nx (δ.set i (.od (.tup [.dct [] []]))))else none)=some o):PS X (.Assign [.Name x npos] (.Dict [] [] pos') pos) (dS X.D E δ o):=by
 split at h
 ·rename_i hno;cases h;refine(q9v hN hi hx z3R rfl hf).weak λDn σ H ⟨H0,O,W,R,fr,fo,sm,k⟩=>λp hp=>?_
  have R1:RSt X.D (upd H p (.dT [])) (σ.set i (some (.ref p))) (δ.set i (.od (.tup [oeD []]))) O (p::W):=(R.growD hp rfl).setOd (o0:=.dT []) (i8 ..) (.inr ⟨[],rfl,rfl⟩) y6 hno;exact k _ _ _ R1 (λa ha=>by
   rcases e8.mp ha with z | z
   ·rw[z];exact sm.free hp
   ·exact fr a z) (sm.trans (w5 hp))
 ·cases h
theorem z6v(hu:X.A.units+1<cLine)(hv:PE X (.Name x npos) (tVar i))(he:∀q,ra=some q->PE X e (dE X.D E δ q))(hk:∀q,rs=some q->PA X es (dA X.D E δ q))(hc:T4 e=false)
  (h:(match δ[i]? with
   | some (.od (.tup [.dct ks vs]))=>Re.thnS δ ra λd _=>Rs.thnS δ rs λl=>(dppD i δ ks vs l d).map Out.nx
   | _=>none)=some o):PS X (.Assign [.Subscript (.Name x npos) (.Tuple es x1 tpos) spos] e pos) (dS X.D E δ o):=by
 split at h
 ·rename_i ks vs hi;have C:=λt t' (hA:PE X e t) (hB:PA X es t')=>z6s (pos:=pos) (pos':=spos) hu hv (z5w (pos:=tpos) (x1:=x1) hB) hA (q2X hc)
  cases hra:ra with
  | none=>rw[hra]at h;cases h
  | some q=>
   rw[hra]at h;have A:=he q hra;cases q with
   | ex c=>
    cases h;exact(C _ _ A z2i).weak λDn σ H ⟨H0,O,W,R,fr,fo,sm,k⟩=>⟨O,W,R,L9 (Q:=λ_ _=>False) R fr sm k⟩
   | ok d cl=>
    cases hrs:rs with
    | none=>rw[hrs]at h;cases h
    | some q2=>
     rw[hrs]at h;have B:=hk q2 hrs;cases q2 with
     | ex c=>
      cases h;refine(C _ _ A B).weak λDn σ H ⟨H0,O,W,R,fr,fo,sm,k⟩=>⟨O,W,R,λv H1 s1 g=>?_⟩
      obtain⟨⟨p,ob,e0,e1,e2,e3⟩,u⟩:=R.od i _ hi;exact⟨.ref p,e1,O,W,R.mono s1,L9 (Q:=λ_ _=>False) (R.mono s1) fr (sm.trans s1) k⟩
     | ok l=>
      have h':(dppD i δ ks vs l d).map Out.nx=some o:=h;obtain⟨δ',h1,h2⟩:=u7.mp h';cases h2;unfold dppD at h1;split at h1
      ·rename_i a ca b cb z;split at h1
       ·rename_i hl;cases h1;refine(C _ _ A B).weak λDn σ H ⟨H0,O,W,R,fr,fo,sm,k⟩=>⟨O,W,R,λv H1 s1 g=>?_⟩
        obtain⟨⟨p,ob,e0,e1,e2,e3⟩,u⟩:=R.od i _ hi;obtain⟨L,e0z,eo⟩:∃L,DV.tup [.dct ks vs]=.tup [oeD L]/\ob=.dT (oeK L):=by
         rcases e0 with⟨L,q,_⟩ | h
         ·cases q
         ·exact h
        subst eo;obtain⟨ek1,ek2⟩:ks=L.map (λp=>kD p.1)/\vs=L.map (λp=>DV.int p.2):=DV.dct.inj (Z8 (DV.tup.inj e0z)).1;subst ek1 ek2;refine⟨.ref p,e1,O,W,R.mono s1,λvs2 H2 s2 g2=>?_⟩;have hv1:=g.int (R.hid.mono s1);obtain⟨w1,w2,ew,g3,g4⟩:=g2.two;have hd2:=(R.mono s1).hid.mono s2;have hw1:=g3.int hd2;have hw2:=g4.int hd2;subst hv1 hw1 hw2 ew;refine⟨by show(2:Nat)<=sizeLine;decide,λq hq=>?_⟩;have s3:Same H2 (upd H2 q (.tup [.int a,.int b])):=w5 hq;have e3':=s3 _ _ (s2 _ _ (s1 _ _ e3));rw[d5]at hl;refine⟨p,_,rfl,DPut.t (k:=kP (a,b)) e3' y6 (by unfold oeK;rw[d5];exact u4 hl (by decide)),?_⟩;rw[z7Z];have pe:=z7C L (a,b) z;unfold kD at pe k;rw[pe]at k;exact k σ _ W ((((R.mono s1).mono s2).mono s3).writeOd hi e1 e2 e3' rfl (.inr ⟨_,rfl,rfl⟩)) fr (q1Q (((sm.trans s1).trans s2).trans s3) (fr p e2))
       ·cases h1
      ·cases h1
 ·cases h
theorem z6z(h:E2 (kD k) (L.map λp=>kD p.1) (L.map λp=>.int p.2)=some (.int v)):valV (oeK L) (kP k)=some (.int v):=by
 induction L with
 | nil=>cases h
 | cons p r ih=>
  have h':(if kD p.1=kD k then some (DV.int p.2)else E2 (kD k) (r.map λp=>kD p.1) (r.map λp=>.int p.2))=some (.int v):=h;show valV ((kP p.1,V.int p.2)::oeK r) (kP k)=_;by_cases hk:p.1=k
  ·rw[b8 (by rw[hk])]at h';cases h';rw[q3c (by rw[hk])]
  ·rw[d7 (λz=>hk (q9c z))]at h';rw[q3g (λz=>hk (q7d z))];exact ih h'
theorem z6D(hu:X.A.units+1<cLine)(hv:PE X (.Name x npos) (tVar i))(hk:∀q,rb=some q->PE X ek (dE X.D E δ q))(hs:P0 ek=false)
  (h:(match δ[i]? with
   | some (.od (.tup [.dct ks vs]))=>Re.thn rb λy _=>dgpD ks vs y
   | _=>none)=some re):PE X (.Subscript (.Name x npos) ek pos) (dE X.D E δ re):=by
 split at h
 ·rename_i ks vs hi;have C:=λt' (hB:PE X ek t')=>q9A (pos:=pos) hu hv hB (z1v hs)
  cases hrb:rb with
  | none=>rw[hrb]at h;cases h
  | some q2=>
   rw[hrb]at h;have B:=hk q2 hrb;cases q2 with
   | ex c=>
    cases h;refine(C _ B).weak λσ H Q ⟨O,W,R,p⟩=>?_
    obtain⟨⟨pp,ob,e0,e1,e2,e3⟩,u⟩:=R.od i _ hi;exact⟨.ref pp,e1,O,W,R,p⟩
   | ok dk ck=>
    have h':dgpD ks vs dk=some re:=h;unfold dgpD at h';split at h'
    ·rename_i a0 b0;split at h'
     ·rename_i v0 hv0;cases h';refine(C _ B).weak λσ H Q ⟨O,W,R,p⟩=>?_
      obtain⟨⟨pp,ob,e0,e1,e2,e3⟩,u⟩:=R.od i _ hi;obtain⟨L,e0z,eo⟩:∃L,DV.tup [.dct ks vs]=.tup [oeD L]/\ob=.dT (oeK L):=by
       rcases e0 with⟨L,q,_⟩ | h
       ·cases q
       ·exact h
      subst eo;obtain⟨ek1,ek2⟩:ks=L.map (λp=>kD p.1)/\vs=L.map (λp=>DV.int p.2):=DV.dct.inj (Z8 (DV.tup.inj e0z)).1;subst ek1 ek2;refine⟨.ref pp,e1,O,W,R,λv2 H2 s2 g2=>?_⟩;obtain⟨pk,ek1,ek2⟩:=q8n (g2.all (R.hid.mono s2));exact⟨pp,.int v0,rfl,.inr ⟨oeK L,_,pk,.inl (s2 _ _ e3),ek1,ek2,(z6z (k:=(a0,b0)) hv0).symm⟩,p _ H2 s2 v6⟩
     ·cases h'
    ·cases h'
 ·cases h
theorem y1Y(L:List ((Int×Int)×Int))(k:Int×Int):(valV (oeK L) (kP k)).isSome=decide (kD k∈L.map λp=>kD p.1):=by
 rw[←q6n];have e:((oeK L).any λkv=>decide (kv.1=kP k))=L.any λp=>decide (p.1=k):=by
  unfold oeK;rw[Q9]
  congr 1
  funext p
  show decide (kP p.1=kP k)=decide (p.1=k);by_cases h:p.1=k
  ·rw[B8 (by rw[h]),B8 h]
  ·rw[D4 (λz=>h (q7d z)),D4 h]
 rw[e,U9,M4,F6,f9];constructor
 ·rintro⟨p,h1,h2⟩;exact⟨p,h1,by rw[A2.mp h2]⟩
 ·rintro⟨p,h1,h2⟩;exact⟨p,h1,by rw[A2];exact q9c h2⟩
def y1J(K:PySem.W.Frag)(ty td:TE):TE:=λσ H Q=>ty σ H λy H1=>td σ H1 λx H2=>∃a b kvs k,x=.ref a/\Rd H2 a (.dT kvs)/\y=.ref b/\SqT K H2 b (k.map kV)/\Q (.bl (valV kvs k).isSome) H2
theorem z5Y(hu:X.A.units+1<cLine)(hi:PE X ek ty)(ho:PE X ea td):PC X .In ek ea (y1J X.K ty td):=by
 intro pins s σ H Q I h;refine thn (hi pins s σ H _ I h) λiv s1 ⟨y,H1,I1,ry,q1⟩=>thn (ho pins s1 σ H1 _ I1 q1) λu s2 ⟨x,H2,I2,rx,a,b,kvs,k,ex,e,ey,eb,q2⟩=>?_
 subst ex ey;obtain rfl:u=Value.ref a:=rx;cases(show iv=Value.ref b from ry);obtain⟨z,hd,xs,rel,dd⟩:=q9W I2.hok e;refine wpAny_in_heap (w2M hu) (z1f I2 eb) hd dd ?_;have q:=(rel.val k).isSome_eq;rw[Option.isSome_map]at q;exact⟨.bl (valV kvs k).isSome,H2,I2.tok _,by rw[q];exact rfl,q2⟩
theorem q7b(hu:X.A.units+1<cLine)(hv:PE X (.Name x npos) (tVar i))(hk:∀q,rb=some q->PE X ek (dE X.D E δ q))
  (h:(match δ[i]? with
   | some (.od (.tup [.dct ks _]))=>Re.thn rb λy _=>dinD ks y
   | _=>none)=some re):∃t,PC X .In ek (.Name x npos) t/\∀σ H Q,dE X.D E δ re σ H Q->t σ H Q:=by
 split at h
 ·rename_i ks vs hi;cases hrb:rb with
  | none=>rw[hrb]at h;cases h
  | some q2=>
   rw[hrb]at h;have B:=hk q2 hrb;refine⟨_,z5Y hu B hv,λσ H Q ⟨O,W,R,p⟩=>?_⟩;cases q2 with
   | ex c=>
    cases h;exact⟨O,W,R,p⟩
   | ok dk ck=>
    have h':dinD ks dk=some re:=h;unfold dinD at h';split at h'
    ·rename_i a0 b0;cases h';obtain⟨⟨pp,ob,e0,e1,e2,e3⟩,u⟩:=R.od i _ hi;obtain⟨L,e0z,eo⟩:∃L,DV.tup [.dct ks vs]=.tup [oeD L]/\ob=.dT (oeK L):=by
      rcases e0 with⟨L,q,_⟩ | h
      ·cases q
      ·exact h
     subst eo;obtain⟨ek1,ek2⟩:ks=L.map (λp=>kD p.1)/\vs=L.map (λp=>DV.int p.2):=DV.dct.inj (Z8 (DV.tup.inj e0z)).1;subst ek1 ek2;refine⟨O,W,R,λv2 H2 s2 g2=>⟨.ref pp,e1,?_⟩⟩;obtain⟨pk,ek1,ek2⟩:=q8n (g2.all (R.hid.mono s2));refine⟨pp,pk,oeK L,kP (a0,b0),rfl,.inl (s2 _ _ e3),ek1,ek2,?_⟩;rw[y1Y L (a0,b0)];exact p _ H2 s2 P1
    ·cases h'
 ·cases h
end
end
end L2
end
noncomputable section
namespace L2
open PySem
section
def Kp(a:Addr)(h h':Heap):Prop:=∀b o,b≠a->h.get? b=some o->h'.get? b=some o
theorem Kp.of(x:Heap.SameBut a h h'):Kp a h h':=λb o n e=>x.extBut b o n e
theorem Kp.trans(x:Kp a h h')(y:Kp a h' h''):Kp a h h'':=λb o n e=>y b o n (x b o n e)
theorem Kp.push(x:Kp a h h')(o':Obj):Kp a h (h'.push o'):=λb o n e=>j2 _ (x b o n e)
section
variable {prog:Program} {w:World} {A:Around} {E:Value->Shared->Prop} {s:Shared} {d it:Addr} {i ep:Nat} {od:Obj} {es:Array DictEntry} {ok ov:Value}
theorem z0a(hd:(d==sysModules)=false):MeetsIn prog w (Builtin.«dict.items» ⟨[.ref d],[]⟩) (λ_ R s=>s.TypeIs (.ref d) "dict" /\
  R (.ok (.ret (.ref s.heap.objs.size))) {s with heap:=s.heap.push {cls:=.type "dict_items",data:=.fields #[.ref d]}}):=.of_wp λA R s q=>by
 have no:¬((d==sysModules)=true):=by rw[hd];exact v9
 unfold Builtin.«dict.items» Builtin.Dict.noArgs Builtin.Dict.showsAll;refine b6 (b6 (w4n q.1 (d4 ?_)));show wpAny _ _ ((if(d==sysModules)=true then _ else _) >>= _) _ _ s;rw[d7 no];exact b6 (d4 (b6 (B2 (d4 ⟨_,rfl,q.2⟩))))
theorem z0e(hv:s.heap.IsItemsView v d)(ho:s.heap.get? d=some od)(hdat:od.data=.dict es ep)
  (q:Q (.ref s.heap.objs.size) {s with heap:=s.heap.push {cls:=.type "dict_itemiterator",data:=.fields #[.none,.bool false,.ref d,.int 0 0,.int es.size 0,.int ep 0,.none,.none]}}):wpAny (model prog w) A (pyIter (.ref v)) Q E s:=by
 obtain⟨_,h1,_,h2⟩:=id hv;refine w2S hv.typeIs w4d (F7 w4d hv.typeIs F.entry_dict_items_iter ?_ (F.args_dict_items_iter_1 _));unfold Builtin.«dict_items.__iter__» Builtin.Dict_items.dictOf Builtin.Dict_items.newIterator;refine b6 (d4 (b6 (b6 (V2 h1 h2 (x:=.ref d) rfl (d4 (b6 (b6 (w2T ho hdat (b6 (w29 ho hdat ?_))))))))));rw[show Builtin.Dict_items.ownsTuple "dict_itemiterator" = true from by decide];exact B2 (d4 ⟨_,rfl,"dict_itemiterator",_,⟨_,p8 _ rfl,rfl⟩,F.slot_dict_itemiterator_next.lookup,q⟩) (by show(8:Nat)<=_;rw[K9];omega)
theorem q5R(hh:A.handled=none)(hit:IsItemIter s.heap it d i es.size ep ok ov)(hod:s.heap.get? d=some od)(hdd:od.data=.dict es ep)
  (some_:∀en h',es[i]? = some en->IsItemIterOut h' it d (i+1) es.size ep en.key en.val s.heap.objs.size->h'.get? s.heap.objs.size=some {cls:=.type "tuple",data:=.seq #[en.key,en.val]} -> Kp it s.heap h'->Q (some (.ref s.heap.objs.size)) {s with heap:=h'})
  (none_:∀h',es[i]? = none->Kp it s.heap h'->Q none {s with heap:=h'}):wpAny (model prog w) A (pyNext (.ref it)) Q E s:=by
 have ty:∀{h:Heap} {j:Nat} {x y:Value},IsItemIter h it d j es.size ep x y->Shared.TypeIs {s with heap:=h} (.ref it) "dict_itemiterator":=λz=>⟨_,z,rfl⟩;have ow:Builtin.Dict_items.ownsTuple "dict_itemiterator" = true:=by decide
 have nn:¬((Value.ref d==Value.none)=true):=v9;unfold pyNext;refine b6 (Q4 (U4 (name:=Str.ofString "__next__") (ty hit) w3e (F7 w3e (ty hit) F.entry_dict_itemiterator_next ?_ (F.args_dict_itemiterator_next_1 _))));refine b6 (d4 (b6 (b6 (b6 (w2l (ty hit) (d4 (b6 (Z6 hit rfl ?_))))))));simp only[ow,if_true];show wpAny _ _ (if(Value.ref d==Value.none)=true then _ else _) _ _ s;rw[d7 nn];refine b6 (d4 (b6 (w2T hod hdd ?_)));rw[d7 (by simp)];refine b6 (d4 (b6 (w29 hod hdd ?_)));rw[d7 (by simp)];refine d4 ?_;dsimp only;rw[d7 (show ¬((i:Int)<0) by omega),x9];cases hx:es[i]? with
 | none=>
  dsimp only;refine b6 (b6 (w2l (ty hit) (d4 ?_)));simp only[ow,if_true];refine b6 (Q0 hit (by simp) λh1 z1 s1=>b6 ?_);unfold newExc newTuple;refine b6 (B2 (b6 (m:=firstArgMember _ _) (w3n (a:=Value.none) (by first | rfl | (simp only[firstArgMember];rfl)) (B2 (wpAny_raiseNew_none hh (b6 (w2w (T:="StopIteration") (b:=true) ⟨_,p8 _ rfl,rfl⟩ w3i (d4 ?_)))) (by size_fits)))) (by size_fits));exact none_ _ hx (((Kp.of s1).push _).push _)
 | some en=>
  dsimp only;refine b6 (b6 (w2l (ty hit) (d4 (b6 (w2X (ty hit) ?_)))));simp only[ow,if_true];refine b6 (Q0 hit (by simp) λh1 z1 s1=>?_);have e1:IsItemIter h1 it d (i+1) es.size ep ok ov:=by unfold IsItemIter;rw[show((i+1:Nat):Int)=(i:Int)+1 by omega];exact z1
  refine b6 (E9 (b6 (w2X (ty e1) (b6 (w2X (ty e1) ?_)))));show wpAny _ _ (Builtin.Dict_items.pairFromOwner (.ref it) 6 en.key en.val) _ _ {s with heap:=h1};unfold Builtin.Dict_items.pairFromOwner Builtin.Dict_items.ownedTupleIsFree;have sz:h1.objs.size=s.heap.objs.size:=s1.1;have lt:it≠s.heap.objs.size:=o4 (i9 hit);have e2:IsItemIter (h1.push {cls:=.type "tuple",data:=.seq #[en.key,en.val]}) it d (i+1) es.size ep ok ov:=j2 _ e1;have t2:(h1.push {cls:=.type "tuple",data:=.seq #[en.key,en.val]}).get? s.heap.objs.size=some {cls:=.type "tuple",data:=.seq #[en.key,en.val]}:=by rw[←sz];exact p8 _ rfl
  refine b6 (wpAny_newTuple (b6 (b6 (V2 e2 rfl (x:=.none) rfl (d4 ?_)))));simp only[if_true];refine b6 (V2 e2 rfl (x:=ok) rfl (b6 (V2 e2 rfl (x:=ov) rfl ?_)));refine b6 (Q0 e2 (by simp) λh3 z3 s3=>b6 (Q0 z3 (by simp) λh4 z4 s4=>b6 (Q0 z4 (by simp) λh5 z5 s5=>b6 (Q0 z5 (by simp) λh6 z6 s6=>?_))));have k6:Kp it (h1.push {cls:=.type "tuple",data:=.seq #[en.key,en.val]}) h6:=(((Kp.of s3).trans (.of s4)).trans (.of s5)).trans (.of s6);refine b6 (wpAny_letGo (d4 (d4 ⟨_,rfl,d4 ?_⟩)));rw[sz]at z6 ⊢;exact some_ en h6 hx z6 (k6 _ _ (Ne.symm lt) t2) (((Kp.of s1).push _).trans k6)
def q9T(h:Heap)(it d:Addr)(i n ep:Nat):Prop:=h.get? it=some {cls:=.type "dict_keyiterator",dict:=none,data:=.fields #[.ref d,.int i 0,.int n 0,.int ep 0],slots:=#[]}
theorem z2b(hd:(d==sysModules)=false)(hT:s.TypeIs (.ref d) "dict")(ho:s.heap.get? d=some od)(hdat:od.data=.dict es ep)
  (q:Q (.ref s.heap.objs.size) {s with heap:=s.heap.push {cls:=.type "dict_keyiterator",data:=.fields #[.ref d,.int 0 0,.int es.size 0,.int ep 0]}}):wpAny (model prog w) A (pyIter (.ref d)) Q E s:=by
 have no:¬((d==sysModules)=true):=by rw[hd];exact v9
 refine w2S hT F.slot_dict_iter (F7 F.slot_dict_iter hT F.entry_dict_iter ?_ (F.args_dict_iter_1 _));unfold Builtin.«dict.__iter__» Builtin.Dict.dictSlotNone Builtin.Dict.showsAll;refine b6 (b6 (w4n hT (d4 ?_)));show wpAny _ _ ((if(d==sysModules)=true then _ else _) >>= _) _ _ s;rw[d7 no];exact b6 (d4 (b6 (w2T ho hdat (b6 (w29 ho hdat (b6 (B2 (d4 ⟨_,rfl,"dict_keyiterator",_,⟨_,p8 _ rfl,rfl⟩,F.slot_dict_keyiterator_next.lookup,q⟩))))))))
theorem q7g(hh:A.handled=none)(hit:q9T s.heap it d i es.size ep)(hod:s.heap.get? d=some od)(hdd:od.data=.dict es ep)
  (some_:∀en h',es[i]? = some en->q9T h' it d (i+1) es.size ep->Kp it s.heap h'->Q (some en.key) {s with heap:=h'})
  (none_:∀h',es[i]? = none->Kp it s.heap h'->Q none {s with heap:=h'}):wpAny (model prog w) A (pyNext (.ref it)) Q E s:=by
 have ty:∀{h:Heap} {j:Nat},q9T h it d j es.size ep->Shared.TypeIs {s with heap:=h} (.ref it) "dict_keyiterator":=λz=>⟨_,z,rfl⟩;have ow:Builtin.Dict_items.ownsTuple "dict_keyiterator" = false:=by decide
 have nn:¬((Value.ref d==Value.none)=true):=v9;unfold pyNext;refine b6 (Q4 (U4 (name:=Str.ofString "__next__") (ty hit) w3j (F7 w3j (ty hit) F.entry_dict_keyiterator_next ?_ (F.args_dict_keyiterator_next_1 _))));refine b6 (d4 (b6 (b6 (b6 (w2p (ty hit) (d4 (b6 (Z6 hit rfl ?_))))))));simp only[ow,N9,if_false];show wpAny _ _ (if(Value.ref d==Value.none)=true then _ else _) _ _ s;rw[d7 nn];refine b6 (d4 (b6 (w2T hod hdd ?_)));rw[d7 (by simp)];refine b6 (d4 (b6 (w29 hod hdd ?_)));rw[d7 (by simp)];refine d4 ?_;dsimp only;rw[d7 (show ¬((i:Int)<0) by omega),x9];cases hx:es[i]? with
 | none=>
  dsimp only;refine b6 (b6 (w2p (ty hit) (d4 ?_)));simp only[ow,N9,if_false];refine b6 (Q0 hit (by simp) λh1 z1 s1=>b6 ?_);unfold newExc newTuple;refine b6 (B2 (b6 (m:=firstArgMember _ _) (w3n (a:=Value.none) (by first | rfl | (simp only[firstArgMember];rfl)) (B2 (wpAny_raiseNew_none hh (b6 (w2w (T:="StopIteration") (b:=true) ⟨_,p8 _ rfl,rfl⟩ w3i (d4 ?_)))) (by size_fits)))) (by size_fits));exact none_ _ hx (((Kp.of s1).push _).push _)
 | some en=>
  dsimp only;refine b6 (b6 (w2p (ty hit) (d4 (b6 (w4o (ty hit) ?_)))));simp only[ow,N9,if_false];refine b6 (Q0 hit (by simp) λh1 z1 s1=>?_);have e1:q9T h1 it d (i+1) es.size ep:=by unfold q9T;rw[show((i+1:Nat):Int)=(i:Int)+1 by omega];exact z1
  refine b6 (E9 (b6 (w4o (ty e1) ?_)));exact d4 (d4 ⟨_,rfl,d4 (some_ en h1 hx e1 (.of s1))⟩)
end
end
end L2
end
noncomputable section
namespace L2
open PySem PySem.Spec PyProof.Rows
section
def ItI(a:Addr)(ob:Obj)(kvs:List (Key×V)):It:=
  ⟨λi H=>H a=some (.frz ob (.dK kvs))/\∃k v,kvs[i]? = some (.inl k,v),
   λi H x H'=>∃p k v,x=.ref p/\H p=none/\kvs[i]? = some (.inl k,v)/\H'=upd H p (.tup [.int k,v]),
   λi H=>H a=some (.frz ob (.dK kvs))/\kvs.length<=i⟩
theorem z8Z(r:KV kvs vs):∀{i:Nat} {k:Key} {v:V},kvs[i]? = some (k,v)->∃u,vs[i]? = some (k,u)/\RelV v u:=by
 induction r with
 | nil=>intro i k v h;cases h
 | cons p t ih=>
  intro i k v h;cases i with
  | zero=>
   obtain⟨p1,p2⟩:=p;rename_i a b _ _;obtain⟨a1,a2⟩:=a;obtain⟨b1,b2⟩:=b;cases h;have p1':k=b1:=p1;subst p1';exact⟨b2,rfl,p2⟩
  | succ i=>exact ih h
theorem z7M(h:(A8 P w).is (.inl i) u=true):∃t,u=.int i t:=by
 have h':Value.isInt i u=true:=h;cases u<;>simp[Value.isInt]at h';subst h';exact⟨_,rfl⟩
theorem z1g{σ:St}(I:Inv X pins σ H s)(h:H a=some (.frz ob (.dK kvs)))(hd:ob.data=.dict es ep) :
  (a==sysModules)=false/\∃vs,KV kvs vs/\s.heap.DictAt (A8 X.prog X.w) a vs ep:=by
 obtain⟨z0,z1,z2,vs,z3,⟨o,es',ep',y1,y2,y3,y4⟩⟩:=(show n4 X.prog X.w H s.heap a (.frz ob (.dK kvs))from I.hok _ _ h);rw[z0]at y1;cases y1;rw[hd]at y3;cases y3;exact⟨z2,vs,z3,_,_,z0,y2,hd,y4⟩
theorem q9G{P:Program}{w:World}{K:PySem.W.Frag}{elts:List Expr}{k:Nat}{pos:Pos}{it a:Addr}{ob:Obj}{kvs:List (Key×V)}{es:Array DictEntry}{ep:Nat}(hd:ob.data=.dict es ep) :
  Turn P w K (.Tuple elts k pos) (ItI a ob kvs) [it] it (λi h=>∃ok ov,IsItemIter h it a i kvs.length ep ok ov) where
 mem:=by simp
 obj:=λi h st b hb=>by obtain⟨ok,ov,hn⟩:=st;rw[u8]at hb;subst hb;exact⟨_,hn,λv q=>by cases q⟩
 keep:=λi h h' st q=>by obtain⟨ok,ov,hn⟩:=st;exact⟨ok,ov,q it (by simp) _ hn⟩
 item:=by
  intro X hP hw hK hc i pins s σ H E I hf st hg;subst hP hw hK;obtain⟨ok,ov,hn⟩:=st;obtain⟨hH,k0,v0,hx⟩:=hg;obtain⟨z2,vs,z3,dd⟩:=z1g I hH hd;obtain⟨u,hu,ru⟩:=z8Z z3 hx;have hl:kvs.length=vs.length:=z3.length;rw[hl]at hn;refine wpAny_pyNext_items_item hn dd hu λkey h' b1 b2 b3 b4 b5=>⟨_,rfl,?_⟩
  obtain⟨tk,rfl⟩:=z7M b1;refine w3r b2 λh2 hn2 t2=>?_
  have hsz:s.heap.objs.size≠it:=Q6 (i9 hn);have keep:∀b o,b∉[it]->s.heap.get? b=some o->h2.get? b=some o:=λb o hb e=>t2.extBut _ _ (λq=>hb (by simp[q])) (b5 b o (λq=>hb (by simp[q])) e);have I1:Inv X pins σ H {s with heap:=h2}:=I.turnedL (t':=s.toks) keep hf;have hn':H s.heap.objs.size=none:=I.hok.fresh (e9 _);have f5:=I.fpOk (e9 _) hn';have new:h2.get? s.heap.objs.size=some {cls:=.type "tuple",data:=.seq #[.int k0 tk,u]}:=t2.extBut _ _ hsz b3;have h0:X.s₀.heap.get? s.heap.objs.size=none:=w2t I.sz;have I2:Inv X pins σ (upd H s.heap.objs.size (.tup [.int k0,v0])) {s with heap:=h2}:=I1.track hn' h0 f5.2.1 (λn c e=>f5.2.2.2.2.1 n c e) (λq hq=>f5.2.2.2.2.2 q hq)
   ⟨by show(2:Nat)<=sizeLine;decide,[.int k0 tk,u],.cons ⟨_,rfl⟩ (.cons ru .nil),_,new,⟨rfl,rfl⟩,_,rfl⟩
  refine⟨.ref s.heap.objs.size,_,I2,rfl,⟨_,k0,v0,rfl,hn',hx,rfl⟩,⟨_,_,by rw[hl];exact hn2⟩,λb hb=>?_⟩;rw[u8]at hb;subst hb;rw[j6 (Ne.symm hsz)];exact(hf b (by simp)).1
 done:=by
  intro X hP hw hK hc i pins s σ H E I hf st hg;subst hP hw hK;obtain⟨ok,ov,hn⟩:=st;obtain⟨hH,hx⟩:=hg;obtain⟨z2,vs,z3,dd⟩:=z1g I hH hd;have hl:kvs.length=vs.length:=z3.length;rw[hl]at hn hx;exact wpAny_pyNext_items_end (I.ok.hd hc) hn dd (U5 hx) λh' a=>⟨rfl,I.turnedL (t':=s.toks) (ch:=[it]) (λb o hb e=>a b o (λq=>hb (by simp[q])) e) hf⟩
 self:=λ_ _ _ _ _ st h=>by obtain⟨ok,ov,hn⟩:=st;exact PySem.W.kcp_self hn h
theorem Wk.items(h:L2.wo Oc H1 a=some (.frz ob (.dK kvs)))(e:kvs=odK L):Wk D (ItI a ob kvs) (L.map λp=>.tup [.int p.1,.int p.2]) Oc Oi H1:=by
 subst e;have hl:(odK L).length=L.length:=by unfold odK;rw[d5]
 have at':∀(i:Nat),(odK L)[i]? = (L[i]?).map λp=>(Sum.inl p.1,V.int p.2):=λi=>by unfold odK;rw[n9]
 refine⟨λi H s hi=>?_,λi H x H' y=>?_,λi H x H' d O2 s s' y e ho=>?_,λH s=>?_⟩
 ·rw[d5]at hi;exact⟨r9 _ _ (s _ _ h),L[i].1,.int L[i].2,by rw[at',p7 hi];rfl⟩
 ·obtain⟨p,k,v,_,hp,_,e⟩:=y;rw[e];exact w5 hp
 ·obtain⟨p,k,v,ex,hp,y1,eH⟩:=y;rw[n9]at e;rw[at']at y1;cases hz:L[i]? with
  | none=>rw[hz]at e;cases e
  | some q=>
   rw[hz]at e y1;cases e;cases y1;have hpo:p∉O2:=λz=>(ho p z).1 hp
   subst eH;exact x6.mpr ⟨p,_,ex,SqT.of (by rw[j9 hpo];exact y6),o7.mpr ⟨_,_,rfl,t5.mpr rfl,RepL.one (t5.mpr rfl)⟩⟩
 ·exact⟨r9 _ _ (s _ _ h),by rw[d5,hl];exact e9 _⟩
def ItP(a:Addr)(ob:Obj)(qs:List Addr)(kvs:List (List Key×V)):It:=
  ⟨λi H=>H a=some (.frz ob (.dT kvs))/\∃k v,kvs[i]? = some (k,v),
   λi H x H'=>∃p q k v,x=.ref p/\H p=none/\kvs[i]? = some (k,v)/\qs[i]? = some q/\H q=some (.tup (k.map kV))/\H'=upd H p (.tup [.ref q,v]),
   λi H=>H a=some (.frz ob (.dT kvs))/\kvs.length<=i⟩
theorem z4V(r:KT H kvs xs):∀{i:Nat} {k:List Key} {v:V},kvs[i]? = some (k,v)->∃b u,xs[i]? = some (k,b,u)/\H b=some (.tup (k.map kV))/\RelV v u:=by
 induction r with
 | nil=>intro i k v h;cases h
 | cons p t ih=>
  intro i k v h;cases i with
  | zero=>
   obtain⟨p1,p2,p3⟩:=p;rename_i a b _ _;obtain⟨a1,a2⟩:=a;obtain⟨b1,b2,b3⟩:=b;cases h;have p1':k=b1:=p1;subst p1';exact⟨b2,b3,rfl,p2,p3⟩
  | succ i=>exact ih h
theorem KT.length(r:KT H kvs xs):kvs.length=xs.length:=by
 induction r with
 | nil=>rfl
 | cons _ _ ih=>rw[x4,x4,ih]
theorem q4k{σ:St}(I:Inv X pins σ H s)(h:H a=some (.frz ob (.dT kvs)))(hd:ob.data=.dict es ep) :
  s.heap.get? a=some ob/\(a==sysModules)=false/\ob.ExactDict/\∃xs,KT H kvs xs/\es.toList=xs.map (entryOfKey (tupleKind (A8 X.prog X.w))):=by
 obtain⟨z0,z1,z2,xs,z3,o,es',ep',y1,y2,y3,y4,y5⟩:=(show n4 X.prog X.w H s.heap a (.frz ob (.dT kvs))from I.hok _ _ h);rw[z0]at y1;cases y1;rw[hd]at y3;cases y3;exact⟨z0,z2,y2,xs,z3,y4⟩
def q5E(es:Array DictEntry)(qs:List Addr):Prop:=es.toList.map (·.key)=qs.map Value.ref
theorem q8w{P:Program}{w:World}{K:PySem.W.Frag}{elts:List Expr}{k:Nat}{pos:Pos}{it a:Addr}{ob:Obj}{qs:List Addr}{kvs:List (List Key×V)}{es:Array DictEntry}{ep:Nat}(hd:ob.data=.dict es ep)(hq:q5E es qs) :
  Turn P w K (.Tuple elts k pos) (ItP a ob qs kvs) [it] it (λi h=>∃ok ov,IsItemIter h it a i es.size ep ok ov) where
 mem:=by simp
 obj:=λi h st b hb=>by obtain⟨ok,ov,hn⟩:=st;rw[u8]at hb;subst hb;exact⟨_,hn,λv q=>by cases q⟩
 keep:=λi h h' st q=>by obtain⟨ok,ov,hn⟩:=st;exact⟨ok,ov,q it (by simp) _ hn⟩
 item:=by
  intro X hP hw hK hc i pins s σ H E I hf st hg;subst hP hw hK;obtain⟨ok,ov,hn⟩:=st;obtain⟨hH,k0,v0,hx⟩:=hg;obtain⟨z0,z2,z4,xs,z3,z5⟩:=q4k I hH hd;obtain⟨b,u,hu,hb,ru⟩:=z4V z3 hx;have he:es[i]? = some (entryOfKey (tupleKind (A8 X.prog X.w)) (k0,b,u)):=by rw[entry_at z5,hu];rfl
  have hqi:qs[i]? = some b:=by
   have h1:(es.toList.map (·.key))[i]? = some (.ref b):=by rw[n9,F4,he];rfl
   rw[hq,n9]at h1;obtain⟨c,e1,e2⟩:=u7.mp h1;cases e2;exact e1
  refine q5R (I.ok.hd hc) hn z0 hd (λen h' hen b2 b3 b5=>?_) (λh' hno _=>by rw[he]at hno;cases hno);rw[he]at hen;cases hen;refine⟨_,rfl,?_⟩;refine w3r b2 λh2 hn2 t2=>?_;have hsz:s.heap.objs.size≠it:=Q6 (i9 hn);have keep:∀b o,b∉[it]->s.heap.get? b=some o->h2.get? b=some o:=λb o hb e=>t2.extBut _ _ (λq=>hb (by simp[q])) (b5 b o (λq=>hb (by simp[q])) e);have I1:Inv X pins σ H {s with heap:=h2}:=I.turnedL (t':=s.toks) keep hf;have hn':H s.heap.objs.size=none:=I.hok.fresh (e9 _);have f5:=I.fpOk (e9 _) hn';have new:h2.get? s.heap.objs.size=some {cls:=.type "tuple",data:=.seq #[.ref b,u]}:=t2.extBut _ _ hsz b3;have h0:X.s₀.heap.get? s.heap.objs.size=none:=w2t I.sz;have I2:Inv X pins σ (upd H s.heap.objs.size (.tup [.ref b,v0])) {s with heap:=h2}:=I1.track hn' h0 f5.2.1 (λn c e=>f5.2.2.2.2.1 n c e) (λq hq=>f5.2.2.2.2.2 q hq)
   ⟨by show(2:Nat)<=sizeLine;decide,[.ref b,u],.cons rfl (.cons ru .nil),_,new,⟨rfl,rfl⟩,_,rfl⟩
  refine⟨.ref s.heap.objs.size,_,I2,rfl,⟨_,b,k0,v0,rfl,hn',hx,hqi,hb,rfl⟩,⟨_,_,hn2⟩,λb hb=>?_⟩;rw[u8]at hb;subst hb;rw[j6 (Ne.symm hsz)];exact(hf b (by simp)).1
 done:=by
  intro X hP hw hK hc i pins s σ H E I hf st hg;subst hP hw hK;obtain⟨ok,ov,hn⟩:=st;obtain⟨hH,hx⟩:=hg;obtain⟨z0,z2,z4,xs,z3,z5⟩:=q4k I hH hd;have hl:es.size<=i:=by rw[size_of_entries z5,←z3.length];exact hx
  exact q5R (I.ok.hd hc) hn z0 hd (λen h' hen _ _ _=>by rw[K7 hl]at hen;cases hen) λh' _ a=>⟨rfl,I.turnedL (t':=s.toks) (ch:=[it]) (λb o hb e=>a b o (λq=>hb (by simp[q])) e) hf⟩
 self:=λ_ _ _ _ _ st h=>by obtain⟨ok,ov,hn⟩:=st;exact PySem.W.kcp_self hn h
theorem Wk.itemsP(h:L2.wo Oc H1 a=some (.frz ob (.dT kvs)))(e:kvs=oeK L)(hq:∀q∈qs,∃ys,H1 q=some (.tup ys))(hO:Hdn Oi H1):Wk D (ItP a ob qs kvs) (L.map λp=>.tup [.tup [.int p.1.1,.int p.1.2],.int p.2]) Oc Oi H1:=by
 subst e;have hl:(oeK L).length=L.length:=by unfold oeK;rw[d5]
 have at':∀(i:Nat),(oeK L)[i]? = (L[i]?).map λp=>(kP p.1,V.int p.2):=λi=>by unfold oeK;rw[n9];rfl
 refine⟨λi H s hi=>?_,λi H x H' y=>?_,λi H x H' d O2 s s' y e ho=>?_,λH s=>?_⟩
 ·rw[d5]at hi;exact⟨r9 _ _ (s _ _ h),kP L[i].1,.int L[i].2,by rw[at',p7 hi];rfl⟩
 ·obtain⟨p,q,k,v,_,hp,_,_,_,e⟩:=y;rw[e];exact w5 hp
 ·obtain⟨p,q,k,v,ex,hp,y1,y2,y3,eH⟩:=y;rw[n9]at e;rw[at']at y1;cases hz:L[i]? with
  | none=>rw[hz]at e;cases e
  | some q'=>
   rw[hz]at e y1;cases e;cases y1;have hpo:p∉O2:=λz=>(ho p z).1 hp
   have hqo:q∉O2:=λz=>by
    obtain⟨ys,w⟩:=hq q (w2u y2);rcases(ho q z).2 with u | u
    ·obtain⟨o,w2,m⟩:=hO q u;rw[w]at w2;cases w2;cases m
    ·rw[w]at u;cases u
   subst eH;have hqp:q≠p:=D9 y3 hp;have r1:Rep D (L2.wo O2 (upd H p (.tup [.ref q,.int q'.2]))) (.tup [.int q'.1.1,.int q'.1.2]) (.ref q):=
    x6.mpr ⟨q,_,rfl,SqT.of (by rw[j9 hqo,j6 hqp];exact y3),o7.mpr ⟨_,_,rfl,t5.mpr rfl,RepL.one (t5.mpr rfl)⟩⟩
   exact x6.mpr ⟨p,_,ex,SqT.of (by rw[j9 hpo];exact y6),o7.mpr ⟨_,_,rfl,r1,RepL.one (t5.mpr rfl)⟩⟩
 ·exact⟨r9 _ _ (s _ _ h),by rw[d5,hl];exact e9 _⟩
def ItKy(a:Addr)(ob:Obj)(qs:List Addr)(kvs:List (List Key×V)):It:=
  ⟨λi H=>H a=some (.frz ob (.dT kvs))/\∃k v,kvs[i]? = some (k,v),
   λi H x H'=>∃q k v,x=.ref q/\kvs[i]? = some (k,v)/\qs[i]? = some q/\H q=some (.tup (k.map kV))/\H'=H,
   λi H=>H a=some (.frz ob (.dT kvs))/\kvs.length<=i⟩
theorem z0U{P:Program}{w:World}{K:PySem.W.Frag}{tg:Expr}{it a:Addr}{ob:Obj}{qs:List Addr}{kvs:List (List Key×V)}{es:Array DictEntry}{ep:Nat}(hd:ob.data=.dict es ep)(hq:q5E es qs) :
  Turn P w K tg (ItKy a ob qs kvs) [it] it (λi h=>q9T h it a i es.size ep) where
 mem:=by simp
 obj:=λi h st b hb=>by rw[u8]at hb;subst hb;exact⟨_,st,λv q=>by cases q⟩
 keep:=λi h h' st q=>q it (by simp) _ st
 item:=by
  intro X hP hw hK hc i pins s σ H E I hf st hg;subst hP hw hK;obtain⟨hH,k0,v0,hx⟩:=hg;obtain⟨z0,z2,z4,xs,z3,z5⟩:=q4k I hH hd;obtain⟨b,u,hu,hb,ru⟩:=z4V z3 hx;have he:es[i]? = some (entryOfKey (tupleKind (A8 X.prog X.w)) (k0,b,u)):=by rw[entry_at z5,hu];rfl
  have hqi:qs[i]? = some b:=by
   have h1:(es.toList.map (·.key))[i]? = some (.ref b):=by rw[n9,F4,he];rfl
   rw[hq,n9]at h1;obtain⟨c,e1,e2⟩:=u7.mp h1;cases e2;exact e1
  refine q7g (I.ok.hd hc) st z0 hd (λen h' hen b2 b5=>?_) (λh' hno _=>by rw[he]at hno;cases hno);rw[he]at hen;cases hen;refine⟨_,rfl,z2d (n:="dict_keyiterator") b2 rfl rfl (by decide) ?_⟩;have I1:Inv X pins σ H {s with heap:=h'}:=I.turnedL (t':=s.toks) (ch:=[it]) (λb o hb e=>b5 b o (λq=>hb (by simp[q])) e) hf;exact⟨.ref b,H,I1,rfl,⟨b,k0,v0,rfl,hx,hqi,hb,rfl⟩,b2,λc hc=>(hf c hc).1⟩
 done:=by
  intro X hP hw hK hc i pins s σ H E I hf st hg;subst hP hw hK;obtain⟨hH,hx⟩:=hg;obtain⟨z0,z2,z4,xs,z3,z5⟩:=q4k I hH hd;have hl:es.size<=i:=by rw[size_of_entries z5,←z3.length];exact hx
  exact q7g (I.ok.hd hc) st z0 hd (λen h' hen _ _=>by rw[K7 hl]at hen;cases hen) λh' _ a=>⟨rfl,I.turnedL (t':=s.toks) (ch:=[it]) (λb o hb e=>a b o (λq=>hb (by simp[q])) e) hf⟩
 self:=λ_ _ _ _ _ st h=>wpAny_pyIter_keyiter ⟨_,st,rfl,rfl⟩ h
theorem Wk.keysP(h:L2.wo Oc H1 a=some (.frz ob (.dT kvs)))(e:kvs=oeK L)(hq:∀q∈qs,∃ys,H1 q=some (.tup ys))(hO:Hdn Oi H1):Wk D (ItKy a ob qs kvs) (L.map λp=>.tup [.int p.1.1,.int p.1.2]) Oc Oi H1:=by
 subst e;have hl:(oeK L).length=L.length:=by unfold oeK;rw[d5]
 have at':∀(i:Nat),(oeK L)[i]? = (L[i]?).map λp=>(kP p.1,V.int p.2):=λi=>by unfold oeK;rw[n9];rfl
 refine⟨λi H s hi=>?_,λi H x H' y=>?_,λi H x H' d O2 s s' y e ho=>?_,λH s=>?_⟩
 ·rw[d5]at hi;exact⟨r9 _ _ (s _ _ h),kP L[i].1,.int L[i].2,by rw[at',p7 hi];rfl⟩
 ·obtain⟨q,k,v,_,_,_,_,e⟩:=y;rw[e];exact Same.refl _
 ·obtain⟨q,k,v,ex,y1,y2,y3,eH⟩:=y;rw[n9]at e;rw[at']at y1;cases hz:L[i]? with
  | none=>rw[hz]at e;cases e
  | some q'=>
   rw[hz]at e y1;cases e;cases y1;have hqo:q∉O2:=λz=>by
    obtain⟨ys,w⟩:=hq q (w2u y2);rcases(ho q z).2 with u | u
    ·obtain⟨o,w2,m⟩:=hO q u;rw[w]at w2;cases w2;cases m
    ·rw[w]at u;cases u
   subst eH;exact x6.mpr ⟨q,_,ex,SqT.of (by rw[j9 hqo];exact y3),o7.mpr ⟨_,_,rfl,t5.mpr rfl,RepL.one (t5.mpr rfl)⟩⟩
 ·exact⟨r9 _ _ (s _ _ h),by rw[d5,hl];exact e9 _⟩
section
variable {X:Cx} {E:St->XK} {δ:List Sv} {e:Expr} {elts:List Expr} {k:Nat} {tpos apos pos:Pos} {ra:Option Re} {ri:Ri}
theorem z4j(he:PE X e te)(hbase:attributeBase e "items" X.env (eval e X.env)=eval e X.env)(hline:(apos.endLine==pos.line)=true) :
  PI X (.Tuple elts k tpos) (.Call (.Attribute e "items" apos) [] [] pos) (λσ H R=>te σ H λx H1=>(∃a ob kvs,x=.ref a/\H1 a=some (.frz ob (.dK kvs))/\R (ItI a ob kvs) H1)\/∃a ob kvs,x=.ref a/\H1 a=some (.frz ob (.dT kvs))/\∀qs:List Addr,(∀q∈qs,∃ys,H1 q=some (.tup ys))->R (ItP a ob qs kvs) H1):=by
 intro pins s σ H R I h;refine w3U hbase hline (thn (he pins s σ H _ I h) λv s1 ⟨x,H1,I1,r1,hx⟩=>?_);rcases hx with⟨a,ob,kvs,e1,e2,q⟩ | ⟨a,ob,kvs,e1,e2,q⟩
 ·subst e1;cases r1;obtain⟨z0,z1,z2,vs0,z3,z4⟩:=(show n4 X.prog X.w H1 s1.heap a (.frz ob (.dK kvs))from I1.hok _ _ e2);obtain⟨o',es,ep,y1,y2,y3,y4⟩:=id z4;have yo:o'=ob:=by rw[z0]at y1;cases y1;rfl
  subst yo;refine⟨"dict","dict.items",w3Y,w2h,w3Z,z4.typeIs,z4.mapOf.noDict,Y3 rfl (w3f ?_)⟩;refine call_meetsIn w2h z4.typeIs w3R (w3I _) (meets_dict_items (A8 X.prog X.w) a z2) ⟨⟨vs0,z4⟩,?_⟩;have k1:∀b o,s1.heap.get? b=some o->(s1.heap.push {cls:=.type "dict_items",data:=.fields #[.ref a]}).get? b=some o:=λb o e=>j2 _ e
  have I2:Inv X pins σ H1 {s1 with heap:=s1.heap.push {cls:=.type "dict_items",data:=.fields #[.ref a]}}:=I1.kept (t':=s1.toks) k1;obtain⟨_,vs,w3,dd⟩:=z1g I2 e2 y3;refine wpAny_pyIter_items (v:=s1.heap.objs.size) ⟨_,p8 _ rfl,rfl,rfl⟩ dd ?_;have hl:kvs.length=vs.length:=w3.length;rw[←hl];refine⟨_,[_],_,ItI a o' kvs,H1,rfl,I2.kept (t':=s1.toks) λb o e=>j2 _ e,q9G (elts:=elts) (k:=k) (pos:=tpos) y3,⟨.none,.none,p8 _ rfl⟩,λc hc=>?_,q⟩;rw[u8]at hc;subst hc;exact I2.fpOk (e9 _) (I2.hok.fresh (e9 _))
 ·subst e1;cases r1;obtain⟨o',es,ep,z5,z6⟩:∃o' es ep,s1.heap.get? a=some o'/\o'.data=.dict es ep:=by
   obtain⟨z0,z1,z2,xs,z3,o,es,ep,y1,y2,y3,y4⟩:=(show n4 X.prog X.w H1 s1.heap a (.frz ob (.dT kvs))from I1.hok _ _ e2);exact⟨o,es,ep,y1,y3⟩
  have yo:o'=ob:=(by obtain⟨z0,_⟩:=(show n4 X.prog X.w H1 s1.heap a (.frz ob (.dT kvs))from I1.hok _ _ e2);rw[z0]at z5;cases z5;rfl);subst yo;obtain⟨z0,z2,z4,xs,z3,z7⟩:=q4k I1 e2 z6;have tI:s1.TypeIs (.ref a) "dict":=⟨o',z0,z4.1⟩;have nD:∀b,Value.ref a=.ref b->∃ob,s1.heap.get? b=some ob/\ob.dict=none:=λb q=>by cases q;exact⟨o',z0,z4.2.1⟩
  refine⟨"dict","dict.items",w3Y,w2h,w3Z,tI,nD,Y3 rfl (w3f ?_)⟩;refine call_meetsIn w2h tI w3R (w3I _) (z0a z2) ⟨tI,?_⟩;have k1:∀b o,s1.heap.get? b=some o->(s1.heap.push {cls:=.type "dict_items",data:=.fields #[.ref a]}).get? b=some o:=λb o e=>j2 _ e;have I2:Inv X pins σ H1 {s1 with heap:=s1.heap.push {cls:=.type "dict_items",data:=.fields #[.ref a]}}:=I1.kept (t':=s1.toks) k1;refine z0e (v:=s1.heap.objs.size) ⟨_,p8 _ rfl,rfl,rfl⟩ (k1 _ _ z0) z6 ?_;have hqs:q5E es (xs.map (·.2.1)):=by unfold q5E;rw[z7,j4,j4];rfl
  refine⟨_,[_],_,ItP a o' (xs.map (·.2.1)) kvs,H1,rfl,I2.kept (t':=s1.toks) λb o e=>j2 _ e,q8w (elts:=elts) (k:=k) (pos:=tpos) z6 hqs,⟨.none,.none,p8 _ rfl⟩,λc hc=>?_,q _ λb hb=>?_⟩
  ·rw[u8]at hc;subst hc;exact I2.fpOk (e9 _) (I2.hok.fresh (e9 _))
  ·obtain⟨y,hy,rfl⟩:=f9.mp hb;have all:∀{l:List (List Key×V)} {m:List (List Key×Addr×Value)},KT H1 l m->∀x∈m,∃ys,H1 x.2.1=some (.tup ys):=by
    intro l m q
    induction q with
    | nil=>intro x hx;exact nomatch hx
    | cons p t ih=>
     intro x hx;rcases e8.mp hx with z | z
     ·rw[z];exact⟨_,p.2.1⟩
     ·exact ih x z
   exact all z3 y hy
theorem z5j:∀{ks:List DKey} {vs:List DV} {L:List (Int×Int)},kvs? ks vs=some L->∀{D:Dm} {H:Hp} {kv:List (Key×V)},kv.map (λp=>dKey p.1)=ks->RepL D H vs (kv.map (·.2))->kv=odK L
 | [],[],L,h,D,H,kv,e,r=>by cases h;cases kv with | nil=>rfl | cons _ _=>cases e
 | [],_::_,L,h,D,H,kv,e,r=>by cases h
 | .i k::ks,.int v::vs,L,h,D,H,kv,e,r=>by
  have h':(kvs? ks vs).map ((k,v) :: ·)=some L:=h;obtain⟨L',h1,h2⟩:=u7.mp h';subst h2;cases kv with
  | nil=>cases e
  | cons p kv=>
   obtain⟨k1,v1⟩:=p;obtain⟨w,ws,e1,e2,e3⟩:=o7.mp r;cases e1;have e':=Z8 e;have hk:k1=.inl k:=by
    cases k1 with
    | inl j=>cases e'.1;rfl
    | inr j=>cases e'.1
   rw[z5j h1 e'.2 e3,hk,show v1=.int v from t5.mp e2];rfl
 | .i _::_,[],L,h,D,H,kv,e,r=>by cases h
 | .s _::_,_,L,h,D,H,kv,e,r=>by cases h
 | .t _::_,_,L,h,D,H,kv,e,r=>by cases h
 | .i _::_,.non::_,L,h,D,H,kv,e,r=>by cases h
 | .i _::_,.bl _::_,L,h,D,H,kv,e,r=>by cases h
 | .i _::_,.str _::_,L,h,D,H,kv,e,r=>by cases h
 | .i _::_,.tup _::_,L,h,D,H,kv,e,r=>by cases h
 | .i _::_,.lst _::_,L,h,D,H,kv,e,r=>by cases h
 | .i _::_,.dct _ _::_,L,h,D,H,kv,e,r=>by cases h
 | .i _::_,.exc _::_,L,h,D,H,kv,e,r=>by cases h
 | .i _::_,.fn _::_,L,h,D,H,kv,e,r=>by cases h
 | .i _::_,.scr _::_,L,h,D,H,kv,e,r=>by cases h
theorem y0G{ks:List DKey}{vs:List DV}{L:List (Int×Int)}(h:kvs? ks vs=some L){kv:List (List Key×V)}(e:kv.map (λp=>DKey.t p.1)=ks):L=[]/\kv=[]:=by
 cases kv with
 | nil=>
  subst e;cases vs with
  | nil=>cases h;exact⟨rfl,rfl⟩
  | cons _ _=>cases h
 | cons p kv=>
  subst e;cases vs<;>cases h
theorem z9q{ks:List DKey}{vs:List DV}{L:List ((Int×Int)×Int)}(h:kvp? ks vs=some L){kv:List (Key×V)}(e:kv.map (λp=>dKey p.1)=ks):L=[]/\kv=[]:=by
 cases kv with
 | nil=>
  subst e;cases vs with
  | nil=>cases h;exact⟨rfl,rfl⟩
  | cons _ _=>cases h
 | cons p kv=>
  subst e;obtain⟨k,v⟩:=p;cases k<;>cases vs<;>cases h
theorem z4Y:∀{ks:List DKey} {vs:List DV} {L:List ((Int×Int)×Int)},kvp? ks vs=some L->∀{D:Dm} {H:Hp} {kv:List (List Key×V)},kv.map (λp=>DKey.t p.1)=ks->RepL D H vs (kv.map (·.2))->kv=oeK L:=by
 intro ks
 induction ks with
 | nil=>
  intro vs L h D H kv e r;cases kv with
  | nil=>cases vs with
   | nil=>cases h;rfl
   | cons _ _=>cases h
  | cons _ _=>cases e
 | cons k0 ks ih=>
  intro vs L h D H kv e r;unfold kvp? at h;split at h
  ·exact absurd (by assumption:k0::ks=[]) (List.cons_ne_nil _ _)
  ·rename_i a b ks' v vs' q;cases q;obtain⟨L',h1,h2⟩:=u7.mp h;subst h2;cases kv with
   | nil=>cases e
   | cons p kv=>
    obtain⟨k1,v1⟩:=p;obtain⟨w,ws,e1,e2,e3⟩:=o7.mp r;cases e1;have e':=Z8 e;rw[ih h1 e'.2 e3,show k1=[.inl a,.inl b]from DKey.t.inj e'.1,show v1=.int v from t5.mp e2];rfl
  ·cases h
theorem z7j(hbase:attributeBase e "items" X.env (eval e X.env)=eval e X.env)(hline:(apos.endLine==pos.line)=true)(ha:∀q,ra=some q->PE X e (dE X.D E δ q))
  (h:j3 (Re.thn ra λx c=>itmD x c)=some ri):PI X (.Tuple elts k tpos) (.Call (.Attribute e "items" apos) [] [] pos) (dI X.D E δ ri):=by
 have C:=λta (hA:PE X e ta)=>z4j (elts:=elts) (k:=k) (tpos:=tpos) (apos:=apos) (pos:=pos) hA hbase hline;cases hra:ra with
 | none=>rw[hra]at h;cases h
 | some q=>
  rw[hra]at h;have A:=ha q hra;cases q with
  | ex c=>cases h;exact(C _ A).weak λσ H R' ⟨O,W,R,p⟩=>⟨O,W,R,p⟩
  | ok dx cx=>
   have h':j3 (itmD dx cx)=some ri:=h;unfold itmD at h';split at h'
   ·rename_i ks vs;split at h'
    ·rename_i hcx;subst hcx;split at h'
     ·rename_i L hk;cases h';exact(C _ A).weak λσ H R' ⟨O,W,R,p⟩=>⟨O,W,R,λx H1 s1 g1=>by
       rcases J0.mp (show Rep X.D (L2.wo (O++W) H1) (.dct ks vs) x from g1)with⟨a,ob,kvs,e1,e2,e3,e4⟩ | ⟨a,ob,kvs,e1,e2,e3,e4⟩
       ·exact .inl ⟨a,ob,kvs,e1,r9 _ _ e2,p _ H1 s1 (.items e2 (z5j hk e3 e4))⟩
       ·obtain⟨rfl,rfl⟩:=y0G hk e3;exact .inr ⟨a,ob,[],e1,r9 _ _ e2,λqs hq=>p _ H1 s1 (Wk.itemsP (L:=[]) e2 rfl hq (R.hid.mono s1).hdA)⟩⟩
     ·rename_i hk0;cases hk:kvp? ks vs with
      | none=>rw[hk]at h';cases h'
      | some L=>
       rw[hk]at h';cases h';exact(C _ A).weak λσ H R' ⟨O,W,R,p⟩=>⟨O,W,R,λx H1 s1 g1=>by
        rcases J0.mp (show Rep X.D (L2.wo (O++W) H1) (.dct ks vs) x from g1)with⟨a,ob,kvs,e1,e2,e3,e4⟩ | ⟨a,ob,kvs,e1,e2,e3,e4⟩
        ·obtain⟨rfl,rfl⟩:=z9q hk e3;have hvs:vs=[]:=w1O.mp (by have:=e4.length;simpa using this.symm);subst hvs;subst e3;cases hk0
        ·exact .inr ⟨a,ob,kvs,e1,r9 _ _ e2,λqs hq=>p _ H1 s1 (Wk.itemsP e2 (z4Y hk e3 e4) hq (R.hid.mono s1).hdA)⟩⟩
    ·cases h'
   ·cases h'
theorem z5X(he:PE X e te) :
  PI X tg e (λσ H R=>te σ H λx H1=>∃a ob kvs,x=.ref a/\H1 a=some (.frz ob (.dT kvs))/\∀qs:List Addr,(∀q∈qs,∃ys,H1 q=some (.tup ys))->R (ItKy a ob qs kvs) H1):=by
 intro pins s σ H R I h;refine thn (he pins s σ H _ I h) λv s1 ⟨x,H1,I1,r1,hx⟩=>?_
 obtain⟨a,ob,kvs,e1,e2,q⟩:=hx;subst e1;cases r1;obtain⟨o',es,ep,z5,z6⟩:∃o' es ep,s1.heap.get? a=some o'/\o'.data=.dict es ep:=by obtain⟨z0,z1,z2,xs,z3,o,es,ep,y1,y2,y3,y4⟩:=(show n4 X.prog X.w H1 s1.heap a (.frz ob (.dT kvs))from I1.hok _ _ e2);exact⟨o,es,ep,y1,y3⟩
 have yo:o'=ob:=(by obtain⟨z0,_⟩:=(show n4 X.prog X.w H1 s1.heap a (.frz ob (.dT kvs))from I1.hok _ _ e2);rw[z0]at z5;cases z5;rfl);subst yo;obtain⟨z0,z2,z4,xs,z3,z7⟩:=q4k I1 e2 z6;refine z2b z2 ⟨o',z0,z4.1⟩ z0 z6 ?_;have hqs:q5E es (xs.map (·.2.1)):=by unfold q5E;rw[z7,j4,j4];rfl
 refine⟨_,[_],_,ItKy a o' (xs.map (·.2.1)) kvs,H1,rfl,I1.kept (t':=s1.toks) λb o e=>j2 _ e,z0U (tg:=tg) z6 hqs,p8 _ rfl,λc hc=>?_,q _ λb hb=>?_⟩
 ·rw[u8]at hc;subst hc;exact I1.fpOk (e9 _) (I1.hok.fresh (e9 _))
 ·obtain⟨y,hy,rfl⟩:=f9.mp hb;have all:∀{l:List (List Key×V)} {m:List (List Key×Addr×Value)},KT H1 l m->∀x∈m,∃ys,H1 x.2.1=some (.tup ys):=by
   intro l m q
   induction q with
   | nil=>intro x hx;exact nomatch hx
   | cons p t ih=>
    intro x hx;rcases e8.mp hx with z | z
    ·rw[z];exact⟨_,p.2.1⟩
    ·exact ih x z
  exact all z3 y hy
theorem z6B(ha:∀q,ra=some q->PE X e (dE X.D E δ q))(h:j3 (Re.thn ra λx c=>kysD x c)=some ri):PI X tg e (dI X.D E δ ri):=by
 have C:=λta (hA:PE X e ta)=>z5X (tg:=tg) hA;cases hra:ra with
 | none=>rw[hra]at h;cases h
 | some q=>
  rw[hra]at h;have A:=ha q hra;cases q with
  | ex c=>cases h;exact(C _ A).weak λσ H R' ⟨O,W,R,p⟩=>⟨O,W,R,p⟩
  | ok dx cx=>
   have h':j3 (kysD dx cx)=some ri:=h;unfold kysD at h';split at h'
   ·rename_i k0 ks vs;split at h'
    ·rename_i hcx;subst hcx;cases hk:kvp? (k0::ks) vs with
     | none=>rw[hk]at h';cases h'
     | some L=>
      rw[hk]at h';cases h';exact(C _ A).weak λσ H R' ⟨O,W,R,p⟩=>⟨O,W,R,λx H1 s1 g1=>by
       rcases J0.mp (show Rep X.D (L2.wo (O++W) H1) (.dct (k0::ks) vs) x from g1)with⟨a,ob,kvs,e1,e2,e3,e4⟩ | ⟨a,ob,kvs,e1,e2,e3,e4⟩
       ·obtain⟨rfl,rfl⟩:=z9q hk e3;cases e3
       ·exact⟨a,ob,kvs,e1,r9 _ _ e2,λqs hq=>p _ H1 s1 (Wk.keysP e2 (z4Y hk e3 e4) hq (R.hid.mono s1).hdA)⟩⟩
    ·cases h'
   ·cases h'
end
end
section
section
variable {X:Cx} {CX:CXT} {k:Nat} {f:Addr} {fd:FuncData} {ps ks:List Str} {sp:Sp} {E:St->XK} {x:Str} {p pos:Pos} {e:Expr} {es:List Expr} {kws:List Keyword} {t tk:TA} {g:List Value->List Value->List Value} {gV:List V->List V->List V}
end
section
variable {X:Cx} {E:St->XK} {δ:List Sv} {re:Re} {rs:Option Rs}
end
section
variable {X:Cx} {E:St->XK} {δ:List Sv} {e:Expr} {es:List Expr} {pos p:Pos} {re:Re} {rs rs':Option Rs} {k:Nat} {fa:Addr} {fd:FuncData} {ps:List Str} {x:Str}
def K6{α:Type}(n:Nat)(us ws:List α):List α:=if us.length+1=n/\ws.length=1 then us++ws else[]
theorem z2l(r:Vals vs us)(q:Vals zs ws):Vals (K6 n vs zs) (K6 n us ws):=by
 unfold K6;rw[r.length,q.length];split
 ·exact r.append q
 ·exact .nil
end
end
section
def z9C(K:PySem.W.Frag)(C:Addr):Prop:=∃B newId initId bmB,ExcBaseFacts B newId initId bmB/\PySem.W.excIn K C bmB newId=true
structure XOne(K:PySem.W.Frag)(mg:Str->Option Value)(G:Gs)(cl:List Str)(c:Str)(C:Addr):Prop where
 mc:mg c=some (.ref C)
 ck:ClsK K C
 rk:z9C K C
 own:∀t∈cl,∀Ct,mg t=some (.ref Ct)->PySem.W.kitOne K (.ref C) (.ref Ct)=some (L5 G c t)/\(L5 G c t=true->PySem.W.exmOne K (.ref C) (.ref Ct)=some true)
 blt:PySem.W.kitOne K (.ref C) (.type "ValueError")=some (L5 G c "ValueError")
structure XFacts(K:PySem.W.Frag)(mg:Str->Option Value)(G:Gs)(cl:List Str):Prop where
 one:∀c,(G.cls.lookup c).isSome=true->∃C,XOne K mg G cl c C
 all:∀t∈cl,∃Ct,mg t=some (.ref Ct)
section
variable {X:Cx} {E:St->XK} {δ:List Sv} {e:Expr} {pos p p':Pos} {re:Re} {ra:Option Re} {G:Gs} {cl:List Str} {t:Str} {o:Out}
def rIsx(X:Cx):List V->Hp->VK->Prop:=λxs H Q=>∃(a C:Addr) (y:V) (c:Value) (b:Bool),xs=[.ref a,y]/\H a=some (excO a (.ref C))/\ClsK X.K C/\((∃Ct,y=.ref Ct/\c=.ref Ct)\/∃n,y=.ty n/\c=.type n)/\PySem.W.kitOne X.K (.ref C) c=some b/\Q (.bl b) H
theorem z4l:x0 X (.builtin "isinstance") (rIsx X):=by
 intro pins s σ H xs us Q I r h;obtain⟨a,C,y,c,b,rfl,ea,ck,hy,hk,q⟩:=h;obtain⟨u,w',rfl,ru,rw'⟩:=z0w r;cases(show u=Value.ref a from ru);obtain⟨⟨oe,vs,h1,h2,_⟩,_⟩:=(show n4 X.prog X.w H s.heap a (excO a (.ref C))from I.hok a _ ea);have hw:w'=c:=by
  rcases hy with⟨Ct,rfl,rfl⟩ | ⟨n,rfl,rfl⟩
  ·exact rw'
  ·exact rw'
 subst hw;exact z7q ck I.kIn ⟨oe,h1,h2⟩ hk λtk=>⟨.bl b,H,I.tok tk,rfl,q⟩
theorem q4Z:bootBuiltins "ValueError" = some (.type "ValueError"):=by decide +kernel
theorem z7l(F:XFacts X.K X.mg G cl)(hg:Gl X "isinstance")(hm:X.mg "isinstance" = none)(hgt:Gl X t)(ht:(t∈cl/\(t==("__debug__" : Str))=false)\/(X.mg t=none/\t = "ValueError"))
  (ha:∀q,ra=some q->PE X e (dE X.D E δ q)) (hs:m7 e=false) (h:(Re.thn ra λy _=>(isxD G y t).map λk=>.ok (.bl k) .strong)=some re):PE X (.Call (.Name "isinstance" p) [e,.Name t p'] [] pos) (dE X.D E δ re):=by
 have T:∃(v:V) (c:Value),PE X (.Name t p') (tC v)/\((∃Ct,v=.ref Ct/\c=.ref Ct)\/∃n,v=.ty n/\c=.type n)/\∀c' C,XOne X.K X.mg G cl c' C->PySem.W.kitOne X.K (.ref C) c=some (L5 G c' t):=by
  rcases ht with⟨h1,h2⟩ | ⟨h1,h2⟩
  ·obtain⟨Ct,hC⟩:=F.all t h1;exact⟨.ref Ct,.ref Ct,z1C hgt hC rfl h2,.inl ⟨Ct,rfl,rfl⟩,λc' C x=>(x.own t h1 Ct hC).1⟩
  ·subst h2;exact⟨.ty "ValueError",.type "ValueError",z2k hgt h1 q4Z rfl (by decide +kernel) (by decide +kernel),.inr ⟨_,rfl,rfl⟩,λc' C x=>x.blt⟩
 obtain⟨v,c,T,hv,hk⟩:=T;have C:=λta (hA:PE X e ta)=>q4N (p:=p) (pos:=pos) z4l hg hm boot_isinstance (L3 hA (L3 T V6) (t6 hs)) (by decide) (by decide) (t6 hs)
 cases hra:ra with
 | none=>rw[hra]at h;cases h
 | some q=>
  rw[hra]at h;have A:=ha q hra;cases q with
  | ex c=>cases h;exact(C _ A).weak λσ H Q ⟨O,W,R,p⟩=>⟨O,W,R,p⟩
  | ok d dc=>
   obtain⟨k,e1,e2⟩:=u7.mp (show((isxD G d t).map λk=>Re.ok (.bl k) .strong)=some re from h);cases e2;unfold isxD at e1;split at e1
   ·rename_i c';split at e1
    ·rename_i hc;cases e1;obtain⟨C0,x⟩:=F.one c' hc;refine(C _ A).weak λσ H Q ⟨O,W,R,p⟩=>⟨O,W,R,λv1 H1 s1 g1=>?_⟩
     obtain⟨a,C1,z1,z2,z3⟩:=q8s.mp (g1.all (R.hid.mono s1));rw[show C1=Value.ref C0 from C6 (z2.symm.trans x.mc)]at z3;exact⟨a,C0,v,c,_,by rw[z1],z3,x.ck,hv,hk c' C0 x,p _ H1 s1 P1⟩
    ·cases e1
   ·cases e1
theorem z2F(F:XFacts X.K X.mg G cl)(hc:X.calm=true)(hg:Gl X c)(hd:(c==("__debug__" : Str))=false)(hR:q4H X E)(ha:∀q,ra=some q->PE X e (dE X.D E δ q))(hs:m7 e=false)
  (h:(if(G.cls.lookup c).isSome then Re.thnS δ ra λ_ _=>some (.ex c δ)else none)=some o):PS X (.Raise (some (.Call (.Name c np) [e] [] cpos)) none pos) (dS X.D E δ o):=by
 split at h
 ·rename_i hc';obtain⟨C,x⟩:=F.one c hc';obtain⟨B,newId,initId,bmB,FB,hx⟩:=x.rk;cases hra:ra with
  | none=>rw[hra]at h;cases h
  | some q=>
   rw[hra]at h;have A:=ha q hra;have P:=z3o (np:=np) (cpos:=cpos) (pos:=pos) FB hc hg x.mc hx hR (L3 A V6 (t6 hs)) hd (t6 hs) rfl;cases q with
   | ex c2=>cases h;exact P.weak λDn σ H ⟨H0,O,W,R,fr,fo,sm,k⟩=>⟨O,W,R,L9 R fr sm k⟩
   | ok d dc=>cases h;exact P.weak λDn σ H ⟨H0,O,W,R,fr,fo,sm,k⟩=>⟨O,W,R,λv H1 s1 g=>⟨by show 1<=sizeLine;decide,k σ H1 W _ x.mc (R.mono s1) fr (sm.trans s1)⟩⟩
 ·cases h
theorem RSt.unset(R:RSt D H σ δ O W)(i:Nat):RSt D H (σ.set i none) (δ.set i .no) O W where
 val:=λj d h=>by
  by_cases hj:j=i
  ·subst hj;have hl:j<δ.length:=by
    have:=(u5.mp h).1;rw[v4]at this;exact this
   rw[B7 hl]at h;cases h
  ·rw[d9 (Ne.symm hj)]at h ⊢;exact R.val j d h
 own:=λj d h=>by
  by_cases hj:j=i
  ·subst hj;have hl:j<δ.length:=by
    have:=(u5.mp h).1;rw[v4]at this;exact this
   rw[B7 hl]at h;cases h
  ·rw[d9 (Ne.symm hj)]at h ⊢;exact R.own j d h
 inj:=λj k a d d' h1 h2 h3 h4=>by
  have ne:∀(j:Nat) d,(δ.set i .no)[j]? = some (.own d)->j≠i:=λj d h z=>by
   subst z;have hl:j<δ.length:=by have:=(u5.mp h).1;rw[v4]at this;exact this
   rw[B7 hl]at h;cases h
  have nj:=ne j d h1;have nk:=ne k d' h2;rw[d9 (Ne.symm nj)]at h1 h3;rw[d9 (Ne.symm nk)]at h2 h4;exact R.inj j k a d d' h1 h2 h3 h4
 ot:=λj d h=>by
  have nj:=j1 h (by intro z;cases z);rw[d9 (Ne.symm nj)]at h ⊢;obtain⟨⟨t,ts,p,xs,ds,es,e0,e1,e2,e3,e4,e5,e6,e7⟩,u⟩:=R.ot j d h;refine⟨⟨t,ts,p,xs,ds,es,e0,e1,e2,e3,e4,e5,e6,λk d2 q=>?_⟩,λk d2 q=>?_⟩
  ·have nk:=j1 q (by intro z;cases z);rw[d9 (Ne.symm nk)]at q ⊢;exact e7 k d2 q
  ·have nk:=j1 q (by intro z;cases z);rw[d9 (Ne.symm nk)]at q;exact u k d2 q
 o2:=λj d h=>by
  have nj:=j1 h (by intro z;cases z);rw[d9 (Ne.symm nj)]at h ⊢;obtain⟨⟨p,L,e0,e1,e2,e3⟩,u,n⟩:=R.o2 j d h;refine⟨⟨p,L,e0,e1,e2,λk d2 a q q2=>?_⟩,λk d2 q=>?_,λk d2 q=>?_⟩
  ·have nk:=j1 q (by intro z;cases z);rw[d9 (Ne.symm nk)]at q q2;exact e3 k d2 a q q2
  ·have nk:=j1 q (by intro z;cases z);rw[d9 (Ne.symm nk)]at q;exact u k d2 q
  ·have nk:=j1 q (by intro z;cases z);rw[d9 (Ne.symm nk)]at q;exact n k d2 q
 od:=R.od.step (q7i _ (by intro d z;cases z)) (λ_ h _=>h) (λ_ _ _ h _=>h)
 len:=by rw[v4,v4];exact R.len
 hid:=R.hid
theorem z6J(F:XFacts X.K X.mg G cl)(hst:X.stack=X.env::X.outer)(hfr:X.env.frame=some X.env.locals)(hex:X.ex=[])(hgl:Gl X c)(hc:c∈cl)(hd:(c==("__debug__" : Str))=false)(hN:X.N.Nodup)(hi:X.N[ie]? = some n)(hl:X.env.scope.names.lookup n=some .local)
  (hn1:(n==("__debug__" : Str))=false) (hn2:(n==("__classdict__" : Str))=false) (hi2:X.N[ic]? = some x) (hx:Loc X.env.scope x) (hf:X.fn x=true\/X.env.scope.names.lookup x=some .local)
  (hb:∀pins (E':St->Value->Hp->Prop) q,ob=some q->PSs (X.tryIn pins E') body (dS X.D (λσ C _ H=>E' σ C H) δ q))
  (h:tryD G c ie ic ob=some o) :
  PS X (.Try body [.ExceptHandler (some (.Name c np)) (some n) [.Assign [.Name x tp] (.Name n vp) ap] hpos] [] [] pos) (dS X.D E δ o):=by
 obtain⟨Ct,hCt⟩:=F.all c hc;cases hob:ob with
 | none=>rw[hob]at h;cases h
 | some q=>
  rw[hob]at h;have S:∀ea,PSs (X.inExc ea) [.Assign [.Name x tp] (.Name n vp) ap] (tAsg (tVar ie) (q9F ic)):=λea=>z7y (q9v (X:=X.inExc ea) hN hi2 hx (K2 (X:=X.inExc ea) hi (.inl hl) hn1 hn2) rfl hf)
  refine(z9I (i:=ie) (cv:=.ref Ct) (tb:=λE'=>dS X.D (λσ C _ H=>E' σ C H) δ q) hst hfr hex hgl hCt hN hi hl (λpins E'=>hb pins E' q hob) S hd).weak λDn σ H ⟨H0,O,W,R,fr,fo,sm,k⟩=>⟨H0,O,W,R,fr,fo,sm,?_⟩;cases q with
  | nx δ'=>cases h;exact k
  | rt d f=>cases h;exact k
  | rtt d=>cases h;exact k
  | ex c' δ'=>
   have h':(if(G.cls.lookup c').isSome/\L5 G c' c/\ie<δ'.length/\ie≠ic then some (Out.nx ((δ'.set ic (.val (.exc c'))).set ie .no))else none)=some o:=h;split at h'
   ·rename_i hh;cases h';obtain⟨hh1,hh2,hh3,hh4⟩:=hh;obtain⟨C0,xo⟩:=F.one c' hh1;intro σ' H' W' C hm R' fr' sm';rw[show C=Value.ref C0 from C6 (hm.symm.trans xo.mc)];refine⟨(xo.own c hc Ct hCt).2 hh2,λea hea=>?_⟩;have hout:ea∉O++W':=R'.hid.newOut hea;have R1:=R'.mono (w5 (o:=excO ea (.ref C0)) hea);have rp:Rep X.D (L2.wo (O++W') (upd H' ea (excO ea (.ref C0)))) (.exc c') (.ref ea):=q8s.mpr ⟨ea,_,rfl,xo.mc,by rw[j9 hout];exact y6⟩;refine⟨.ref ea,B7 (by rw[R'.len];exact hh3),?_⟩;refine k _ _ W' ?_ fr' (sm'.trans (w5 hea));have R2:=((R1.setVal rp ie).setVal rp ic).unset ie;rw[show((δ'.set ie (Sv.val (.exc c'))).set ic (Sv.val (.exc c'))).set ie Sv.no=(δ'.set ic (Sv.val (.exc c'))).set ie Sv.no by rw[List.set_comm _ _ hh4,List.set_set]]at R2;exact R2
   ·cases h'
end
end
section
def z1e(K:PySem.W.Frag)(w:World)(mg:Str->Option Value)(x:Str)(kvs:List (Str×Str)):Prop:=
 ∃a es n,mg x=some (.ref a)/\K.lookup a=some ⟨.type "dict",none,.dict es n,#[]⟩/\PySem.W.KeysLit w.params es.toList/\∀k v,kvs.lookup k=some v->v.length<=sizeLine/\∃t,PySem.W.nsIn K a k=some (some (.str v t))
def DK(K:PySem.W.Frag)(D:Dm)(G:Gs)(f:Nat)(fd:FuncData)(ps:List Str):Prop:=
 (∀ds,G.dfl.lookup f=some ds->∃us dvs,D5 K fd ps us/\Vals dvs us/\∀H,RepL D H ds dvs)/\∀n,G.kws.lookup f=some n->KBinds K fd ps [n] (K6 ps.length) (K6 ps.length)
structure Good(sg:Sg)(G:Gs)(F:Nat->List DV->Option Ou)(X:Cx)(E:St->XK):Prop where
 N:X.N=sg.N
 nd:X.N.Nodup
 vis:∀x,visB sg x=true->Vis X.env.scope x
 glo:∀x,gloB sg x=true->Gl X x
 loc:∀x,locB sg x=true->Loc X.env.scope x/\(X.fn x=true\/X.env.scope.names.lookup x=some .local)
 lcl:∀x,sg.sc.lookup x=some .local->X.env.scope.names.lookup x=some .local
 cel:∀x,(sg.sc.lookup x=some .cell\/sg.sc.lookup x=some .free)->X.env.scope.names.lookup x=some .cell\/X.env.scope.names.lookup x=some .free
 calm:X.calm=true
 hu:X.A.units+64<cLine
 fns:∀f x,sg.fn[f]? = some x->∃k fa fd ps,Room k X.A/\X.mg x=some (.ref fa)/\PySem.W.keepIn X.K (.ref fa)=true/\D5 X.K fd ps []/\(∀ds o,F f ds=some o->ds.length=ps.length) /\
  FnOk X.prog X.w X.K X.mg X.base (CXx X.prog X.w X.base) k fa fd ps (spF X.D ps.length (F f))/\DK X.K X.D G f fd ps
 blt:∀x∈sg.bl,X.mg x=none
 pas:R4 (CXx X.prog X.w X.base) X E
 con:∀x d,G.con.lookup x=some d->∃u v,X.mg x=some u/\RelV v u/\∀H,Rep X.D H d v
 own:sg.lp=true->PassesOwn (model X.prog X.w) X.A X.env X.xe
 xf:XFacts X.K X.mg G sg.cl
 st:sg.top=true->X.stack=X.env::X.outer/\X.env.frame=some X.env.locals/\X.ex=[]/\q4H X E
 dcs:∀x kvs,G.dcs.lookup x=some kvs->z1e X.K X.w X.mg x kvs
 hun:G.hun=true->∃k fa fd ps hf,Room k X.A/\X.mg F1=some (.ref fa)/\PySem.W.keepIn X.K (.ref fa)=true/\D5 X.K fd ps []/\(∀d l,F O7 [d,.lst l]=(hf d l).map λr=>.v r.1 false)/\FnOk X.prog X.w X.K X.mg X.base (CXx X.prog X.w X.base) k fa fd ps (spH X.D hf)
theorem q2t:∀{l:List Str},W5 l=true->l.Nodup
 | [],_=>w4m
 | x::r,h=>by unfold W5 at h;rw[b9]at h;refine O1.mpr ⟨λz=>?_,q2t h.2⟩;have:=h.1;rw[M2.mpr z]at this;cases this
section
variable {sg:Sg} {G:Gs} {F:Nat->List DV->Option Ou} {X:Cx} {E:St->XK} {tg:Tg} {sc:Scope} {N':List Str} {fr:List (Option Nat)}
theorem q2b(g:Good sg G F X E)(h:W7 sg N' fr sc tg=true):CompScope X.N N' sc X.env.scope fr/\(∀(j k i:Nat),fr[j]? = some (some i)->fr[k]? = some (some i)->j=k)/\∀i∈W6 tg,fr[i]? = some none:=by
 unfold W7 at h;simp only[b9,J8,d8]at h;obtain⟨⟨⟨⟨⟨⟨h0,h1⟩,h2⟩,h3⟩,h4⟩,h5⟩,h6⟩:=h;have h5':∀(j i:Nat),fr[j]? = some (some i)->∃x,N'[j]? = some x/\sg.N[i]? = some x/\(x,NameKind.free)∈sc.names:=λj i e=>by
  have hj:j<fr.length:=(u5.mp e).1;have hj':j<N'.length:=by rw[←h4];exact hj
  have hz:(some i,N'[j])∈fr.zip N':=(by refine w2u (i:=j) ?_;rw[List.getElem?_zip_eq_some];exact⟨e,p7 hj'⟩);have q:=h5 _ hz;simp only[b9,d8,M2]at q;exact⟨_,p7 hj',q.1,q.2⟩
 refine⟨⟨h1,q2t h2,q2t h3,h4,λj i e=>?_,λy hy hk=>?_⟩,λj k i e1 e2=>?_,h0⟩
 ·obtain⟨x,a,b,c⟩:=h5' j i e;exact⟨x,a,by rw[g.N];exact b,c⟩
 ·have q:=h6 y hy;rw[b8 hk]at q;simp only[C7,d8]at q;exact g.cel _ q
 ·obtain⟨x,a,b,_⟩:=h5' j i e1;obtain⟨x',a',b',_⟩:=h5' k i e2;rw[b]at b';cases b';exact q4E (q2t h2) a a'
theorem X4(g:Good sg G F X E)(h:W7 sg N' fr sc tg=true)(C:Addr)(cells:List (Str×Addr))(s₂:Shared)(H₂:Hp)(fp:List Addr):Good ⟨N',sc.names,sg.fn,sg.bl,sg.cl,false,true⟩ G F (o8 X sc N' C cells s₂ H₂ fp) E0s:=by
 obtain⟨S,_,_⟩:=q2b g h;have look:∀x,(o8 X sc N' C cells s₂ H₂ fp).env.scope.names.lookup x=(sc.names.lookup x).map λk=>if(k==NameKind.free&&X.env.scope.kind == .function&&X.env.kindOf x==some .cell)=true then NameKind.cell else k:=λx=>q2m
 have one:∀x k,sc.names.lookup x=some k->k ≠ .free->(o8 X sc N' C cells s₂ H₂ fp).env.scope.names.lookup x=some k:=λx k e hk=>by rw[look,e,J9,d7];intro z;simp only[b9,d8]at z;exact hk z.1.1
 have two:∀x,sc.names.lookup x=some .free->(o8 X sc N' C cells s₂ H₂ fp).env.scope.names.lookup x=some .cell\/(o8 X sc N' C cells s₂ H₂ fp).env.scope.names.lookup x=some .free:=λx e=>by
  rw[look,e,J9];split
  ·exact .inl rfl
  ·exact .inr rfl
 refine⟨rfl,S.nd,λx hx=>?_,λx hx=>?_,λx hx=>?_,λx hx=>one x _ hx (by intro z;cases z),λx hx=>?_,g.calm,g.hu,g.fns,g.blt,?_,g.con,λ_=>.never,g.xf,(λz=>nomatch z),g.dcs,g.hun⟩
 ·unfold visB at hx;simp only[C7,d8]at hx;rcases hx with(hx | hx) | hx
  ·exact .inl (one x _ hx (by intro z;cases z))
  ·exact .inr (.inl (one x _ hx (by intro z;cases z)))
  ·exact .inr (two x hx)
 ·unfold gloB at hx;rw[d8]at hx;exact one x _ hx (by intro z;cases z)
 ·unfold locB at hx;simp only[C7,d8]at hx;rcases hx with hx | hx
  ·exact⟨.inl (one x _ hx (by intro z;cases z)),.inr (one x _ hx (by intro z;cases z))⟩
  ·exact⟨.inr (one x _ hx (by intro z;cases z)),.inl (by show(sc.names.lookup x==some .cell)=true;rw[hx];rfl)⟩
 ·rcases hx with hx | hx
  ·exact .inl (one x _ hx (by intro z;cases z))
  ·exact two x hx
 ·intro pins σ H s e s' I z;obtain⟨_,_,_,_,_,_,_,_,_,_,q⟩:=z;exact q.elim
theorem M0(g:Good sg G F X E)(h:G2 sg i x=true):X.N[i]? = some x/\Vis X.env.scope x/\(x==("__debug__" : Str))=false/\(x==("__classdict__" : Str))=false:=by
 unfold G2 at h;simp only[b9,d8,w3a,ne_eq]at h;obtain⟨⟨⟨h1,h2⟩,h3⟩,h4⟩:=h;exact⟨by rw[g.N];exact h1,g.vis x h2,t7.mpr h3,t7.mpr h4⟩
theorem q7e(g:Good sg G F X E)(h:bltB sg x f=true):(∃p,f=.Name x p)/\Gl X x/\X.mg x=none:=by
 unfold bltB at h;simp only[b9,d8,M2]at h;obtain⟨⟨h1,h2⟩,h3⟩:=h;exact⟨v5 h1,g.glo x h2,g.blt x h3⟩
theorem z3Y(g:Good sg G F X E)(pins:List (Addr×Obj))(E':St->Value->Hp->Prop):Good ⟨sg.N,sg.sc,sg.fn,sg.bl,sg.cl,false,false⟩ G F (X.tryIn pins E') (λσ C _ H=>E' σ C H):=
 ⟨g.N,g.nd,g.vis,g.glo,g.loc,g.lcl,g.cel,g.calm,g.hu,g.fns,g.blt,q9Z,g.con,(λz=>nomatch z),g.xf,(λz=>nomatch z),g.dcs,g.hun⟩
theorem q7u(g:Good sg G F X E):∀(is:List Nat) (es:List Expr),es.length=is.length->((is.zip es).all λp=>match p0 p.2 with | some x=>sg.N[p.1]? == some x&&locB sg x | none=>false)=true ->
  PGs X es (q8B is)/\(assignEach es X.env).length=is.length/\(assignEach es X.env).findIdx? (·.1)=none
 | [],[],_,_=>⟨z7b,rfl,rfl⟩
 | [],_::_,h,_=>by cases h
 | _::_,[],h,_=>by cases h
 | i::is,e::es,hl,h=>by
  rw[List.zip_cons_cons,List.all_cons,b9]at h;obtain⟨h1,h2⟩:=h;obtain⟨A,B,C⟩:=q7u g is es (by simpa using hl) h2;split at h1
  ·rename_i x q;obtain⟨p,rfl⟩:=v5 q;simp only[b9,d8]at h1;have l:=g.loc x h1.2;refine⟨z4t (z1K g.nd (by rw[g.N];exact h1.1) l.1 l.2) A rfl,?_,?_⟩
   ·show(assignEach es X.env).length+1=is.length+1;rw[B]
   ·show((false,assign (.Name x p) X.env)::assignEach es X.env).findIdx? (·.1)=none;rw[List.findIdx?_cons,C];rfl
  ·cases h1
theorem z0Y(g:Good sg G F X E)(h:tgOk sg tg tgE=true):PG X tgE (gT X.K tg):=by
 cases tg with
 | one i=>
  unfold tgOk at h;dsimp only at h;split at h
  ·rename_i x q;obtain⟨p,rfl⟩:=v5 q;simp only[b9,d8]at h;have l:=g.loc x h.2;exact z1K g.nd (by rw[g.N];exact h.1) l.1 l.2
  ·cases h
 | many is=>
  unfold tgOk at h;dsimp only at h;split at h
  ·rename_i es q;obtain⟨k,p,rfl⟩:=q3A q;rw[b9,b9,d8]at h;obtain⟨A,B,C⟩:=q7u g is es h.1.1 h.2;exact z8T g.calm A B C
  ·cases h
end
section
variable (G:Gs) (F:Nat->List DV->Option Ou)
def SE(m:ME):Prop:=∀{sg:Sg} {X:Cx} {E:St->XK} {e:Expr} {δ:List Sv} {r:Re},Good sg G F X E->corE sg false m e=true->evE G F m δ=some r->PE X e (dE X.D E δ r)
def ST(m:ME):Prop:=∀{sg:Sg} {X:Cx} {E:St->XK} {e:Expr} {δ:List Sv} {r:Rt},Good sg G F X E->corE sg false m e=true->tstD (evE G F m δ)=some r->PT X e (dT X.D E δ r)
def SI(m:ME):Prop:=∀{sg:Sg} {X:Cx} {E:St->XK} {e tg:Expr} {δ:List Sv} {r:Ri},Good sg G F X E->corE sg true m e=true->(isZp m=true->(G0 tg).isSome=true)->j3 (evE G F m δ)=some r->PI X tg e (dI X.D E δ r)
def SEs(ms:List ME):Prop:=∀{sg:Sg} {X:Cx} {E:St->XK} {es:List Expr} {δ:List Sv} {r:Rs},Good sg G F X E->q9 sg ms es=true->evEs G F ms δ=some r->PA X es (dA X.D E δ r)
def SAnd(ms:List ME):Prop:=∀{sg:Sg} {X:Cx} {E:St->XK} {es:List Expr} {δ:List Sv} {pos:Pos},Good sg G F X E->q9 sg ms es=true ->
 (∀r,D0 G F ms δ=some r->PE X (.BoolOp .And es pos) (dE X.D E δ r))/\(∀r,tstD (D0 G F ms δ)=some r->PW X (.BoolOp .And es pos) (dT X.D E δ r))
def SOr(ms:List ME):Prop:=∀{sg:Sg} {X:Cx} {E:St->XK} {es:List Expr} {δ:List Sv} {pos:Pos},Good sg G F X E->q9 sg ms es=true ->
 (∀r,evOr G F ms δ=some r->PE X (.BoolOp .Or es pos) (dE X.D E δ r))/\(∀r,tstD (evOr G F ms δ)=some r->PW X (.BoolOp .Or es pos) (dT X.D E δ r))
def S1(m:ME):Prop:=SE G F m/\ST G F m/\SI G F m
end
section
variable {G:Gs} {F:Nat->List DV->Option Ou}
theorem S1.of(h:SE G F m)(hw:∀sg e,corE sg true m e=corE sg false m e)(ht:∀sg e env,corE sg false m e=true->∀whole,isTrue e env whole=(do let v ←whole;standAt e.pos;holding [v] (truthy v))):S1 G F m:=
 ⟨h,λ{sg X E e δ r} g hc q=>z1D (λz hz=>h g hc hz) (ht sg e X.env hc) q,λ{sg X E e tg δ r} g hc _ q=>q8T (λz hz=>h g (by rw[←hw];exact hc) hz) q⟩
theorem S1.of2(h:SE G F m)(ht:ST G F m)(hw:∀sg e,corE sg true m e=corE sg false m e):S1 G F m:=
 ⟨h,ht,λ{sg X E e tg δ r} g hc _ q=>q8T (λz hz=>h g (by rw[←hw];exact hc) hz) q⟩
end
end
section
def y0p:Expr->Bool
 | .UnaryOp .Not _ _=>false | .BoolOp _ _ _=>false | .IfExp _ _ _ _=>false | .Compare _ _ _ _=>false
 | _=>true
theorem A6(h:y0p e=true)(env:Env):∀whole,isTrue e env whole=(do let v ←whole;standAt e.pos;holding [v] (truthy v)):=by
 cases e with
 | UnaryOp o a p=>cases o<;>first | (intro _;rfl) | cases h
 | BoolOp _ _ _=>cases h
 | IfExp _ _ _ _=>cases h
 | Compare _ _ _ _=>cases h
 | _=>intro _;rfl
section
variable {G:Gs} {F:Nat->List DV->Option Ou} {a b c:ME}
theorem y1a:S1 G F (.var i):=by
 refine .of (λ{sg X E e δ r} g hc h=>?_) (λ_ _=>rfl) (λsg e env hc=>?_)
 ·unfold corE at hc;split at hc
  ·rename_i x q;obtain⟨p,rfl⟩:=v5 q;obtain⟨h1,h2,h3,h4⟩:=M0 g hc;exact z6q h1 h2 h3 h4 (by unfold evE at h;exact h)
  ·cases hc
 ·unfold corE at hc;split at hc
  ·rename_i x q;obtain⟨p,rfl⟩:=v5 q;exact A6 rfl env
  ·cases hc
theorem q6b(hm:∀sg w e,corE sg w m e=true->W4 e=some k)(he:∀δ,evE G F m δ=some (.ok d .strong))(hw:∀sg e,corE sg true m e=corE sg false m e)
  (hp:∀{X:Cx} {E:St->XK} {δ:List Sv} {j:Nat} {pos:Pos} sg e,corE sg false m e=true->PE X (.Constant k j pos) (dE X.D E δ (.ok d .strong))):S1 G F m:=by
 refine .of (λ{sg X E e δ r} g hc h=>?_) hw (λsg e env hc=>?_)
 ·obtain⟨j,p,rfl⟩:=q5T (hm sg false e hc);rw[he]at h;cases h;exact hp sg _ hc
 ·obtain⟨j,p,rfl⟩:=q5T (hm sg false e hc);exact A6 rfl env
theorem y1N:S1 G F (.int i):=q6b (λsg w e h=>by unfold corE at h;exact d8.mp h) (λδ=>by unfold evE;rfl) (λ_ _=>rfl) λ_ _ _=>z6E
theorem s_bl:S1 G F (.bl i):=q6b (λsg w e h=>by unfold corE at h;exact d8.mp h) (λδ=>by unfold evE;rfl) (λ_ _=>rfl) λ_ _ _=>z8s
theorem y1L:S1 G F .non:=q6b (λsg w e h=>by unfold corE at h;exact d8.mp h) (λδ=>by unfold evE;rfl) (λ_ _=>rfl) λ_ _ _=>z7o
theorem y1x:S1 G F (.str i):=q6b (λsg w e h=>by unfold corE at h;rw[b9]at h;exact d8.mp h.1) (λδ=>by unfold evE;rfl) (λ_ _=>rfl) λ_ _ h=>by
 unfold corE at h;rw[b9,A2]at h;exact z6W (i7 h.2 (by decide))
theorem y2e:S1 G F (.glb x):=by
 refine .of (λ{sg X E e δ r} g hc h=>?_) (λ_ _=>rfl) (λsg e env hc=>?_)
 ·unfold corE at hc;simp only[b9,d8,w3a,ne_eq]at hc;obtain⟨p,rfl⟩:=v5 hc.1.1;unfold evE at h;obtain⟨d,h1,h2⟩:=u7.mp h;cases h2;obtain⟨u,v,m,rv,rp⟩:=g.con x d h1;exact(z1C (g.glo x hc.1.2) m rv (t7.mpr hc.2)).weak λσ H Q ⟨O,W,R,p⟩=>p v H (Same.refl H) (rp _)
 ·unfold corE at hc;simp only[b9,d8]at hc;obtain⟨p,rfl⟩:=v5 hc.1.1;exact A6 rfl env
theorem y1z(ha:S1 G F a)(hb:S1 G F b):S1 G F (.bin op a b):=by
 refine .of (λ{sg X E e δ r} g hc h=>?_) (λ_ _=>rfl) (λsg e env hc=>?_)
 ·unfold corE at hc;split at hc
  ·rename_i ea o eb q;obtain⟨p,rfl⟩:=q6c q;simp only[b9,d8]at hc;obtain⟨⟨h1,h2⟩,h3⟩:=hc;subst h1;unfold evE at h;exact z6r (λz hz=>ha.1 g h2 hz) (λz hz=>hb.1 g h3 hz) h
  ·cases hc
 ·unfold corE at hc;split at hc
  ·rename_i q;obtain⟨p,rfl⟩:=q6c q;exact A6 rfl env
  ·cases hc
theorem y0H(ha:S1 G F a):S1 G F (.neg a):=by
 refine .of (λ{sg X E e δ r} g hc h=>?_) (λ_ _=>rfl) (λsg e env hc=>?_)
 ·unfold corE at hc;split at hc
  ·rename_i o ea q;obtain⟨p,rfl⟩:=q6r q;simp only[b9,d8]at hc;obtain⟨h1,h2⟩:=hc;subst h1;unfold evE at h;exact z6N (λz hz=>ha.1 g h2 hz) h
  ·cases hc
 ·unfold corE at hc;split at hc
  ·rename_i q;obtain⟨p,rfl⟩:=q6r q;simp only[b9,d8]at hc;obtain⟨h1,h2⟩:=hc;subst h1;exact A6 rfl env
  ·cases hc
theorem y0W(ha:S1 G F a):S1 G F (.not a):=by
 refine .of2 (λ{sg X E e δ r} g hc h=>?_) (λ{sg X E e δ r} g hc h=>?_) (λ_ _=>rfl)
 ·unfold corE at hc;split at hc
  ·rename_i o ea q;obtain⟨p,rfl⟩:=q6r q;simp only[b9,d8]at hc;obtain⟨h1,h2⟩:=hc;subst h1;unfold evE at h;exact z7I (λz hz=>ha.1 g h2 hz) h
  ·cases hc
 ·unfold corE at hc;split at hc
  ·rename_i o ea q;obtain⟨p,rfl⟩:=q6r q;simp only[b9,d8]at hc;obtain⟨h1,h2⟩:=hc;subst h1;unfold evE at h;exact z3O (λz hz=>ha.2.1 g h2 hz) h
  ·cases hc
theorem y1R(ha:S1 G F a)(hb:S1 G F b):S1 G F (.cmp op a b):=by
 refine .of2 (λ{sg X E e δ r} g hc h=>?_) (λ{sg X E e δ r} g hc h=>?_) (λ_ _=>rfl)
 ·unfold corE at hc;split at hc
  ·rename_i ea o eb q;obtain⟨p,rfl⟩:=q3h q;simp only[b9,d8,t8]at hc;obtain⟨⟨⟨h1,h2⟩,h3⟩,h4⟩:=hc;subst h1;unfold evE at h;exact z7u g.hu (λz hz=>ha.1 g h2 hz) (λz hz=>hb.1 g h3 hz) h4 h
  ·cases hc
 ·unfold corE at hc;split at hc
  ·rename_i ea o eb q;obtain⟨p,rfl⟩:=q3h q;simp only[b9,d8,t8]at hc;obtain⟨⟨⟨h1,h2⟩,h3⟩,h4⟩:=hc;subst h1;unfold evE at h;exact z4r g.hu (λz hz=>ha.1 g h2 hz) (λz hz=>hb.1 g h3 hz) h4 h
  ·cases hc
theorem z5J(ha:S1 G F a)(hb:S1 G F b)(hcc:S1 G F c):S1 G F (.chain op op' a b c):=by
 refine .of2 (λ{sg X E e δ r} g hc h=>?_) (λ{sg X E e δ r} g hc h=>?_) (λ_ _=>rfl)
 ·unfold corE at hc;split at hc
  ·rename_i ea o o' eb ec q;obtain⟨p,rfl⟩:=q3h q;simp only[b9,d8,t8]at hc;obtain⟨⟨⟨⟨⟨h1,h1'⟩,h2⟩,h3⟩,h4⟩,h5⟩:=hc;subst h1 h1';unfold evE at h;exact z2L g.hu (λz hz=>ha.1 g h2 hz) (λz hz=>hb.1 g h3 hz) (λz hz=>hcc.1 g h4 hz) h5 h
  ·cases hc
 ·unfold corE at hc;split at hc
  ·rename_i ea o o' eb ec q;obtain⟨p,rfl⟩:=q3h q;simp only[b9,d8,t8]at hc;obtain⟨⟨⟨⟨⟨h1,h1'⟩,h2⟩,h3⟩,h4⟩,h5⟩:=hc;subst h1 h1';unfold evE at h;exact z0s g.hu (λz hz=>ha.1 g h2 hz) (λz hz=>hb.1 g h3 hz) (λz hz=>hcc.1 g h4 hz) h5 h
  ·cases hc
theorem s_ix(ha:S1 G F a)(hb:S1 G F b):S1 G F (.ix a b):=by
 refine .of (λ{sg X E e δ r} g hc h=>?_) (λ_ _=>rfl) (λsg e env hc=>?_)
 ·unfold corE at hc;split at hc
  ·rename_i ea eb q;obtain⟨p,rfl⟩:=G1 q;simp only[b9,t8]at hc;obtain⟨⟨h1,h2⟩,h3⟩:=hc;unfold evE at h;exact y0c (λz hz=>ha.1 g h1 hz) (λz hz=>hb.1 g h2 hz) h3 h
  ·cases hc
 ·unfold corE at hc;split at hc
  ·rename_i q;obtain⟨p,rfl⟩:=G1 q;exact A6 rfl env
  ·cases hc
theorem s_sl(ha:S1 G F a)(hb:S1 G F b)(hcc:S1 G F c):S1 G F (.sl a b c):=by
 refine .of (λ{sg X E e δ r} g hc h=>?_) (λ_ _=>rfl) (λsg e env hc=>?_)
 ·unfold corE at hc;split at hc
  ·rename_i ea es q;obtain⟨p,rfl⟩:=G1 q;split at hc
   ·rename_i q2;obtain⟨p2,rfl⟩:=q4m q2;simp only[b9]at hc;obtain⟨⟨h1,h2⟩,h3⟩:=hc;unfold evE at h;exact z9F (λz hz=>ha.1 g h1 hz) (λz hz=>hb.1 g h2 hz) (λz hz=>hcc.1 g h3 hz) h
   ·cases hc
  ·cases hc
 ·unfold corE at hc;split at hc
  ·rename_i q;obtain⟨p,rfl⟩:=G1 q;exact A6 rfl env
  ·cases hc
theorem y0M(ha:S1 G F a)(hb:S1 G F b):S1 G F (.slf a b):=by
 refine .of (λ{sg X E e δ r} g hc h=>?_) (λ_ _=>rfl) (λsg e env hc=>?_)
 ·unfold corE at hc;split at hc
  ·rename_i ea es q;obtain⟨p,rfl⟩:=G1 q;split at hc
   ·rename_i q2;obtain⟨p2,rfl⟩:=q4m q2;simp only[b9]at hc;obtain⟨h1,h2⟩:=hc;unfold evE at h;exact z6R (λz hz=>ha.1 g h1 hz) (λz hz=>hb.1 g h2 hz) h
   ·cases hc
  ·cases hc
 ·unfold corE at hc;split at hc
  ·rename_i q;obtain⟨p,rfl⟩:=G1 q;exact A6 rfl env
  ·cases hc
theorem y1D(ha:S1 G F a)(hb:S1 G F b):S1 G F (.slt a b):=by
 refine .of (λ{sg X E e δ r} g hc h=>?_) (λ_ _=>rfl) (λsg e env hc=>?_)
 ·unfold corE at hc;split at hc
  ·rename_i ea es q;obtain⟨p,rfl⟩:=G1 q;split at hc
   ·rename_i q2;obtain⟨p2,rfl⟩:=q4m q2;simp only[b9]at hc;obtain⟨h1,h2⟩:=hc;unfold evE at h;exact z5O (λz hz=>ha.1 g h1 hz) (λz hz=>hb.1 g h2 hz) h
   ·cases hc
  ·cases hc
 ·unfold corE at hc;split at hc
  ·rename_i q;obtain⟨p,rfl⟩:=G1 q;exact A6 rfl env
  ·cases hc
variable {ms:List ME}
theorem q4l:∀{sg:Sg} {ms:List ME} {es:List Expr},q9 sg ms es=true->es.any m7=false
 | _,[],[],_=>rfl
 | _,[],_::_,h=>by unfold q9 at h;cases h
 | _,_::_,[],h=>by unfold q9 at h;cases h
 | sg,m::ms,e::es,h=>by unfold q9 at h;simp only[b9,t8]at h;rw[D8,h.1.2,q4l h.2];rfl
theorem y1q(ha:SEs G F ms):S1 G F (.lst ms):=by
 refine .of (λ{sg X E e δ r} g hc h=>?_) (λ_ _=>rfl) (λsg e env hc=>?_)
 ·unfold corE at hc;split at hc
  ·rename_i es q;obtain⟨p,rfl⟩:=q7H q;unfold evE at h;exact z8g (λz hz=>ha g hc hz) h
  ·cases hc
 ·unfold corE at hc;split at hc
  ·rename_i q;obtain⟨p,rfl⟩:=q7H q;exact A6 rfl env
  ·cases hc
theorem y0S(ha:SEs G F ms):S1 G F (.tup ms):=by
 refine .of (λ{sg X E e δ r} g hc h=>?_) (λ_ _=>rfl) (λsg e env hc=>?_)
 ·unfold corE at hc;split at hc
  ·rename_i es q;obtain⟨k,p,rfl⟩:=q3A q;unfold evE at h;exact z7D (λz hz=>ha g hc hz) h
  ·cases hc
 ·unfold corE at hc;split at hc
  ·rename_i q;obtain⟨k,p,rfl⟩:=q3A q;exact A6 rfl env
  ·cases hc
theorem y0g(ha:SEs G F ms):S1 G F (.call f ms):=by
 refine .of (λ{sg X E e δ r} g hc h=>?_) (λ_ _=>rfl) (λsg e env hc=>?_)
 ·unfold corE at hc;split at hc
  ·rename_i ef es pos q;have:=B1 q;subst this;rw[b9,b9]at hc;obtain⟨⟨h1,h2⟩,h3⟩:=hc;split at h1
   ·rename_i x qx;obtain⟨p,rfl⟩:=v5 qx;simp only[b9,d8,w3a,ne_eq]at h1;obtain⟨k,fa,fd,ps,hr,hm,hk,hb,hl,fo,dk⟩:=g.fns f x h1.1.1;cases es with
    | nil=>cases h2
    | cons y ys=>
     have ns:=q4l h3;rw[D8,K8]at ns;unfold evE at h;exact z4A fo hl hr (g.glo x h1.1.2) hm hk hb g.pas (λz hz=>ha g h3 hz) (t7.mpr h1.2) ns.1 ns.2 h
   ·cases h1
  ·cases hc
 ·unfold corE at hc;split at hc
  ·rename_i q;have:=B1 q;subst this;exact A6 rfl env
  ·cases hc
theorem s_bi(ha:SEs G F ms):S1 G F (.bi f ms):=by
 refine .of (λ{sg X E e δ r} g hc h=>?_) (λ_ _=>rfl) (λsg e env hc=>?_)
 ·unfold corE at hc;split at hc
  ·rename_i ef es pos q;have:=B1 q;subst this;rw[b9,b9]at hc;obtain⟨⟨h1,h2⟩,h3⟩:=hc;obtain⟨⟨p,rfl⟩,hg,hm⟩:=q7e g h1;unfold evE at h;cases es with
   | nil=>cases h2
   | cons y ys=>
    have go:q9 sg ms (y::ys)=true->(∀q,evEs G F ms δ=some q->PA X (y::ys) (dA X.D E δ q))/\m7 y=false/\ys.any m7=false:=λz=>by have ns:=q4l z;rw[D8,K8]at ns;exact⟨λw hw=>ha g z hw,ns.1,ns.2⟩
    cases f with
    | len=>obtain⟨A,s1,s2⟩:=go h3;exact q8R z8M z6M hg hm boot_len (by decide) (by decide) A s1 s2 h
    | sorted=>obtain⟨A,s1,s2⟩:=go h3;exact q8R z1m q9O hg hm q4w (by decide) (by decide) A s1 s2 h
    | min=>obtain⟨A,s1,s2⟩:=go h3;exact q8R (z9L g.calm (by have:=g.hu;omega)) z8l hg hm boot_min (by decide) (by decide) A s1 s2 h
    | max=>obtain⟨A,s1,s2⟩:=go h3;exact q8R (z9U g.calm) z6P hg hm boot_max (by decide) (by decide) A s1 s2 h
    | int=>obtain⟨A,s1,s2⟩:=go h3;exact q7T y0j z6X hg hm boot_int (by decide) (by decide) A s1 s2 h
    | list=>obtain⟨A,s1,s2⟩:=go h3;exact q7T z5L z3T hg hm boot_list (by decide) (by decide) A s1 s2 h
    | tuple=>obtain⟨A,s1,s2⟩:=go h3;exact q7T z3Q z0X hg hm boot_tuple (by decide) (by decide) A s1 s2 h
    | sset=>
     dsimp only at h3;split at h3
     ·rename_i e1 q2;split at h3
      ·rename_i ef' es' pos' q3;have q4:=B1 q3;cases q2;subst q4;rw[b9,b9]at h3;obtain⟨⟨p',rfl⟩,hg',hm'⟩:=q7e g h3.1.1;cases es' with
       | nil=>cases h3.1.2
       | cons y' ys'=>
        have ns:=q4l h3.2;rw[D8,K8]at ns;cases ys' with
        | nil=>exact z3E g.calm hg hm hg' hm' (λw hw=>ha g h3.2 hw) ns.1 h
        | cons y2 yr=>
         have z:=d8.mp h3.1.2;simp at z
      ·cases h3
     ·cases h3
  ·cases hc
 ·unfold corE at hc;split at hc
  ·rename_i q;have:=B1 q;subst this;exact A6 rfl env
  ·cases hc
theorem z1j(h:R6.contains x=true):∃t,q5H x=some t:=by
 have key:∀x∈R6,∃t,q5H x=some t:=by
  intro x hx;simp only[R6,e8,w2y,w4q]at hx;rcases hx with rfl | rfl | rfl | rfl | rfl | rfl
  ·exact⟨"int",by decide +kernel⟩
  ·exact⟨"bool",by decide +kernel⟩
  ·exact⟨"str",by decide +kernel⟩
  ·exact⟨"list",by decide +kernel⟩
  ·exact⟨"tuple",by decide +kernel⟩
  ·exact⟨"dict",by decide +kernel⟩
 exact key x (M2.mp h)
theorem q6u:∀x∈R6,x ≠ "__name__" /\ (x==("__debug__" : Str))=false:=by
 intro x hx;simp only[R6,e8,w2y,w4q]at hx;rcases hx with rfl | rfl | rfl | rfl | rfl | rfl<;>exact⟨by decide +kernel,by decide +kernel⟩
def y2l:V->List V->Hp->VK->Prop:=λx xs H Q=>∃i,x=.int i/\xs=[]/\Q (.int (V7 i)) H
theorem z6A(i:Int):((Builtin.Int.intBits i:Nat):Int)=V7 i:=by
 unfold Builtin.Int.intBits V7;by_cases h:i=0
 ·subst h;rfl
 ·rw[d7 (by simpa using h),d7 h];push_cast;rfl
theorem z6t:MtR X "int.bit_length" y2l:=by
 intro pins s σ H x xs v us Q I rx rv h;obtain⟨i,rfl,rfl,q⟩:=h;obtain⟨t,rfl⟩:=(show ∃t,v=Value.int i t from rx);cases rv;exact PyProof.Rows.call_int_bit_length ⟨.int (V7 i),H,I.tok _,by rw[←z6A];exact⟨_,rfl⟩,q⟩
theorem z8R(ha:S1 G F a):S1 G F (.meth m a es):=by
 refine .of (λ{sg X E e δ r} g hc h=>?_) (λ_ _=>rfl) (λsg e env hc=>?_)
 ·unfold corE at hc;split at hc
  ·rename_i ef pos q;have:=B1 q;subst this;split at hc
   ·rename_i ea n apos q2;have:=q2s q2;subst this;simp only[b9,d8]at hc;obtain⟨⟨⟨⟨h1,h2⟩,h3⟩,h4⟩,h5⟩:=hc;subst h1;have hbs:attributeBase ea (z5u m) X.env (eval ea X.env)=eval ea X.env:=by
     rw[C7]at h3;rcases h3 with h3 | h3
     ·obtain⟨y,hy⟩:=Y1.mp h3;obtain⟨np,rfl⟩:=v5 hy;rfl
     ·obtain⟨⟨a1,o1,b1⟩,hy⟩:=Y1.mp h3;obtain⟨np,rfl⟩:=q6c hy;rfl
    unfold evE at h;cases m with
    | bitLength=>
     rw[b8 rfl]at h;have P:=λt (hA:PE X ea t)=>z4N (apos:=apos) (cpos:=pos) PySem.F.plainAttrs_int PySem.F.slot_int_bit_length PySem.F.type_int_bit_length z6t hA hbs (by rw[d8];exact h4)
     cases hra:evE G F a δ with
     | none=>rw[hra]at h;cases h
     | some q=>
      rw[hra]at h;have A:=ha.1 g h2 hra;cases q with
      | ex c=>cases h;exact(P _ A).weak λσ H Q ⟨O,W,R,p⟩=>⟨O,W,R,p⟩
      | ok d dc=>
       have h':mtD .bitLength d=some r:=h;unfold mtD at h';split at h'
       ·rename_i i _;cases h';exact(P _ A).weak λσ H Q ⟨O,W,R,p⟩=>⟨O,W,R,λv H1 s1 g1=>by
         have hv:=g1.int (R.hid.mono s1);subst hv;exact⟨rfl,i,rfl,rfl,p _ H1 s1 v6⟩⟩
       ·cases h'
    | index=>rw[d7 (by decide)]at h;cases h
    | get=>rw[d7 (by decide)]at h;cases h
   ·cases hc
  ·cases hc
 ·unfold corE at hc;split at hc
  ·rename_i q;have:=B1 q;subst this;exact A6 rfl env
  ·cases hc
theorem y1g(ha:S1 G F a)(hb:S1 G F b):S1 G F (.idx a b):=by
 refine .of (λ{sg X E e δ r} g hc h=>?_) (λ_ _=>rfl) (λsg e env hc=>?_)
 ·unfold corE at hc;split at hc
  ·rename_i ef eb pos q;have:=B1 q;subst this;split at hc
   ·rename_i ea n apos q2;have:=q2s q2;subst this;simp only[b9,d8,t8]at hc;obtain⟨⟨⟨⟨⟨h1,h2⟩,h3⟩,h4⟩,h5⟩,h6⟩:=hc;subst h1;obtain⟨y,hy⟩:=Y1.mp h3;obtain⟨np,rfl⟩:=v5 hy;unfold evE at h;exact z7W g.hu (λz hz=>ha.1 g h2 hz) (λz hz=>hb.1 g h5 hz) rfl (by rw[d8];exact h4) (t6 h6) h
   ·cases hc
  ·cases hc
 ·unfold corE at hc;split at hc
  ·rename_i q;have:=B1 q;subst this;exact A6 rfl env
  ·cases hc
theorem y0V(ha:S1 G F a):S1 G F (.isx a t):=by
 refine .of (λ{sg X E e δ r} g hc h=>?_) (λ_ _=>rfl) (λsg e env hc=>?_)
 ·unfold corE at hc;split at hc
  ·rename_i ef ea et pos q;have:=B1 q;subst this;simp only[b9,t8,d8,C7,M2,w3a,ne_eq]at hc;obtain⟨⟨⟨⟨⟨⟨h1,h2⟩,h3⟩,h4⟩,h5⟩,h6⟩,h7⟩:=hc;obtain⟨⟨p,rfl⟩,hg,hm⟩:=q7e g h1;obtain⟨p',rfl⟩:=v5 h5;unfold evE at h;refine z7l g.xf hg hm (g.glo t h6) ?_ (λz hz=>ha.1 g h2 hz) h3 h;rcases h7 with⟨k1,k2⟩ | ⟨k1,k2⟩
   ·exact .inl ⟨k1,t7.mpr k2⟩
   ·refine .inr ⟨g.blt t k1,?_⟩;simp only[z1L,e8,w2y,w4q]at k2;exact k2
  ·cases hc
 ·unfold corE at hc;split at hc
  ·rename_i q;have:=B1 q;subst this;exact A6 rfl env
  ·cases hc
theorem y0O:S1 G F .dc0:=by
 refine .of (λ{sg X E e δ r} g hc h=>?_) (λ_ _=>rfl) (λsg e env hc=>?_)
 ·unfold corE at hc;split at hc
  ·unfold evE at h;cases h;exact z6i
  ·cases hc
 ·unfold corE at hc;split at hc
  ·exact A6 rfl env
  ·cases hc
theorem y0Y(ha:S1 G F a)(hb:S1 G F b):S1 G F (.dix a b):=by
 refine .of (λ{sg X E e δ r} g hc h=>?_) (λ_ _=>rfl) (λsg e env hc=>?_)
 ·unfold corE at hc;split at hc
  ·rename_i ea eb q;obtain⟨p,rfl⟩:=G1 q;simp only[b9,t8]at hc;obtain⟨⟨h1,h2⟩,h3⟩:=hc;unfold evE at h;exact z7e (O0 (by omega) g.hu) (λz hz=>ha.1 g h1 hz) (λz hz=>hb.1 g h2 hz) h3 h
  ·cases hc
 ·unfold corE at hc;split at hc
  ·rename_i q;obtain⟨p,rfl⟩:=G1 q;exact A6 rfl env
  ·cases hc
theorem y1i(hb:S1 G F b):S1 G F (.din i b):=by
 refine .of2 (λ{sg X E e δ r} g hc h=>?_) (λ{sg X E e δ r} g hc h=>?_) (λ_ _=>rfl)
 ·unfold corE at hc;split at hc
  ·rename_i ek o eo q;obtain⟨p,rfl⟩:=q3h q;simp only[b9,d8]at hc;obtain⟨⟨h1,h2⟩,h3⟩:=hc;subst h1;split at h2
   ·rename_i x q3;obtain⟨np,rfl⟩:=v5 q3;obtain⟨s1,s2,s3,s4⟩:=M0 g h2;unfold evE at h;obtain⟨t,C,w⟩:=q7b (O0 (by omega) g.hu) (K2 (pos:=np) s1 s2 s3 s4) (λz hz=>hb.1 g h3 hz) h;exact(z9a C rfl).weak w
   ·cases h2
  ·cases hc
 ·unfold corE at hc;split at hc
  ·rename_i ek o eo q;obtain⟨p,rfl⟩:=q3h q;simp only[b9,d8]at hc;obtain⟨⟨h1,h2⟩,h3⟩:=hc;subst h1;split at h2
   ·rename_i x q3;obtain⟨np,rfl⟩:=v5 q3;obtain⟨s1,s2,s3,s4⟩:=M0 g h2;cases hre:evE G F (.din i b) δ with
    | none=>rw[hre]at h;cases h
    | some re=>
     rw[hre]at h;have hre':=hre;unfold evE at hre';obtain⟨t,C,w⟩:=q7b (O0 (by omega) g.hu) (K2 (pos:=np) s1 s2 s3 s4) (λz hz=>hb.1 g h3 hz) hre';refine(z8X C rfl).weak λσ H Q z=>w σ H _ (z0C (λd c q=>?_) h z)
     subst q;split at hre'
     ·cases hrb:evE G F b δ with
      | none=>rw[hrb]at hre';cases hre'
      | some q2=>
       rw[hrb]at hre';cases q2 with
       | ex c=>cases hre'
       | ok dk ck=>
        rename_i ks _ _;have h':dinD ks dk=some (.ok d c):=hre';unfold dinD at h';split at h'
        ·cases h';exact⟨_,rfl⟩
        ·cases h'
     ·cases hre'
   ·cases h2
  ·cases hc
theorem y1t(ha:S1 G F a):S1 G F (.kys a):=by
 refine⟨λ{sg X E e δ r} g hc h=>?_,λ{sg X E e δ r} g hc h=>?_,λ{sg X E e tg δ r} g hc ht h=>?_⟩
 ·unfold corE at hc;rw[G6,G6]at hc;cases hc
 ·unfold corE at hc;rw[G6,G6]at hc;cases hc
 ·unfold corE at hc;rw[V1,b9]at hc;unfold evE at h;exact z6B (λz hz=>ha.1 g hc.2 hz) h
theorem y2b(hb:S1 G F b):S1 G F (.dgp i b):=by
 refine .of (λ{sg X E e δ r} g hc h=>?_) (λ_ _=>rfl) (λsg e env hc=>?_)
 ·unfold corE at hc;split at hc
  ·rename_i ob ek q;obtain⟨p,rfl⟩:=G1 q;simp only[b9,t8]at hc;obtain⟨⟨h2,h3⟩,h4⟩:=hc;split at h2
   ·rename_i x q3;obtain⟨np,rfl⟩:=v5 q3;obtain⟨s1,s2,s3,s4⟩:=M0 g h2;unfold evE at h;exact z6D (O0 (by omega) g.hu) (K2 s1 s2 s3 s4) (λz hz=>hb.1 g h3 hz) h4 h
   ·cases h2
  ·cases hc
 ·unfold corE at hc;split at hc
  ·rename_i q;obtain⟨p,rfl⟩:=G1 q;exact A6 rfl env
  ·cases hc
theorem q9s:∀{xs:List (Str×Nat)},xs.lookup x=some f->(x,f)∈xs
 | [],h=>by cases h
 | (y,g)::xs,h=>by
  rw[D7]at h;split at h
  ·rename_i q;cases h;rw[d8.mp q];exact i8 ..
  ·exact i6 _ (q9s h)
theorem z6g(ha:SEs G F ms):S1 G F (.callv i xs ms):=by
 refine .of (λ{sg X E e δ r} g hc h=>?_) (λ_ _=>rfl) (λsg e env hc=>?_)
 ·unfold corE at hc;split at hc
  ·rename_i ef es pos q;have:=B1 q;subst this;rw[b9,b9,b9]at hc;obtain⟨⟨⟨h1,h0⟩,h2⟩,h3⟩:=hc;split at h1
   ·rename_i x qx;obtain⟨p,rfl⟩:=v5 qx;obtain⟨s1,s2,s3,s4⟩:=M0 g h1;cases es with
    | nil=>cases h2
    | cons y ys=>
     have ns:=q4l h3;rw[D8,K8]at ns;unfold evE at h;split at h
     ·rename_i nm hi;split at h
      ·rename_i f hf;have hfn:=d8.mp (J8.mp h0 _ (q9s hf));obtain⟨k,fa,fd,ps,hr,hm,hk,hb,hl,fo,dk⟩:=g.fns f nm hfn;exact z2j fo hl hr (K2 s1 s2 s3 s4) hm hk hb g.pas hi (λz hz=>ha g h3 hz) ns.1 ns.2 h
      ·cases h
     ·cases h
   ·cases h1
  ·cases hc
 ·unfold corE at hc;split at hc
  ·rename_i q;have:=B1 q;subst this;exact A6 rfl env
  ·cases hc
theorem y1b(ha:S1 G F a):S1 G F (.isi a ts):=by
 refine .of (λ{sg X E e δ r} g hc h=>?_) (λ_ _=>rfl) (λsg e env hc=>?_)
 ·unfold corE at hc;split at hc
  ·rename_i ef ea et pos q;have:=B1 q;subst this;simp only[b9,t8]at hc;obtain⟨⟨⟨⟨h1,h2⟩,h3⟩,h4⟩,h5⟩:=hc;obtain⟨⟨p,rfl⟩,hg,hm⟩:=q7e g h1;split at h5
   ·rename_i t;simp only[b9,d8,M2]at h5;obtain⟨⟨⟨k1,k2⟩,k3⟩,k4⟩:=h5;obtain⟨p',rfl⟩:=v5 k1;obtain⟨T,hT⟩:=z1j (M2.mpr k4);obtain⟨n1,n2⟩:=q6u t k4;unfold evE at h;exact z8e hT hg hm (g.glo t k2) (g.blt t k3) n1 n2 (λz hz=>ha.1 g h2 hz) h3 h
   ·cases h5
  ·cases hc
 ·unfold corE at hc;split at hc
  ·rename_i q;have:=B1 q;subst this;exact A6 rfl env
  ·cases hc
theorem q2u:∀{ms:List ME} {δ:List Sv} {l:List (DV×Cl)},evEs G F ms δ=some (.ok l)->l.length=ms.length
 | [],_,_,h=>by unfold evEs at h;cases h;rfl
 | m::ms,δ,l,h=>by
  unfold evEs at h;split at h
  ·cases h
  ·cases h
  ·split at h
   ·cases h
   ·cases h
   ·rename_i l' q;cases h;rw[x4,x4,q2u q]
theorem q4u:∀{sg:Sg} {ms:List ME} {es:List Expr},q9 sg ms es=true->ms.length=es.length
 | _,[],[],_=>rfl
 | _,[],_::_,h=>by unfold q9 at h;cases h
 | _,_::_,[],h=>by unfold q9 at h;cases h
 | sg,m::ms,e::es,h=>by unfold q9 at h;simp only[b9]at h;rw[x4,x4,q4u h.2]
theorem y1u(ha:SEs G F ms):S1 G F (.rng ms):=by
 refine⟨λ{sg X E e δ r} g hc h=>?_,λ{sg X E e δ r} g hc h=>?_,λ{sg X E e tg δ r} g hc _ h=>?_⟩
 ·unfold corE at hc;rw[G6]at hc;cases hc
 ·unfold corE at hc;rw[G6]at hc;cases hc
 ·unfold corE at hc;rw[V1]at hc;split at hc
  ·rename_i ef es pos q;have:=B1 q;subst this;rw[b9,A2]at hc;obtain⟨hc,hle⟩:=hc;rw[b9]at hc;obtain⟨⟨p,rfl⟩,hg,hm⟩:=q7e g hc.1;have l1:=q4u hc.2;have ns:=q4l hc.2;unfold evE at h;cases es with
   | nil=>
    exfalso;cases ms with
    | nil=>unfold evEs at h;cases h
    | cons _ _=>cases l1
   | cons y ys=>
    rw[D8,K8]at ns;cases ys with
    | nil=>exact z0c hg hm (λz hz=>ha g hc.2 hz) ns.1 h λl hl=>by rw[q2u hl,l1];rfl
    | cons z zs=>
     cases zs with
     | nil=>
      have ns2:=ns.2;rw[D8,K8]at ns2;exact z0f hg hm (λz hz=>ha g hc.2 hz) ns.1 ns2.1 h λl hl=>by rw[q2u hl,l1];rfl
     | cons u us=>
      cases us with
      | nil=>
       have ns2:=ns.2;rw[D8,K8]at ns2;have ns3:=ns2.2;rw[D8,K8]at ns3;exact z0p hg hm (λz hz=>ha g hc.2 hz) ns.1 ns2.1 ns3.1 h λl hl=>by rw[q2u hl,l1];rfl
      | cons _ _=>simp at hle
  ·cases hc
theorem y1y(ha:S1 G F a):S1 G F (.itm a):=by
 refine⟨λ{sg X E e δ r} g hc h=>?_,λ{sg X E e δ r} g hc h=>?_,λ{sg X E e tg δ r} g hc ht h=>?_⟩
 ·unfold corE at hc;rw[G6]at hc;cases hc
 ·unfold corE at hc;rw[G6]at hc;cases hc
 ·unfold corE at hc;rw[V1]at hc;split at hc
  ·rename_i ef pos q;have:=B1 q;subst this;split at hc
   ·rename_i ob n apos q2;have:=q2s q2;subst this;simp only[b9]at hc;obtain⟨⟨⟨h1,h2⟩,h3⟩,h4⟩:=hc;have hn:n = "items":=d8.mp h1;subst hn;cases q3:p0 ob with
    | none=>rw[q3]at h4;cases h4
    | some x=>
     obtain⟨np,rfl⟩:=v5 q3;have t:=ht rfl;cases q4:G0 tg with
     | none=>rw[q4]at t;cases t
     | some elts=>
      obtain⟨k,tp,rfl⟩:=q3A q4;unfold evE at h;exact z7j rfl h3 (λz hz=>ha.1 g h2 hz) h
   ·cases hc
  ·cases hc
theorem z7h{sg:Sg}{X:Cx}{E:St->XK}{e:Expr}{δ:List Sv}{r:Re}{tg:Tg}{fr:List (Option Nat)}{cp:CParts}{tn:List Str}(ha:S1 G F a)(hb:S1 G F b)(g:Good sg G F X E)(hemp:cp.ifs=[])
  (h2:corE sg true b cp.it=true) (hz:isZp b=true->(G0 cp.tg).isSome=true) (h4:W7 sg (E7 sg tn fr) fr cp.sc tg=true) (h5:tgOk ⟨E7 sg tn fr,cp.sc.names,sg.fn,sg.bl,sg.cl,false,true⟩ tg cp.tg=true) (h6:corE ⟨E7 sg tn fr,cp.sc.names,sg.fn,sg.bl,sg.cl,false,true⟩ false a cp.elt=true)
  (h:evE G F (.comp a tg b fr) δ=some r):T8 X E δ cp.tg cp.it cp.ifs cp.elt cp.sc (E7 sg tn fr) fr tg r:=by
 obtain⟨S,nd,sl⟩:=q2b g h4;rw[hemp];unfold evE at h;exact q5y S g.calm nd sl (λz hz'=>hb.2.2 g h2 hz hz') (λC cells s₂ H₂ fp=>z0Y (X4 g h4 C cells s₂ H₂ fp) h5) (λδ' r' hr C cells s₂ H₂ fp=>ha.1 (X4 g h4 C cells s₂ H₂ fp) h6 hr) h
theorem z4w{sg:Sg}{X:Cx}{E:St->XK}{e cd:Expr}{δ:List Sv}{r:Re}{tg:Tg}{fr:List (Option Nat)}{cp:CParts}{tn:List Str}(ha:S1 G F a)(hb:S1 G F b)(hcc:S1 G F c)(g:Good sg G F X E)(hemp:cp.ifs=[cd])
  (h2:corE sg true b cp.it=true) (hz:isZp b=true->(G0 cp.tg).isSome=true) (h4:W7 sg (E7 sg tn fr) fr cp.sc tg=true) (h5:tgOk ⟨E7 sg tn fr,cp.sc.names,sg.fn,sg.bl,sg.cl,false,true⟩ tg cp.tg=true) (h6:corE ⟨E7 sg tn fr,cp.sc.names,sg.fn,sg.bl,sg.cl,false,true⟩ false a cp.elt=true)
  (h7:corE ⟨E7 sg tn fr,cp.sc.names,sg.fn,sg.bl,sg.cl,false,true⟩ false c cd=true) (h:evE G F (.compi a tg b c fr) δ=some r):T8 X E δ cp.tg cp.it cp.ifs cp.elt cp.sc (E7 sg tn fr) fr tg r:=by
 obtain⟨S,nd,sl⟩:=q2b g h4;rw[hemp];unfold evE at h;exact q5p S g.calm nd sl (λz hz'=>hb.2.2 g h2 hz hz') (λC cells s₂ H₂ fp=>z0Y (X4 g h4 C cells s₂ H₂ fp) h5) (λδ' r' hr C cells s₂ H₂ fp=>ha.1 (X4 g h4 C cells s₂ H₂ fp) h6 hr)
  (λδ' r' hr C cells s₂ H₂ fp=>hcc.2.1 (X4 g h4 C cells s₂ H₂ fp) h7 hr) h
def X5(G:Gs)(F:Nat->List DV->Option Ou)(m:ME):Prop:=∀{sg:Sg} {X:Cx} {E:St->XK} {e:Expr} {δ:List Sv} {r:Re},Good sg G F X E->corE sg false m e=true->evE G F m δ=some r ->
 ∃(cp:CParts) (N':List Str) (fr:List (Option Nat)) (tg:Tg) (p:Pos),e=.ListComp cp.elt [⟨cp.tg,cp.it,cp.ifs,0⟩] cp.sc p/\CompScope X.N N' cp.sc X.env.scope fr/\T8 X E δ cp.tg cp.it cp.ifs cp.elt cp.sc N' fr tg r /\
  (∀C cells s₂ H₂ fp,PG (o8 X cp.sc N' C cells s₂ H₂ fp) cp.tg (gT X.K tg))/\E6 cp.it=false
theorem X5.s1(h:X5 G F m)(hw:∀sg e,corE sg true m e=corE sg false m e)(hl:∀sg e,corE sg false m e=true->(q5O e).isSome=true):S1 G F m:=by
 refine .of (λ{sg X E e δ r} g hc q=>?_) hw (λsg e env hc=>?_)
 ·obtain⟨cp,N',fr,tg,p,rfl,S,P,hG,hs⟩:=h g hc q;exact P.pe S g.calm hG hs
 ·have:=hl sg e hc;cases z:q5O e with
  | none=>rw[z]at this;cases this
  | some cp=>obtain⟨p,rfl⟩:=q4W z;exact A6 rfl env
theorem z4F(ha:S1 G F a)(hb:S1 G F b):X5 G F (.comp a tg b fr):=by
 intro sg X E e δ r g hc h;unfold corE at hc;split at hc
 ·rename_i cp q;obtain⟨p,rfl⟩:=q4W q;simp only[b9,t8,C7]at hc;obtain⟨⟨⟨h1,h2,h3⟩,h4⟩,h5⟩:=hc;split at h5
  ·rename_i tn qt;simp only[b9]at h5;refine⟨cp,_,fr,tg,p,rfl,(q2b g h5.1.1).1,z7h (e:=.ListComp cp.elt [⟨cp.tg,cp.it,cp.ifs,0⟩] cp.sc p) ha hb g (List.isEmpty_iff.mp h1) h2 (λz=>?_) h5.1.1 h5.1.2 h5.2 h,λC cells s₂ H₂ fp=>z0Y (X4 g h5.1.1 C cells s₂ H₂ fp) h5.1.2,h4⟩;rcases h3 with w | w
   ·rw[z]at w;cases w
   ·exact w
  ·cases h5
 ·cases hc
theorem z1H(ha:S1 G F a)(hb:S1 G F b)(hcc:S1 G F c):X5 G F (.compi a tg b c fr):=by
 intro sg X E e δ r g hc h;unfold corE at hc;split at hc
 ·rename_i cp q;obtain⟨p,rfl⟩:=q4W q;simp only[b9,t8,C7]at hc;obtain⟨⟨⟨h2,h3⟩,h4⟩,h5⟩:=hc;split at h5
  ·rename_i tn ec qt qi;simp only[b9]at h5;refine⟨cp,_,fr,tg,p,rfl,(q2b g h5.1.1.1).1,z4w (e:=.ListComp cp.elt [⟨cp.tg,cp.it,cp.ifs,0⟩] cp.sc p) ha hb hcc g qi h2 (λz=>?_) h5.1.1.1 h5.1.1.2 h5.1.2 h5.2 h,λC cells s₂ H₂ fp=>z0Y (X4 g h5.1.1.1 C cells s₂ H₂ fp) h5.1.1.2,h4⟩;rcases h3 with w | w
   ·rw[z]at w;cases w
   ·exact w
  ·cases h5
 ·cases hc
theorem z9f(ha:S1 G F a)(hb:S1 G F b):S1 G F (.comp a tg b fr):=X5.s1 (λ{sg X E e δ r}=>z4F ha hb) (λ_ _=>rfl) λsg e hc=>by
 unfold corE at hc;split at hc
 ·rename_i q;rw[q];rfl
 ·cases hc
theorem z5W(ha:S1 G F a)(hb:S1 G F b)(hcc:S1 G F c):S1 G F (.compi a tg b c fr):=X5.s1 (λ{sg X E e δ r}=>z1H ha hb hcc) (λ_ _=>rfl) λsg e hc=>by
 unfold corE at hc;split at hc
 ·rename_i q;rw[q];rfl
 ·cases hc
theorem y2k:SEs G F []:=λ{sg X E es δ r} g hc h=>by
 cases es with
 | nil=>unfold evEs at h;cases h;exact z3v
 | cons _ _=>unfold q9 at hc;cases hc
theorem z8C(ha:S1 G F a)(hb:SEs G F ms):SEs G F (a::ms):=λ{sg X E es δ r} g hc h=>by
 cases es with
 | nil=>unfold q9 at hc;cases hc
 | cons e es=>
  unfold q9 at hc;simp only[b9,t8]at hc;unfold evEs at h;exact z1R hc.1.2 (λz hz=>ha.1 g hc.1.1 hz) (λz hz=>hb g hc.2 hz) h
theorem z6w:SAnd G F []:=λ{sg X E es δ pos} g hc=>⟨λr h=>(by unfold D0 at h;cases h),λr h=>(by unfold D0 at h;cases h)⟩
theorem z9A:SOr G F []:=λ{sg X E es δ pos} g hc=>⟨λr h=>(by unfold evOr at h;cases h),λr h=>(by unfold evOr at h;cases h)⟩
theorem z3r(ha:S1 G F a)(hb:SAnd G F ms):SAnd G F (a::ms):=λ{sg X E es δ pos} g hc=>by
 cases es with
 | nil=>unfold q9 at hc;cases hc
 | cons e es=>
  unfold q9 at hc;simp only[b9,t8]at hc;cases ms with
  | nil=>
   cases es with
   | nil=>
    refine⟨λr h=>?_,λr h=>?_⟩
    ·unfold D0 at h;exact z4R (ha.1 g hc.1.1 h)
    ·unfold D0 at h;exact z7J (ha.2.1 g hc.1.1 h)
   | cons _ _=>have:=hc.2;unfold q9 at this;cases this
  | cons m ms=>
   cases es with
   | nil=>have:=hc.2;unfold q9 at this;cases this
   | cons e' es=>
    have B:=@hb sg X E (e'::es) δ pos g hc.2;refine⟨λr h=>?_,λr h=>?_⟩
    ·unfold D0 at h;exact z7d (λz hz=>ha.1 g hc.1.1 hz) (λz hz=>B.1 z hz) h
    ·unfold D0 at h;exact z3S (λz hz=>ha.2.1 g hc.1.1 hz) (λz hz=>B.2 z hz) h
theorem z6u(ha:S1 G F a)(hb:SOr G F ms):SOr G F (a::ms):=λ{sg X E es δ pos} g hc=>by
 cases es with
 | nil=>unfold q9 at hc;cases hc
 | cons e es=>
  unfold q9 at hc;simp only[b9,t8]at hc;cases ms with
  | nil=>
   cases es with
   | nil=>
    refine⟨λr h=>?_,λr h=>?_⟩
    ·unfold evOr at h;exact z4R (ha.1 g hc.1.1 h)
    ·unfold evOr at h;exact z9E (ha.2.1 g hc.1.1 h)
   | cons _ _=>have:=hc.2;unfold q9 at this;cases this
  | cons m ms=>
   cases es with
   | nil=>have:=hc.2;unfold q9 at this;cases this
   | cons e' es=>
    have B:=@hb sg X E (e'::es) δ pos g hc.2;refine⟨λr h=>?_,λr h=>?_⟩
    ·unfold evOr at h;exact y0x (λz hz=>ha.1 g hc.1.1 hz) (λz hz=>B.1 z hz) h
    ·unfold evOr at h;exact z6f (λz hz=>ha.2.1 g hc.1.1 hz) (λz hz=>B.2 z hz) h
theorem y1f(ha:SAnd G F ms):S1 G F (.and ms):=by
 refine .of2 (λ{sg X E e δ r} g hc h=>?_) (λ{sg X E e δ r} g hc h=>?_) (λ_ _=>rfl)
 ·unfold corE at hc;split at hc
  ·rename_i o es q;obtain⟨p,rfl⟩:=q3Z q;simp only[b9,d8]at hc;obtain⟨h1,h2⟩:=hc;subst h1;unfold evE at h;exact(ha g h2).1 r h
  ·cases hc
 ·unfold corE at hc;split at hc
  ·rename_i o es q;obtain⟨p,rfl⟩:=q3Z q;simp only[b9,d8]at hc;obtain⟨h1,h2⟩:=hc;subst h1;unfold evE at h;exact((ha g h2).2 r h).pt
  ·cases hc
theorem s_or(ha:SOr G F ms):S1 G F (.or ms):=by
 refine .of2 (λ{sg X E e δ r} g hc h=>?_) (λ{sg X E e δ r} g hc h=>?_) (λ_ _=>rfl)
 ·unfold corE at hc;split at hc
  ·rename_i o es q;obtain⟨p,rfl⟩:=q3Z q;simp only[b9,d8]at hc;obtain⟨h1,h2⟩:=hc;subst h1;unfold evE at h;exact(ha g h2).1 r h
  ·cases hc
 ·unfold corE at hc;split at hc
  ·rename_i o es q;obtain⟨p,rfl⟩:=q3Z q;simp only[b9,d8]at hc;obtain⟨h1,h2⟩:=hc;subst h1;unfold evE at h;exact((ha g h2).2 r h).pt
  ·cases hc
end
section
variable {G:Gs} {F:Nat->List DV->Option Ou}
mutual
theorem snd:∀m:ME,S1 G F m
 | .var _=>y1a
 | .int _=>y1N
 | .bl _=>s_bl
 | .str _=>y1x
 | .non=>y1L
 | .glb _=>y2e
 | .bin _ a b=>y1z (snd a) (snd b)
 | .neg a=>y0H (snd a)
 | .not a=>y0W (snd a)
 | .cmp _ a b=>y1R (snd a) (snd b)
 | .chain _ _ a b c=>z5J (snd a) (snd b) (snd c)
 | .and es=>y1f (z4S es)
 | .or es=>s_or (z8r es)
 | .lst es=>y1q (sndL es)
 | .tup es=>y0S (sndL es)
 | .dc0=>y0O
 | .ix a b=>s_ix (snd a) (snd b)
 | .sl a b c=>s_sl (snd a) (snd b) (snd c)
 | .slf a b=>y0M (snd a) (snd b)
 | .slt a b=>y1D (snd a) (snd b)
 | .call _ es=>y0g (sndL es)
 | .bi _ es=>s_bi (sndL es)
 | .isi a _=>y1b (snd a)
 | .isx a _=>y0V (snd a)
 | .meth _ a _=>z8R (snd a)
 | .comp a _ b _=>z9f (snd a) (snd b)
 | .compi a _ b c _=>z5W (snd a) (snd b) (snd c)
 | .idx a b=>y1g (snd a) (snd b)
 | .rng es=>y1u (sndL es)
 | .itm a=>y1y (snd a)
 | .dix a b=>y0Y (snd a) (snd b)
 | .dgp _ b=>y2b (snd b)
 | .din _ b=>y1i (snd b)
 | .kys a=>y1t (snd a)
 | .callv _ _ es=>z6g (sndL es)
theorem sndL:∀ms:List ME,SEs G F ms
 | []=>y2k
 | a::ms=>z8C (snd a) (sndL ms)
theorem z4S:∀ms:List ME,SAnd G F ms
 | []=>z6w
 | a::ms=>z3r (snd a) (z4S ms)
theorem z8r:∀ms:List ME,SOr G F ms
 | []=>z9A
 | a::ms=>z6u (snd a) (z8r ms)
end
end
end
section
section
variable (G:Gs) (F:Nat->List DV->Option Ou) (fu:Nat)
def SS(m:MS):Prop:=∀{sg:Sg} {X:Cx} {E:St->XK} {st:Stmt} {δ:List Sv} {o:Out},Good sg G F X E->corS sg m st=true->evS G F fu m δ=some o->PS X st (dS X.D E δ o)
def SSs(ms:List MS):Prop:=∀{sg:Sg} {X:Cx} {E:St->XK} {sts:List Stmt} {δ:List Sv} {o:Out},Good sg G F X E->F2 sg ms sts=true->evSs G F fu ms δ=some o->PSs X sts (dS X.D E δ o)
end
section
variable {G:Gs} {F:Nat->List DV->Option Ou} {fu:Nat} {e k:ME} {i:Nat}
theorem y0a:∀{e:ME},z0Q e=true->X5 G F e
 | .comp a _ b _,_=>z4F (snd a) (snd b)
 | .compi a _ b c _,_=>z1H (snd a) (snd b) (snd c)
theorem y2d:SS G F fu (.set i own e):=by
 intro sg X E st δ o g hc h;unfold corS at hc;split at hc
 ·rename_i t v pos;split at hc
  ·rename_i x pt;simp only[b9,d8,C7,t8]at hc;obtain⟨⟨⟨h1,h2⟩,h3⟩,h4⟩:=hc;have l:=g.loc x h2;have hN:X.N[i]? = some x:=by rw[g.N];exact h1
   unfold evS at h;cases hv:T4 v with
   | false=>exact z1s g.nd hN l.1 l.2 (λz hz=>(snd e).1 g h3 hz) (q2X hv) h
   | true=>
    rcases h4 with h4 | h5
    ·rw[hv]at h4;cases h4
    ·cases hr:evE G F e δ with
     | none=>rw[hr]at h;cases h
     | some r=>
      obtain⟨cp,N',fr,tg,p,rfl,S,P,hG,hs⟩:=y0a h5 g h3 hr;cases hb:(X.env.blockKind == .function&&X.env.kindOf x==some .local&&pt.line==(Expr.ListComp cp.elt [⟨cp.tg,cp.it,cp.ifs,0⟩] cp.sc p).pos.line && !(cp.sc.names.any λ(n,k)=>n==x&&(k == .local||k == .cell)))with
      | false=>
       have hsw:swapsWith (.ListComp cp.elt [⟨cp.tg,cp.it,cp.ifs,0⟩] cp.sc p) (some (.Name x pt)) pos.line X.env=pure false:=(by show(pure (X.env.blockKind == .function&&X.env.kindOf x==some .local&&pt.line==(Expr.ListComp cp.elt [⟨cp.tg,cp.it,cp.ifs,0⟩] cp.sc p).pos.line && !(cp.sc.names.any λ(n,k)=>n==x&&(k == .local||k == .cell))):Sem Bool)=pure false;rw[hb]);exact z1s g.nd hN l.1 l.2 (λz hz=>(snd e).1 g h3 hz) hsw h
      | true=>
       have hsw:swapsWith (.ListComp cp.elt [⟨cp.tg,cp.it,cp.ifs,0⟩] cp.sc p) (some (.Name x pt)) pos.line X.env=pure true:=(by show(pure (X.env.blockKind == .function&&X.env.kindOf x==some .local&&pt.line==(Expr.ListComp cp.elt [⟨cp.tg,cp.it,cp.ifs,0⟩] cp.sc p).pos.line && !(cp.sc.names.any λ(n,k)=>n==x&&(k == .local||k == .cell))):Sem Bool)=pure true;rw[hb]);rw[hr]at h;have h4:X.env.kindOf x=some .local:=by simp only[b9,d8]at hb;exact hb.1.1.2
       exact q8k S g.calm g.nd hN h4 P hG hs hsw h
  ·cases hc
 ·cases hc
theorem y1l:SS G F fu (.app i e):=by
 intro sg X E st δ o g hc h;unfold corS at hc;split at hc
 ·rename_i v pos;split at hc
  ·rename_i ef ea cpos q;have:=B1 q;subst this;split at hc
   ·rename_i ob n apos q2;have:=q2s q2;subst this;simp only[b9,t8]at hc;obtain⟨⟨⟨⟨h1,h2⟩,h3⟩,h4⟩,h5⟩:=hc;split at h2
    ·rename_i x q3;obtain⟨np,rfl⟩:=v5 q3;obtain⟨s1,s2,s3,s4⟩:=M0 g h2;have hn:n = "append":=d8.mp h1;subst hn;unfold evS at h;exact q9Q (K2 s1 s2 s3 s4) (λz hz=>(snd e).1 g h3 hz) h4 h5 h
    ·cases h2
   ·cases hc
  ·cases hc
 ·cases hc
theorem y1X:SS G F fu (.clr i):=by
 intro sg X E st δ o g hc h;unfold corS at hc;split at hc
 ·rename_i v pos;split at hc
  ·rename_i ef cpos q;have:=B1 q;subst this;split at hc
   ·rename_i ob n apos q2;have:=q2s q2;subst this;simp only[b9,t8]at hc;obtain⟨⟨h1,h2⟩,h5⟩:=hc;split at h2
    ·rename_i x q3;obtain⟨np,rfl⟩:=v5 q3;obtain⟨s1,s2,s3,s4⟩:=M0 g h2;have hn:n = "clear":=d8.mp h1;subst hn;unfold evS at h;exact z0Z (K2 s1 s2 s3 s4) h5 h
    ·cases h2
   ·cases hc
  ·cases hc
 ·cases hc
theorem y1r:SS G F fu (.ext i e):=by
 intro sg X E st δ o g hc h;unfold corS at hc;split at hc
 ·rename_i v pos;split at hc
  ·rename_i ef ea cpos q;have:=B1 q;subst this;split at hc
   ·rename_i ob n apos q2;have:=q2s q2;subst this;simp only[b9,t8]at hc;obtain⟨⟨⟨⟨h1,h2⟩,h3⟩,h4⟩,h5⟩:=hc;split at h2
    ·rename_i x q3;obtain⟨np,rfl⟩:=v5 q3;obtain⟨s1,s2,s3,s4⟩:=M0 g h2;have hn:n = "extend":=d8.mp h1;subst hn;unfold evS at h;exact z0r (K2 s1 s2 s3 s4) (λz hz=>(snd e).1 g h3 hz) h4 h5 h
    ·cases h2
   ·cases hc
  ·cases hc
 ·cases hc
theorem z8S:SS G F fu (.retd i):=by
 intro sg X E st δ o g hc h;unfold corS at hc;split at hc
 ·rename_i v pos;split at hc
  ·rename_i x q;obtain⟨np,rfl⟩:=v5 q;obtain⟨s1,s2,s3,s4⟩:=M0 g hc;unfold evS at h;exact z4x (K2 s1 s2 s3 s4) h
  ·cases hc
 ·cases hc
theorem y1o:SS G F fu (.sep i):=by
 intro sg X E st δ o g hc h;unfold corS at hc;split at hc
 ·rename_i t v pos;split at hc
  ·rename_i x q;obtain⟨np,rfl⟩:=v5 q;split at hc
   ·rw[b9,d8]at hc;obtain⟨l1,l2⟩:=g.loc x hc.2;unfold evS at h;exact z6k g.nd (by rw[g.N];exact hc.1) l1 l2 h
   ·cases hc
  ·cases hc
 ·cases hc
theorem y1E:SS G F fu (.dpp i ks e):=by
 intro sg X E st δ o g hc h;unfold corS at hc;split at hc
 ·rename_i t v pos;split at hc
  ·rename_i ob ek q;obtain⟨sp,rfl⟩:=G1 q;simp only[b9,t8]at hc;obtain⟨⟨⟨h1,h2⟩,h4⟩,h5⟩:=hc;split at h1
   ·rename_i x q3;obtain⟨np,rfl⟩:=v5 q3;obtain⟨s1,s2,s3,s4⟩:=M0 g h1;split at h2
    ·rename_i es q4;obtain⟨tk,tp,rfl⟩:=q3A q4;unfold evS at h;exact z6v (O0 (by omega) g.hu) (K2 s1 s2 s3 s4) (λz hz=>(snd e).1 g h4 hz) (λz hz=>sndL ks g h2 hz) h5 h
    ·cases h2
   ·cases h1
  ·cases hc
 ·cases hc
theorem y0b:SS G F fu (.seti i k e):=by
 intro sg X E st δ o g hc h;unfold corS at hc;split at hc
 ·rename_i t v pos;split at hc
  ·rename_i ob ek q;obtain⟨sp,rfl⟩:=G1 q;simp only[b9,t8]at hc;obtain⟨⟨⟨h2,h3⟩,h4⟩,h5⟩:=hc;split at h2
   ·rename_i x q3;obtain⟨np,rfl⟩:=v5 q3;obtain⟨s1,s2,s3,s4⟩:=M0 g h2;unfold evS at h;exact z0R (K2 s1 s2 s3 s4) (λz hz=>(snd e).1 g h5 hz) (λz hz=>(snd k).1 g h3 hz) h4 h
   ·cases h2
  ·cases hc
 ·cases hc
theorem y1k:SS G F fu (.exp e):=by
 intro sg X E st δ o g hc h;unfold corS at hc;split at hc
 ·simp only[b9,t8]at hc;unfold evS at h;exact z7v (λz hz=>(snd e).1 g hc.1 hz) hc.2 h
 ·cases hc
theorem y1C:SS G F fu (.ret e):=by
 intro sg X E st δ o g hc h;unfold corS at hc;split at hc
 ·unfold evS at h;exact z6V (λz hz=>(snd e).1 g hc hz) h
 ·cases hc
theorem y0R:SS G F fu (.rse c e):=by
 intro sg X E st δ o g hc h;unfold corS at hc;split at hc
 ·rename_i v pos;split at hc
  ·rename_i ef ea cpos q;have:=B1 q;subst this;simp only[b9,t8,d8,w3a,ne_eq]at hc;obtain⟨⟨⟨⟨⟨h0,h1⟩,h2⟩,h3⟩,h4⟩,h5⟩:=hc;obtain⟨np,rfl⟩:=v5 h1;unfold evS at h;exact z2F g.xf g.calm (g.glo c h2) (t7.mpr h3) (g.st h0).2.2.2 (λz hz=>(snd e).1 g h4 hz) h5 h
  ·cases hc
 ·cases hc
theorem y1n(hb:SSs G F fu body):SS G F fu (.tryc body c ie ic):=by
 intro sg X E st δ o g hc h;unfold corS at hc;split at hc
 ·rename_i b hd pos;cases hd with
  | ExceptHandler t n bd hp=>
  simp only[b9,q7D]at hc;obtain⟨⟨h0,h1⟩,h2⟩:=hc;split at h2
  ·rename_i t' n' t2 v2 ap q;simp only[Option.some.injEq,Prod.mk.injEq]at q;obtain⟨rfl,rfl,rfl⟩:=q;simp only[b9,d8,w3a,ne_eq,M2]at h2;obtain⟨⟨⟨⟨⟨⟨⟨⟨⟨⟨k1,k2⟩,k3⟩,k4⟩,k5⟩,k6⟩,k7⟩,k8⟩,k9⟩,k10⟩,k11⟩:=h2;split at k10
   ·rename_i x q2;simp only[b9,d8]at k10;obtain⟨tp,rfl⟩:=v5 q2;obtain⟨vp,rfl⟩:=v5 k9;obtain⟨np,rfl⟩:=v5 k1;have l:=g.loc x k10.2;obtain⟨s1,s2,s3,_⟩:=g.st h0;unfold evS at h;exact z6J g.xf s1 s2 s3 (g.glo c k2) k4 (t7.mpr k3) g.nd (by rw[g.N];exact k5) (g.lcl _ k6) (t7.mpr k7) (t7.mpr k8) (by rw[g.N];exact k10.1) l.1 l.2
     (λpins E' q hq=>hb (z3Y g pins E') h1 hq) h
   ·cases k10
  ·cases h2
 ·cases hc
theorem y1j:SS G F fu (.frz i):=by
 intro sg X E st δ o g hc h;unfold corS at hc;cases hc
variable {a b body:List MS} {c:ME} {tg:Tg}
theorem y1M(ha:SSs G F fu a)(hb:SSs G F fu b):SS G F fu (.iff c a b):=by
 intro sg X E st δ o g hc h;unfold corS at hc;split at hc
 ·simp only[b9]at hc;unfold evS at h;exact z9G (λz hz=>(snd c).2.1 g hc.1.1 hz) (λz hz=>ha g hc.1.2 hz) (λz hz=>hb g hc.2 hz) h
 ·cases hc
theorem t_fo(hb:SSs G F fu body):SS G F fu (.fo tg e body):=by
 intro sg X E st δ o g hc h;unfold corS at hc;split at hc
 ·simp only[b9,t8,C7]at hc;obtain⟨⟨⟨⟨h0,h1⟩,h2,h3⟩,h4⟩,h5⟩:=hc;unfold evS at h;exact z7p (g.own h0) g.calm (λz hz=>(snd e).2.2 g h2 (λw=>by
   rcases h3 with q | q
   ·rw[w]at q;cases q
   ·exact q) hz) (z0Y g h1) (λδ' o' ho=>hb g h5 ho) h4 h
 ·cases hc
theorem z8w:SSs G F fu []:=by
 intro sg X E sts δ o g hc h;cases sts with
 | nil=>unfold evSs at h;cases h;exact z6I
 | cons a b=>unfold F2 at hc;cases hc
theorem z9S(hb:SSs G F fu ms):SSs G F fu (.frz i::ms):=by
 intro sg X E sts δ o g hc h;have hc':F2 sg ms sts=true:=by unfold F2 at hc;exact hc
 unfold evSs at h;have key:evS G F fu (.frz i) δ=(match δ[i]? with | some (.own d)=>some (.nx (δ.set i (.val d))) | _=>some (.nx δ)):=by unfold evS;rfl
 rw[key]at h;cases q:δ[i]? with
 | none=>rw[q]at h;exact hb g hc' h
 | some sv=>
  rw[q]at h;cases sv with
  | own d=>exact z0i q (hb g hc' h)
  | no=>exact hb g hc' h
  | val d=>exact hb g hc' h
  | ot d=>exact hb g hc' h
  | o2 d=>exact hb g hc' h
  | od d=>exact hb g hc' h
theorem G3(ha:SS G F fu m)(hb:SSs G F fu ms)(hm:∀i,m ≠ .frz i):SSs G F fu (m::ms):=by
 intro sg X E sts δ o g hc h;cases sts with
 | nil=>
  exfalso;cases m<;>first | exact hm _ rfl | (unfold F2 at hc;cases hc)
 | cons st sts=>
  have hc':corS sg m st=true/\F2 sg ms sts=true:=(by cases m<;>first | exact absurd rfl (hm _) | (unfold F2 at hc;rw[b9]at hc;exact hc));unfold evSs at h;split at h
  ·rename_i δ' q;exact z4g (ha g hc'.1 q) (hb g hc'.2 h)
  ·rename_i hne;have A:=ha g hc'.1 h;cases o with
   | nx δ'=>exact absurd h (hne δ')
   | rt d fr=>exact z9m A
   | rtt d=>exact z6S A
   | ex c δ'=>exact y0A A
end
section
variable {G:Gs} {F:Nat->List DV->Option Ou} {fu:Nat}
mutual
theorem sndS:∀m:MS,SS G F fu m
 | .set _ _ _=>y2d
 | .app _ _=>y1l
 | .ext _ _=>y1r
 | .seti _ _ _=>y0b
 | .clr _=>y1X
 | .exp _=>y1k
 | .ret _=>y1C
 | .iff _ a b=>y1M (B6 a) (B6 b)
 | .fo _ _ body=>t_fo (B6 body)
 | .sep _=>y1o
 | .dpp _ _ _=>y1E
 | .retd _=>z8S
 | .rse _ _=>y0R
 | .tryc body _ _ _=>y1n (B6 body)
 | .frz _=>y1j
theorem B6:∀ms:List MS,SSs G F fu ms
 | []=>z8w
 | .frz _::ms=>z9S (B6 ms)
 | .set i o e::ms=>G3 (sndS (.set i o e)) (B6 ms) (by intro i z;cases z)
 | .app i o::ms=>G3 (sndS (.app i o)) (B6 ms) (by intro i z;cases z)
 | .ext i o::ms=>G3 (sndS (.ext i o)) (B6 ms) (by intro i z;cases z)
 | .seti i k o::ms=>G3 (sndS (.seti i k o)) (B6 ms) (by intro i z;cases z)
 | .clr i::ms=>G3 (sndS (.clr i)) (B6 ms) (by intro i z;cases z)
 | .exp e::ms=>G3 (sndS (.exp e)) (B6 ms) (by intro i z;cases z)
 | .ret e::ms=>G3 (sndS (.ret e)) (B6 ms) (by intro i z;cases z)
 | .iff c a b::ms=>G3 (sndS (.iff c a b)) (B6 ms) (by intro i z;cases z)
 | .fo t i b::ms=>G3 (sndS (.fo t i b)) (B6 ms) (by intro i z;cases z)
 | .retd i::ms=>G3 (sndS (.retd i)) (B6 ms) (by intro i z;cases z)
 | .sep i::ms=>G3 (sndS (.sep i)) (B6 ms) (by intro i z;cases z)
 | .dpp i k e::ms=>G3 (sndS (.dpp i k e)) (B6 ms) (by intro i z;cases z)
 | .rse c e::ms=>G3 (sndS (.rse c e)) (B6 ms) (by intro i z;cases z)
 | .tryc a b c d::ms=>G3 (sndS (.tryc a b c d)) (B6 ms) (by intro i z;cases z)
end
end
end
section
structure FunD(K:PySem.W.Frag)(x qual:Str)(st:Stmt)(f:Addr)(fd:FuncData):Prop where
 ex:∃(oc:Value) (od:Option Addr) (dV kV doc pm:Value) (an:Option Addr) (cdv ct:Value) (osl:Array (Option Value)),
  fd=PySem.W.fnOf x qual (F8 st) (B9 st) (o5 st) dV kV doc pm an cdv ct/\K.lookup f=some ⟨oc,od,.func fd,osl⟩/\PySem.W.codeIn K cdv qual=true
theorem FunD.okX{P:Program}{w:World}{K:PySem.W.Frag}{mg:Str->Option Value}{base:Heap}{x qual:Str}{st:Stmt}{f:Addr}{fd:FuncData}{N ps:List Str}{k:Nat}{sp:Sp}(F:FunD K x qual st f fd)(S:FnScope N ps (o5 st))(len:∀vs H Q E,sp vs H Q E->vs.length=ps.length)
  (hbody:∀(cdv:Value) (A:Around) (outer:List Env) (s:Shared) (H:Hp) (vs:List V) (Q:VK) (E:XK),Room k (A.deeper (envOfC qual (o5 st) s.heap.objs.size f cdv))->sp vs H Q E ->
   ∃t,PSs (cxD P w K mg base N qual (o5 st) f cdv A outer s H E) (B9 st) t/\t {nx:=λ_ H'=>Q .non H',rt:=Q} (start N vs) H):FnOk P w K mg base (CXx P w base) (k+1) f fd ps sp:=by
 obtain⟨oc,od,dV,kV,doc,pm,an,cdv,ct,osl,rfl,lk,hcd⟩:=F.ex;exact y1K lk hcd S len λA outer s H vs Q E hr hsp=>hbody cdv A outer s H vs Q E hr hsp
def popB(sg:Sg)(v:Expr):Bool:=match D1 v with
 | some (ef,[ea],[],pos)=>(match O9 ef with
  | some (o,n,apos)=>n == "pop" && (match p0 o with | some x=>G2 sg 1 x | none=>false)&&corE sg false (.int 0) ea && !m7 ea&&apos.endLine==pos.line
  | none=>false)
 | _=>false
def hunC(sg:Sg)(m:ME)(v:Expr):Bool:=match hunB sg 1 v with | some ea=>corE sg false m ea | none=>false
def hm0:ME:=.cmp .Eq (.ix (.var 0) (.int 0)) (.str "end")
def hm1:ME:=.cmp .Eq (.var 1) (.lst [])
def corH(sg:Sg)(b:List Stmt):Bool:=match b with
 | [.If c [.If c2 [.Return (some e1) _] [] _,.Return (some e2) _] [] _,.Assign [.Name x _] e3 _,.Return (some e4) _]=>
  corE sg false hm0 c&&corE sg false hm1 c2&&corE sg false (.var 0) e1&&popB sg e2&&sg.N[2]? == some x&&locB sg x && !T4 e3&&hunC sg (.ix (.var 0) (.int 3)) e3 &&
  (match G0 e4 with
   | some [a,b,c,d,e]=>corE sg false (.str "ask") a&&corE sg false (.ix (.var 0) (.int 1)) b&&corE sg false (.ix (.var 0) (.int 2)) c&&corE sg false (.var 2) d&&hunC sg (.ix (.var 0) (.int 4)) e && !m7 a && !m7 b && !m7 c && !m7 d && !m7 e
   | _=>false)
 | _=>false
def hG:Gs:={con:=[],cls:=[],hun:=true}
structure HStands(K:PySem.W.Frag)(mg:Str->Option Value)(fa:Addr)(fd:FuncData)(ps:List Str):Prop where
 mg:mg F1=some (.ref fa)
 kp:PySem.W.keepIn K (.ref fa)=true
 bi:D5 K fd ps []
 np:ps.length=2
 ex:∃qual st N,FunD K F1 qual st fa fd/\FnScope N ps (o5 st)/\N.length=3/\corH ⟨N,(o5 st).names,[],[],[],true,true⟩ (B9 st)=true
theorem z6l:q9X k O7 [d,.lst l]=(W0 k d l).map λr=>.v r.1 false:=by
 show(if O7=O7 then _ else none)=_;exact b8 rfl
def hδ(d:DV)(ds:List DV)(x:Sv):List Sv:=[.val d,.own (.lst ds),x]
section
variable {F:Nat->List DV->Option Ou} {d:DV} {ds:List DV} {x:Sv} {s:Str}
end
section
variable {P:Program} {w:World} {K:PySem.W.Frag} {mg:Str->Option Value} {base:Heap} {fa:Addr} {fd:FuncData} {ps:List Str}
end
end
section
theorem RSt.start(hn:n=N.length)(r:RepL D (L2.wo O H) ds vs)(ho:Hdn O H):RSt D H (L2.start N vs) (f8 n ds) O []:=by
 subst hn;have ino:∀(i:Nat) ds',(f8 N.length ds)[i]? ≠ some (.own ds'):=λi ds' h=>by
  unfold f8 at h;by_cases hi:i<(ds.map Sv.val).length
  ·rw[M1 hi,n9]at h;cases q:ds[i]? with
   | none=>rw[q]at h;cases h
   | some d=>rw[q]at h;cases h
  ·rw[N5 (by omega),Y2]at h;split at h<;>cases h
 have iot:∀(i:Nat) ds',(f8 N.length ds)[i]? ≠ some (.ot ds'):=λi ds' h=>by
  unfold f8 at h;by_cases hi:i<(ds.map Sv.val).length
  ·rw[M1 hi,n9]at h;cases q:ds[i]? with
   | none=>rw[q]at h;cases h
   | some d=>rw[q]at h;cases h
  ·rw[N5 (by omega),Y2]at h;split at h<;>cases h
 have io2:∀(i:Nat) ds',(f8 N.length ds)[i]? ≠ some (.o2 ds'):=λi ds' h=>by
  unfold f8 at h;by_cases hi:i<(ds.map Sv.val).length
  ·rw[M1 hi,n9]at h;cases q:ds[i]? with
   | none=>rw[q]at h;cases h
   | some d=>rw[q]at h;cases h
  ·rw[N5 (by omega),Y2]at h;split at h<;>cases h
 have iod:∀(i:Nat) ds',(f8 N.length ds)[i]? ≠ some (.od ds'):=λi ds' h=>by
  unfold f8 at h;by_cases hi:i<(ds.map Sv.val).length
  ·rw[M1 hi,n9]at h;cases q:ds[i]? with
   | none=>rw[q]at h;cases h
   | some d=>rw[q]at h;cases h
  ·rw[N5 (by omega),Y2]at h;split at h<;>cases h
 refine⟨λi d h=>?_,λi ds' h=>absurd h (ino i ds'),λi j a d1 d2 h=>absurd h (ino i d1),λi d h=>absurd h (iot i d),λi d h=>absurd h (io2 i d),λi d h=>absurd h (iod i d),?_,⟨λa ha=>ho.ne a (by simpa using ha),Same.refl _,λa ha=>(nomatch ha),λa ha=>(nomatch ha),ho⟩⟩
 ·unfold f8 at h;by_cases hi:i<(ds.map Sv.val).length
  ·rw[M1 hi,n9]at h;cases q:ds[i]? with
   | none=>rw[q]at h;cases h
   | some d'=>
    rw[q]at h;cases h;obtain⟨v,e1,e2⟩:=r.get q;refine⟨v,?_,by rw[B3];exact e2⟩;unfold L2.start;rw[M1 (by rw[d5];exact(u5.mp e1).1),n9,e1];rfl
  ·rw[N5 (by omega),Y2]at h;split at h<;>cases h
 ·unfold L2.start f8;rw[p9,p9,d5,d5,w20,w20,r.length]
def DfOk(G:Gs)(T:List FD):Prop:=(∀f ds,G.dfl.lookup f=some ds->∃d,T[f]? = some d/\d.dfl=ds/\ds≠[])/\∀f n,G.kws.lookup f=some n->∃d,T[f]? = some d/\d.kn=some n
structure Stands(K:PySem.W.Frag)(mg:Str->Option Value)(fn bl cl:List Str)(d:FD)(x:Str)(fa:Addr)(fd:FuncData)(ps:List Str):Prop where
 dk:(d.dfl≠[]->∃us dvs,D5 K fd ps us/\Vals dvs us/\∀H,RepL ⟨K,mg⟩ H d.dfl dvs)/\∀n,d.kn=some n->KBinds K fd ps [n] (K6 ps.length) (K6 ps.length)
 mg:mg x=some (.ref fa)
 kp:PySem.W.keepIn K (.ref fa)=true
 bi:D5 K fd ps []
 np:d.np=ps.length
 ex:∃qual st N,FunD K x qual st fa fd/\FnScope N ps (o5 st)/\d.n=N.length/\F2 ⟨N,(o5 st).names,fn,bl,cl,true,true⟩ d.body (B9 st)=true
section
variable {P:Program} {w:World} {K:PySem.W.Frag} {mg:Str->Option Value} {base:Heap} {G:Gs} {T:List FD} {fu:Nat} {fn bl cl:List Str}
theorem z5z(hT:T.length=fn.length)(hs:∀(i:Nat) d x,T[i]? = some d->fn[i]? = some x->∃fa fd ps,Stands K mg fn bl cl d x fa fd ps)(hbl:∀x∈bl,mg x=none)(hxf:XFacts K mg G cl)
  (hcon:∀x d,G.con.lookup x=some d->∃u v,mg x=some u/\RelV v u/\∀H,Rep ⟨K,mg⟩ H d v) (hdc:∀x kvs,G.dcs.lookup x=some kvs->z1e K w mg x kvs) (hdf:DfOk G T) (hh:G.hun=true->T.length<=O7/\∃fa fd ps,mg F1=some (.ref fa)/\PySem.W.keepIn K (.ref fa)=true/\D5 K fd ps []/\∀k,FnOk P w K mg base (CXx P w base) k fa fd ps (spH ⟨K,mg⟩ (W0 k))):∀(k i:Nat) d x fa fd ps,T[i]? = some d->fn[i]? = some x->Stands K mg fn bl cl d x fa fd ps ->
  FnOk P w K mg base (CXx P w base) k fa fd ps (spF ⟨K,mg⟩ ps.length (run G T fu k i))
 | 0,i,d,x,fa,fd,ps,h1,h2,S=>by
  refine⟨λvs H Q E h=>?_,λA outer s H args us vs Q E hr he hb hv h=>?_⟩
  ·obtain⟨_,_,_,_,_,_,q,_⟩:=h;cases q
  ·obtain⟨_,_,_,_,_,_,q,_⟩:=h;cases q
 | k+1,i,d,x,fa,fd,ps,h1,h2,S=>by
  obtain⟨qual,st,N,F,FS,hn,hc⟩:=S.ex;refine F.okX FS (λvs H Q E h=>?_) (λcdv A outer s H vs Q E hr h=>?_)
  ·obtain⟨O,ds,o,_,e1,e2,_⟩:=h;rw[e2.length,e1]
  ·obtain⟨O,ds,o,ho,e1,e2,e3,e4⟩:=h;have e3':(match T[i]? with | none=>q9X (k+1) i ds | some fd=>if ds.length=fd.np then Ou.of (evSs G (run G T fu k) fu fd.body (f8 fd.n ds))else none)=some o:=e3;rw[h1]at e3';have e3'':(if ds.length=d.np then Ou.of (evSs G (run G T fu k) fu d.body (f8 d.n ds))else none)=some o:=e3';rw[b8 (e1.trans S.np.symm)]at e3'';have g:Good ⟨N,(o5 st).names,fn,bl,cl,true,true⟩ G (run G T fu k) (cxD P w K mg base N qual (o5 st) fa cdv A outer s H E) (λ_=>E):=by
    refine⟨rfl,FS.nd,λy hy=>?_,λy hy=>?_,λy hy=>⟨?_,.inl rfl⟩,λy hy=>hy,λy hy=>hy,rfl,hr.units,λf y hy=>?_,hbl,q9V.s,hcon,λ_=>PassesOwn.leaving,hxf,λ_=>⟨rfl,rfl,rfl,q9J⟩,hdc,λz=>by
     obtain⟨hl,fa',fd',ps',s1,s2,s3,s4⟩:=hh z;refine⟨k,fa',fd',ps',W0 k,hr,s1,s2,s3,λd l=>?_,s4 k⟩;cases k with
     | zero=>rfl
     | succ k=>
      show(match T[O7]? with | none=>q9X (k+1) O7 [d,.lst l] | some fd=>if[d,.lst l].length=fd.np then Ou.of (evSs G (run G T fu k) fu fd.body (f8 fd.n [d,.lst l]))else none)=_;rw[U5 hl];exact z6l⟩
    ·unfold visB at hy;simp only[C7,d8]at hy;rcases hy with(hy | hy) | hy
     ·exact .inl hy
     ·exact .inr (.inl hy)
     ·exact .inr (.inr hy)
    ·unfold gloB at hy;rw[d8]at hy;exact hy
    ·unfold locB at hy;simp only[C7,d8]at hy;exact hy
    ·have hf:f<T.length:=by rw[hT];exact(u5.mp hy).1
     obtain⟨d',hd'⟩:∃d',T[f]? = some d':=⟨_,p7 hf⟩;obtain⟨fa',fd',ps',S'⟩:=hs f d' y hd' hy;refine⟨k,fa',fd',ps',hr,S'.mg,S'.kp,S'.bi,λds o q=>?_,z5z hT hs hbl hxf hcon hdc hdf hh k f d' y fa' fd' ps' hd' hy S',?_,?_⟩
     rotate_left
     ·intro ds q;obtain⟨d2,q1,q2,q3⟩:=hdf.1 f ds q;rw[hd']at q1;cases q1;have:=S'.dk.1 (by rw[q2];exact q3);rw[q2]at this;exact this
     ·intro n q;obtain⟨d2,q1,q2⟩:=hdf.2 f n q;rw[hd']at q1;cases q1;exact S'.dk.2 n q2
     cases k with
     | zero=>cases q
     | succ k=>
      have q':(match T[f]? with | none=>q9X (k+1) f ds | some fd=>if ds.length=fd.np then Ou.of (evSs G (run G T fu k) fu fd.body (f8 fd.n ds))else none)=some o:=q;rw[hd']at q';have q'':(if ds.length=d'.np then Ou.of (evSs G (run G T fu k) fu d'.body (f8 d'.n ds))else none)=some o:=q';split at q''
      ·rename_i z;rw[z,S'.np]
      ·cases q''
   cases ho':evSs G (run G T fu k) fu d.body (f8 d.n ds)with
   | none=>rw[ho']at e3'';cases e3''
   | some oo=>
    rw[ho']at e3'';refine⟨_,B6 d.body g hc ho',H,O,[],RSt.start hn e2 ho,(λa ha=>(nomatch ha)),ho.ne,Same.refl H,?_⟩;cases oo with
    | nx δ=>cases e3'';exact λσ' H' W R fr sm=>e4 .non H' sm (show Rep ⟨K,mg⟩ (L2.wo O H') .non .non by unfold Rep;rfl)
    | rt d fr=>cases e3'';exact λv H' sm gt=>e4 v H' sm gt
    | rtt d=>cases e3'';exact λv H' sm gt=>e4 v H' sm gt
    | ex c δ=>cases e3'';exact λσ' H' W C hm R fr sm=>e4 H' C hm sm
end
end
section
def okD(fn bl cl:List Str)(d:FD)(N ps:List Str)(st:Stmt):Bool:=
 (o5 st).kind == .function && !(o5 st).isCoroutine && !(o5 st).isGenerator&&W5 N&&(N.take ps.length==ps) &&
 ps.all (λx=>(o5 st).names.lookup x==some .local||(o5 st).names.lookup x==some .cell)&&(o5 st).names.all (λy=>!(y.2 == .free)) &&
 d.n==N.length&&d.np==ps.length&&F2 ⟨N,(o5 st).names,fn,bl,cl,true,true⟩ d.body (B9 st)
section
variable {P:Program} {w:World} {K:PySem.W.Frag} {mg:Str->Option Value} {base h:Heap} {G:Gs} {T:List FD} {fu:Nat} {fn bl cl:List Str}
theorem z0g{d:FD}{x:Str}{N ps:List Str}{st:Stmt}{f:Addr}{oc:Value}{od an:Option Addr}{osl:Array (Option Value)}{dV kV doc pm cdv ct:Value}(X:K.In h)(Ns:h.Ns mainGlobals mg)(ok:okD fn bl cl d N ps st=true)
  (a:PySem.W.nsIn K mainGlobals x=some (some (.ref f))) (l:K.lookup f=some ⟨oc,od,.func (PySem.W.fnOf x x (F8 st) (B9 st) (o5 st) dV kV doc pm an cdv ct),osl⟩)
  (c:PySem.W.codeIn K cdv x=true) (k:PySem.W.keepIn K (.ref f)=true)
  (hb:D5 K (PySem.W.fnOf x x (F8 st) (B9 st) (o5 st) dV kV doc pm an cdv ct) ps [])
  (dk:(d.dfl≠[]->∃us dvs,D5 K (PySem.W.fnOf x x (F8 st) (B9 st) (o5 st) dV kV doc pm an cdv ct) ps us/\Vals dvs us/\∀H,RepL ⟨K,mg⟩ H d.dfl dvs)/\∀n,d.kn=some n->KBinds K (PySem.W.fnOf x x (F8 st) (B9 st) (o5 st) dV kV doc pm an cdv ct) ps [n] (K6 ps.length) (K6 ps.length)) :
  Stands K mg fn bl cl d x f (PySem.W.fnOf x x (F8 st) (B9 st) (o5 st) dV kV doc pm an cdv ct) ps:=by
 unfold okD at ok;simp only[b9,d8,t8,J8,C7,t7]at ok;obtain⟨⟨⟨⟨⟨⟨⟨⟨⟨h1,h2⟩,h3⟩,h4⟩,h5⟩,h6⟩,h7⟩,h8⟩,h9⟩,h10⟩:=ok;exact⟨dk,PySem.W.mg_of X Ns a,k,hb,h9,x,st,N,⟨oc,od,dV,kV,doc,pm,an,cdv,ct,osl,rfl,l,c⟩,⟨h1,h2,h3,q2t h4,h5,h6,h7⟩,h8,h10⟩
theorem p5{d:FD}{x:Str}{N ps:List Str}{st:Stmt}{f:Addr}{oc:Value}{od an:Option Addr}{osl:Array (Option Value)}{kV doc pm cdv ct:Value}(X:K.In h)(Ns:h.Ns mainGlobals mg)(ok:okD fn bl cl d N ps st=true)
  (a:PySem.W.nsIn K mainGlobals x=some (some (.ref f))) (l:K.lookup f=some ⟨oc,od,.func (PySem.W.fnOf x x (F8 st) (B9 st) (o5 st) .none kV doc pm an cdv ct),osl⟩)
  (c:PySem.W.codeIn K cdv x=true) (k:PySem.W.keepIn K (.ref f)=true)
  (hb:∀(kV doc pm:Value) (an:Option Addr) (cdv ct:Value) (us:List Value),us.length=ps.length->bindArgs (PySem.W.fnOf x x (F8 st) (B9 st) (o5 st) .none kV doc pm an cdv ct) ⟨us,[]⟩=pure (ps.zip us)) (e1:d.dfl=[]:=by rfl) (e2:d.kn=none:=by rfl) :
  Stands K mg fn bl cl d x f (PySem.W.fnOf x x (F8 st) (B9 st) (o5 st) .none kV doc pm an cdv ct) ps:=
 z0g X Ns ok a l c k (.all (hb kV doc pm an cdv ct)) ⟨λz=>absurd e1 z,λn z=>by rw[e2]at z;cases z⟩
theorem y0z(h:∀(s:Shared) (us:List Value) (w:Value),K.In s.heap->us.length+1=ps.length->BindsTo s fd ⟨us,[(n,w)]⟩ (ps.zip (us++[w])))(hp:ps≠[]):KBinds K fd ps [n] (K6 ps.length) (K6 ps.length):=by
 refine⟨λs us ws hK hl=>?_,λr q=>z2l r q⟩;unfold K6 at hl ⊢;split at hl
 ·rename_i c;rw[b8 c];obtain⟨w,rfl⟩:=w4e.mp c.2;exact h s us w hK c.1
 ·exact absurd (w1O.mp hl.symm) hp
theorem z6Z(e1:G.dfl=[]:=by rfl)(e2:G.kws=[]:=by rfl):DfOk G T:=⟨λf ds q=>(by rw[e1]at q;cases q),λf n q=>(by rw[e2]at q;cases q)⟩
theorem z3N{G:Gs}{p:Prop}(e:G.hun=false:=by rfl):G.hun=true->p:=λz=>by rw[e]at z;cases z
def okH(N ps:List Str)(st:Stmt):Bool:=
 (o5 st).kind == .function && !(o5 st).isCoroutine && !(o5 st).isGenerator&&W5 N&&(N.take ps.length==ps) &&
 ps.all (λx=>(o5 st).names.lookup x==some .local||(o5 st).names.lookup x==some .cell)&&(o5 st).names.all (λy=>!(y.2 == .free)) &&
 N.length==3&&ps.length==2&&corH ⟨N,(o5 st).names,[],[],[],true,true⟩ (B9 st)
theorem z8n{N ps:List Str}{st:Stmt}{f:Addr}{oc:Value}{od an:Option Addr}{osl:Array (Option Value)}{kV doc pm cdv ct:Value}(X:K.In h)(Ns:h.Ns mainGlobals mg)(ok:okH N ps st=true)
  (a:PySem.W.nsIn K mainGlobals F1=some (some (.ref f))) (l:K.lookup f=some ⟨oc,od,.func (PySem.W.fnOf F1 F1 (F8 st) (B9 st) (o5 st) .none kV doc pm an cdv ct),osl⟩)
  (c:PySem.W.codeIn K cdv F1=true) (k:PySem.W.keepIn K (.ref f)=true)
  (hb:∀(kV doc pm:Value) (an:Option Addr) (cdv ct:Value) (us:List Value),us.length=ps.length->bindArgs (PySem.W.fnOf F1 F1 (F8 st) (B9 st) (o5 st) .none kV doc pm an cdv ct) ⟨us,[]⟩=pure (ps.zip us)) :
  HStands K mg f (PySem.W.fnOf F1 F1 (F8 st) (B9 st) (o5 st) .none kV doc pm an cdv ct) ps:=by
 unfold okH at ok;simp only[b9,d8,t8,J8,C7,t7]at ok;obtain⟨⟨⟨⟨⟨⟨⟨⟨⟨h1,h2⟩,h3⟩,h4⟩,h5⟩,h6⟩,h7⟩,h8⟩,h9⟩,h10⟩:=ok;exact⟨PySem.W.mg_of X Ns a,k,.all (hb kV doc pm an cdv ct),h9,F1,st,N,⟨oc,od,.none,kV,doc,pm,an,cdv,ct,osl,rfl,l,c⟩,⟨h1,h2,h3,q2t h4,h5,h6,h7⟩,h8,h10⟩
def HS(K:PySem.W.Frag)(mg:Str->Option Value)(fn bl cl:List Str)(T:List FD)(fs:List Str):Prop:=∀(i:Nat) d x,T[i]? = some d->fs[i]? = some x->∃fa fd ps,Stands K mg fn bl cl d x fa fd ps
theorem z8G:HS K mg fn bl cl [] fs:=λi d x h=>by cases h
theorem p6(h:Stands K mg fn bl cl d x fa fd ps)(t:HS K mg fn bl cl T fs):HS K mg fn bl cl (d::T) (x::fs):=λi d' x' h1 h2=>by
 cases i with
 | zero=>cases h1;cases h2;exact⟨_,_,_,h⟩
 | succ i=>exact t i d' x' h1 h2
theorem z8Y:L2.wo [] H=H:=by
 funext b
 unfold L2.wo;simp
def HC(K:PySem.W.Frag)(mg:Str->Option Value)(c:List (Str×DV)):Prop:=∀x d,c.lookup x=some d->∃u v,mg x=some u/\RelV v u/\∀H,Rep ⟨K,mg⟩ H d v
theorem z6o:HC K mg []:=λx d h=>by cases h
theorem q9e(h:∃u v,mg y=some u/\RelV v u/\∀H,Rep ⟨K,mg⟩ H d v)(t:HC K mg c):HC K mg ((y,d)::c):=λx d' q=>by
 rw[D7]at q;split at q
 ·rename_i e;cases q;rw[V3 e];exact h
 ·exact t x d' q
def OneL(K:PySem.W.Frag)(mg:Str->Option Value)(G:Gs)(cl:List Str)(l:List (Str×List Str)):Prop:=∀c,(l.lookup c).isSome=true->∃C,XOne K mg G cl c C
theorem z6c:OneL K mg G cl []:=λc h=>by cases h
theorem q4M(h:∃C,XOne K mg G cl c C)(t:OneL K mg G cl l):OneL K mg G cl ((c,b)::l):=λc' q=>by
 rw[D7]at q;split at q
 ·rename_i e;rw[V3 e];exact h
 ·exact t c' q
def AllL(mg:Str->Option Value)(l:List Str):Prop:=∀t∈l,∃Ct,mg t=some (.ref Ct)
theorem z7m:AllL mg []:=λt h=>by cases h
theorem all_cons(h:∃Ct,mg t=some (.ref Ct))(r:AllL mg l):AllL mg (t::l):=λt' q=>by
 rcases e8.mp q with e | e
 ·rw[e];exact h
 ·exact r t' e
def OwnL(K:PySem.W.Frag)(mg:Str->Option Value)(G:Gs)(c:Str)(C:Addr)(l:List Str):Prop:=∀t∈l,∀Ct,mg t=some (.ref Ct)->PySem.W.kitOne K (.ref C) (.ref Ct)=some (L5 G c t)/\(L5 G c t=true->PySem.W.exmOne K (.ref C) (.ref Ct)=some true)
theorem q6y:OwnL K mg G c C []:=λt h=>by cases h
theorem E8(m:mg t=some (.ref Ct))(h:PySem.W.kitOne K (.ref C) (.ref Ct)=some (L5 G c t)/\(L5 G c t=true->PySem.W.exmOne K (.ref C) (.ref Ct)=some true))(r:OwnL K mg G c C l):OwnL K mg G c C (t::l):=λt' q Ct' m'=>by
 rcases e8.mp q with e | e
 ·subst e;cases m.symm.trans m';exact h
 ·exact r t' e Ct' m'
def spS(K:PySem.W.Frag):Sp:=λvs H Q _=>∃(a:Addr) (ns:List Int),vs=[.ref a]/\ns.length<=63/\SqS K H a (ns.map V.int)/\∀H',Q (.bl true) H'
def DCL(K:PySem.W.Frag)(w:World)(mg:Str->Option Value)(l:List (Str×List (Str×Str))):Prop:=∀x kvs,l.lookup x=some kvs->z1e K w mg x kvs
theorem z6h:DCL K w mg []:=λx kvs h=>by cases h
theorem y0E(h:z1e K w mg y kv)(t:DCL K w mg l):DCL K w mg ((y,kv)::l):=λx kvs q=>by
 rw[D7]at q;split at q
 ·rename_i e;cases q;rw[d8.mp e];exact h
 ·exact t x kvs q
def KVL(K:PySem.W.Frag)(a:Addr)(l:List (Str×Str)):Prop:=∀k v,l.lookup k=some v->v.length<=sizeLine/\∃t,PySem.W.nsIn K a k=some (some (.str v t))
theorem y1H:KVL K a []:=λk v h=>by cases h
theorem y0F(h1:v.length<=sizeLine)(h2:PySem.W.nsIn K a k=some (some (.str v t)))(r:KVL K a l):KVL K a ((k,v)::l):=λk' v' q=>by
 rw[D7]at q;split at q
 ·rename_i e;cases q;rw[d8.mp e];exact⟨h1,t,h2⟩
 ·exact r k' v' q
theorem z3B(hT:T.length=fn.length)(hs:HS K mg fn bl cl T fn)(hbl:∀x∈bl,mg x=none)(hxf:XFacts K mg G cl)
  (hcon:∀x d,G.con.lookup x=some d->∃u v,mg x=some u/\RelV v u/\∀H,Rep ⟨K,mg⟩ H d v) (hdc:∀x kvs,G.dcs.lookup x=some kvs->z1e K w mg x kvs) (hdf:DfOk G T) (hh:G.hun=true->T.length<=O7/\∃fa fd ps,mg F1=some (.ref fa)/\PySem.W.keepIn K (.ref fa)=true/\D5 K fd ps []/\∀k,FnOk P w K mg base (CXx P w base) k fa fd ps (spH ⟨K,mg⟩ (W0 k))) (h1:T[i]? = some d) (h2:fn[i]? = some x) (S:Stands K mg fn bl cl d x fa fd [p])
  (law:∀ns:List Int,ns.length<=63->run G T fu k i [.scr ns]=some (.v (.bl true) false)):FnOk P w K mg base CX0 k fa fd [p] (spS K):=by
 have R:=z5z (P:=P) (w:=w) (base:=base) (fu:=fu) hT hs hbl hxf hcon hdc hdf hh k i d x fa fd [p] h1 h2 S;refine⟨λvs H Q E h=>?_,λA outer s H args us vs Q E hr he hb hv h=>?_⟩
 ·obtain⟨a,ns,rfl,_⟩:=h;rfl
 ·obtain⟨a,ns,rfl,hl,hS,hq⟩:=h;refine Q7 (R.run A outer s H args us [.ref a] Q E0 hr he hb hv ⟨[],[.scr ns],_,(λa ha=>(nomatch ha)),rfl,?_,law ns hl,λv H' _ g=>?_⟩) λr s' q=>?_
  ·refine RepL.one (M8.mpr ⟨a,rfl,?_⟩);rw[z8Y];exact hS
  ·have g':Rep ⟨K,mg⟩ (L2.wo [] H') (.bl true) v:=g;rw[W8]at g';subst g';exact hq H'
  ·cases r with
   | error e=>
    obtain⟨_,_,_,_,_,_,_,_,_,_,z⟩:=(q:CXx P w base outer H s E0 e s');exact z.elim
   | ok fl=>cases fl<;>first | exact False.elim q | exact q
end
theorem walkE{l:PySem.W.OpenLaw}{q:Program}{loose:List Str}{XP:(Str->Option Value)->Heap->Prop}{YP:World->Heap->Prop}{d:DefRec}{K:Params->PySem.W.Frag}{k:Nat}{p:Str}(hn:l.most=some 63)(hdf:d.params.defaults=[])(hr:Room k callerA)
  (hY:∀(w:World) (h:Heap),YP w h->(K w.params).In h)
  (F:∀(w:World) (mg:Str->Option Value) (fa:Addr) (h:Heap),(K w.params).In h->h.Ns mainGlobals mg->mg d.name=some (.ref fa) ->
   ∃fd:FuncData,(∀(s:Shared) (u:Value),BindsTo s fd ⟨[u],[]⟩ [(p,u)])/\∀base:Heap,(K w.params).In base->base.Ns mainGlobals mg->FnOk l.prog w (K w.params) mg base CX0 k fa fd [p] (spS (K w.params))) :
  PySem.W.WalkO q loose XP YP l.row.toRowW d [] (λf vs=>PySem.call f vs):=
 L2.walk_of (n:=63) (k:=k) (x:=p) (CX:=λ_=>CX0) (sp:=λw=>spS (K w.params)) hn (by decide) hdf hr hY F (λ_ _ a ns hl hO hS=>⟨a,ns,rfl,hl,SqS.of hO hS,λ_=>rfl⟩) λ_ _ _ _ _ z=>z
end
end L2
end
noncomputable section
namespace k21
open PySem L2
section
def q3E:FD:={n:=3,np:=3,dfl:=[],body:=[.ret (.and [.isi (.var 0) ["int"],.not (.isi (.var 0) ["bool"]),.chain .LtE .LtE (.var 1) (.var 0) (.var 2)])]}
def q3P:FD:={n:=1,np:=1,dfl:=[],body:=[.ret (.bi .tuple [.comp (.bi .tuple [.comp (.ix (.var 0) (.var 1)) (.one 0) (.var 1) [none,some 0]]) (.one 0) (.rng [.bi .len [.ix (.var 0) (.int 0)]]) [none,some 0]])]}
def z3z:FD:={n:=3,np:=3,dfl:=[],body:=[.exp (.call 3 [.var 1,.bi .len [.var 0]]),.exp (.call 3 [.var 2,.bi .len [.ix (.var 0) (.int 0)]]),.ret (.call 5 [.var 0,.call 4 [.var 1],.call 4 [.var 2]])]}
def q1N:FD:={n:=2,np:=2,dfl:=[],body:=[.iff (.not (.call 0 [.var 0,.int 1,.bin .Sub (.bin .LShift (.int 1) (.var 1)) (.int 1)])) [.rse "NoCard" (.str "a set of cards is an int from 1 on with cards of the table alone")] []]}
def q3e:FD:={n:=1,np:=1,dfl:=[],body:=[.ret (.compi (.var 0) (.one 0) (.rng [.meth .bitLength (.var 0) []]) (.bin .BitAnd (.bin .RShift (.var 1) (.var 0)) (.int 1)) [none,some 0])]}
def q2Z:FD:={n:=3,np:=3,dfl:=[],body:=[.ret (.bi .tuple [.comp (.bi .tuple [.comp (.ix (.ix (.var 1) (.var 2)) (.var 0)) (.one 0) (.var 1) [none,some 2,some 0]]) (.one 0) (.var 1) [none,some 2,some 0]])]}
def q2D:FD:={n:=1,np:=1,dfl:=[],body:=[.ret (.comp (.idx (.var 1) (.var 0)) (.one 0) (.var 0) [none,some 0])]}
def q1B:FD:={n:=1,np:=1,dfl:=[],body:=[.ret (.call 6 [.call 1 [.var 0]])]}
def q3F:FD:={n:=1,np:=1,dfl:=[],body:=[.ret (.call 5 [.var 0,.bi .sset [.call 6 [.var 0]],.bi .sset [.call 7 [.var 0]]])]}
def q3b:FD:={n:=2,np:=1,dfl:=[],body:=[.set 1 false (.call 8 [.var 0]),.ret (.and [.cmp .LtE (.bi .len [.var 1]) (.glb "SMALL_LINES"),.cmp .LtE (.bi .len [.ix (.var 1) (.int 0)]) (.glb "SMALL_LINES")])]}
def q1f:FD:={n:=1,np:=1,dfl:=[],body:=[.iff (.not (.call 9 [.var 0])) [.rse "TooGreat" (.str "the table has more than five kinds of rows or of columns")] []]}
def q3d:FD:={n:=3,np:=1,dfl:=[],body:=[.set 1 true (.lst []),.fo (.one 2) (.var 0) [.ext 1 (.var 2)],.ret (.bi .sset [.var 1])]}
def q1E:FD:={n:=1,np:=1,dfl:=[],body:=[.ret (.call 13 [.call 14 [.var 0]])]}
def q6q:FD:={n:=1,np:=1,dfl:=[],body:=[.ret (.comp (.tup [.ix (.var 0) (.int 0),.ix (.var 0) (.int 1),.var 1]) (.many [0,1]) (.itm (.var 0)) [none,none])]}
def q1i:FD:={n:=1,np:=1,dfl:=[],body:=[.ret (.call 16 [.var 0,.int 0,.glb "joined_bits"])]}
def q1P:FD:={n:=2,np:=2,dfl:=[],body:=[.ret (.bin .Add (.int 1) (.bi .max [.var 0,.var 1]))]}
def q1n:FD:={n:=8,np:=3,dfl:=[],body:=[.exp (.call 10 [.var 0]),.set 3 false (.call 8 [.var 0]),.sep 4,.fo (.one 5) (.rng [.int 1,.bin .LShift (.int 1) (.bi .len [.var 3])]) [.fo (.one 6) (.rng [.int 1,.bin .LShift (.int 1) (.bi .len [.ix (.var 3) (.int 0)])]) [.iff (.cmp .Eq (.bi .len [.call 11 [.call 2 [.var 3,.var 5,.var 6]]]) (.int 1)) [.dpp 4 [.var 5,.var 6] (.var 1)] [.set 7 false (.call 17 [.var 5,.var 6]),.dpp 4 [.var 5,.var 6] (.bi .min [.comp (.callv 4 [("joined_bits",15)] [.dgp 5 (.var 2),.dgp 5 (.var 3)]) (.many [0,1,2,3]) (.var 7) [none,none,none,none,some 2,some 4]])]]],.retd 4]}
def q4L:FD:={n:=4,np:=2,dfl:=[],body:=[.set 2 false (.comp (.tup [.str "row",.var 0,.tup [.bin .Sub (.var 1) (.var 0),.var 2],.tup [.var 0,.var 2]]) (.one 0) (.call 18 [.var 0]) [none,some 0,some 1]),.set 3 false (.comp (.tup [.str "column",.var 0,.tup [.var 1,.bin .Sub (.var 2) (.var 0)],.tup [.var 1,.var 0]]) (.one 0) (.call 18 [.var 1]) [none,some 0,some 1]),.ret (.bin .Add (.var 2) (.var 3))]}
def q4D:FD:={n:=1,np:=1,dfl:=[],body:=[.ret (.compi (.var 0) (.one 0) (.rng [.int 1,.var 0]) (.and [.cmp .Eq (.bin .BitAnd (.var 0) (.var 1)) (.var 0),.cmp .Lt (.var 0) (.bin .Sub (.var 1) (.var 0))]) [none,some 0])]}
def q1F:FD:={n:=1,np:=1,dfl:=[],body:=[.ret (.ix (.ix (.call 12 [.var 0]) (.neg (.int 1))) (.int 2))]}
def q4e:FD:={n:=1,np:=1,dfl:=[],body:=[.ret (.and [.isi (.var 0) ["int"],.not (.isi (.var 0) ["bool"])])]}
def q1z:FD:={n:=2,np:=2,dfl:=[],body:=[.iff (.cmp .Lt (.var 1) (.bi .len [.var 0])) [.ret (.ix (.var 0) (.var 1))] [],.ret (.int 0)]}
def q1K:FD:={n:=5,np:=2,dfl:=[],body:=[.set 2 true (.lst []),.set 3 false (.bin .Add (.bin .Mod (.var 0) (.int 2147483647)) (.int 48271)),.fo (.one 4) (.rng [.var 1]) [.set 3 false (.bin .Mod (.bin .Add (.bin .Add (.bin .Mult (.var 3) (.int 48271)) (.bin .Mult (.var 4) (.var 4))) (.int 11)) (.int 2147483647)),.app 2 (.bin .FloorDiv (.var 3) (.int 7))],.ret (.var 2)]}
def q1v:FD:={n:=10,np:=3,dfl:=[],body:=[.set 3 false (.ix (.lst [.int 4,.int 4,.int 4,.int 4,.int 4,.int 4,.int 4,.int 5]) (.bin .Mod (.ix (.var 2) (.int 0)) (.int 8))),.set 4 false (.bin .Add (.int 1) (.bin .Mod (.ix (.var 2) (.int 1)) (.var 3))),.set 5 false (.bin .Add (.int 1) (.bin .Mod (.ix (.var 2) (.int 2)) (.var 3))),.set 6 false (.ix (.lst [.int 2,.int 3,.int 10,.int 2]) (.bin .Mod (.ix (.var 2) (.int 3)) (.int 4))),.set 7 true (.comp (.bin .Mod (.var 0) (.var 1)) (.one 0) (.call 22 [.call 21 [.var 0,.int 1],.bin .Mult (.var 4) (.var 5)]) [none,some 6]),.fo (.one 8) (.rng [.bi .min [.bin .Mult (.var 4) (.var 5),.bin .Sub (.bi .len [.var 0]) (.var 1)]]) [.seti 7 (.var 8) (.bin .Mod (.ix (.var 0) (.bin .Add (.var 1) (.var 8))) (.var 6))],.set 9 false (.comp (.sl (.var 1) (.bin .Mult (.var 0) (.var 2)) (.bin .Add (.bin .Mult (.var 0) (.var 2)) (.var 2))) (.one 0) (.rng [.var 4]) [none,some 7,some 5]),.iff (.cmp .Eq (.bin .Mod (.ix (.var 2) (.int 4)) (.int 8)) (.int 1)) [.set 9 false (.comp (.comp (.bi .int [.cmp .Eq (.var 1) (.var 0)]) (.one 0) (.rng [.var 1]) [none,some 0]) (.one 0) (.rng [.var 4]) [none,some 5])] [],.iff (.cmp .Eq (.bin .Mod (.ix (.var 2) (.int 4)) (.int 8)) (.int 2)) [.set 9 false (.comp (.comp (.bi .int [.cmp .Lt (.var 1) (.var 0)]) (.one 0) (.rng [.var 1]) [none,some 0]) (.one 0) (.rng [.var 4]) [none,some 5])] [],.iff (.cmp .Eq (.bin .Mod (.ix (.var 2) (.int 4)) (.int 8)) (.int 3)) [.set 9 false (.comp (.comp (.bin .Mod (.ix (.var 1) (.int 5)) (.int 10)) (.one 0) (.rng [.var 1]) [none,some 2]) (.one 0) (.rng [.var 4]) [none,some 5,some 2])] [],.ret (.var 9)]}
def q2e:FD:={n:=7,np:=2,dfl:=[],body:=[.set 2 false (.call 22 [.call 21 [.var 0,.int 0],.int 24]),.set 3 false (.call 23 [.var 0,.var 1,.var 2]),.fo (.one 4) (.rng [.bin .Mod (.ix (.var 2) (.int 6)) (.int 5)]) [.iff (.and [.cmp .Lt (.bi .len [.var 3]) (.int 8),.cmp .Eq (.bin .Mod (.ix (.var 2) (.bin .Add (.int 7) (.var 4))) (.int 2)) (.int 0)]) [.set 5 false (.bin .Mod (.ix (.var 2) (.bin .Add (.int 12) (.var 4))) (.bin .Add (.bi .len [.var 3]) (.int 1))),.set 3 false (.bin .Add (.bin .Add (.slt (.var 3) (.var 5)) (.lst [.ix (.var 3) (.bin .Mod (.ix (.var 2) (.bin .Add (.int 17) (.var 4))) (.bi .len [.var 3]))])) (.slf (.var 3) (.var 5)))] [.iff (.cmp .Lt (.bi .len [.ix (.var 3) (.int 0)]) (.int 8)) [.set 5 false (.bin .Mod (.ix (.var 2) (.bin .Add (.int 12) (.var 4))) (.bin .Add (.bi .len [.ix (.var 3) (.int 0)]) (.int 1))),.set 6 false (.bin .Mod (.ix (.var 2) (.bin .Add (.int 17) (.var 4))) (.bi .len [.ix (.var 3) (.int 0)])),.set 3 false (.comp (.bin .Add (.bin .Add (.slt (.var 0) (.var 1)) (.lst [.ix (.var 0) (.var 2)])) (.slf (.var 0) (.var 1))) (.one 0) (.var 3) [none,some 5,some 6])] []]],.ret (.bi .tuple [.comp (.bi .tuple [.var 0]) (.one 0) (.var 3) [none]])]}
def q1y:FD:={n:=4,np:=1,dfl:=[],body:=[.set 1 false (.compi (.bi .list [.ix (.var 1) (.var 0)]) (.one 0) (.rng [.bi .len [.var 0]]) (.cmp .NotIn (.ix (.var 1) (.var 0)) (.slt (.var 1) (.var 0))) [none,some 0]),.set 2 false (.comp (.comp (.ix (.var 0) (.var 1)) (.one 0) (.var 1) [none,some 0]) (.one 0) (.rng [.bi .len [.ix (.var 1) (.int 0)]]) [none,some 1]),.set 3 false (.compi (.var 0) (.one 0) (.rng [.bi .len [.var 2]]) (.cmp .NotIn (.ix (.var 1) (.var 0)) (.slt (.var 1) (.var 0))) [none,some 2]),.ret (.comp (.comp (.ix (.var 1) (.var 0)) (.one 0) (.var 1) [none,some 0]) (.one 0) (.var 1) [none,some 3])]}
def q2g:FD:={n:=3,np:=1,dfl:=[],body:=[.set 1 false (.int 1),.fo (.one 2) (.rng [.var 0]) [.set 1 false (.bin .Mult (.var 1) (.int 2))],.ret (.var 1)]}
def q1L:FD:={n:=1,np:=1,dfl:=[],body:=[.ret (.compi (.var 0) (.one 0) (.rng [.int 1,.var 0]) (.cmp .Eq (.bin .BitAnd (.var 0) (.var 1)) (.var 0)) [none,some 0])]}
def q1O:FD:={n:=3,np:=2,dfl:=[],body:=[.set 2 false (.comp (.tup [.tup [.var 0,.var 1],.tup [.bin .Sub (.var 2) (.var 0),.var 1]]) (.one 0) (.call 27 [.var 0]) [none,some 1,some 0]),.ret (.bin .Add (.var 2) (.comp (.tup [.tup [.var 1,.var 0],.tup [.var 1,.bin .Sub (.var 2) (.var 0)]]) (.one 0) (.call 27 [.var 1]) [none,some 0,some 1]))]}
def q1o:FD:={n:=6,np:=3,dfl:=[],body:=[.set 3 true (.lst []),.fo (.one 4) (.rng [.bi .len [.var 0]]) [.fo (.one 5) (.rng [.bi .len [.ix (.var 0) (.int 0)]]) [.iff (.and [.cmp .Eq (.bin .BitAnd (.bin .RShift (.var 1) (.var 4)) (.int 1)) (.int 1),.cmp .Eq (.bin .BitAnd (.bin .RShift (.var 2) (.var 5)) (.int 1)) (.int 1)]) [.app 3 (.ix (.ix (.var 0) (.var 4)) (.var 5))] []]],.ret (.cmp .Eq (.bi .min [.var 3]) (.bi .max [.var 3]))]}
def q2V:FD:={n:=7,np:=2,dfl:=[],body:=[.iff (.or [.not (.isi (.var 0) ["list"]),.cmp .NotEq (.var 0) (.bi .sorted [.var 0])]) [.ret (.non)] [],.sep 2,.fo (.one 3) (.var 0) [.iff (.or [.not (.isi (.var 3) ["tuple"]),.cmp .NotEq (.bi .len [.var 3]) (.int 3),.cmp .NotEq (.bi .len [.compi (.var 0) (.one 0) (.var 3) (.call 20 [.var 0]) [none]]) (.int 3)]) [.ret (.non)] [],.dpp 2 [.ix (.var 3) (.int 0),.ix (.var 3) (.int 1)] (.ix (.var 3) (.int 2))],.set 4 false (.int 0),.fo (.one 5) (.rng [.int 1,.call 26 [.bi .len [.var 1]]]) [.fo (.one 6) (.rng [.int 1,.call 26 [.bi .len [.ix (.var 1) (.int 0)]]]) [.set 4 false (.bin .Add (.var 4) (.bi .int [.din 2 (.tup [.var 5,.var 6])]))]],.iff (.or [.cmp .NotEq (.var 4) (.bi .len [.var 0]),.cmp .NotEq (.var 4) (.bin .Mult (.bin .Sub (.call 26 [.bi .len [.var 1]]) (.int 1)) (.bin .Sub (.call 26 [.bi .len [.ix (.var 1) (.int 0)]]) (.int 1)))]) [.ret (.non)] [],.retd 2]}
def P4:FD:={n:=3,np:=1,dfl:=[],body:=[.set 1 false (.bin .Add (.int 6) (.bin .Mod (.var 0) (.int 3))),.set 2 false (.comp (.comp (.bin .Mod (.bin .RShift (.var 1) (.var 0)) (.int 2)) (.one 0) (.rng [.int 3]) [none,some 0]) (.one 0) (.rng [.var 1]) [none]),.iff (.cmp .Eq (.bin .Mod (.bin .FloorDiv (.var 0) (.int 3)) (.int 2)) (.int 0)) [.set 2 false (.comp (.comp (.bi .int [.cmp .Eq (.var 1) (.var 0)]) (.one 0) (.rng [.var 1]) [none,some 0]) (.one 0) (.rng [.var 1]) [none,some 1])] [],.iff (.cmp .Eq (.bin .Mod (.bin .FloorDiv (.var 0) (.int 6)) (.int 2)) (.int 1)) [.set 2 false (.comp (.comp (.ix (.var 0) (.var 1)) (.one 0) (.var 1) [none,some 0]) (.one 0) (.rng [.bi .len [.ix (.var 2) (.int 0)]]) [none,some 2])] [],.ret (.bi .tuple [.comp (.bi .tuple [.var 0]) (.one 0) (.var 2) [none]])]}
def q1x:FD:={n:=4,np:=2,dfl:=[],body:=[.set 2 false (.non),.tryc [.iff (.var 1) [.exp (.call 12 [.var 0])] [.exp (.call 19 [.var 0])]] "TalkError" 3 2,.iff (.or [.cmp .Is (.var 2) (.non),.not (.isx (.var 2) "TooGreat"),.not (.isx (.var 2) "ValueError")]) [.ret (.bl false)] [],.ret (.and [.not (.isx (.var 2) "NoTable"),.not (.isx (.var 2) "NoCard")])]}
def q2P:FD:={n:=5,np:=2,dfl:=[],body:=[.fo (.many [2,3]) (.kys (.var 0)) [.set 4 false (.int 0),.iff (.not (.call 29 [.var 1,.var 2,.var 3])) [.set 4 false (.bin .Add (.int 1) (.bi .min [.comp (.bi .max [.dix (.var 2) (.var 0),.dix (.var 2) (.var 1)]) (.many [0,1]) (.call 28 [.var 2,.var 3]) [none,none,some 0]]))] [],.iff (.cmp .NotEq (.dix (.var 0) (.tup [.var 2,.var 3])) (.var 4)) [.ret (.bl false)] []],.ret (.bl true)]}
def z4v:FD:={n:=8,np:=1,dfl:=[],body:=[.set 1 false (.call 24 [.var 0,.int 2]),.set 2 false (.call 25 [.var 1]),.set 3 true (.call 12 [.var 1]),.set 4 false (.call 30 [.var 3,.var 2]),.iff (.or [.cmp .Is (.var 4) (.non),.not (.call 33 [.var 4,.var 2])]) [.ret (.bl false)] [],.set 5 false (.dix (.var 4) (.tup [.bin .Sub (.call 26 [.bi .len [.var 2]]) (.int 1),.bin .Sub (.call 26 [.bi .len [.ix (.var 2) (.int 0)]]) (.int 1)])),.set 6 false (.call 19 [.var 1]),.iff (.or [.not (.call 20 [.var 6]),.cmp .NotEq (.var 6) (.var 5),.not (.call 32 [.call 31 [.call 21 [.var 0,.int 1]],.bl true])]) [.ret (.bl false)] [],.iff (.not (.call 32 [.call 31 [.call 21 [.var 0,.int 1]],.bl false])) [.ret (.bl false)] [],.set 7 false (.bi .list [.var 3]),.clr 3,.ret (.cmp .Eq (.call 12 [.var 1]) (.var 7))]}
def T:List FD:=[q3E,q3P,z3z,q1N,q3e,q2Z,q2D,q1B,q3F,q3b,q1f,q3d,q1E,q6q,q1i,q1P,q1n,q4L,q4D,q1F,q4e,q1z,q1K,q1v,q2e,q1y,q2g,q1L,q1O,q1o,q2V,P4,q1x,q2P,z4v]
def G:Gs:={con:=[("SMALL_LINES",.int 5),("joined_bits",.fn "joined_bits")],cls:=[("TalkError",["ValueError","Exception","BaseException","object"]),("NoTable",["TalkError","ValueError","Exception","BaseException","object"]),("NoCard",["TalkError","ValueError","Exception","BaseException","object"]),("TooGreat",["TalkError","ValueError","Exception","BaseException","object"])]}
end
section
variable {fu k:Nat} {F:Nat->List DV->Option Ou} {δ:List Sv} {ds:List DV} {cl:Cl} {N M:Nat} {R:List (List Int)}
theorem z9H:run G T fu (k+1) 20 [.int x]=some (.v (.bl true) false):=by
 rw[n6 (fd:=q4e) rfl rfl];rfl
theorem z2R(ns:List Int)(j:Nat):∃v:Int,run G T fu (k+1) 21 [.scr ns,.int j]=some (.v (.int v) false):=by
 rw[n6 (fd:=q1z) rfl rfl];unfold q1z;by_cases h:j<ns.length
 ·refine⟨ns[j],r6 (y0e (j8 (cl:=.strong) ?_) (o6 ?_))⟩
  ·simp[evE,evEs,u6,W1,f8,biOk,biD,lenD,cmpD,h]
  ·simp[evS,evE,u6,f8,ixD,A4,h,Re.thnS,frD,retD,Cl.item]
 ·refine⟨0,r6 (w4 (j8 (cl:=.strong) ?_) (o6 rfl))⟩;simp[evE,evEs,u6,W1,f8,biOk,biD,lenD,cmpD];omega
theorem z3A(xs:List Int)(v:Int):xs.map DV.int++[.int v]=(xs++[v]).map DV.int:=by rw[z9];rfl
theorem N2{F:Nat->List DV->Option Ou}{δ:List Sv}{e:ME}{n:Nat}{cl:Cl}(h:evE G F e δ=some (.ok (.int n) cl))(hn:n<=1000):j3 (evE G F (.rng [e]) δ)=some (.ok (upTo 0 n) .fresh):=by
 show j3 (Rs.thn (evEs G F [e] δ) (λl=>(rngD l).map λds=>.ok (.lst ds) .fresh))=_;rw[d6 h i4,W1];have hs:(C9 (n:Int)&&decide ((n:Int)<=(mostLen:Int)))=true:=by rw[b9,F6];refine⟨?_,Z9 (show(n:Int)<=1000 by omega) (by decide)⟩;unfold C9;rw[b9,F6,F6];exact⟨Z9 (by decide) (D6 n),w3s (show(n:Int)<=1000 by omega) (by decide)⟩
 show j3 ((if C9 (n:Int)&&decide ((n:Int)<=(mostLen:Int))then some (upTo 0 (n:Int).toNat)else none).map λds=>.ok (.lst ds) .fresh)=_;rw[b8 hs,x9];rfl
theorem y1P{j:Nat}(hj:j<1000):F9 (j:Int) (j:Int)=true:=by unfold F9;simp;omega
theorem m48(x:Int):F9 x 48271=true:=by unfold F9;simp
theorem q3Y(h:evE G F e δ=some (.ok (.lst ds) c)):evE G F (.bi .tuple [e]) δ=some (.ok (.tup ds) c.item):=by
 show Rs.thn (evEs G F [e] δ) (λl=>q5Z l)=_;rw[d6 h i4];rfl
theorem J2(h:evE G F e δ=some (.ok (.lst ds) c)):evE G F (.bi .len [e]) δ=some (.ok (.int ds.length) .strong):=by
 show Rs.thn (evEs G F [e] δ) (λl=>lenD l)=_;rw[d6 h i4];rfl
theorem T9(h:evE G F e δ=some (.ok (.tup ds) c)):evE G F (.bi .len [e]) δ=some (.ok (.int ds.length) .strong):=by
 show Rs.thn (evEs G F [e] δ) (λl=>lenD l)=_;rw[d6 h i4];rfl
def iD(r:List Int):List DV:=r.map DV.int
def rL(rows:List (List Int)):DV:=.lst (rows.map λr=>.lst (iD r))
def tT(rows:List (List Int)):DV:=.tup (rows.map λr=>.tup (iD r))
def Rect(n m:Nat)(rows:List (List Int)):Prop:=rows.length=n/\∀r∈rows,r.length=m
def col(rows:List (List Int))(j:Nat):List Int:=rows.map λr=>r.getD j 0
def flip(m:Nat)(rows:List (List Int)):List (List Int):=(List.range m).map (col rows)
theorem z1I{r:List Int}{j:Nat}(h:j<r.length):ixD (.tup (iD r)) (.int j)=some (.int (r.getD j 0)):=by
 have hh:(j:Int)<((r.map DV.int).length:Int):=by rw[d5];exact_mod_cast h
 unfold iD;simp only[ixD,atD,A4,b8 (D6 j),b8 hh,J7,x9,n9,p7 h,J9,D2,w2z]
theorem q6B{r:List Int}{j:Nat}(h:j<r.length):ixD (.lst (iD r)) (.int j)=some (.int (r.getD j 0)):=by
 have hh:(j:Int)<((r.map DV.int).length:Int):=by rw[d5];exact_mod_cast h
 unfold iD;simp only[ixD,atD,A4,b8 (D6 j),b8 hh,J7,x9,n9,p7 h,J9,D2,w2z]
def sub(rows:List (List Int))(I J:List Nat):List (List Int):=I.map λi=>J.map λj=>(rows.getD i []).getD j 0
theorem q5G{rows:List (List Int)}{i:Nat}(h:i<rows.length):ixD (tT rows) (.int i)=some (.tup (iD (rows.getD i []))):=by
 have hh:(i:Int)<((rows.map λr=>DV.tup (iD r)).length:Int):=by rw[d5];exact_mod_cast h
 simp only[tT,ixD,atD,A4,b8 (D6 i),b8 hh,J7,x9,n9,p7 h,J9,D2,w2z]
theorem F3{rows:List (List Int)}{i:Nat}(h:i<rows.length):rows.getD i []∈rows:=by
 rw[D2,p7 h];exact Z1 h
theorem q3u(n:Nat):∀r:List Int,DV.plains n (iD r)=true
 | []=>by unfold iD;simp[DV.plains]
 | a::r=>by have q:=q3u n r;unfold iD at q ⊢;rw[y0];unfold DV.plains;rw[q];cases n<;>rfl
theorem z3U(hw:j3 (evE G F it δ)=some (.ok ds cl))(hc:cl ≠ .weak)(hl:ds.length<=mostLen)
  (h:∀d∈ds,∃δ' c,tg.bind d (t4 fr δ)=some δ'/\evE G F elt δ'=some (.ok (f d) c)/\stro (f d) c=true):evE G F (.comp elt tg it fr) δ=some (.ok (.lst (ds.map f)) .fresh):=by
 show Ri.thn (j3 (evE G F it δ)) (λds c=>if c=.weak\/mostLen<ds.length then none else G8 (t9 (λd=>(tg.bind d (t4 fr δ)).bind λδ'=>Rc.of (evE G F elt δ')) ds))=_;rw[hw,q4T,d7 (by rintro(z | z);exact hc z;omega),q4b (f:=f) (λd hd=>?_)]
 ·rfl
 ·obtain⟨δ',c,e1,e2,e3⟩:=h d hd;rw[e1,J7,e2];show(if stro (f d) c then some (Rc.item (f d))else none)=_;rw[b8 e3]
theorem y0X(h:evE G F e δ=some (.ok (.int i) cl))(h1:i<=1000)(h2 : -1000<=i):j3 (evE G F (.rng [e]) δ)=some (.ok (upTo 0 i.toNat) .fresh):=by
 show j3 (Rs.thn (evEs G F [e] δ) (λl=>(rngD l).map λds=>.ok (.lst ds) .fresh))=_;rw[d6 h i4,W1];have hs:(C9 i&&decide (i<=(mostLen:Int)))=true:=by rw[b9,F6];refine⟨?_,Z9 h1 (by decide)⟩;unfold C9;rw[b9,F6,F6];exact⟨Z9 (by decide) h2,w3s h1 (by decide)⟩
 show j3 ((if C9 i&&decide (i<=(mostLen:Int))then some (upTo 0 i.toNat)else none).map λds=>.ok (.lst ds) .fresh)=_;rw[b8 hs];rfl
def P5(n m:Nat)(ws:List Int):List (List Int):=(List.range n).map λj=>(ws.drop (j*m)).take m
theorem z1p(h:ws.length=n*m):Rect n m (P5 n m ws):=by
 unfold P5;refine⟨by rw[d5,w6],λr hr=>?_⟩;obtain⟨j,hj,rfl⟩:=f9.mp hr;have hj':=s9.mp hj;rw[J4,Q2,h];have:(j+1)*m<=n*m:=Nat.mul_le_mul_right m hj';rw[w4f,w4g]at this;omega
theorem y1Z(ha:evE G F a δ=some (.ok (.lst ds) c))(hl:evE G F lo δ=some (.ok (.int l) c1))(hh:evE G F hi δ=some (.ok (.int h) c2)):evE G F (.sl a lo hi) δ=some (.ok (.lst (cutD ds (some l) (some h))) (Cl.anew c c)):=by
 unfold evE;rw[ha,u6,hl,u6];show Re.thn (evE G F hi δ) _=_;rw[hh];rfl
theorem z6O{ws:List Int}{n m j:Nat}(h:ws.length=n*m)(hj:j<n):cutD (iD ws) (some ((j:Int)*m)) (some ((j:Int)*m+m))=iD ((ws.drop (j*m)).take m):=by
 have e1:((j:Int)*m)=((j*m:Nat):Int):=by push_cast;rfl
 have e2:((j:Int)*m+m)=((j*m+m:Nat):Int):=by push_cast;rfl
 have le:j*m+m<=n*m:=(by have:(j+1)*m<=n*m:=Nat.mul_le_mul_right m hj;rw[w4f,w4g]at this;exact this);have len:(iD ws).length=n*m:=by unfold iD;rw[d5,h]
 unfold cutD slIx;rw[e2,e1];simp only[len];rw[d7 (by omega),d7 (by omega),x9,x9,w2H le,w2H (show j*m<=n*m by omega),show j*m+m - j*m=m by omega];unfold iD;rw[←w3y,←Q5]
theorem z8q(h:j<n):A4 n (j:Int)=some j:=by
 unfold A4;rw[b8 (D6 j),b8 (by omega),x9]
theorem z2W(h:evEs G F es δ=some (.ok l)):evE G F (.bi .min es) δ=minD l:=by
 have e:evE G F (.bi .min es) δ=Rs.thn (evEs G F es δ) (λl=>minD l):=rfl;rw[e,h];rfl
theorem X6(R:Rect n m rows):Rect m n (flip m rows):=by
 unfold flip;refine⟨by rw[d5,w6],λr hr=>?_⟩;obtain⟨j,hj,rfl⟩:=f9.mp hr;unfold col;rw[d5,R.1]
theorem U0{rows:List (List Int)}{i:Nat}(h:i<rows.length):ixD (rL rows) (.int i)=some (.lst (iD (rows.getD i []))):=by
 have hh:(i:Int)<((rows.map λr=>DV.lst (iD r)).length:Int):=by rw[d5];exact_mod_cast h
 simp only[rL,ixD,atD,A4,b8 (D6 i),b8 hh,J7,x9,n9,p7 h,J9,D2,w2z]
theorem z9c(h:evEs G F es δ=some (.ok l))(hl:l.length<=mostLen)(hs:stros l=true):evE G F (.lst es) δ=some (.ok (.lst (l.map (·.1))) .fresh):=by
 have e:evE G F (.lst es) δ=Rs.thn (evEs G F es δ) (λl=>if l.length<=mostLen then some (.ok (.lst (l.map (·.1))) (if stros l then .fresh else .weak))else none):=rfl;rw[e,h,W1,b8 hl,hs];rfl
def nD(l:List Nat):List DV:=l.map λ(j:Nat)=>DV.int (j:Int)
theorem q8C{α:Type}[BEq α][LawfulBEq α]{f:α->DV}(hf:∀a b,deq (f a) (f b)=(a==b))(r:α):∀{l:List α},r∈l->K4 (f r) (l.map f)=some (l.idxOf r)
 | a::l,hm=>by
  rw[y0];unfold K4;rw[hf,List.idxOf_cons];cases hb:(a==r)with
  | true=>rfl
  | false=>
   have h2:r∈l:=by
    rcases e8.mp hm with e | e
    ·subst e;simp at hb
    ·exact e
   rw[q8C hf r h2];rfl
theorem q8v:∀a b:List Int,deqs (iD a) (iD b)=(a==b)
 | [],[]=>rfl
 | [],_::_=>rfl
 | _::_,[]=>rfl
 | x::a,y::b=>by have ih:=q8v a b;unfold iD at ih ⊢;rw[y0,y0];unfold deqs;rw[ih];unfold deq;rfl
theorem y2i(a b:List Int):deq (.lst (iD a)) (.lst (iD b))=(a==b):=q8v a b
theorem z9T(a b:List Int):deq (.tup (iD a)) (.tup (iD b))=(a==b):=q8v a b
theorem q3R:∀{l:List DV},(∀d∈l,d.plain n=true)->DV.plains n l=true
 | [],_=>by unfold DV.plains;rfl
 | d::r,h=>by unfold DV.plains;rw[h d (i8 ..),q3R λx hx=>h x (i6 _ hx)];rfl
theorem z1z(n:Nat)(a:List Int):DV.plain (n+1) (.lst (iD a))=true:=q3u n a
theorem q7J(n:Nat)(a:List Int):DV.plain (n+1) (.tup (iD a))=true:=q3u n a
theorem z4s(n:Nat)(rows:List (List Int)):DV.plains (n+1) (rows.map λr=>.lst (iD r))=true:=q3R λd hd=>by
 obtain⟨r,_,rfl⟩:=f9.mp hd;exact z1z n r
theorem q8J(n:Nat)(rows:List (List Int)):DV.plains (n+1) (rows.map λr=>.tup (iD r))=true:=q3R λd hd=>by
 obtain⟨r,_,rfl⟩:=f9.mp hd;exact q7J n r
theorem y2a{rows:List (List Int)}{r:List Int}(h:r∈rows)(hl:rows.length<=1000):idxD (.tup (rows.map λr=>.tup (iD r))) (.tup (iD r))=some (.int (rows.idxOf r:Nat)):=by
 unfold idxD;dsimp only;rw[q7J 59,q8J 59,B8 (by rw[d5];exact i7 hl (by decide)),q8C (f:=λr=>.tup (iD r)) z9T r h];rfl
theorem y0r(ha:evE G F a δ=some (.ok x cx))(hs:seqB x=true)(hb:evE G F b δ=some (.ok y cy))(h:idxD x y=some d):evE G F (.idx a b) δ=some (.ok d .strong):=by
 show Re.thn (evE G F a δ) (λx _=>if seqB x then Re.thn (evE G F b δ) λy _=>(idxD x y).map λd=>.ok d .strong else none)=_;rw[ha,u6,b8 hs,hb,u6,h];rfl
theorem q4Q{α:Type}{g:DV->Option Rc}{h f:α->DV}:∀{l:List α},(∀a∈l,g (h a)=some (.item (f a)))->t9 g (l.map h)=some (l.map f)
 | [],_=>rfl
 | a::r,q=>by rw[y0,y0];unfold t9;rw[q a (i8 ..)];show(match t9 g (r.map h)with | none=>none | some xs=>some (f a::xs))=_;rw[q4Q λx hx=>q x (i6 _ hx)]
theorem C5{α:Type}{l:List α}{h f:α->DV}{elt it:ME}{tg:Tg}{fr:List (Option Nat)}(hw:j3 (evE G F it δ)=some (.ok (l.map h) cl))(hc:cl ≠ .weak)(hl:l.length<=mostLen)
  (q:∀a∈l,∃δ' c,tg.bind (h a) (t4 fr δ)=some δ'/\evE G F elt δ'=some (.ok (f a) c)/\stro (f a) c=true):evE G F (.comp elt tg it fr) δ=some (.ok (.lst (l.map f)) .fresh):=by
 show Ri.thn (j3 (evE G F it δ)) (λds c=>if c=.weak\/mostLen<ds.length then none else G8 (t9 (λd=>(tg.bind d (t4 fr δ)).bind λδ'=>Rc.of (evE G F elt δ')) ds))=_;rw[hw,q4T,d7 (by rintro(z | z);exact hc z;rw[d5]at z;omega),q4Q (f:=f) (λa ha=>?_)]
 ·rfl
 ·obtain⟨δ',c,e1,e2,e3⟩:=q a ha;rw[e1,J7,e2];show(if stro (f a) c then some (Rc.item (f a))else none)=_;rw[b8 e3]
theorem z5t{rows:List (List Int)}{j:Nat}{d:DV}{h:List Int->DV}(hl:rows.length<=1000)(w:j3 (evE G F (.var 1) [.val (.int (j:Int)),.val d])=some (.ok (rows.map h) .strong))(hh:∀r∈rows,ixD (h r) (.int j)=some (.int (r.getD j 0))):evE G F (.comp (.ix (.var 0) (.var 1)) (.one 0) (.var 1) [none,some 0]) [.val (.int j),.val d]=some (.ok (.lst (iD (col rows j))) .fresh):=by
 rw[C5 (h:=h) (f:=λr=>.int (r.getD j 0)) w (by decide) (i7 hl (by decide)) λr hr=>⟨[.val (h r),.val (.int j)],.strong,rfl,u0 (cx:=.strong) (b7 rfl) (b7 rfl) (hh r hr),rfl⟩];unfold iD col;rw[j4];rfl
theorem y1w(rows:List (List Int))(m j:Nat)(hm:∀r∈rows,r.length=m)(hj:j<m)(hl:rows.length<=1000):evE G F (.comp (.ix (.var 0) (.var 1)) (.one 0) (.var 1) [none,some 0]) [.val (.int j),.val (tT rows)]=some (.ok (.lst (iD (col rows j))) .fresh):=z5t hl rfl λr hr=>z1I (by rw[hm r hr];exact hj)
theorem z9B(rows:List (List Int))(m j:Nat)(hm:∀r∈rows,r.length=m)(hj:j<m)(hl:rows.length<=1000):evE G F (.comp (.ix (.var 0) (.var 1)) (.one 0) (.var 1) [none,some 0]) [.val (.int j),.val (rL rows)]=some (.ok (.lst (iD (col rows j))) .fresh):=z5t hl rfl λr hr=>q6B (by rw[hm r hr];exact hj)
theorem y1B{e:ME}{c:Cl}{n:Nat}(h:evE G F e δ=some (.ok (.int (n:Int)) c))(hn:n<=1000):j3 (evE G F (.rng [e]) δ)=some (.ok ((List.range n).map λ(j:Nat)=>DV.int (j:Int)) .fresh):=by
 rw[N2 h hn];unfold L2.upTo
 congr 2
 apply G5;intro j _
 congr 1
 omega
theorem z1W(rows:List (List Int))(n m:Nat)(R:Rect n m rows)(hn:0<n)(hn2:n<=1000)(hm2:m<=1000):run G T fu (k+1) 1 [tT rows]=some (.v (tT (flip m rows)) false):=by
 rw[n6 (fd:=q3P) rfl rfl];have r0:0<rows.length:=by rw[R.1];exact hn
 have hl:=T9 (F:=run G T fu k) (δ:=f8 1 [tT rows]) (u0 (a:=.var 0) (b:=.int 0) (cx:=.strong) (b7 rfl) (i3 (i:=((0:Nat):Int))) (q5G r0));rw[show(iD (rows.getD 0 [])).length=m by unfold iD;rw[d5];exact R.2 _ (F3 r0)]at hl;have cm:=C5 (elt:=.bi .tuple [.comp (.ix (.var 0) (.var 1)) (.one 0) (.var 1) [none,some 0]]) (tg:=.one 0) (fr:=[none,some 0]) (f:=λj=>.tup (iD (col rows j))) (y1B hl hm2) (by decide) (by rw[w6];exact i7 hm2 (by decide)) λj hj=>
  ⟨[.val (.int j),.val (tT rows)],.strong,rfl,q3Y (y1w rows m j R.2 (s9.mp hj) (by rw[R.1];exact hn2)),rfl⟩
 unfold q3P;refine r6 (o6 (x5 (cl:=.strong) ((q3Y cm).trans ?_)));unfold tT flip;rw[j4];rfl
theorem q5N(rows:List (List Int))(n m:Nat)(R:Rect n m rows)(I J:List Nat)(hI:∀i∈I,i<n)(hJ:∀j∈J,j<m)(lI:I.length<=1000)(lJ:J.length<=1000):run G T fu (k+1) 5 [tT rows,.lst (nD I),.lst (nD J)]=some (.v (tT (sub rows I J)) false):=by
 rw[n6 (fd:=q2Z) rfl rfl];have cm:=C5 (F:=run G T fu k) (δ:=f8 3 [tT rows,.lst (nD I),.lst (nD J)]) (l:=I) (h:=λ(i:Nat)=>.int (i:Int)) (f:=λi=>.tup (iD (J.map λj=>(rows.getD i []).getD j 0))) (elt:=.bi .tuple [.comp (.ix (.ix (.var 1) (.var 2)) (.var 0)) (.one 0) (.var 1) [none,some 2,some 0]]) (tg:=.one 0) (it:=.var 1) (fr:=[none,some 2,some 0]) (cl:=.strong) rfl (by decide) (i7 lI (by decide)) λi hi=>by
  refine⟨[.val (.int (i:Int)),.val (.lst (nD J)),.val (tT rows)],.strong,rfl,q3Y (c:=.fresh) ?_,rfl⟩;have hr:i<rows.length:=by rw[R.1];exact hI i hi
  rw[C5 (h:=λ(j:Nat)=>.int (j:Int)) (f:=λj=>.int ((rows.getD i []).getD j 0)) (cl:=.strong) (l:=J) rfl (by decide) (i7 lJ (by decide)) λj hj=>⟨[.val (.int (j:Int)),.val (tT rows),.val (.int (i:Int))],.strong,rfl,u0 (cx:=.strong) (u0 (cx:=.strong) (b7 rfl) (b7 rfl) (q5G hr)) (b7 rfl) (z1I (by rw[R.2 _ (F3 hr)];exact hJ j hj)),rfl⟩];unfold iD;rw[j4];rfl
 unfold q2Z;refine r6 (o6 (x5 (cl:=.strong) ((q3Y cm).trans ?_)));unfold tT sub;rw[j4];rfl
def kI(rows:List (List Int)):List Int:=rows.map λr=>((rows.idxOf r:Nat):Int)
theorem q4V(rows:List (List Int))(hl:rows.length<=1000):run G T fu (k+1) 6 [tT rows]=some (.v (.lst (iD (kI rows))) true):=by
 rw[n6 (fd:=q2D) rfl rfl];unfold q2D;have e:=C5 (F:=run G T fu k) (δ:=f8 1 [tT rows]) (elt:=.idx (.var 1) (.var 0)) (tg:=.one 0) (it:=.var 0) (fr:=[none,some 0]) (l:=rows) (h:=λr=>.tup (iD r)) (f:=λr=>.int ((rows.idxOf r:Nat):Int)) (cl:=.strong) rfl (by decide) (i7 hl (by decide)) (λr hr=>⟨[.val (.tup (iD r)),.val (tT rows)],.strong,rfl,y0r (b7 rfl) rfl (b7 rfl) (y2a hr hl),rfl⟩);have e2:(rows.map λr=>DV.int ((rows.idxOf r:Nat):Int))=iD (kI rows):=by unfold iD kI;rw[j4];rfl
 rw[e2]at e;exact r6 (o6 (x5 e))
theorem z5d(n:Nat):upTo 0 n=nD (List.range n):=by
 unfold L2.upTo nD;apply G5;intro j _;rw[Int.zero_add]
theorem q8e:∀{l:List Int},y∈insI x l↔y=x\/y∈l
 | []=>by simp[insI]
 | z::l=>by
  unfold insI;split
  ·simp
  ·rw[e8,q8e,e8];constructor<;>(rintro(h | h | h)<;>simp[h])
theorem q6x:∀{l:List Int},y∈C8 l↔y∈l
 | []=>K1
 | z::l=>by unfold C8;rw[q8e,q6x,e8]
theorem z5x:∀{l σ:List Int},y∈l.foldl dk σ↔y∈σ\/y∈l
 | [],σ=>by simp
 | z::l,σ=>by
  rw[w25,z5x,e8];unfold dk;split
  ·rename_i h;constructor
   ·rintro(q | q)
    ·exact .inl q
    ·exact .inr (.inr q)
   ·rintro(q | q | q)
    ·exact .inl q
    ·rw[q];exact .inl h
    ·exact .inr q
  ·rw[A3,u8,or_assoc]
theorem q9h:∀{l σ:List Int},(l.foldl dk σ).length<=σ.length+l.length
 | [],σ=>by simp
 | z::l,σ=>by
  rw[w25,x4];have:=q9h (l:=l) (σ:=dk σ z);have h2:(dk σ z).length<=σ.length+1:=by unfold dk;split<;>simp
  omega
theorem q4R:∀r:List Int,ints? (iD r)=some r
 | []=>rfl
 | x::r=>by show(ints? (iD r)).map (x :: ·)=_;rw[q4R r];rfl
theorem z0G(h:evE G F e δ=some (.ok (.lst (iD r)) c))(hl:r.length<=60):evE G F (.bi .sset [e]) δ=some (.ok (.lst (iD (C8 (r.foldl dk [])))) .fresh):=by
 show Rs.thn (evEs G F [e] δ) (λl=>z2p l)=_;rw[d6 h i4];show(match ints? (iD r)with
  | some ns=>if ns.length<4000/\(ns.foldl dk []).length<64 then some (Re.ok (.lst ((C8 (ns.foldl dk [])).map DV.int)) .fresh)else none
  | none=>none)=_
 rw[q4R];have:=q9h (l:=r) (σ:=[]);rw[w33]at this;exact b8 ⟨by omega,by omega⟩
section
variable {G:Gs} {a b:ME} {r:List ME} {cx:Cl} {o:Option Re}
theorem z1r(ha:evE G F a δ=some (.ok (.bl true) cx))(hb:evE G F (.and (b::r)) δ=o):evE G F (.and (a::b::r)) δ=o:=by
 have e:evE G F (.and (a::b::r)) δ=Re.thn (evE G F a δ) (λx c=>andD x c (D0 G F (b::r) δ)):=(by rw[evE,D0];rfl);have e2:evE G F (.and (b::r)) δ=D0 G F (b::r) δ:=by rw[evE]
 rw[e,ha,u6,←e2,hb];rfl
end
section
variable {G:Gs} {a b:ME} {r:List ME} {cx:Cl} {o:Option Re}
theorem z3V(ha:evE G F a δ=some (.ok (.bl false) cx)):evE G F (.and (a::b::r)) δ=some (.ok (.bl false) cx):=by
 have e:evE G F (.and (a::b::r)) δ=Re.thn (evE G F a δ) (λx c=>andD x c (D0 G F (b::r) δ)):=(by rw[evE,D0];rfl);rw[e,ha,u6];rfl
end
section
variable {G:Gs} {a b:ME} {r:List ME} {cx:Cl} {o:Option Re}
theorem z2T(ha:evE G F a δ=o):evE G F (.and [a]) δ=o:=by
 have e:evE G F (.and [a]) δ=evE G F a δ:=by rw[evE,D0];rfl
 rw[e,ha]
end
section
variable {G:Gs} {a b:ME} {r:List ME} {cx:Cl} {o:Option Re}
theorem q6e{tg:Tg}{body:List Sv->Option Out}{d:DV}{r:List DV}{δ1 δ2:List Sv}(h1:tg.bind d δ=some δ1)(h2:body δ1=some (.nx δ2)):A9 tg body (d::r) δ=A9 tg body r δ2:=by
 show(match tg.bind d δ with | none=>none | some δ1=>match body δ1 with | some (.nx δ2)=>A9 tg body r δ2 | o=>o)=_;rw[h1];show(match body δ1 with | some (.nx δ2)=>A9 tg body r δ2 | o=>o)=_;rw[h2]
end
section
variable {G:Gs} {a b:ME} {r:List ME} {cx:Cl} {o:Option Re}
end
section
variable {G:Gs} {a b:ME} {r:List ME} {cx:Cl} {o:Option Re}
end
theorem z2n:∀{a b:List Int},a.Pairwise (· < ·)->b.Pairwise (· < ·)->(∀x,x∈a↔x∈b)->a=b
 | [],[],_,_,_=>rfl
 | [],y::b,_,_,h=>absurd ((h y).mpr (i8 ..)) (by simp)
 | x::a,[],_,_,h=>absurd ((h x).mp (i8 ..)) (by simp)
 | x::a,y::b,ha,hb,h=>by
  rw[F5]at ha hb;have e:x=y:=by
   rcases e8.mp ((h x).mp (i8 ..))with z | z
   ·exact z
   ·rcases e8.mp ((h y).mpr (i8 ..))with w | w
    ·exact w.symm
    ·have h1:=ha.1 y w;have h2:=hb.1 x z;omega
  subst e;rw[z2n ha.2 hb.2 λz=>?_];constructor
  ·intro q;rcases e8.mp ((h z).mp (i6 _ q))with w | w
   ·subst w;exact absurd (ha.1 _ q) (by omega)
   ·exact w
  ·intro q;rcases e8.mp ((h z).mpr (i6 _ q))with w | w
   ·subst w;exact absurd (hb.1 _ q) (by omega)
   ·exact w
theorem q8Y:∀{l:List Int},l.Pairwise (· < ·)->x∉l->(insI x l).Pairwise (· < ·)
 | [],_,_=>by simp[insI]
 | y::l,h,hx=>by
  rw[F5]at h;unfold insI;split
  ·rename_i q;rw[F5];refine⟨λz hz=>?_,F5.mpr h⟩;rcases e8.mp hz with w | w
   ·rw[w];exact q
   ·have:=h.1 z w;omega
  ·rename_i q;rw[F5];refine⟨λz hz=>?_,q8Y h.2 λw=>hx (i6 _ w)⟩;rcases q8e.mp hz with w | w
   ·subst w;have:z≠y:=λe=>hx (by rw[e];exact i8 ..)
    omega
   ·exact h.1 z w
theorem q7F:∀{l:List Int},l.Nodup->(C8 l).Pairwise (· < ·)
 | [],_=>List.Pairwise.nil
 | x::l,h=>by
  rw[O1]at h;exact q8Y (q7F h.2) λz=>h.1 (q6x.mp z)
theorem q9j:∀{l σ:List Int},σ.Nodup->(l.foldl dk σ).Nodup
 | [],_,h=>h
 | x::l,σ,h=>by
  rw[w25];refine q9j ?_;unfold dk;split
  ·exact h
  ·rename_i q;rw[List.nodup_append];refine⟨h,by simp,λa ha b hb e=>?_⟩;rw[u8]at hb;subst hb e;exact q ha
theorem z5y{l t:List Int}(ht:t.Pairwise (· < ·))(h:∀x,x∈l↔x∈t):C8 (l.foldl dk [])=t:=
 z2n (q7F (q9j w4m)) ht λx=>by rw[q6x,z5x,←h];simp
def nI(l:List Nat):List Int:=l.map λ(j:Nat)=>(j:Int)
theorem y0s(l:List Nat):iD (nI l)=nD l:=by unfold iD nI nD;rw[j4];rfl
theorem q5j(p:Nat->Bool)(n:Nat):(nI ((List.range n).filter p)).Pairwise (· < ·):=by
 unfold nI;rw[List.pairwise_map];refine List.Pairwise.filter _ (List.Pairwise.imp ?_ w2V);intro a b h;omega
theorem z5i:x∈nI l↔∃j∈l,(j:Int)=x:=by unfold nI;rw[f9]
def FI(rows:List (List Int)):List Nat:=(List.range rows.length).filter λr=>rows.idxOf (rows.getD r [])==r
theorem z2D{rows:List (List Int)}{r:List Int}(h:r∈rows):rows.idxOf r<rows.length:=List.idxOf_lt_length_of_mem h
theorem q7O{rows:List (List Int)}{r:List Int}(h:r∈rows):rows.getD (rows.idxOf r) []=r:=by
 have hl:=z2D h;rw[D2,p7 hl,w2z];exact List.getElem_idxOf hl
theorem q9H(rows:List (List Int)):C8 ((kI rows).foldl dk [])=nI (FI rows):=by
 refine z5y (q5j _ _) λx=>?_;rw[z5i];unfold kI FI;rw[f9];constructor
 ·rintro⟨r,hr,rfl⟩
  refine⟨rows.idxOf r,u9.mpr ⟨s9.mpr (z2D hr),?_⟩,rfl⟩;rw[q7O hr,d8]
 ·rintro⟨j,hj,rfl⟩
  obtain⟨h1,h2⟩:=u9.mp hj;exact⟨rows.getD j [],F3 (s9.mp h1),by rw[d8.mp h2]⟩
theorem U1(h:i∈FI rows):i<rows.length:=s9.mp (u9.mp h).1
theorem q8H(rows:List (List Int)):(FI rows).length<=rows.length:=by
 unfold FI;have:=w1T (λr=>rows.idxOf (rows.getD r [])==r) (List.range rows.length)
 rwa [w6]at this
theorem P6(h:0<rows.length):0<(FI rows).length:=by
 refine w2o (a:=0) (u9.mpr ⟨s9.mpr h,?_⟩);cases rows with
 | nil=>cases h
 | cons r rs=>simp
theorem z5b(rows:List (List Int)):(kI rows).length=rows.length:=by unfold kI;rw[d5]
theorem q5D(rows:List (List Int))(n m:Nat)(R:Rect n m rows)(hn:0<n)(hn2:n<=1000)(hm2:m<=1000):run G T fu (k+2) 7 [tT rows]=some (.v (.lst (iD (kI (flip m rows)))) true):=by
 rw[n6 (fd:=q1B) rfl rfl];unfold q1B;have R':=X6 R;exact r6 (o6 (x5 (j5 (l:=[(tT (flip m rows),.strong)]) (d6 (j5 (l:=[(tT rows,.strong)]) rfl rfl (z1W rows n m R hn hn2 hm2)) i4) rfl (q4V (flip m rows) (by rw[R'.1];exact hm2)))))
theorem q7h(rows:List (List Int))(n m:Nat)(R:Rect n m rows)(hn:0<n)(hn2:n<=60)(hm2:m<=60):run G T fu (k+3) 8 [tT rows]=some (.v (tT (sub rows (FI rows) (FI (flip m rows)))) false):=by
 rw[n6 (fd:=q3F) rfl rfl];unfold q3F;have R':=X6 R;have e1:=z0G (F:=run G T fu (k+2)) (δ:=[.val (tT rows)]) (e:=.call 6 [.var 0]) (r:=kI rows) (j5 (l:=[(tT rows,.strong)]) rfl rfl (q4V (k:=k+1) rows (by rw[R.1];omega))) (by rw[z5b,R.1];exact hn2);have e2:=z0G (F:=run G T fu (k+2)) (δ:=[.val (tT rows)]) (e:=.call 7 [.var 0]) (r:=kI (flip m rows)) (j5 (l:=[(tT rows,.strong)]) rfl rfl (q5D rows n m R hn (by omega) (by omega))) (by rw[z5b,R'.1];exact hm2);rw[q9H,y0s]at e1 e2;have e3:=q5N (fu:=fu) (k:=k+1) rows n m R (FI rows) (FI (flip m rows)) (λi hi=>by have:=U1 hi;rw[R.1]at this;exact this) (λj hj=>by have:=U1 hj;rw[R'.1]at this;exact this) (by have:=q8H rows;rw[R.1]at this;omega) (by have:=q8H (flip m rows);rw[R'.1]at this;omega);exact r6 (o6 (x5 (j5 (l:=[(tT rows,.strong),(.lst (nD (FI rows)),.fresh),(.lst (nD (FI (flip m rows))),.fresh)]) (d6 (b7 rfl) (d6 e1 (d6 e2 i4))) rfl e3)))
theorem b_le(ha:evE G F a δ=some (.ok (.int i) cx))(hb:evE G F b δ=some (.ok (.int j) cy)):evE G F (.cmp .LtE a b) δ=some (.ok (.bl (decide (i<=j))) .strong):=O8 ha hb rfl
def sm(a b:Nat):Bool:=decide (a<6)&&decide (b<6)
theorem z6U(h:0<I.length):∃r rs,sub rows I J=r::rs/\r.length=J.length:=by
 cases I with
 | nil=>cases h
 | cons i I=>exact⟨_,_,rfl,by simp⟩
theorem q5W(rows:List (List Int))(n m:Nat)(R:Rect n m rows)(hn:0<n)(hn2:n<=60)(hm2:m<=60):run G T fu (k+4) 9 [tT rows]=some (.v (.bl (sm (FI rows).length (FI (flip m rows)).length)) false):=by
 rw[n6 (fd:=q3b) rfl rfl];unfold q3b;have e0:=q7h (fu:=fu) (k:=k) rows n m R hn hn2 hm2;obtain⟨r,rs,hs,hr⟩:=z6U (rows:=rows) (J:=FI (flip m rows)) (P6 (rows:=rows) (by rw[R.1];exact hn));have hl:(sub rows (FI rows) (FI (flip m rows))).length=(FI rows).length:=by unfold sub;rw[d5]
 rw[hs]at e0 hl;have l1:evE G (run G T fu (k+3)) (.bi .len [.var 1]) [.val (tT rows),.val (tT (r::rs))]=some (.ok (.int (FI rows).length) .strong):=by have t:=T9 (F:=run G T fu (k+3)) (δ:=[.val (tT rows),.val (tT (r::rs))]) (e:=.var 1) (ds:=(r::rs).map λr=>.tup (iD r)) (c:=.strong) rfl;rw[d5,hl]at t;exact t
 have l2:evE G (run G T fu (k+3)) (.bi .len [.ix (.var 1) (.int 0)]) [.val (tT rows),.val (tT (r::rs))]=some (.ok (.int (FI (flip m rows)).length) .strong):=(by have t:=T9 (F:=run G T fu (k+3)) (δ:=[.val (tT rows),.val (tT (r::rs))]) (u0 (b7 (n:=1) (d:=tT (r::rs)) rfl) (i3 (i:=0)) (q5G (rows:=r::rs) (i:=0) (by simp)));rw[show(iD ((r::rs).getD 0 [])).length=(FI (flip m rows)).length by unfold iD;rw[d5];exact hr]at t;exact t);have g5:∀δ:List Sv,evE G (run G T fu (k+3)) (.glb "SMALL_LINES") δ=some (.ok (.int 5) .strong):=λδ=>rfl;refine r6 (i5 (j7 (d:=tT (r::rs)) (cl:=.strong) (j5 (l:=[(tT rows,.strong)]) rfl rfl e0) rfl) (o6 (x5 (cl:=.strong) ?_)));have t1:=b_le l1 (g5 _);have t2:=b_le l2 (g5 _);have d1:decide (((FI rows).length:Int)<=5)=decide ((FI rows).length<6):=by rw[w3S];omega
 have d2:decide (((FI (flip m rows)).length:Int)<=5)=decide ((FI (flip m rows)).length<6):=by rw[w3S];omega
 rw[d1]at t1;rw[d2]at t2;unfold sm;cases q:decide ((FI rows).length<6)with
 | true=>rw[q]at t1;exact z1r t1 (z2T t2)
 | false=>rw[q]at t1;exact z3V t1
theorem q7z{α:Type}{g:DV->Option Rc}{h f:α->DV}{p:α->Bool}:∀{l:List α},(∀a∈l,g (h a)=some (if p a then .item (f a)else .skip))->t9 g (l.map h)=some ((l.filter p).map f)
 | [],_=>rfl
 | a::l,q=>by
  have h0:=q a (i8 ..);have ih:=q7z (g:=g) (h:=h) (f:=f) (p:=p) (l:=l) λb hb=>q b (i6 _ hb);cases e:p a with
  | true=>
   rw[e]at h0;show(match g (h a)with | none=>none | some .skip=>t9 g (l.map h) | some (.item x)=>match t9 g (l.map h)with | none=>none | some xs=>some (x::xs))=_;rw[h0,w1N e,y0];show(match t9 g (l.map h)with | none=>none | some xs=>some (f a::xs))=_;rw[ih]
  | false=>
   rw[e]at h0;show(match g (h a)with | none=>none | some .skip=>t9 g (l.map h) | some (.item x)=>match t9 g (l.map h)with | none=>none | some xs=>some (x::xs))=_;rw[h0,w2f (by rw[e];simp)];exact ih
theorem q2N{α:Type}{l:List α}{h f:α->DV}{p:α->Bool}{elt it cd:ME}{tg:Tg}{fr:List (Option Nat)}(hw:j3 (evE G F it δ)=some (.ok (l.map h) cl))(hc:cl ≠ .weak)(hl:l.length<=mostLen)
  (q:∀a∈l,∃δ',tg.bind (h a) (t4 fr δ)=some δ'/\tstD (evE G F cd δ')=some (.ok (p a))/\∃c,evE G F elt δ'=some (.ok (f a) c)/\stro (f a) c=true):evE G F (.compi elt tg it cd fr) δ=some (.ok (.lst ((l.filter p).map f)) .fresh):=by
 show Ri.thn (j3 (evE G F it δ)) (λds c=>if c=.weak\/mostLen<ds.length then none else G8 (t9 (λd=>(tg.bind d (t4 fr δ)).bind λδ'=>Rc.test (tstD (evE G F cd δ')) (Rc.of (evE G F elt δ'))) ds))=_;rw[hw,q4T,d7 (by rintro(z | z);exact hc z;rw[d5]at z;omega),q7z (f:=f) (p:=p) (λa ha=>?_)]
 ·rfl
 ·obtain⟨δ',e1,e2,c,e3,e4⟩:=q a ha;rw[e1,J7,e2,e3];cases p a with
  | false=>rfl
  | true=>
   show(if stro (f a) c then some (Rc.item (f a))else none)=_;rw[b8 e4];rfl
def WI(rows:List (List Int)):List Nat:=(List.range 10).filter λw=>rows.any λr=>r.any λx=>x==(w:Int)
theorem q5L(rows:List (List Int))(h9:∀r∈rows,∀x∈r,0<=x/\x<=9):C8 (rows.flatten.foldl dk [])=nI (WI rows):=by
 refine z5y (q5j _ _) λx=>?_;rw[z5i,List.mem_flatten];unfold WI;constructor
 ·rintro⟨r,hr,hx⟩
  have:=h9 r hr x hx;refine⟨x.toNat,u9.mpr ⟨s9.mpr (by omega),M4.mpr ⟨r,hr,M4.mpr ⟨x,hx,?_⟩⟩⟩,by omega⟩;rw[d8];omega
 ·rintro⟨j,hj,rfl⟩
  obtain⟨_,h2⟩:=u9.mp hj;obtain⟨r,hr,h3⟩:=M4.mp h2;obtain⟨x,hx,h4⟩:=M4.mp h3;rw[d8]at h4;exact⟨r,hr,by rw[←h4];exact hx⟩
theorem z8v(h0:δ[i]? = some (.own (.lst ds)))(h:evE G F e δ=some (.ok (.tup ys) .strong))(hl:ds.length+ys.length<=mostLen):evS G F fu (.ext i e) δ=some (.nx (δ.set i (.own (.lst (ds++ys))))):=by
 unfold evS;rw[h0];show Re.thnS δ (evE G F e δ) _=_;rw[h];show(if Cl.strong=.strong\/Cl.strong=.fresh then(if ds.length+ys.length<=mostLen then some (Out.nx (δ.set i (.own (.lst (ds++ys)))))else none)else none)=_;rw[b8 (.inl rfl),b8 hl]
theorem q9g(t:Sv)(hm:m<=8):∀(rows:List (List Int)) (a:List Int) (c:Sv),(∀r∈rows,r.length=m)->a.length+rows.length*m<=1000->∃c',A9 (.one 2) (λδ'=>evSs G F fu [.ext 1 (.var 2)] δ') (rows.map λr=>.tup (iD r)) [t,.own (.lst (iD a)),c]=some (.nx [t,.own (.lst (iD (a++rows.flatten))),c'])
 | [],a,c,_,_=>⟨c,by rw[List.flatten_nil,B3];rfl⟩
 | r::rows,a,c,h,hl=>by
  have hr:=h r (i8 ..);rw[x4,w4f,w4g]at hl;obtain⟨c',ih⟩:=q9g t hm rows (a++r) (.val (.tup (iD r))) (λr' hr'=>h r' (i6 _ hr')) (by rw[p9,hr];omega);refine⟨c',?_⟩;rw[U6,←J3,←ih];refine q6e (δ1:=[t,.own (.lst (iD a)),.val (.tup (iD r))]) rfl (i5 (z8v rfl (b7 rfl) ?_) ?_)
  ·unfold iD;rw[d5,d5];exact i7 (show a.length+r.length<=1000 by omega) (by decide)
  ·unfold iD;rw[z9];rfl
theorem z2a(m:Nat):∀n,(List.replicate n m).sum=n*m
 | 0=>by simp
 | n+1=>by rw[P8,List.sum_cons,z2a m n,w4f,w4g,Nat.add_comm]
theorem z0O:∀{l:List Int},(insI x l).length=l.length+1
 | []=>rfl
 | z::l=>by unfold insI;split<;>simp[z0O]
theorem q8I:∀{l:List Int},(C8 l).length=l.length
 | []=>rfl
 | z::l=>by unfold C8;rw[z0O,q8I,x4]
theorem z0d(rows:List (List Int))(n m:Nat)(R:Rect n m rows)(hn2:n<=8)(hm2:m<=8)(h9:∀r∈rows,∀x∈r,0<=x/\x<=9):run G T fu (k+1) 11 [tT rows]=some (.v (.lst (nD (WI rows))) true):=by
 rw[n6 (fd:=q3d) rfl rfl];unfold q3d;have nm:n*m<=8*8:=w3k hn2 hm2;obtain⟨c',e⟩:=q9g (F:=run G T fu k) (fu:=fu) (.val (tT rows)) hm2 rows [] .no R.2 (by rw[R.1];simp;omega);rw[w26]at e;have hb:∀x∈rows.flatten,0<=x/\x<=9:=λx hx=>by obtain⟨r,hr,hx⟩:=List.mem_flatten.mp hx;exact h9 r hr x hx
 have hsz:(rows.flatten.foldl dk []).length<64/\rows.flatten.length<4000:=by
  have e2:=q5L rows h9;have l1:=q8I (l:=rows.flatten.foldl dk []);rw[e2]at l1;have l2:(nI (WI rows)).length<=10:=(by unfold nI WI;rw[d5];exact i7 (w1T _ _) (by simp));have l3:rows.flatten.length=n*m:=by
   rw[List.length_flatten];have:rows.map List.length=List.replicate n m:=by rw[List.eq_replicate_iff];refine⟨by rw[d5];exact R.1,λb hb=>?_⟩;obtain⟨r,hr,rfl⟩:=f9.mp hb;exact R.2 r hr
   rw[this,z2a]
  omega
 have s1:evE G (run G T fu k) (.bi .sset [.var 1]) [.val (tT rows),.own (.lst (iD rows.flatten)),c']=some (.ok (.lst (nD (WI rows))) .fresh):=by
  show Rs.thn (evEs G (run G T fu k) [.var 1] [.val (tT rows),.own (.lst (iD rows.flatten)),c']) (λl=>z2p l)=_;rw[d6 (q5i (d:=.lst (iD rows.flatten)) rfl) i4];show(match ints? (iD rows.flatten)with
   | some ns=>if ns.length<4000/\(ns.foldl dk []).length<64 then some (Re.ok (.lst ((C8 (ns.foldl dk [])).map DV.int)) .fresh)else none
   | none=>none)=_
  rw[q4R];show(if rows.flatten.length<4000/\(rows.flatten.foldl dk []).length<64 then some (Re.ok (.lst (iD (C8 (rows.flatten.foldl dk [])))) .fresh)else none)=_;rw[b8 ⟨hsz.2,hsz.1⟩,q5L rows h9,y0s]
 exact r6 (i5 (q6U rfl) (G9 (ds:=rows.map λr=>.tup (iD r)) (cl:=.strong) rfl (.inl rfl) e (o6 (x5 s1))))
theorem q5w:isiD G (.int x) ["int"]=some true:=rfl
theorem q4y:isiD G (.int x) ["bool"]=some false:=rfl
theorem q9b:run G T fu (k+1) 0 [.int x,.int a,.int b]=some (.v (.bl (decide (a<=x)&&decide (x<=b))) false):=by
 rw[n6 (fd:=q3E) rfl rfl];by_cases h1:a<=x
 ·simp[q3E,f8,evSs,evS,evE,D0,Re.thnS,u6,q5w,q4y,andD,C2,cmpD,h1,Ou.of,frD,retD,Cl.item]
 ·simp[q3E,f8,evSs,evS,evE,D0,Re.thnS,u6,q5w,q4y,andD,C2,cmpD,h1,Ou.of,frD,retD,Cl.item]
theorem q8P(r o:Nat):Builtin.bitAnd r o=((r &&& o:Nat):Int):=by
 unfold Builtin.bitAnd;rw[B8 (D6 r),B8 (D6 o)];rfl
theorem z4E(o i:Nat):Builtin.bitAnd ((o:Int)/2^((i:Int).toNat)) 1=if o.testBit i then 1 else 0:=by
 have e:(o:Int)/2^((i:Int).toNat)=((o/2^i:Nat):Int):=(by rw[x9];push_cast;rfl);rw[e,show(1:Int)=((1:Nat):Int)from rfl,q8P,Nat.and_one_is_mod,Nat.testBit_eq_decide_div_mod_eq];have:o/2^i%2=0\/o/2^i%2=1:=by omega
 rcases this with h | h<;>rw[h]<;>rfl
def cs(c:Nat):List Nat:=(List.range (c.log2+1)).filter c.testBit
theorem q5S(c:Nat)(h0:0<c)(h:c<2^64):run G T fu (k+1) 4 [.int c]=some (.v (.lst (nD (cs c))) true):=by
 rw[n6 (fd:=q3e) rfl rfl];have hb:V7 (c:Int)=((c.log2+1:Nat):Int):=by unfold V7;rw[d7 (by omega),Int.natAbs_natCast];push_cast;rfl
 have hl:c.log2<64:=(w4b (by omega)).mpr h;have hm:evE G (run G T fu k) (.meth .bitLength (.var 0) []) (f8 1 [.int c])=some (.ok (.int ((c.log2+1:Nat):Int)) .strong):=(by rw[←hb];rfl);have cm:=z4B (G:=G) (F:=run G T fu k) (δ:=f8 1 [.int c]) (elt:=.var 0) (tg:=.one 0) (it:=.rng [.meth .bitLength (.var 0) []]) (cd:=.bin .BitAnd (.bin .RShift (.var 1) (.var 0)) (.int 1)) (fr:=[none,some 0]) (p:=λd=>match d with | .int i=>c.testBit i.toNat | _=>false) (cl:=.fresh) (ds:=upTo 0 (c.log2+1))
  (N2 hm (by omega)) (by decide) (by unfold L2.upTo;rw[d5,w6];exact i7 (show c.log2+1<=64 by omega) (by decide)) (λd hd=>by
   obtain⟨j,hj,rfl⟩:=q9p hd;rw[show(0:Int)+(j:Int)=j by omega];refine⟨[.val (.int j),.val (.int c)],rfl,?_,rfl⟩;have e1:evE G (run G T fu k) (.bin .RShift (.var 1) (.var 0)) [.val (.int j),.val (.int c)]=some (.ok (.int ((c:Int)/2^((j:Int).toNat))) .strong):=F0 (b7 rfl) (b7 rfl) (show(if 0<=(j:Int)then some (Re.ok (.int ((c:Int)/2^((j:Int).toNat))) Cl.strong)else none)=_ from b8 (D6 j));have e2:evE G (run G T fu k) (.bin .BitAnd (.bin .RShift (.var 1) (.var 0)) (.int 1)) [.val (.int j),.val (.int c)]=some (.ok (.int (if c.testBit j then 1 else 0)) .strong):=F0 e1 i3 (by rw[←z4E];rfl);have tt:∀t:Bool,tstD (some (Re.ok (DV.int (if t=true then 1 else 0)) Cl.strong))=some (Rt.ok t):=λt=>by cases t<;>rfl
   rw[e2];refine(tt _).trans ?_;show _=some (Rt.ok (c.testBit (j:Int).toNat));rw[x9])
 have hf:(upTo 0 (c.log2+1)).filter (λd=>match d with | .int i=>c.testBit i.toNat | _=>false)=nD (cs c):=by
  unfold L2.upTo nD cs;rw[List.filter_map];have:((λd=>match d with | DV.int i=>c.testBit i.toNat | _=>false) ∘ λ(i:Nat)=>DV.int (0+(i:Int)))=c.testBit:=by
   funext j
   show c.testBit ((0:Int)+(j:Int)).toNat=_;rw[show((0:Int)+(j:Int)).toNat=j by omega]
  rw[this];apply G5;intro j _;show DV.int _=DV.int _
  congr 1
  omega
 rw[hf]at cm;unfold q3e;exact r6 (o6 (x5 cm))
theorem z8i{n:Nat}(hn:n<=1000){e:ME}{cl:Cl}(h:evE G F e δ=some (.ok (.int n) cl)):evE G F (.bin .Sub (.bin .LShift (.int 1) e) (.int 1)) δ=some (.ok (.int (((2^n:Nat):Int) - 1)) .strong):=by
 refine L7 (cx:=.strong) (F0 i3 h ?_) i3;show(if 0<=(n:Int)/\(n:Int)<=1000000/\(1:Int).natAbs<2^64 then some (Re.ok (.int (1*2^(n:Int).toNat)) Cl.strong)else none)=_;rw[b8 ⟨D6 n,by omega,by decide⟩,x9,Int.one_mul]
 push_cast
 rfl
theorem z1h{d:DV}{n:Nat}(hn:n<=1000){t:Bool}(h:run G T fu (k+1) 0 [d,.int 1,.int (((2^n:Nat):Int) - 1)]=some (.v (.bl t) false)):run G T fu (k+2) 3 [d,.int n]=if t then some (.v .non false)else some (.x "NoCard"):=by
 rw[n6 (fd:=q1N) rfl rfl];unfold q1N;have c:=j5 (G:=G) (F:=run G T fu (k+1)) (δ:=f8 2 [d,.int n]) (f:=0) (es:=[.var 0,.int 1,.bin .Sub (.bin .LShift (.int 1) (.var 1)) (.int 1)]) (d6 (b7 rfl) (d6 i3 (d6 (z8i hn (b7 rfl)) i4))) rfl h;have q:=R7 c;cases t with
 | true=>exact z7k (w4 (j8 q) rfl)
 | false=>
  have e:evSs G (run G T fu (k+1)) fu [.iff (.not (.call 0 [.var 0,.int 1,.bin .Sub (.bin .LShift (.int 1) (.var 1)) (.int 1)])) [.rse "NoCard" (.str "a set of cards is an int from 1 on with cards of the table alone")] []] (f8 2 [d,.int n])=some (.ex "NoCard" (f8 2 [d,.int n])):=by
   have z:=z0h (G:=G) (F:=run G T fu (k+1)) (fu:=fu) (a:=[.rse "NoCard" (.str "a set of cards is an int from 1 on with cards of the table alone")]) (b:=[]) (j8 q);rw[b8 (show(!false)=true from rfl)]at z;have r:evSs G (run G T fu (k+1)) fu [.rse "NoCard" (.str "a set of cards is an int from 1 on with cards of the table alone")] (f8 2 [d,.int n])=some (.ex "NoCard" (f8 2 [d,.int n])):=by rfl
   rw[r]at z;unfold evSs;rw[z]
  show Ou.of (evSs G (run G T fu (k+1)) fu _ (f8 2 [d,.int n]))=_;rw[e];rfl
theorem y0h(h:c<2^n)(hj:j∈cs c):j<n:=by
 unfold cs at hj;rw[u9]at hj;by_cases q:j<n
 ·exact q
 ·have z:=Nat.testBit_lt_two_pow (u4 h (N8 (by decide) (show n<=j by omega)));rw[z]at hj;cases hj.2
theorem z4G(h0:0<c)(h:c<2^64):(cs c).length<=1000:=by
 have hl:c.log2<64:=(w4b (by omega)).mpr h;unfold cs;exact i7 (w1T _ _) (by rw[w6];omega)
theorem y1d(rows:List (List Int))(n m a b:Nat)(R:Rect n m rows)(hn:0<n)(hn2:n<=64)(hm2:m<=64)(a0:0<a)(a1:a<2^n)(b0:0<b)(b1:b<2^m):run G T fu (k+3) 2 [tT rows,.int a,.int b]=some (.v (tT (sub rows (cs a) (cs b))) false):=by
 rw[n6 (fd:=z3z) rfl rfl];obtain⟨r0,rest,rfl⟩:∃r0 rest,rows=r0::rest:=by
  cases rows with
  | nil=>have:=R.1;simp at this;omega
  | cons a b=>exact⟨a,b,rfl⟩
 have hr0:r0.length=m:=R.2 r0 (i8 ..);have a2:a<2^64:=u4 a1 (N8 (by decide) hn2);have b2:b<2^64:=u4 b1 (N8 (by decide) hm2);have l1:evE G (run G T fu (k+2)) (.bi .len [.var 0]) (f8 3 [tT (r0::rest),.int a,.int b])=some (.ok (.int (n:Nat)) .strong):=(by have q:=T9 (F:=run G T fu (k+2)) (δ:=f8 3 [tT (r0::rest),.int a,.int b]) (e:=.var 0) (ds:=(r0::rest).map λr=>.tup (iD r)) (c:=.strong) rfl;rw[d5,R.1]at q;exact q);have l2:evE G (run G T fu (k+2)) (.bi .len [.ix (.var 0) (.int 0)]) (f8 3 [tT (r0::rest),.int a,.int b])=some (.ok (.int (m:Nat)) .strong):=(by have e:evE G (run G T fu (k+2)) (.ix (.var 0) (.int 0)) (f8 3 [tT (r0::rest),.int a,.int b])=some (.ok (.tup (iD r0)) .strong):=u0 (x:=tT (r0::rest)) (y:=.int 0) (b7 rfl) i3 (q5G (rows:=r0::rest) (i:=0) (by simp));have q:=T9 e;rw[show(iD r0).length=m by unfold iD;rw[d5,hr0]]at q;exact q);have c1:=z1h (fu:=fu) (k:=k) (d:=.int a) (n:=n) (t:=true) (by omega) (by rw[q9b,B8 (by omega),B8 (by omega)];rfl);have c2:=z1h (fu:=fu) (k:=k) (d:=.int b) (n:=m) (t:=true) (by omega) (by rw[q9b,B8 (by omega),B8 (by omega)];rfl);have g:=q5N (fu:=fu) (k:=k+1) (r0::rest) n m R (cs a) (cs b) (λi hi=>y0h a1 hi) (λj hj=>y0h b1 hj) (z4G a0 a2) (z4G b0 b2);unfold z3z;exact r6 (i5 (z1V (j5 (d6 (b7 rfl) (d6 l1 i4)) rfl c1)) (i5 (z1V (j5 (d6 (b7 rfl) (d6 l2 i4)) rfl c2)) (o6 (x5 (j5 (d6 (b7 rfl) (d6 (j5 (d6 (b7 rfl) i4) rfl (q5S a a0 a2)) (d6 (j5 (d6 (b7 rfl) i4) rfl (q5S b b0 b2)) i4))) rfl g)))))
def cd(n:Nat):Nat->List Int
 | 0=>[]
 | l+1=>((n/2^l%2:Nat):Int)::cd n l
theorem z8p(h:evE G F e δ=some (.ok (.int i) cl)):evE G F (.neg e) δ=some (.ok (.int (-i)) .strong):=by
 unfold evE;rw[h];rfl
def hd(l:List Nat):DV:=match l with | []=>.non | c::_=>.int c
section
variable {G:Gs} {F:Nat->List DV->Option Ou} {δ:List Sv} {fu:Nat} {d:DV} {r:List MS}
end
end
section
theorem q8S{α:Type}{p q:α->Bool}:∀{l:List α},(∀x∈l,p x=true->q x=true)->(l.filter p).length<=(l.filter q).length
 | [],_=>e9 _
 | a::l,h=>by
  have ih:=q8S (p:=p) (q:=q) (l:=l) λx hx=>h x (i6 _ hx);cases ep:p a with
  | false=>
   rw[w2f (by rw[ep];decide)];cases eq:q a with
   | false=>rw[w2f (by rw[eq];decide)];exact ih
   | true=>rw[w1N eq,x4];omega
  | true=>
   rw[w1N ep,w1N (h a (i8 ..) ep),x4,x4];omega
theorem z5c{α:Type}{p q r:α->Bool}:∀{l:List α},(∀x∈l,p x=true->q x=true\/r x=true)->(l.filter p).length<=(l.filter q).length+(l.filter r).length
 | [],_=>e9 _
 | a::l,h=>by
  have ih:=z5c (p:=p) (q:=q) (r:=r) (l:=l) λx hx=>h x (i6 _ hx);have ha:=h a (i8 ..);rw[Z3,Z3,Z3];cases ep:p a<;>cases eq:q a<;>cases er:r a<;>simp only[if_true,if_false,x4,N9]<;>first | omega | exact absurd (ha ep) (by rw[eq,er];simp)
theorem z1O{α:Type}{p q:α->Bool}:∀{l:List α},(l.filter p).length=(l.filter λx=>p x&&q x).length+(l.filter λx=>p x && !q x).length
 | []=>rfl
 | a::l=>by have ih:=z1O (p:=p) (q:=q) (l:=l);rw[Z3,Z3,Z3];cases ep:p a<;>cases eq:q a<;>simp<;>omega
theorem z0E{g:Nat->Nat}(h0:g 0=0)(hs:∀t,t<10->g (t+1)<=g t+1):∀N n,N<=10->n<=g N->∃t,t<=N/\g t=n
 | 0,n,_,h=>⟨0,e9 _,by omega⟩
 | N+1,n,hN,h=>by
  by_cases q:n<=g N
  ·obtain⟨t,h1,h2⟩:=z0E h0 hs N n (by omega) q;exact⟨t,by omega,h2⟩
  ·have:=hs N (by omega);exact⟨N+1,e9 _,by omega⟩
theorem z4O:∀t,t<10->((List.range 10).filter λw=>w==t).length<=1:=by decide
theorem N3(h:j∈cs c):c.testBit j=true:=(u9.mp h).2
theorem X7(h:c.testBit j=true):j∈cs c:=by
 refine u9.mpr ⟨s9.mpr ?_,h⟩;have h1:=w2I h;have h0:c≠0:=by intro z;rw[z,Nat.zero_testBit]at h;cases h
 have:=(Nat.le_log2 h0).mpr h1;omega
theorem tb5(hc:c<32)(h:c.testBit j=true):j<5:=by
 have h1:=w2I h;rcases Q8 j 5 with z | z
 ·exact z
 ·have:2^5<=2^j:=N8 (by decide) z;omega
def Sb(h C:Nat):Prop:=0<h/\h<C/\h &&& C=h
theorem z6p:∀C,C<32->∀h,h<32->h &&& C=h->∀j,j<5->(C - h).testBit j=(C.testBit j && !h.testBit j)/\(h.testBit j=true->C.testBit j=true):=by decide +kernel
theorem Sb.lt{h C:Nat}(s:Sb h C)(hC:C<32):h<32:=w3O s.2.1 hC
theorem z9D(s:Sb h C)(hC:C<32)(hj:j∈cs (C - h)):j∈cs C/\j∉cs h:=by
 have hb:=N3 hj;have h5:=tb5 (show C - h<32 by omega) hb;rw[(z6p C hC h (s.lt hC) s.2.2 j h5).1,b9]at hb;refine⟨X7 hb.1,λz=>?_⟩;rw[N3 z]at hb;exact absurd hb.2 (by decide)
theorem z6j:∀R,R<32->2<=(cs R).length->∃h∈List.range 32,(0<h/\h<R/\h &&& R=h)/\2*(cs h).length<=(cs R).length+1/\2*(cs (R - h)).length<=(cs R).length+1:=by decide +kernel
theorem z3i:∀b0 b1 b2 b3 b4:Bool,∃h∈List.range 32,h.testBit 0=b0/\h.testBit 1=b1/\h.testBit 2=b2/\h.testBit 3=b3/\h.testBit 4=b4:=by decide +kernel
theorem z5Z(q:Nat->Bool):∃h,h<32/\∀j,j<5->h.testBit j=q j:=by
 obtain⟨h,h1,e0,e1,e2,e3,e4⟩:=z3i (q 0) (q 1) (q 2) (q 3) (q 4);refine⟨h,s9.mp h1,λj hj=>?_⟩
 match j,hj with
 | 0,_=>exact e0
 | 1,_=>exact e1
 | 2,_=>exact e2
 | 3,_=>exact e3
 | 4,_=>exact e4
theorem z9j:∀C,C<32->∀h,h<32->(∀j,j<5->h.testBit j=true->C.testBit j=true)->h &&& C=h/\h<=C:=by decide +kernel
theorem tb0(e:h.testBit j=true):0<h:=by
 rcases w3p h with z | z
 ·rw[z,Nat.zero_testBit]at e;cases e
 ·exact z
theorem q6S:∀c,c<32->0<c->0<(cs c).length:=by decide +kernel
abbrev Mx:=Nat->Nat->Int
def wp(f:Mx)(R C:Nat)(w:Nat):Bool:=(cs R).any λi=>(cs C).any λj=>f i j==(w:Int)
def wn(f:Mx)(R C:Nat):Nat:=((List.range 10).filter (wp f R C)).length
theorem U2:wp f R C w=true↔∃i j,i∈cs R/\j∈cs C/\f i j=(w:Int):=by
 unfold wp;rw[M4];constructor
 ·rintro⟨i,hi,h⟩
  obtain⟨j,hj,h⟩:=M4.mp h;exact⟨i,j,hi,hj,d8.mp h⟩
 ·rintro⟨i,j,hi,hj,h⟩
  exact⟨i,hi,M4.mpr ⟨j,hj,d8.mpr h⟩⟩
theorem z1k(hC:C<32)(h1:(cs R).length=1)(h2:2<=wn f R C):∃h,Sb h C/\2*wn f R h<=wn f R C+1/\2*wn f R (C - h)<=wn f R C+1:=by
 obtain⟨i,hi⟩:∃i,cs R=[i]:=by
  match e:cs R,h1 with
  | [i],_=>exact⟨i,rfl⟩
 let g:Nat->Nat:=λt=>((List.range 10).filter λw=>wp f R C w&&decide (w<t)).length
 have g0:g 0=0:=(by show((List.range 10).filter λw=>wp f R C w&&decide (w<0)).length=0;rw[show(λw=>wp f R C w&&decide (w<0))=λ_=>false from funext λw=>by simp];simp);have gs:∀t,t<10->g (t+1)<=g t+1:=λt ht=>by
  refine i7 (z5c (q:=λw=>wp f R C w&&decide (w<t)) (r:=λw=>w==t) λw _ h=>?_) (Nat.add_le_add_left (z4O t ht) _);rw[b9,A2]at h;by_cases z:w=t
  ·exact .inr (d8.mpr z)
  ·exact .inl (by rw[b9,A2];exact⟨h.1,by omega⟩)
 have gN:wn f R C<=g 10:=q8S λw hw h=>by rw[b9,A2];exact⟨h,s9.mp hw⟩
 obtain⟨t,_,ht⟩:=z0E g0 gs 10 ((wn f R C+1)/2) (e9 _) (by omega);have sm:wn f R C=g t+((List.range 10).filter λw=>wp f R C w && !decide (w<t)).length:=z1O;obtain⟨h,hh,hb⟩:=z5Z λj=>C.testBit j&&decide (f i j<(t:Int))
 obtain⟨s1,s2⟩:=z9j C hC h hh λj hj e=>by rw[hb j hj,b9]at e;exact e.1
 have inh:∀j,j∈cs h↔j∈cs C/\f i j<(t:Int):=λj=>by
  constructor
  ·intro e;have e':=N3 e;rw[hb j (tb5 hh e'),b9,A2]at e';exact⟨X7 e'.1,e'.2⟩
  ·rintro⟨e1,e2⟩
   have e':=N3 e1;exact X7 (by rw[hb j (tb5 hC e'),e',V1,A2];exact e2)
 have ex:∀{p:Nat->Bool},0<((List.range 10).filter λw=>wp f R C w&&p w).length->∃w j,p w=true/\j∈cs C/\f i j=(w:Int):=λ{p} hp=>by obtain⟨w,hw⟩:=w1y hp;have hw:=(u9.mp hw).2;rw[b9]at hw;obtain⟨i',j,a,b,c⟩:=U2.mp hw.1;rw[hi,u8]at a;subst a;exact⟨w,j,hw.2,b,c⟩
 have hpos:0<h:=(by obtain⟨w,j,e1,e2,e3⟩:=ex (p:=λw=>decide (w<t)) (by show 0<g t;omega);have:j∈cs h:=(inh j).mpr ⟨e2,by rw[e3];have:=of_decide_eq_true e1;omega⟩;exact tb0 (N3 this));have hlt:h<C:=by
  rcases Q8 h C with z | z
  ·exact z
  ·exfalso;have e:h=C:=Nat.le_antisymm s2 z;obtain⟨w,j,e1,e2,e3⟩:=ex (p:=λw=>!decide (w<t)) (by omega);have:=((inh j).mp (by rw[e];exact e2)).2;rw[e3]at this;rw[t8,w2R]at e1;omega
 have s:Sb h C:=⟨hpos,hlt,s1⟩;refine⟨h,s,?_,?_⟩
 ·have:wn f R h<=g t:=q8S λw _ q=>by
   obtain⟨i',j,a,b,c⟩:=U2.mp q;have a':=a;rw[hi,u8]at a';subst a';obtain⟨b1,b2⟩:=(inh j).mp b;rw[b9,A2];exact⟨U2.mpr ⟨_,j,a,b1,c⟩,by rw[c]at b2;omega⟩
  omega
 ·have:wn f R (C - h)<=((List.range 10).filter λw=>wp f R C w && !decide (w<t)).length:=q8S λw _ q=>by
   obtain⟨i',j,a,b,c⟩:=U2.mp q;have a':=a;rw[hi,u8]at a';subst a';obtain⟨b1,b2⟩:=z9D s hC b;rw[b9,t8,w2R];refine⟨U2.mpr ⟨_,j,a,b1,c⟩,λz=>b2 ((inh j).mpr ⟨b1,?_⟩)⟩;rw[c];omega
  omega
def hv(R:Nat):List Nat:=((List.range (R - 1)).map (· + 1)).filter λh=>h &&& R==h&&decide (h<R - h)
theorem z7f:∀R,R<32->∀h,h<32->0<h->h<R->h &&& R=h->((hv R).contains h||((hv R).contains (R - h)&&decide (R - (R - h)=h)))=true:=by decide +kernel
theorem z2H(R:Nat)(hR:R<32)(h:Nat)(hh:h<32)(s:Sb h R):h∈hv R\/(R - h∈hv R/\R - (R - h)=h):=by
 have:=z7f R hR h hh s.1 s.2.1 s.2.2;rw[C7,b9,A2]at this;rcases this with z | z
 ·exact .inl (M2.mp z)
 ·exact .inr ⟨M2.mp z.1,z.2⟩
theorem z0m(q:h∈hv R):Sb h R/\h<R - h:=by
 obtain⟨h1,h2⟩:=u9.mp q;obtain⟨i,hi,rfl⟩:=f9.mp h1;rw[b9,d8,A2]at h2;have:=s9.mp hi;exact⟨⟨by omega,by omega,h2.1⟩,h2.2⟩
theorem y0K(hR:R<32)(hC:C<32)(R0:0<R)(C0:0<C)(h2:2<=wn f R C):hv R≠[]\/hv C≠[]:=by
 have key:∀R,R<32->(∃h,Sb h R)->hv R≠[]:=λR hR ⟨h,s⟩ e=>by
  rcases z2H R hR h (s.lt hR) s with z | z
  ·rw[e]at z;cases z
  ·rw[e]at z;cases z.1
 have rp:=q6S R hR R0;by_cases hr:2<=(cs R).length
 ·obtain⟨h,_,s,_⟩:=z6j R hR hr;exact .inl (key R hR ⟨h,s⟩)
 ·obtain⟨h,s,_⟩:=z1k (f:=f) hC (by omega) h2;exact .inr (key C hC ⟨h,s⟩)
end
section
variable {fu k:Nat} {F:Nat->List DV->Option Ou} {δ:List Sv} {ds:List DV} {cl:Cl} {N M:Nat} {R C:Nat}
theorem q5K{b:ME}{n:Nat}{cx:Cl}(hb:evE G F b δ=some (.ok (.int n) cx))(hn:n<=1000):j3 (evE G F (.rng [.int 1,b]) δ)=some (.ok (upTo 1 (n - 1)) .fresh):=by
 show j3 (Rs.thn (evEs G F [.int 1,b] δ) (λl=>(rngD l).map λds=>.ok (.lst ds) .fresh))=_;rw[d6 i3 (d6 hb i4),W1];have hs:(C9 1&&C9 (n:Int)&&decide ((n:Int) - 1<=(mostLen:Int)))=true:=by rw[b9,b9,F6];refine⟨⟨by decide,?_⟩,Z9 (show(n:Int) - 1<=1000 by omega) (by decide)⟩;unfold C9;rw[b9,F6,F6];exact⟨Z9 (by decide) (D6 n),w3s (show(n:Int)<=1000 by omega) (by decide)⟩
 show j3 ((if C9 1&&C9 (n:Int)&&decide ((n:Int) - 1<=(mostLen:Int))then some (upTo 1 ((n:Int) - 1).toNat)else none).map λds=>.ok (.lst ds) .fresh)=_;rw[b8 hs,show((n:Int) - 1).toNat=n - 1 by omega];rfl
theorem y0u(n:Nat):upTo 1 n=((List.range n).map (· + 1)).map λ(h:Nat)=>DV.int (h:Int):=by
 unfold L2.upTo;rw[j4];apply G5;intro j _;show DV.int _=DV.int _
 congr 1
 simp only[Function.comp];omega
theorem z4T{a b:ME}{i j:Nat}{cx cy:Cl}(ha:evE G F a δ=some (.ok (.int i) cx))(hb:evE G F b δ=some (.ok (.int j) cy)):evE G F (.bin .BitAnd a b) δ=some (.ok (.int ((i &&& j:Nat):Int)) .strong):=F0 ha hb (by show some (Re.ok (.int (Builtin.bitAnd (i:Int) (j:Int))) .strong)=_;rw[q8P])
theorem z6a{i j:Nat}(ha:evE G F a δ=some (.ok (.int i) cx))(hb:evE G F b δ=some (.ok (.int j) cy)):evE G F (.cmp .Eq a b) δ=some (.ok (.bl (i==j)) .strong):=by
 rw[b_eq ha hb]
 congr 3
 rw[U9,d8,d8];omega
theorem q9d(hR:R<32):run G T fu (k+1) 18 [.int R]=some (.v (.lst (nD (hv R))) true):=by
 rw[n6 (fd:=q4D) rfl rfl];unfold q4D;have w:=q5K (F:=run G T fu k) (δ:=f8 1 [.int R]) (b:=.var 0) (n:=R) (b7 rfl) (by omega);rw[y0u]at w;refine r6 (o6 (x5 (cl:=.fresh) (q2N (f:=λ(h:Nat)=>.int (h:Int)) (p:=λh=>h &&& R==h&&decide (h<R - h)) w (by decide) (by rw[d5,w6];exact i7 (show R - 1<=1000 by omega) (by decide)) λh hh=>?_)));refine⟨[.val (.int h),.val (.int R)],rfl,?_,.strong,b7 rfl,rfl⟩;obtain⟨i,hi,rfl⟩:=f9.mp hh;have:=s9.mp hi;have e1:=z6a (F:=run G T fu k) (δ:=[.val (.int ((i+1:Nat):Int)),.val (.int R)]) (z4T (a:=.var 0) (b:=.var 1) (b7 rfl) (b7 rfl)) (b7 (n:=0) rfl);have e2:=b_lt (G:=G) (F:=run G T fu k) (δ:=[.val (.int ((i+1:Nat):Int)),.val (.int R)]) (b7 (n:=0) rfl) (L7 (a:=.var 1) (b:=.var 0) (b7 rfl) (b7 rfl));have e3:decide (((i+1:Nat):Int)<(R:Int) - ((i+1:Nat):Int))=decide (i+1<R - (i+1)):=by rw[w3S];omega
 rw[e3]at e2;cases q:((i+1) &&& R==i+1)with
 | true=>
  rw[q]at e1;rw[z1r e1 (z2T e2)];rfl
 | false=>
  rw[q]at e1;rw[z3V e1];rfl
theorem ln4{α:Type}{l:List α}(h:l.length<=4):l.length<=mostLen:=i7 h (by decide)
abbrev Wy:=DV×Nat×(Nat×Nat)×(Nat×Nat)
def wD(a:Wy):DV:=.tup [a.1,.int a.2.1,.tup [.int a.2.2.1.1,.int a.2.2.1.2],.tup [.int a.2.2.2.1,.int a.2.2.2.2]]
def wl(R C:Nat):List Wy:=(hv R).map (λh=>(.str "row",h,(R - h,C),(h,C)))++(hv C).map (λh=>(.str "column",h,(R,C - h),(R,h)))
theorem q6a(h:R<32):(hv R).length<=31:=by
 unfold hv;refine i7 (w1T ..) ?_;rw[d5,w6];omega
theorem q4F{a b:Nat}(h:b<a):(a:Int) - (b:Int)=((a - b:Nat):Int):=by omega
theorem z4D(hR:R<32)(hC:C<32):run G T fu (k+2) 17 [.int R,.int C]=some (.v (.lst ((wl R C).map wD)) true):=by
 rw[n6 (fd:=q4L) rfl rfl];unfold q4L;have c1:=j5 (G:=G) (F:=run G T fu (k+1)) (δ:=f8 4 [.int R,.int C]) (f:=18) (es:=[.var 0]) (l:=[(.int R,.strong)]) rfl rfl (q9d (k:=k) (fu:=fu) hR);have c2:=j5 (G:=G) (F:=run G T fu (k+1)) (δ:=[.val (.int R),.val (.int C),.val (.lst ((hv R).map λh=>wD (.str "row",h,(R - h,C),(h,C)))),.no]) (f:=18) (es:=[.var 1]) (l:=[(.int C,.strong)]) rfl rfl (q9d (k:=k) (fu:=fu) hC);have w1:j3 (evE G (run G T fu (k+1)) (.call 18 [.var 0]) (f8 4 [.int R,.int C]))=some (.ok ((hv R).map λ(h:Nat)=>DV.int (h:Int)) .fresh):=by rw[c1];rfl
 have w2:j3 (evE G (run G T fu (k+1)) (.call 18 [.var 1]) [.val (.int R),.val (.int C),.val (.lst ((hv R).map λh=>wD (.str "row",h,(R - h,C),(h,C)))),.no])=some (.ok ((hv C).map λ(h:Nat)=>DV.int (h:Int)) .fresh):=by rw[c2];rfl
 have m1:=C5 (elt:=.tup [.str "row",.var 0,.tup [.bin .Sub (.var 1) (.var 0),.var 2],.tup [.var 0,.var 2]]) (tg:=.one 0) (fr:=[none,some 0,some 1]) (f:=λh=>wD (.str "row",h,(R - h,C),(h,C))) w1 (by decide) (i7 (q6a hR) (by decide)) λh hh=>
  ⟨[.val (.int h),.val (.int R),.val (.int C)],.strong,rfl,by
   have s:=L7 (G:=G) (F:=run G T fu (k+1)) (δ:=[.val (.int h),.val (.int R),.val (.int C)]) (a:=.var 1) (b:=.var 0) (i:=R) (j:=h) (b7 rfl) (b7 rfl);rw[q4F (z0m hh).1.2.1]at s;exact E3 (d6 z5q (d6 (b7 rfl) (d6 (E3 (d6 s (d6 (b7 rfl) i4)) (ln4 (by simp)) rfl) (d6 (E3 (d6 (b7 rfl) (d6 (b7 rfl) i4)) (ln4 (by simp)) rfl) i4)))) (ln4 (by simp)) rfl,rfl⟩
 have m2:=C5 (elt:=.tup [.str "column",.var 0,.tup [.var 1,.bin .Sub (.var 2) (.var 0)],.tup [.var 1,.var 0]]) (tg:=.one 0) (fr:=[none,some 0,some 1]) (f:=λh=>wD (.str "column",h,(R,C - h),(R,h))) w2 (by decide) (i7 (q6a hC) (by decide)) λh hh=>
  ⟨[.val (.int h),.val (.int R),.val (.int C)],.strong,rfl,by
   have s:=L7 (G:=G) (F:=run G T fu (k+1)) (δ:=[.val (.int h),.val (.int R),.val (.int C)]) (a:=.var 2) (b:=.var 0) (i:=C) (j:=h) (b7 rfl) (b7 rfl);rw[q4F (z0m hh).1.2.1]at s;exact E3 (d6 z5q (d6 (b7 rfl) (d6 (E3 (d6 (b7 rfl) (d6 s i4)) (ln4 (by simp)) rfl) (d6 (E3 (d6 (b7 rfl) (d6 (b7 rfl) i4)) (ln4 (by simp)) rfl) i4)))) (ln4 (by simp)) rfl,rfl⟩
 refine r6 (i5 (j7 m1 rfl) (i5 (j7 m2 rfl) (o6 (x5 (cl:=.fresh) ?_))));refine(F0 (b7 rfl) (b7 rfl) (show binD .Add (.lst ((hv R).map λh=>wD (.str "row",h,(R - h,C),(h,C)))) (.lst ((hv C).map λh=>wD (.str "column",h,(R,C - h),(R,h)))) .strong .strong=some (.ok (.lst ((wl R C).map wD)) .fresh)from ?_));show(if((hv R).map λh=>wD (.str "row",h,(R - h,C),(h,C))).length+((hv C).map λh=>wD (.str "column",h,(R,C - h),(R,h))).length<=mostLen then _ else none)=_;rw[b8]
 ·unfold wl;rw[z9,j4,j4];rfl
 ·rw[d5,d5];exact i7 (w3l (q6a hR) (q6a hC)) (by decide)
theorem z3q(a b:Nat):run G T fu (k+1) 15 [.int a,.int b]=some (.v (.int ((1+max a b:Nat):Int)) false):=by
 rw[n6 (fd:=q1P) rfl rfl];unfold q1P;have m:evE G (run G T fu k) (.bi .max [.var 0,.var 1]) (f8 2 [.int a,.int b])=some (.ok (.int ((max a b:Nat):Int)) .strong):=by
  show some (Re.ok (.int (if(b:Int)>(a:Int)then(b:Int)else(a:Int))) .strong)=_
  congr 3
  by_cases h:(b:Int)>(a:Int)
  ·rw[b8 h];omega
  ·rw[d7 h];omega
 have s:=H9 (i3 (G:=G) (F:=run G T fu k) (δ:=f8 2 [.int a,.int b]) (i:=1)) m;rw[show(1:Int)+((max a b:Nat):Int)=((1+max a b:Nat):Int) by omega]at s;exact r6 (o6 (x5 s))
abbrev Tb:=List ((Nat×Nat)×Nat)
def kk(p:Nat×Nat):DKey:=.t [.inl (p.1:Int),.inl (p.2:Int)]
def dC(L:Tb):DV:=.dct (L.map λp=>kk p.1) (L.map λp=>.int (p.2:Int))
def dD(L:Tb):DV:=.tup [dC L]
theorem z5k(h:kk p=kk q):p=q:=by
 unfold kk at h;obtain⟨a,b⟩:=p;obtain⟨c,d⟩:=q;simp at h;obtain⟨h1,h2⟩:=h;rw[Int.ofNat.inj h1,Int.ofNat.inj h2]
theorem q7M(q:Nat×Nat):∀L:Tb,E2 (kk q) (L.map λp=>kk p.1) (L.map λp=>.int (p.2:Int))=(L.lookup q).map λz=>DV.int ((z:Nat):Int)
 | []=>rfl
 | (p,z)::L=>by
  show(if kk p=kk q then some (DV.int (z:Int))else E2 (kk q) (L.map λp=>kk p.1) (L.map λp=>.int (p.2:Int)))=_;rw[D7];by_cases h:p=q
  ·rw[b8 (by rw[h]),h,Z0];rfl
  ·rw[d7 (λe=>h (z5k e)),q7M q L,show(q==p)=false from t7.mpr (Ne.symm h)]
theorem z4U:∀{L:Tb},L.lookup q=none->kk q∉L.map λp=>kk p.1
 | [],_,h=>by cases h
 | (p,z)::L,e,h=>by
  rw[D7]at e;split at e
  ·cases e
  ·rename_i hb;rcases e8.mp h with w | w
   ·rw[z5k w,Z0]at hb;cases hb
   ·exact z4U e w
theorem z5e{i:Nat}{e:ME}{L:Tb}{r c z:Nat}{cx:Cl}(h0:δ[i]? = some (.od (dD L)))(h:evE G F e δ=some (.ok (.tup [.int r,.int c]) cx))(hl:L.lookup (r,c)=some z):evE G F (.dgp i e) δ=some (.ok (.int z) .strong):=by
 have e1:evE G F (.dgp i e) δ=(match δ[i]? with
  | some (.od (.tup [.dct ks vs]))=>Re.thn (evE G F e δ) λy _=>dgpD ks vs y
  | _=>none):=by rw[evE]<;>rfl
 rw[e1,h0];show Re.thn (evE G F e δ) (λy _=>dgpD (L.map λp=>kk p.1) (L.map λp=>.int (p.2:Int)) y)=_;rw[h,u6];show(match E2 (kk (r,c)) (L.map λp=>kk p.1) (L.map λp=>.int (p.2:Int))with | some (.int v)=>some (Re.ok (.int v) .strong) | _=>none)=_;rw[q7M,hl];rfl
theorem z2Z{i:Nat}{a b e:ME}{L:Tb}{r c z:Nat}{cx cy cz:Cl}(h0:δ[i]? = some (.od (dD L)))(he:evE G F e δ=some (.ok (.int z) cz))(ha:evE G F a δ=some (.ok (.int r) cx))(hb:evE G F b δ=some (.ok (.int c) cy))(hn:L.lookup (r,c)=none)(hl:L.length<100000):evS G F fu (.dpp i [a,b] e) δ=some (.nx (δ.set i (.od (dD (L++[((r,c),z)]))))):=by
 have e1:evS G F fu (.dpp i [a,b] e) δ=(match δ[i]? with
  | some (.od (.tup [.dct kk vs]))=>Re.thnS δ (evE G F e δ) λd _=>Rs.thnS δ (evEs G F [a,b] δ) λl=>(dppD i δ kk vs l d).map Out.nx
  | _=>none):=by rw[evS]<;>rfl
 rw[e1,h0];show Re.thnS δ (evE G F e δ) (λd _=>Rs.thnS δ (evEs G F [a,b] δ) λl=>(dppD i δ (L.map λp=>kk p.1) (L.map λp=>.int (p.2:Int)) l d).map Out.nx)=_;rw[he];show Rs.thnS δ (evEs G F [a,b] δ) (λl=>(dppD i δ (L.map λp=>kk p.1) (L.map λp=>.int (p.2:Int)) l (.int z)).map Out.nx)=_;rw[d6 ha (d6 hb i4)];show((if(L.map λp=>kk p.1).length<mostLen then some (δ.set i (.od (.tup [.dct (putD (kk (r,c)) (.int z) (L.map λp=>kk p.1) (L.map λp=>.int (p.2:Int))).1 (putD (kk (r,c)) (.int z) (L.map λp=>kk p.1) (L.map λp=>.int (p.2:Int))).2])))else none).map Out.nx)=_;rw[b8 (by rw[d5];exact w3O hl (by decide))];unfold putD;rw[d7 (z4U hn)];unfold dD dC;rw[z9,z9];rfl
theorem z3Z(h0:δ[i]? = some (.val (.fn x)))(hx:xs.lookup x=some f)(ha:evEs G F es δ=some (.ok l))(hs:(l.all λp=>p.2 == .strong||p.2 == .fresh)=true)(h:F f (l.map (·.1))=some (.v d false)):evE G F (.callv i xs es) δ=some (.ok d .strong):=by
 have e1:evE G F (.callv i xs es) δ=(match δ[i]? with
  | some (.val (.fn x))=>(match xs.lookup x with
   | some f=>Rs.thn (evEs G F es δ) λl=>A5 F f l
   | none=>none)
  | _=>none):=by rw[evE]<;>rfl
 rw[e1,h0];show(match xs.lookup x with
   | some f=>Rs.thn (evEs G F es δ) λl=>A5 F f l
   | none=>none)=_
 rw[hx];show Rs.thn (evEs G F es δ) (λl=>A5 F f l)=_;rw[ha];show A5 F f l=_;unfold A5;rw[h,hs];rfl
theorem q8i:∀(r:List Int) (m:Int),(minI m r=m\/minI m r∈r)/\minI m r<=m/\∀x∈r,minI m r<=x
 | [],m=>⟨.inl rfl,w4c _,λx hx=>nomatch hx⟩
 | y::r,m=>by
  show(minI (if y<m then y else m) r=m\/minI (if y<m then y else m) r∈y::r)/\minI (if y<m then y else m) r<=m/\∀x∈y::r,minI (if y<m then y else m) r<=x;obtain⟨h1,h2,h3⟩:=q8i r (if y<m then y else m);by_cases q:y<m
  ·rw[b8 q]at h1 h2 h3 ⊢;refine⟨.inr ?_,by omega,λx hx=>?_⟩
   ·rcases h1 with z | z
    ·rw[z];exact i8 ..
    ·exact i6 _ z
   ·rcases e8.mp hx with z | z
    ·rw[z];exact h2
    ·exact h3 x z
  ·rw[d7 q]at h1 h2 h3 ⊢;refine⟨?_,h2,λx hx=>?_⟩
   ·rcases h1 with z | z
    ·exact .inl z
    ·exact .inr (i6 _ z)
   ·rcases e8.mp hx with z | z
    ·rw[z];omega
    ·exact h3 x z
theorem z2q:∀l:List Nat,ints? (nD l)=some (l.map λ(j:Nat)=>(j:Int))
 | []=>rfl
 | a::l=>by show(ints? (nD l)).map ((a:Int) :: ·)=_;rw[z2q l];rfl
theorem z2r(h:evE G F e δ=some (.ok (.lst (nD l)) cl))(hl:l≠[]):∃z∈l,(∀x∈l,z<=x)/\evE G F (.bi .min [e]) δ=some (.ok (.int (z:Nat)) .strong):=by
 cases l with
 | nil=>exact absurd rfl hl
 | cons a l=>
  obtain⟨h1,h2,h3⟩:=q8i (l.map λ(j:Nat)=>(j:Int)) a;have e1:evE G F (.bi .min [e]) δ=some (.ok (.int (minI a (l.map λ(j:Nat)=>(j:Int)))) .strong):=by rw[z2W (d6 h i4)];show(match ints? (nD (a::l))with | some (n::r)=>some (Re.ok (.int (minI n r)) .strong) | _=>_)=_;rw[z2q];rfl
  obtain⟨z,hz,ez⟩:∃z∈a::l,minI a (l.map λ(j:Nat)=>(j:Int))=((z:Nat):Int):=by
   rcases h1 with q | q
   ·exact⟨a,i8 ..,q⟩
   ·obtain⟨z,hz,q⟩:=f9.mp q;exact⟨z,i6 _ hz,q.symm⟩
  refine⟨z,hz,λx hx=>?_,by rw[e1,ez]⟩;rw[ez]at h2 h3;rcases e8.mp hx with q | q
  ·rw[q];omega
  ·have:=h3 (x:Int) (f9.mpr ⟨x,q,rfl⟩);omega
end
section
variable {fu k:Nat} {F:Nat->List DV->Option Ou} {δ:List Sv} {ds:List DV} {cl:Cl} {R C a b:Nat} {rest:List (List Int)} {L:Tb}
def mf(rest:List (List Int)):Mx:=λi j=>(rest.getD i []).getD j 0
theorem y1U(rest:List (List Int))(R C:Nat):WI (sub rest (cs R) (cs C))=(List.range 10).filter (wp (mf rest) R C):=by
 unfold WI sub wp mf
 congr 1
 funext w
 rw[Q9]
 congr 1
 funext i
 show((cs C).map λj=>(rest.getD i []).getD j 0).any (λx=>x==(w:Int))=_;rw[Q9];rfl
def W9(rest:List (List Int)):Prop:=∀r∈rest,∀x∈r,0<=x/\x<=9
theorem z1l{r:List Int}{j:Nat}(h:j<r.length):r.getD j 0∈r:=by
 rw[D2,p7 h];exact Z1 h
theorem z3s(rc:Rect a b rest)(w9:W9 rest)(hi:i<a)(hj:j<b):0<=mf rest i j/\mf rest i j<=9:=by
 have h1:rest.getD i []∈rest:=F3 (by rw[rc.1];exact hi);exact w9 _ h1 _ (z1l (by rw[rc.2 _ h1];exact hj))
theorem q5P(hc:c<2^n)(h:i∈cs c):i<n:=by
 have h1:=w2I (N3 h);exact(Nat.pow_lt_pow_iff_right (by decide:1<2)).mp (O0 h1 hc)
theorem p32(h:n<=5):2^n<=32:=N8 (n:=2) (by decide) h
theorem cs5:∀c,c<32->(cs c).length<=5:=by decide +kernel
theorem z5n(rc:Rect a b rest)(w9:W9 rest)(ha:a<=5)(hb:b<=5)(R0:0<R)(R1:R<2^a)(C0:0<C)(C1:C<2^b):0<wn (mf rest) R C:=by
 have pa:=p32 ha;have pb:=p32 hb;obtain⟨i,hi⟩:=w1y (q6S R (by omega) R0);obtain⟨j,hj⟩:=w1y (q6S C (by omega) C0);have q:=z3s rc w9 (q5P R1 hi) (q5P C1 hj);unfold wn;refine w2o (a:=(mf rest i j).toNat) (u9.mpr ⟨s9.mpr (by omega),U2.mpr ⟨i,j,hi,hj,by omega⟩⟩)
theorem z6G(rc:Rect a b rest)(w9:W9 rest)(a0:0<a)(ha:a<=5)(hb:b<=5)(R0:0<R)(R1:R<2^a)(C0:0<C)(C1:C<2^b)(h3:δ[3]? = some (.val (tT rest)))(h5:δ[5]? = some (.val (.int R)))(h6:δ[6]? = some (.val (.int C))) :
  evE G (run G T fu (k+3)) (.bi .len [.call 11 [.call 2 [.var 3,.var 5,.var 6]]]) δ=some (.ok (.int (wn (mf rest) R C:Nat)) .strong):=by
 have pa:=p32 ha;have pb:=p32 hb;have rs:Rect (cs R).length (cs C).length (sub rest (cs R) (cs C)):=(by refine⟨by unfold sub;rw[d5],λr hr=>?_⟩;obtain⟨i,_,rfl⟩:=f9.mp hr;rw[d5]);have w9':W9 (sub rest (cs R) (cs C)):=λr hr x hx=>by obtain⟨i,hi,rfl⟩:=f9.mp hr;obtain⟨j,hj,rfl⟩:=f9.mp hx;exact z3s rc w9 (q5P R1 hi) (q5P C1 hj)
 have c1:=j5 (G:=G) (F:=run G T fu (k+3)) (δ:=δ) (f:=2) (es:=[.var 3,.var 5,.var 6]) (d6 (b7 h3) (d6 (b7 h5) (d6 (b7 h6) i4))) rfl (y1d (fu:=fu) (k:=k) rest a b R C rc a0 (by omega) (by omega) R0 R1 C0 C1);have c2:=j5 (G:=G) (F:=run G T fu (k+3)) (δ:=δ) (f:=11) (es:=[.call 2 [.var 3,.var 5,.var 6]]) (d6 c1 i4) rfl (z0d (fu:=fu) (k:=k+2) _ _ _ rs (i7 (cs5 R (by omega)) (by decide)) (i7 (cs5 C (by omega)) (by decide)) w9');have l:=J2 c2;rw[y1U]at l;unfold nD at l;rw[d5]at l;exact l
def lnB:List MS:=[.iff (.cmp .Eq (.bi .len [.call 11 [.call 2 [.var 3,.var 5,.var 6]]]) (.int 1)) [.dpp 4 [.var 5,.var 6] (.var 1)] [.set 7 false (.call 17 [.var 5,.var 6]),.dpp 4 [.var 5,.var 6] (.bi .min [.comp (.callv 4 [("joined_bits",15)] [.dgp 5 (.var 2),.dgp 5 (.var 3)]) (.many [0,1,2,3]) (.var 7) [none,none,none,none,some 2,some 4]])]]
def lnD(t:DV)(rest:List (List Int))(L:Tb)(x y w:Sv):List Sv:=[.val t,.val (.int 0),.val (.fn "joined_bits"),.val (tT rest),.od (dD L),x,y,w]
end
section
variable {fu k:Nat} {F:Nat->List DV->Option Ou} {δ:List Sv} {ds:List DV} {cl:Cl} {R C a b:Nat} {rest:List (List Int)} {L:Tb}
theorem z5r{e:ME}{n:Nat}{cx:Cl}(h:evE G F e δ=some (.ok (.int n) cx))(hn:n<=1000):evE G F (.bin .LShift (.int 1) e) δ=some (.ok (.int ((2^n:Nat):Int)) .strong):=F0 i3 h (by
 show(if 0<=(n:Int)/\(n:Int)<=1000000/\(1:Int).natAbs<2^64 then some (Re.ok (.int (1*2^(n:Int).toNat)) .strong)else none)=_;rw[b8 ⟨by omega,by omega,by decide⟩,x9,Int.one_mul]
 congr 3)
def lnF:MS:=.fo (.one 6) (.rng [.int 1,.bin .LShift (.int 1) (.bi .len [.ix (.var 3) (.int 0)])]) lnB
theorem z4Q(h:noOt i δ=true):evS G F fu (.sep i) δ=some (.nx (δ.set i (.od (dD [])))):=by
 have e1:evS G F fu (.sep i) δ=if noOt i δ then some (.nx (δ.set i (.od (.tup [.dct [] []]))))else none:=by rw[evS]<;>rfl
 rw[e1,b8 h];rfl
theorem z0z(h:δ[i]? = some (.od (dD L))):evS G F fu (.retd i) δ=some (.rt (dC L) false):=by
 have e1:evS G F fu (.retd i) δ=(match δ[i]? with
  | some (.od d)=>some (.rt (unT d) false)
  | _=>none):=by rw[evS]<;>rfl
 rw[e1,h];rfl
theorem q6i(rows:List (List Int))(n m:Nat)(rc:Rect n m rows)(hn:0<n)(hn2:n<=60)(hm2:m<=60)(h1:(FI rows).length<=5)(h2:(FI (flip m rows)).length<=5):run G T fu (k+5) 10 [tT rows]=some (.v .non false):=by
 rw[n6 (fd:=q1f) rfl rfl];unfold q1f;have c:=j5 (G:=G) (F:=run G T fu (k+4)) (δ:=f8 1 [tT rows]) (f:=9) (es:=[.var 0]) (l:=[(tT rows,.strong)]) rfl rfl (q5W (fu:=fu) (k:=k) rows n m rc hn hn2 hm2);have s:sm (FI rows).length (FI (flip m rows)).length=true:=by unfold sm;rw[b9,A2,A2];omega
 rw[s]at c;have q:=R7 c;exact z7k (w4 (j8 q) rfl)
def rst(m:Nat)(rows:List (List Int)):List (List Int):=sub rows (FI rows) (FI (flip m rows))
theorem z9b:∀{L:Tb},L≠[]->kvs? (L.map λp=>kk p.1) (L.map λp=>.int (p.2:Int))=none
 | [],h=>absurd rfl h
 | p::L,_=>rfl
theorem q7N:∀L:Tb,kvp? (L.map λp=>kk p.1) (L.map λp=>.int (p.2:Int))=some (L.map λp=>(((p.1.1:Int),(p.1.2:Int)),(p.2:Int)))
 | []=>rfl
 | p::L=>by show(kvp? (L.map λp=>kk p.1) (L.map λp=>.int (p.2:Int))).map ((((p.1.1:Int),(p.1.2:Int)),(p.2:Int)) :: ·)=_;rw[q7N L];rfl
def tD(p:(Nat×Nat)×Nat):DV:=.tup [.int p.1.1,.int p.1.2,.int p.2]
theorem z6x(L:Tb)(h:L≠[])(hl:L.length<=100000):run G T fu (k+1) 13 [dC L]=some (.v (.lst (L.map tD)) true):=by
 rw[n6 (fd:=q6q) rfl rfl];unfold q6q;have w:j3 (evE G (run G T fu k) (.itm (.var 0)) (f8 1 [dC L]))=some (.ok (L.map λp=>.tup [.tup [.int p.1.1,.int p.1.2],.int p.2]) .strong):=by
  have e1:evE G (run G T fu k) (.itm (.var 0)) (f8 1 [dC L])=Re.thn (evE G (run G T fu k) (.var 0) (f8 1 [dC L])) (λx c=>itmD x c):=rfl;rw[e1,b7 (d:=dC L) rfl,u6];show j3 (if Cl.strong=.strong then(match kvs? (L.map λp=>kk p.1) (L.map λp=>.int (p.2:Int))with
   | some l=>some (.ok (.lst (l.map λp=>.tup [.int p.1,.int p.2])) .strong)
   | none=>(kvp? (L.map λp=>kk p.1) (L.map λp=>.int (p.2:Int))).map (λl=>.ok (.lst (l.map λp=>.tup [.tup [.int p.1.1,.int p.1.2],.int p.2])) .strong))else none)=_
  rw[b8 rfl,z9b h,q7N];show some (Ri.ok ((L.map λp=>(((p.1.1:Int),(p.1.2:Int)),(p.2:Int))).map λp=>.tup [.tup [.int p.1.1,.int p.1.2],.int p.2]) .strong)=_;rw[j4];rfl
 refine r6 (o6 (x5 (cl:=.fresh) (C5 (f:=tD) w (by decide) (i7 hl (by decide)) λp hp=>?_)));refine⟨[.val (.tup [.int p.1.1,.int p.1.2]),.val (.int p.2)],.strong,rfl,?_,rfl⟩;exact E3 (d6 (u0 (cx:=.strong) (b7 rfl) (i3 (i:=0)) rfl) (d6 (u0 (cx:=.strong) (b7 rfl) (i3 (i:=1)) rfl) (d6 (b7 rfl) i4))) (ln4 (by simp)) rfl
theorem z7R(xs:List DV)(x:DV):ixD (.lst (xs++[x])) (.int (-1))=some x:=by
 show(A4 (xs++[x]).length (-1)).bind (λj=>(xs++[x])[j]?)=_;have e:A4 (xs++[x]).length (-1)=some xs.length:=by
  unfold A4;rw[d7 (by decide),b8 (by rw[p9];simp;omega)];rw[p9]
  congr 1
  simp;omega
 rw[e,J7,N5 (e9 _),Nat.sub_self];rfl
end
section
variable {fu k:Nat} {F:Nat->List DV->Option Ou} {δ:List Sv} {ds:List DV} {cl:Cl}
theorem q9k(c:Int)(n:Nat)(hn:n<=1000):∃xs:List Int,xs.length=n/\run G T fu (k+1) 22 [.int c,.int n]=some (.v (.lst (xs.map DV.int)) true):=by
 rw[n6 (fd:=q1K) rfl rfl];obtain⟨δ1,h1,xs,num,z,hl,rfl⟩:=L6 (i:=4) (I:=λj δ=>∃(xs:List Int) (num:Int) (z:Sv),xs.length=j/\δ=[.val (.int c),.val (.int n),.own (.lst (xs.map DV.int)),.val (.int num),z])
  (body:=λδ'=>evSs G (run G T fu k) fu [.set 3 false (.bin .Mod (.bin .Add (.bin .Add (.bin .Mult (.var 3) (.int 48271)) (.bin .Mult (.var 4) (.var 4))) (.int 11)) (.int 2147483647)),.app 2 (.bin .FloorDiv (.var 3) (.int 7))] δ') n 0 (δ:=[.val (.int c),.val (.int n),.own (.lst []),.val (.int (c%2147483647+48271)),.no])
  (λj hj δ I=>by
   obtain⟨xs,num,z,hl,rfl⟩:=I;rw[show(0:Int)+(j:Int)=j by omega];obtain⟨N,hN⟩:∃N:Int,(num*48271+(j:Int)*j+11)%2147483647=N:=⟨_,rfl⟩;obtain⟨D,hD⟩:∃D:Int,N/7=D:=⟨_,rfl⟩;refine⟨_,i5 (j7 (d:=.int N) (cl:=.strong) ?_ rfl) (i5 (z5h (d:=.int D) (cl:=.strong) rfl ?_ rfl (by rw[d5,hl];exact u4 (u4 hj hn) (by decide))) rfl),xs++[D],N,.val (.int j),by rw[p9,hl];rfl,?_⟩
   ·rw[←hN];exact B5 (H9 (H9 (R8 (b7 rfl) i3 (m48 _)) (R8 (b7 rfl) (b7 rfl) (y1P (by omega)))) i3) i3 (by decide)
   ·rw[←hD];exact z7S (b7 rfl) i3 (by decide)
   ·rw[←z3A];rfl) ⟨[],_,.no,rfl,rfl⟩
 refine⟨xs,hl,?_⟩;unfold q1K;exact r6 (i5 (q6U rfl) (i5 (j7 (d:=.int (c%2147483647+48271)) (cl:=.strong) (H9 (B5 (b7 rfl) i3 (by decide)) i3) rfl) (G9 (N2 (n:=n) (b7 rfl) hn) (.inr rfl) h1 (o6 rfl))))
section
variable {G:Gs} {a b:ME} {r:List ME} {cx:Cl} {o:Option Re}
end
section
variable {α β:Type}
end
variable {fu k:Nat} {F:Nat->List DV->Option Ou} {δ:List Sv} {ds:List DV} {cl:Cl} {n m:Nat} {f:Nat->Nat->Int} {d:DV}
theorem b_ne(ha:evE G F a δ=some (.ok (.int i) cx))(hb:evE G F b δ=some (.ok (.int j) cy)):evE G F (.cmp .NotEq a b) δ=some (.ok (.bl (i != j)) .strong):=O8 ha hb rfl
theorem z3X(ds:List DV)(h:Nat):cutD ds (some (h:Int)) none=ds.drop h:=by
 unfold cutD slIx;dsimp only;rw[d7 (by omega),x9];by_cases q:h<=ds.length
 ·rw[w2H q,w4h (by rw[Q2];omega)]
 ·rw[w3T (by omega),w3Q,List.take_nil,List.drop_of_length_le (by omega)]
theorem z4W(ds:List DV)(h:Nat):cutD ds none (some (h:Int))=ds.take h:=by
 unfold cutD slIx;dsimp only;rw[d7 (by omega),x9,w2P,Nat.sub_zero];by_cases q:h<=ds.length
 ·rw[w2H q]
 ·rw[w3T (by omega),List.take_length,w4h (by omega)]
theorem z5a{a b:ME}{c c1:Cl}{h:Nat}(ha:evE G F a δ=some (.ok (.lst ds) c))(hh:evE G F b δ=some (.ok (.int (h:Int)) c1)):evE G F (.slf a b) δ=some (.ok (.lst (ds.drop h)) (Cl.anew c c)):=by
 unfold evE;rw[ha,u6,hh,u6,←z3X];rfl
theorem z1N{a b:ME}{c c1:Cl}{h:Nat}(ha:evE G F a δ=some (.ok (.lst ds) c))(hh:evE G F b δ=some (.ok (.int (h:Int)) c1)):evE G F (.slt a b) δ=some (.ok (.lst (ds.take h)) (Cl.anew c c)):=by
 unfold evE;rw[ha,u6,hh,u6,←z4W];rfl
theorem z4h(ha:evE G F a δ=some (.ok (.lst x) cx))(hb:evE G F b δ=some (.ok (.lst y) cy))(h:x.length+y.length<=1000):evE G F (.bin .Add a b) δ=some (.ok (.lst (x++y)) (Cl.anew cx cy)):=
 F0 ha hb (b8 (i7 h (by decide)))
variable {fu k:Nat} {F:Nat->List DV->Option Ou} {δ:List Sv} {ds:List DV} {cl:Cl} {n m:Nat} {f:Nat->Nat->Int} {d:DV}
section
variable {G:Gs}
theorem P7{m:MS}{r:List MS}{c:Str}{δ':List Sv}(h:evS G F fu m δ=some (.ex c δ')):evSs G F fu (m::r) δ=some (.ex c δ'):=by
 unfold evSs;rw[h]
theorem z2K(h:evSs G F fu r δ=some (.ex c δ')):Ou.of (evSs G F fu r δ)=some (.x c):=by rw[h];rfl
theorem z4H(hc:tstD (evE G F c δ)=some (.ok true))(h:evSs G F fu a δ=some (.ex x δ')):evSs G F fu (.iff c a b::r) δ=some (.ex x δ'):=P7 ((z0h hc).trans h)
theorem q3a{f:Nat}{es:List ME}{l:List (DV×Cl)}{c:Str}(ha:evEs G F es δ=some (.ok l))(h:F f (l.map (·.1))=some (.x c)):evE G F (.call f es) δ=some (.ex c):=by
 show Rs.thn (evEs G F es δ) (λl=>A5 F f l)=_;rw[ha];show A5 F f l=_;unfold A5;rw[h]
theorem q8h(h:evE G F e δ=some (.ex c)):evS G F fu (.exp e) δ=some (.ex c δ):=by
 show Re.thnS δ (evE G F e δ) (λ_ _=>some (.nx δ))=_;rw[h];rfl
theorem y0w(hc:(G.cls.lookup c).isSome=true)(h:evE G F e δ=some (.ok d cl)):evS G F fu (.rse c e) δ=some (.ex c δ):=by
 show(if(G.cls.lookup c).isSome=true then Re.thnS δ (evE G F e δ) (λ_ _=>some (.ex c δ))else none)=_;rw[b8 hc,h];rfl
end
variable {rows:List (List Int)}
theorem y1S(R:Rect n m rows)(hn:0<n)(n8:n<=8)(m8:m<=8):run G T fu (k+5) 10 [tT rows]=(if sm (FI rows).length (FI (flip m rows)).length then some (.v .non false)else some (.x "TooGreat")):=by
 rw[n6 (fd:=q1f) rfl rfl];unfold q1f;have c:=R7 (j5 (G:=G) (F:=run G T fu (k+4)) (δ:=f8 1 [tT rows]) (f:=9) (es:=[.var 0]) (l:=[(tT rows,.strong)]) rfl rfl (q5W (fu:=fu) (k:=k) rows n m R hn (by omega) (by omega)));cases h:sm (FI rows).length (FI (flip m rows)).length with
 | true=>
  rw[h]at c;rw[b8 rfl];exact z7k (w4 (j8 c) rfl)
 | false=>
  rw[h]at c;rw[d7 v9];exact z2K (z4H (j8 c) (P7 (y0w (d:=.str "the table has more than five kinds of rows or of columns") (cl:=.strong) rfl rfl)))
theorem z7U(rows:List (List Int)):(FI rows).Pairwise (· < ·):=by
 unfold FI;exact(w2V).sublist List.filter_sublist
variable {fu k:Nat} {F:Nat->List DV->Option Ou} {δ:List Sv} {ds:List DV} {cl:Cl} {n m:Nat} {f:Nat->Nat->Int} {d:DV} {rows:List (List Int)}
theorem z2m(i:Nat)(rows:List (List Int))(n m:Nat)(R:Rect n m rows)(hn:0<n)(hn2:n<=8)(hm2:m<=8)(h2:δ[i]? = some (.val (rL rows))):evE G F (.comp (.comp (.ix (.var 0) (.var 1)) (.one 0) (.var 1) [none,some 0]) (.one 0) (.rng [.bi .len [.ix (.var i) (.int 0)]]) [none,some i]) δ=some (.ok (rL (flip m rows)) .fresh):=by
 have r0:0<rows.length:=by rw[R.1];exact hn
 have h2':δ.getD i .no=.val (rL rows):=by rw[D2,h2];rfl
 have w:j3 (evE G F (.rng [.bi .len [.ix (.var i) (.int 0)]]) δ)=some (.ok ((List.range m).map λ(j:Nat)=>DV.int (j:Int)) .fresh):=(by have t:=J2 (u0 (b7 h2) (i3 (G:=G) (F:=F) (i:=0)) (show ixD (rL rows) (.int 0)=some (.lst (iD (rows.getD 0 [])))from U0 r0));rw[show(iD (rows.getD 0 [])).length=m by unfold iD;rw[d5];exact R.2 _ (F3 r0)]at t;rw[N2 t (by omega),z5d];rfl);have e:=C5 (l:=List.range m) (h:=λ(j:Nat)=>DV.int (j:Int)) (f:=λj=>.lst (iD (col rows j))) (elt:=.comp (.ix (.var 0) (.var 1)) (.one 0) (.var 1) [none,some 0]) (tg:=.one 0) (fr:=[none,some i]) w (by decide) (by rw[w6];exact i7 hm2 (by decide)) λj hj=>by refine⟨[.val (.int j),.val (rL rows)],.fresh,?_,z9B rows m j R.2 (s9.mp hj) (by rw[R.1];omega),rfl⟩;show some ((t4 [none,some i] δ).set 0 (.val (.int j)))=_;unfold t4;simp only[y0,w4w,h2'];rfl
 rw[e];unfold rL flip;rw[j4];rfl
theorem z1u:∀{l:List (List Int)} {j:Nat},l[j]? = some a->l.idxOf a<=j
 | [],j,h=>by simp at h
 | x::l,0,h=>by
  have:x=a:=by simpa using h
  subst this;rw[List.idxOf_cons_self];exact e9 _
 | x::l,j+1,h=>by
  rw[List.getElem?_cons_succ]at h;have q:=z1u h;rw[List.idxOf_cons];cases x==a with
  | true=>exact A7 _
  | false=>show l.idxOf a+1<=j+1;omega
theorem q4J(h:r<rows.length):(!((rows.take r).any λx=>x==rows.getD r []))=(rows.idxOf (rows.getD r [])==r):=by
 have hg:rows.getD r []=rows[r]:=by rw[D2,p7 h];rfl
 rw[hg];have hle:rows.idxOf rows[r]<=r:=z1u (p7 h);rw[U9,t8,d8];constructor
 ·intro q;rcases Q8 (rows.idxOf rows[r]) r with z | z
  ·exfalso;have hl:rows.idxOf rows[r]<rows.length:=by omega
   have:((rows.take r).any λx=>x==rows[r])=true:=by
    rw[M4];refine⟨rows[rows.idxOf rows[r]],?_,?_⟩
    ·rw[Y5];exact⟨rows.idxOf rows[r],by rw[w13 z,p7 hl]⟩
    ·rw[List.getElem_idxOf hl];exact Z0 _
   rw[this]at q;cases q
  ·omega
 ·intro q;rw[List.any_eq_false];intro x hx hxe;have hxe':x=rows[r]:=V3 hxe;obtain⟨j,hj⟩:=Y5.mp hx;have hjr:j<r:=by
   have:=(u5.mp hj).1;rw[J4]at this;omega
  rw[w13 hjr,p7 (by omega)]at hj;have hj':rows[j]=x:=by simpa using hj
  have:rows.idxOf rows[r]<=j:=z1u (by rw[p7 (by omega),hj',hxe']);omega
theorem z5S(a:List Int):cmpD .NotIn (.tup (iD a)) (.tup ((rows.take r).map λr=>.tup (iD r)))=some (!((rows.take r).any λx=>x==a)):=by
 show(if(DV.plain 60 (.tup (iD a))&&DV.plains 60 ((rows.take r).map λr=>DV.tup (iD r)))=true then some (!(((rows.take r).map λr=>DV.tup (iD r)).any λd=>deq d (.tup (iD a))))else none)=_;rw[q7J 59 a,q8J 59,Q9];show some _=_
 congr 3
 funext x
 exact z9T x a
theorem z6b(a:List Int):cmpD .NotIn (.lst (iD a)) (.lst ((rows.take r).map λr=>.lst (iD r)))=some (!((rows.take r).any λx=>x==a)):=by
 show(if(DV.plain 60 (.lst (iD a))&&DV.plains 60 ((rows.take r).map λr=>DV.lst (iD r)))=true then some (!(((rows.take r).map λr=>DV.lst (iD r)).any λd=>deq d (.lst (iD a))))else none)=_;rw[z1z 59 a,z4s 59,Q9];show some _=_
 congr 3
 funext x
 exact y2i x a
theorem z8m(hl:h<rows.length)(ha:evE G F a δ=some (.ok (tT rows) .strong))(hh:evE G F b δ=some (.ok (.int (h:Int)) c1)):evE G F (.slt a b) δ=some (.ok (.tup ((rows.take h).map λr=>.tup (iD r))) .strong):=by
 unfold evE;rw[ha,u6,hh,u6];show((if slIx (rows.map λr=>DV.tup (iD r)).length 0 none=0/\slIx (rows.map λr=>DV.tup (iD r)).length (rows.map λr=>DV.tup (iD r)).length (some (h:Int))=(rows.map λr=>DV.tup (iD r)).length then none else some (.tup (cutD (rows.map λr=>DV.tup (iD r)) none (some (h:Int))))).map λd=>Re.ok d (slCl (tT rows) .strong))=_;rw[d7,z4W,←Q5]
 ·rfl
 ·rintro⟨_,q⟩
  unfold slIx at q;dsimp only at q;rw[d7 (by omega),x9,d5]at q;omega
theorem q6k(h:evE G F e δ=some (.ok (.int (n:Int)) c))(hn:n<=1000):j3 (evE G F (.rng [e]) δ)=some (.ok ((List.range n).map λ(j:Nat)=>DV.int (j:Int)) .fresh):=by
 rw[N2 h hn,z5d];rfl
theorem z8P(h:evE G F e δ=some (.ok (.tup (iD r)) .strong)):evE G F (.bi .list [e]) δ=some (.ok (.lst (iD r)) .fresh):=by
 show Rs.thn (evEs G F [e] δ) (λl=>V8 l)=_;rw[d6 h i4];rfl
def fsts(rows:List (List Int)):List (List Int):=(FI rows).map λr=>rows.getD r []
theorem q8p(R:Rect n m rows):Rect (FI rows).length m (fsts rows):=by
 unfold fsts;refine⟨d5 ..,λr hr=>?_⟩;obtain⟨i,hi,rfl⟩:=f9.mp hr;exact R.2 _ (F3 (U1 hi))
theorem q8X(h:j<m):(flip m rows).getD j []=col rows j:=by
 unfold flip;rw[D2,n9,w2c h];rfl
theorem N4:(flip m rows).length=m:=by unfold flip;rw[d5,w6]
theorem z8Q(R:Rect n m rows)(i j:Nat):(col (fsts rows) i==col (fsts rows) j)=(col rows i==col rows j):=by
 rw[U9,d8,d8];unfold col fsts;rw[j4,j4];constructor
 ·intro h;apply G5;intro r hr;have key:=w3C.mp h (rows.idxOf r) (by
   unfold FI;refine u9.mpr ⟨s9.mpr (z2D hr),?_⟩;rw[q7O hr,d8])
  have key':(rows.getD (rows.idxOf r) []).getD i 0=(rows.getD (rows.idxOf r) []).getD j 0:=key;rw[q7O hr]at key';exact key'
 ·intro h;apply G5;intro i' hi';exact w3C.mp h _ (F3 (U1 hi'))
theorem z2A(R:Rect n m rows):FI (flip m (fsts rows))=FI (flip m rows):=by
 unfold FI;rw[N4,N4];apply List.filter_congr;intro c hc;have hc':=s9.mp hc;rw[←q4J (by rw[N4];exact hc'),←q4J (by rw[N4];exact hc'),q8X hc',q8X hc']
 congr 1
 unfold flip;rw[←Q5,←Q5,Q9,Q9]
 congr 1
 funext x
 exact z8Q R x c
theorem z0u(R:Rect n m rows)(hn:0<n)(n8:n<=8)(m8:m<=8):run G T fu (k+1) 25 [tT rows]=some (.v (rL (sub rows (FI rows) (FI (flip m rows)))) true):=by
 have rl:rows.length=n:=R.1;have Rf:=q8p R;have c0:0<(FI rows).length:=P6 (by rw[rl];exact hn);have cl8:(FI rows).length<=8:=i7 (q8H rows) (by rw[rl];exact n8);have w0:j3 (evE G (run G T fu k) (.rng [.bi .len [.var 0]]) (f8 4 [tT rows]))=some (.ok ((List.range n).map λ(j:Nat)=>DV.int (j:Int)) .fresh):=(by have t:=T9 (F:=run G T fu k) (δ:=f8 4 [tT rows]) (e:=.var 0) (ds:=rows.map λr=>.tup (iD r)) (c:=.strong) rfl;rw[d5,rl]at t;exact q6k t (by omega));have s1:=q2N (F:=run G T fu k) (δ:=f8 4 [tT rows]) (l:=List.range n) (h:=λ(j:Nat)=>DV.int (j:Int)) (f:=λj=>.lst (iD (rows.getD j []))) (p:=λr=>rows.idxOf (rows.getD r [])==r) (elt:=.bi .list [.ix (.var 1) (.var 0)]) (cd:=.cmp .NotIn (.ix (.var 1) (.var 0)) (.slt (.var 1) (.var 0))) (tg:=.one 0) (fr:=[none,some 0]) w0 (by decide) (by rw[w6];exact i7 n8 (by decide)) λj hj=>by
   have hj':j<rows.length:=by rw[rl];exact s9.mp hj
   have ei:evE G (run G T fu k) (.ix (.var 1) (.var 0)) [.val (.int (j:Int)),.val (tT rows)]=some (.ok (.tup (iD (rows.getD j []))) .strong):=u0 (cx:=.strong) (b7 rfl) (b7 rfl) (q5G hj');refine⟨[.val (.int (j:Int)),.val (tT rows)],rfl,j8 (cl:=.strong) ?_,.fresh,z8P ei,rfl⟩;rw[←q4J hj'];exact O8 ei (z8m hj' (b7 rfl) (b7 rfl)) (z5S _)
 have s1':evE G (run G T fu k) (.compi (.bi .list [.ix (.var 1) (.var 0)]) (.one 0) (.rng [.bi .len [.var 0]]) (.cmp .NotIn (.ix (.var 1) (.var 0)) (.slt (.var 1) (.var 0))) [none,some 0]) (f8 4 [tT rows])=some (.ok (rL (fsts rows)) .fresh):=(by rw[s1];unfold rL fsts FI;rw[j4,rl];rfl);have s2:=z2m (F:=run G T fu k) (δ:=[.val (tT rows),.val (rL (fsts rows)),.no,.no]) 1 (fsts rows) _ m Rf c0 cl8 m8 rfl;have w2:j3 (evE G (run G T fu k) (.rng [.bi .len [.var 2]]) [.val (tT rows),.val (rL (fsts rows)),.val (rL (flip m (fsts rows))),.no])=some (.ok ((List.range m).map λ(j:Nat)=>DV.int (j:Int)) .fresh):=(by have t:=J2 (F:=run G T fu k) (δ:=[.val (tT rows),.val (rL (fsts rows)),.val (rL (flip m (fsts rows))),.no]) (e:=.var 2) (ds:=(flip m (fsts rows)).map λr=>.lst (iD r)) (c:=.strong) rfl;rw[d5,N4]at t;exact q6k t (by omega));have s3:=q2N (F:=run G T fu k) (δ:=[.val (tT rows),.val (rL (fsts rows)),.val (rL (flip m (fsts rows))),.no]) (l:=List.range m) (h:=λ(j:Nat)=>DV.int (j:Int)) (f:=λ(j:Nat)=>DV.int (j:Int)) (p:=λr=>(flip m (fsts rows)).idxOf ((flip m (fsts rows)).getD r [])==r) (elt:=.var 0) (cd:=.cmp .NotIn (.ix (.var 1) (.var 0)) (.slt (.var 1) (.var 0))) (tg:=.one 0) (fr:=[none,some 2]) w2 (by decide) (by rw[w6];exact i7 m8 (by decide)) λj hj=>by
   have hj':j<(flip m (fsts rows)).length:=by rw[N4];exact s9.mp hj
   have ei:evE G (run G T fu k) (.ix (.var 1) (.var 0)) [.val (.int (j:Int)),.val (rL (flip m (fsts rows)))]=some (.ok (.lst (iD ((flip m (fsts rows)).getD j []))) .strong):=u0 (cx:=.strong) (b7 rfl) (b7 rfl) (U0 hj');refine⟨[.val (.int (j:Int)),.val (rL (flip m (fsts rows)))],rfl,j8 (cl:=.strong) ?_,.strong,b7 rfl,rfl⟩;rw[←q4J hj'];have st:=z1N (F:=run G T fu k) (δ:=[.val (.int (j:Int)),.val (rL (flip m (fsts rows)))]) (a:=.var 1) (b:=.var 0) (c:=.strong) (c1:=.strong) (ds:=(flip m (fsts rows)).map λr=>.lst (iD r)) (h:=j) (b7 rfl) (b7 rfl);rw[←Q5]at st;exact O8 ei st (z6b _)
 have s3':evE G (run G T fu k) (.compi (.var 0) (.one 0) (.rng [.bi .len [.var 2]]) (.cmp .NotIn (.ix (.var 1) (.var 0)) (.slt (.var 1) (.var 0))) [none,some 2]) [.val (tT rows),.val (rL (fsts rows)),.val (rL (flip m (fsts rows))),.no]=some (.ok (.lst (nD (FI (flip m rows)))) .fresh):=(by rw[s3,←z2A R];unfold nD FI;rw[N4]);have hJ:∀j∈FI (flip m rows),j<m:=λj hj=>by have:=U1 hj;rw[N4]at this;exact this
 have lJ:(FI (flip m rows)).length<=8:=by have:=q8H (flip m rows);rw[N4]at this;omega
 have s4:=C5 (F:=run G T fu k) (δ:=[.val (tT rows),.val (rL (fsts rows)),.val (rL (flip m (fsts rows))),.val (.lst (nD (FI (flip m rows))))]) (l:=fsts rows) (h:=λr=>.lst (iD r)) (f:=λr=>.lst (iD ((FI (flip m rows)).map λj=>r.getD j 0))) (elt:=.comp (.ix (.var 1) (.var 0)) (.one 0) (.var 1) [none,some 0]) (tg:=.one 0) (it:=.var 1) (fr:=[none,some 3]) (cl:=.strong) rfl (by decide) (by rw[Rf.1];exact i7 cl8 (by decide)) λr hr=>by
   refine⟨[.val (.lst (iD r)),.val (.lst (nD (FI (flip m rows))))],.fresh,rfl,?_,rfl⟩;have q:=C5 (F:=run G T fu k) (δ:=[.val (.lst (iD r)),.val (.lst (nD (FI (flip m rows))))]) (l:=FI (flip m rows)) (h:=λ(j:Nat)=>DV.int (j:Int)) (f:=λj=>.int (r.getD j 0)) (elt:=.ix (.var 1) (.var 0)) (tg:=.one 0) (it:=.var 1) (fr:=[none,some 0]) (cl:=.strong) rfl (by decide) (i7 lJ (by decide)) λj hj=>
    ⟨[.val (.int (j:Int)),.val (.lst (iD r))],.strong,rfl,u0 (cx:=.strong) (b7 rfl) (b7 rfl) (q6B (by rw[Rf.2 r hr];exact hJ j hj)),rfl⟩
   rw[q];unfold iD;rw[j4];rfl
 rw[n6 (fd:=q1y) rfl rfl];unfold q1y;have s4':evE G (run G T fu k) (.comp (.comp (.ix (.var 1) (.var 0)) (.one 0) (.var 1) [none,some 0]) (.one 0) (.var 1) [none,some 3]) [.val (tT rows),.val (rL (fsts rows)),.val (rL (flip m (fsts rows))),.val (.lst (nD (FI (flip m rows))))]=some (.ok (rL (sub rows (FI rows) (FI (flip m rows)))) .fresh):=by rw[s4];unfold rL sub fsts;rw[j4,j4];rfl
 exact r6 (i5 (j7 s1' rfl) (i5 (j7 s2 rfl) (i5 (j7 s3' rfl) (o6 (x5 s4')))))
variable {fu k:Nat} {F:Nat->List DV->Option Ou} {δ:List Sv} {ds:List DV} {cl:Cl} {n m:Nat} {f:Nat->Nat->Int} {d:DV} {rows:List (List Int)}
theorem z7G{a b:ME}{i j:Nat}{cx cy:Cl}(ha:evE G F a δ=some (.ok (.int (i:Int)) cx))(hb:evE G F b δ=some (.ok (.int (j:Int)) cy)):evE G F (.bi .max [a,b]) δ=some (.ok (.int ((max i j:Nat):Int)) .strong):=by
 show Rs.thn (evEs G F [a,b] δ) (λl=>maxD l)=_;rw[d6 ha (d6 hb i4)];show some (Re.ok (.int (if(j:Int)>(i:Int)then(j:Int)else(i:Int))) .strong)=_
 congr 3
 rw[Nat.max_def];split<;>split<;>omega
theorem add1{e:ME}{i:Nat}{c:Cl}(h:evE G F e δ=some (.ok (.int (i:Int)) c)):evE G F (.bin .Add e (.int 1)) δ=some (.ok (.int ((i+1:Nat):Int)) .strong):=by
 rw[show(((i+1:Nat)):Int)=(i:Int)+1 by push_cast;rfl];exact H9 h i3
variable {fu k:Nat} {F:Nat->List DV->Option Ou} {δ:List Sv} {ds:List DV} {cl:Cl} {n m:Nat} {f:Nat->Nat->Int} {d:DV} {rows:List (List Int)}
section
variable {G:Gs} {a b:ME} {r:List ME} {cx:Cl} {o:Option Re}
theorem or_f(ha:evE G F a δ=some (.ok (.bl false) cx))(hb:evE G F (.or (b::r)) δ=o):evE G F (.or (a::b::r)) δ=o:=by
 unfold evE at hb ⊢;unfold evOr;rw[ha];exact hb
theorem or_1(ha:evE G F a δ=o):evE G F (.or [a]) δ=o:=by
 unfold evE evOr;exact ha
end
variable {fu k:Nat} {F:Nat->List DV->Option Ou} {δ:List Sv} {ds:List DV} {cl:Cl} {n m:Nat} {f:Nat->Nat->Int} {d:DV} {rows:List (List Int)}
def Few(L:List (List Int)):Prop:=∃S:List (List Int),S.length<=5/\∀r∈L,r∈S
theorem q6V{α:Type}[BEq α][LawfulBEq α]:∀{l S:List α},l.Nodup->(∀x∈l,x∈S)->l.length<=S.length
 | [],_,_,_=>A7 _
 | a::l,S,h,hs=>by
  obtain⟨h1,h2⟩:=O1.mp h;have ha:=hs a (i8 ..);have q:=q6V (S:=S.erase a) h2 λx hx=>(List.mem_erase_of_ne (λe=>h1 (by rw[←e];exact hx))).mpr (hs x (i6 _ hx))
  rw[List.length_erase_of_mem ha]at q;have:=w2o ha;rw[x4];omega
theorem z4J(h:Few rows):(FI rows).length<=5:=by
 obtain⟨S,h1,h2⟩:=h;have q:((FI rows).map λr=>rows.getD r []).length<=S.length:=by
  refine q6V ?_ λx hx=>?_
  ·rw[List.nodup_iff_pairwise_ne,List.pairwise_map];refine List.Pairwise.imp_of_mem (λ{a b} ha hb hne=>?_) (z7U rows);intro e;have e1:=V3 (u9.mp ha).2;have e2:=V3 (u9.mp hb).2;rw[e]at e1;omega
  ·obtain⟨i,hi,rfl⟩:=f9.mp hx;exact h2 _ (F3 (U1 hi))
 rw[d5]at q;omega
theorem z1B(h:rows.length<=5):Few rows:=⟨rows,h,λ_ hr=>hr⟩
def ins(a s:Nat)(l:List Int):List Int:=l.take a++[l.getD s 0]++l.drop a
theorem z4i:(ins a s l).length=l.length+1:=by
 unfold ins;rw[p9,p9,J4,Q2,N7];omega
def src(a s j:Nat):Nat:=if j<a then j else if j=a then s else j - 1
theorem z1S(ha:a<=l.length):(ins a s l).getD j 0=l.getD (src a s j) 0:=by
 unfold ins src;simp only[D2];have lt:(l.take a).length=a:=by rw[J4];omega
 by_cases h1:j<a
 ·rw[b8 h1,M1 (by rw[p9,lt,N7];omega),M1 (by rw[lt];exact h1),w13 h1]
 ·rw[d7 h1];by_cases h2:j=a
  ·rw[b8 h2,M1 (by rw[p9,lt,N7];omega),N5 (by rw[lt];omega),lt,h2,Nat.sub_self];rfl
  ·rw[d7 h2,N5 (by rw[p9,lt,N7];omega),p9,lt,N7,w3q]
   congr 2
   omega
def insR(a s:Nat)(rows:List (List Int)):List (List Int):=rows.take a++[rows.getD s []]++rows.drop a
structure Tk(n m:Nat)(rows:List (List Int)):Prop where
 n0:0<n
 n8:n<=8
 m0:0<m
 m8:m<=8
 R:Rect n m rows
 fr:Few rows
 fc:Few (flip m rows)
 w9:W9 rows
theorem Tk.row(t:Tk n m rows)(hn:n<8)(ha:a<=n)(hs:s<n):Tk (n+1) m (insR a s rows):=by
 have mem:∀r∈insR a s rows,r∈rows:=λr hr=>by
  unfold insR at hr;rcases A3.mp hr with q | q
  ·rcases A3.mp q with q | q
   ·exact w3b q
   ·rw[u8.mp q];exact F3 (by rw[t.R.1];exact hs)
  ·exact w3c q
 refine⟨by omega,by omega,t.m0,t.m8,⟨?_,λr hr=>t.R.2 r (mem r hr)⟩,?_,?_,λr hr=>t.w9 r (mem r hr)⟩
 ·unfold insR;rw[p9,p9,J4,Q2,N7,t.R.1];omega
 ·obtain⟨S,h1,h2⟩:=t.fr;exact⟨S,h1,λr hr=>h2 r (mem r hr)⟩
 ·obtain⟨S,h1,h2⟩:=t.fc;refine⟨S.map (ins a s),by rw[d5];exact h1,λr hr=>?_⟩;obtain⟨j,hj,rfl⟩:=f9.mp hr;refine f9.mpr ⟨col rows j,h2 _ (f9.mpr ⟨j,hj,rfl⟩),?_⟩;unfold col ins insR;rw[z9,z9,Q5,w3y]
  congr 2
  rw[D2,n9,p7 (by rw[t.R.1];exact hs),List.map_singleton,D2 (l:=rows),p7 (by rw[t.R.1];exact hs)];rfl
theorem Tk.colm(t:Tk n m rows)(hm:m<8)(ha:a<=m)(hs:s<m):Tk n (m+1) (rows.map (ins a s)):=by
 refine⟨t.n0,t.n8,by omega,by omega,⟨by rw[d5,t.R.1],λr hr=>?_⟩,?_,?_,λr hr x hx=>by
  obtain⟨r',hr',rfl⟩:=f9.mp hr;refine t.w9 r' hr' x ?_;unfold ins at hx;rcases A3.mp hx with q | q
  ·rcases A3.mp q with q | q
   ·exact w3b q
   ·rw[u8.mp q];exact z1l (by rw[t.R.2 r' hr'];exact hs)
  ·exact w3c q⟩
 ·obtain⟨r',hr',rfl⟩:=f9.mp hr;rw[z4i,t.R.2 r' hr']
 ·obtain⟨S,h1,h2⟩:=t.fr;refine⟨S.map (ins a s),by rw[d5];exact h1,λr hr=>?_⟩;obtain⟨r',hr',rfl⟩:=f9.mp hr;exact f9.mpr ⟨r',h2 r' hr',rfl⟩
 ·obtain⟨S,h1,h2⟩:=t.fc;refine⟨S,h1,λr hr=>?_⟩;obtain⟨j,hj,rfl⟩:=f9.mp hr;have hj':=s9.mp hj;have e:col (rows.map (ins a s)) j=col rows (src a s j):=by
   unfold col;rw[j4];apply G5;intro r hr;exact z1S (by rw[t.R.2 r hr];exact ha)
  rw[e];refine h2 _ (f9.mpr ⟨src a s j,s9.mpr ?_,rfl⟩);unfold src;split
  ·omega
  ·split<;>omega
theorem z3g{elt eo ei:ME}{fi fo:List (Option Nat)}{g:Nat->Nat->Int}(hn:evE G F eo δ=some (.ok (.int (n:Int)) .strong))(n5:n<=8)(m5:m<=8)(ho:∀r,r<n->∃δ1,(Tg.one 0).bind (.int (r:Int)) (t4 fo δ)=some δ1/\evE G F ei δ1=some (.ok (.int (m:Int)) .strong)/\∀c,c<m->∃δ2,(Tg.one 0).bind (.int (c:Int)) (t4 fi δ1)=some δ2/\evE G F elt δ2=some (.ok (.int (g r c)) .strong)) :
  evE G F (.comp (.comp elt (.one 0) (.rng [ei]) fi) (.one 0) (.rng [eo]) fo) δ=some (.ok (rL ((List.range n).map λr=>(List.range m).map (g r))) .fresh):=by
 have e:=C5 (l:=List.range n) (h:=λ(j:Nat)=>DV.int (j:Int)) (f:=λr=>.lst (iD ((List.range m).map (g r)))) (elt:=.comp elt (.one 0) (.rng [ei]) fi) (tg:=.one 0) (fr:=fo) (q6k hn (by omega)) (by decide) (by rw[w6];exact i7 n5 (by decide)) λr hr=>by
  obtain⟨δ1,h1,h2,h3⟩:=ho r (s9.mp hr);refine⟨δ1,.fresh,h1,?_,rfl⟩;have q:=C5 (F:=F) (δ:=δ1) (l:=List.range m) (h:=λ(j:Nat)=>DV.int (j:Int)) (f:=λc=>.int (g r c)) (elt:=elt) (tg:=.one 0) (fr:=fi) (q6k h2 (by omega)) (by decide) (by rw[w6];exact i7 m5 (by decide)) λc hc=>by obtain⟨δ2,h4,h5⟩:=h3 c (s9.mp hc);exact⟨δ2,.strong,h4,h5,rfl⟩
  rw[q];unfold iD;rw[j4];rfl
 rw[e];unfold rL;rw[j4];rfl
theorem q2K(g:Nat->Nat->Int):Rect n m ((List.range n).map λr=>(List.range m).map (g r)):=by
 refine⟨by rw[d5,w6],λr hr=>?_⟩;obtain⟨i,_,rfl⟩:=f9.mp hr;rw[d5,w6]
theorem q6m(h:evE G F e δ=some (.ok (.bl b) c)):evE G F (.bi .int [e]) δ=some (.ok (.int (if b then 1 else 0)) .strong):=by
 show Rs.thn (evEs G F [e] δ) (λl=>intD l)=_;rw[d6 h i4];rfl
theorem top4(x:Int):∃tp:Int,0<tp/\tp<=10/\ixD (.lst [.int 2,.int 3,.int 10,.int 2]) (.int (x%4))=some (.int tp):=by
 have:x%4=0\/x%4=1\/x%4=2\/x%4=3:=by omega
 rcases this with h | h | h | h<;>rw[h]
 ·exact⟨2,by decide,by decide,rfl⟩
 ·exact⟨3,by decide,by decide,rfl⟩
 ·exact⟨10,by decide,by decide,rfl⟩
 ·exact⟨2,by decide,by decide,rfl⟩
theorem y0N(x:Int):∃tp:Int,0<tp/\tp<=5/\ixD (.lst [.int 4,.int 4,.int 4,.int 4,.int 4,.int 4,.int 4,.int 5]) (.int (x%8))=some (.int tp):=by
 have:x%8=0\/x%8=1\/x%8=2\/x%8=3\/x%8=4\/x%8=5\/x%8=6\/x%8=7:=by omega
 rcases this with h | h | h | h | h | h | h | h<;>rw[h]
 ·exact⟨4,by decide,by decide,rfl⟩
 ·exact⟨4,by decide,by decide,rfl⟩
 ·exact⟨4,by decide,by decide,rfl⟩
 ·exact⟨4,by decide,by decide,rfl⟩
 ·exact⟨4,by decide,by decide,rfl⟩
 ·exact⟨4,by decide,by decide,rfl⟩
 ·exact⟨4,by decide,by decide,rfl⟩
 ·exact⟨5,by decide,by decide,rfl⟩
variable {fu k:Nat} {F:Nat->List DV->Option Ou} {δ:List Sv} {ds:List DV} {cl:Cl} {n m:Nat} {f:Nat->Nat->Int} {d:DV} {rows:List (List Int)}
theorem X8{xs:List Int}{i:Int}(h0:0<=i)(h:i<xs.length):∃v,∀{F:Nat->List DV->Option Ou} {δ:List Sv} {e:ME},evE G F e δ=some (.ok (.lst (xs.map DV.int)) .strong)->evE G F (.ix e (.int i)) δ=some (.ok (.int v) .strong):=by
 obtain⟨v,hv⟩:=z4X (l:=xs) h0 h;exact⟨v,λhe=>u0 (cx:=.strong) he i3 hv⟩
abbrev Sc(ns xs:List Int)(mo:Int)(n m:Nat)(tp:Int)(x y z:Sv):List Sv:=[.val (.scr ns),.val (.int 2),.val (.lst (xs.map DV.int)),.val (.int mo),.val (.int n),.val (.int m),.val (.int tp),x,y,z]
theorem q8d{g:Nat->Nat->Int}(h:∀r c,0<=g r c/\g r c<=9):W9 ((List.range n).map λr=>(List.range m).map (g r)):=λr hr x hx=>by
 obtain⟨i,_,rfl⟩:=f9.mp hr;obtain⟨j,_,rfl⟩:=f9.mp hx;exact h i j
theorem z5T(h:∀x∈ws,0<=x/\x<=9):W9 (P5 n m ws):=λr hr x hx=>by
 obtain⟨i,_,rfl⟩:=f9.mp hr;exact h x (w3c (w3b hx))
theorem z9k(ns:List Int)(hns:ns.length<=63)(xs:List Int)(hx:xs.length=24):∃(n m:Nat) (rows:List (List Int)),0<n/\n<=5/\0<m/\m<=5/\Rect n m rows/\W9 rows/\run G T fu (k+2) 23 [.scr ns,.int 2,.lst (xs.map DV.int)]=some (.v (rL rows) false):=by
 obtain⟨v1,c1⟩:=z2R (fu:=fu) (k:=k) ns 1;obtain⟨a0,h0⟩:=X8 (xs:=xs) (i:=0) (by omega) (by rw[hx];omega);obtain⟨a1,h1⟩:=X8 (xs:=xs) (i:=1) (by omega) (by rw[hx];omega);obtain⟨a2,h2⟩:=X8 (xs:=xs) (i:=2) (by omega) (by rw[hx];omega);obtain⟨a3,h3⟩:=X8 (xs:=xs) (i:=3) (by omega) (by rw[hx];omega);obtain⟨a4,h4⟩:=X8 (xs:=xs) (i:=4) (by omega) (by rw[hx];omega);obtain⟨a5,h5⟩:=X8 (xs:=xs) (i:=5) (by omega) (by rw[hx];omega);obtain⟨mo,mo0,mo5,hmo⟩:=y0N a0;obtain⟨tp,htp,tp10,htop⟩:=top4 a3;have m9:∀x:Int,0<=x%tp/\x%tp<=9:=λx=>⟨w3d x (by omega),by have:=w2O x htp;omega⟩
 have b1:=w3d a1 (b:=mo) (by omega);have b2:=w2O a1 (b:=mo) mo0;have b3:=w3d a2 (b:=mo) (by omega);have b4:=w2O a2 (b:=mo) mo0;obtain⟨n,hn⟩:∃n:Nat,1+a1%mo=(n:Int):=⟨(1+a1%mo).toNat,by omega⟩;obtain⟨m,hm⟩:∃m:Nat,1+a2%mo=(m:Int):=⟨(1+a2%mo).toNat,by omega⟩;have n5:n<=5:=by omega
 have m5:m<=5:=by omega
 have nm:n*m<=25:=w3k n5 m5;obtain⟨ws0,hw0,st1⟩:=q9k (fu:=fu) (k:=k) v1 (n*m) (by omega);have mk1:F9 (n:Int) (m:Int)=true:=by unfold F9;simp;omega
 have cm:=z7V (G:=G) (F:=run G T fu (k+1)) (δ:=(Sc ns xs mo n m tp .no .no .no)) (elt:=.bin .Mod (.var 0) (.var 1)) (tg:=.one 0) (it:=.call 22 [.call 21 [.var 0,.int 1],.bin .Mult (.var 4) (.var 5)]) (fr:=[none,some 6]) (f:=λd=>match d with | .int x=>.int (x%tp) | d=>d) (ds:=ws0.map DV.int) (cl:=.fresh)
  (by
   have q:=j5 (G:=G) (F:=run G T fu (k+1)) (δ:=(Sc ns xs mo n m tp .no .no .no)) (f:=22) (d6 (j5 (f:=21) (d6 (b7 (n:=0) (d:=.scr ns) rfl) (d6 (i3 (i:=1)) i4)) rfl c1) (d6 (R8 (b7 (n:=4) (d:=.int n) rfl) (b7 (n:=5) (d:=.int m) rfl) mk1) i4)) rfl (by rw[show((n:Int)*(m:Int))=((n*m:Nat):Int) by push_cast;rfl];exact st1);rw[q];rfl) (by decide) (by rw[d5,hw0];exact i7 nm (by decide)) (λd hd=>by
   obtain⟨x,hx,rfl⟩:=f9.mp hd;exact⟨[.val (.int x),.val (.int tp)],rfl,B5 (b7 rfl) (b7 rfl) htp⟩)
 rw[j4,show((λd=>match d with | DV.int x=>DV.int (x%tp) | d=>d) ∘ DV.int)=DV.int ∘ (λx:Int=>x%tp)from rfl,←j4]at cm;obtain⟨b,hb,hb1,hb2⟩:∃b:Int,(if(ns.length:Int) - 2<(n:Int)*m then(ns.length:Int) - 2 else(n:Int)*m)=b/\b<=((n*m:Nat):Int)/\b<=(ns.length:Int) - 2:=by refine⟨_,rfl,?_,?_⟩<;>split<;>push_cast<;>omega
 have hb3 : -1000<=b:=(by rw[←hb];have:(0:Int)<=(n:Int)*m:=Int.mul_nonneg (D6 n) (D6 m);split<;>omega);obtain⟨δ1,l1,ws,z,hw,hw9,rfl⟩:=L6 (i:=8) (I:=λ_ δ=>∃(ws:List Int) (z:Sv),ws.length=n*m/\(∀x∈ws,0<=x/\x<=9)/\δ=(Sc ns xs mo n m tp (.own (.lst (ws.map DV.int))) z .no))
  (body:=λδ'=>evSs G (run G T fu (k+1)) fu [.seti 7 (.var 8) (.bin .Mod (.ix (.var 0) (.bin .Add (.var 1) (.var 8))) (.var 6))] δ') b.toNat 0 (δ:=(Sc ns xs mo n m tp (.own (.lst ((ws0.map λx=>x%tp).map DV.int))) .no .no))
  (λj hj δ I=>by
   obtain⟨ws,z,hw,hw9,rfl⟩:=I;rw[show(0:Int)+(j:Int)=j by omega];have h3:2+j<ns.length:=by omega
   have hv:ixD (.scr ns) (.int (2+(j:Int)))=some (.int ns[2+j]):=(by rw[show(2:Int)+(j:Int)=((2+j:Nat):Int) by push_cast;rfl];show((A4 ns.length ((2+j:Nat):Int)).bind λj=>ns[j]?).map DV.int=_;rw[z8q h3,J7,p7 h3];rfl);refine⟨_,i5 (z7r (d:=.int (ns[2+j]%tp)) (cl:=.strong) (n:=j) (cx:=.strong) (j:=j) rfl (B5 (u0 (b7 rfl) (H9 (b7 rfl) (b7 rfl)) hv) (b7 rfl) htp) (b7 rfl) rfl (z8q (by rw[d5,hw];omega))) rfl,ws.set j (ns[2+j]%tp),.val (.int j),by rw[v4];exact hw,λx hx=>(List.mem_or_eq_of_mem_set hx).elim (hw9 x) (λe=>e▸m9 _),?_⟩;rw[List.map_set];rfl) ⟨ws0.map λx=>x%tp,.no,by rw[d5];exact hw0,λx hx=>by obtain⟨y,_,rfl⟩:=f9.mp hx;exact m9 y,rfl⟩
 have em:evE G (run G T fu (k+1)) (.bi .min [.bin .Mult (.var 4) (.var 5),.bin .Sub (.bi .len [.var 0]) (.var 1)]) (Sc ns xs mo n m tp (.own (.lst ((ws0.map λx=>x%tp).map DV.int))) .no .no)=some (.ok (.int b) .strong):=(by have e1:evE G (run G T fu (k+1)) (.bi .len [.var 0]) (Sc ns xs mo n m tp (.own (.lst ((ws0.map λx=>x%tp).map DV.int))) .no .no)=some (.ok (.int ns.length) .strong):=rfl;rw[z2W (d6 (R8 (b7 (n:=4) (d:=.int n) rfl) (b7 (n:=5) (d:=.int m) rfl) mk1) (d6 (L7 e1 (b7 (n:=1) (d:=.int 2) rfl)) i4)),←hb];rfl);have rt:=z3U (F:=run G T fu (k+1)) (δ:=(Sc ns xs mo n m tp (.own (.lst (ws.map DV.int))) z .no)) (elt:=.sl (.var 1) (.bin .Mult (.var 0) (.var 2)) (.bin .Add (.bin .Mult (.var 0) (.var 2)) (.var 2))) (tg:=.one 0) (it:=.rng [.var 4]) (fr:=[none,some 7,some 5]) (f:=λd=>match d with | .int j=>.lst (iD ((ws.drop (j.toNat*m)).take m)) | d=>d) (ds:=upTo 0 n) (cl:=.fresh)
  (N2 (b7 rfl) (by omega)) (by decide) (by unfold L2.upTo;rw[d5,w6];exact i7 n5 (by decide)) (λd hd=>by
   obtain⟨j,hj,rfl⟩:=q9p hd;rw[show(0:Int)+(j:Int)=j by omega];have mk2:F9 (j:Int) (m:Int)=true:=by unfold F9;simp;omega
   refine⟨[.val (.int j),.own (.lst (iD ws)),.val (.int m)],.fresh,rfl,?_,rfl⟩;show _=some (Re.ok (.lst (iD ((ws.drop ((j:Int).toNat*m)).take m))) .fresh);rw[x9,←z6O hw hj];exact y1Z (q5i rfl) (R8 (b7 rfl) (b7 rfl) mk2) (H9 (R8 (b7 rfl) (b7 rfl) mk2) (b7 rfl)))
 have hf:(upTo 0 n).map (λd=>match d with | .int j=>DV.lst (iD ((ws.drop (j.toNat*m)).take m)) | d=>d)=(P5 n m ws).map λr=>.lst (iD r):=by unfold L2.upTo P5;rw[j4,j4];apply G5;intro j _;show DV.lst (iD ((ws.drop (((0:Int)+(j:Int)).toNat*m)).take m))=_;rw[show((0:Int)+(j:Int)).toNat=j by omega];rfl
 rw[hf]at rt
 let D:DV->List Sv:=λr=>(Sc ns xs mo n m tp (.own (.lst (ws.map DV.int))) z (.val r))
 have g1:∀r,evE G (run G T fu (k+1)) (.comp (.comp (.bi .int [.cmp .Eq (.var 1) (.var 0)]) (.one 0) (.rng [.var 1]) [none,some 0]) (.one 0) (.rng [.var 4]) [none,some 5]) (D r)=some (.ok (rL ((List.range n).map λ(r:Nat)=>(List.range m).map λ(c:Nat)=>if((r:Int)==(c:Int))then(1:Int)else 0)) .fresh):=λr=>
  z3g (n:=n) (m:=m) (g:=λ(r c:Nat)=>if((r:Int)==(c:Int))then 1 else 0) (b7 rfl) (by omega) (by omega) λr hr=>⟨[.val (.int (r:Int)),.val (.int (m:Int))],rfl,b7 rfl,λc hc=>⟨[.val (.int (c:Int)),.val (.int (r:Int))],rfl,q6m (b_eq (b7 rfl) (b7 rfl))⟩⟩
 have g2:∀r,evE G (run G T fu (k+1)) (.comp (.comp (.bi .int [.cmp .Lt (.var 1) (.var 0)]) (.one 0) (.rng [.var 1]) [none,some 0]) (.one 0) (.rng [.var 4]) [none,some 5]) (D r)=some (.ok (rL ((List.range n).map λ(r:Nat)=>(List.range m).map λ(c:Nat)=>if decide ((r:Int)<(c:Int))then(1:Int)else 0)) .fresh):=λr=>
  z3g (n:=n) (m:=m) (g:=λ(r c:Nat)=>if decide ((r:Int)<(c:Int))then 1 else 0) (b7 rfl) (by omega) (by omega) λr hr=>⟨[.val (.int (r:Int)),.val (.int (m:Int))],rfl,b7 rfl,λc hc=>⟨[.val (.int (c:Int)),.val (.int (r:Int))],rfl,q6m (b_lt (b7 rfl) (b7 rfl))⟩⟩
 have g3:∀r,evE G (run G T fu (k+1)) (.comp (.comp (.bin .Mod (.ix (.var 1) (.int 5)) (.int 10)) (.one 0) (.rng [.var 1]) [none,some 2]) (.one 0) (.rng [.var 4]) [none,some 5,some 2]) (D r)=some (.ok (rL ((List.range n).map λ(_:Nat)=>(List.range m).map λ(_:Nat)=>a5%10)) .fresh):=λr=>
  z3g (n:=n) (m:=m) (g:=λ(r c:Nat)=>a5%10) (b7 rfl) (by omega) (by omega) λr hr=>⟨[.val (.int (r:Int)),.val (.int (m:Int)),.val (.lst (xs.map DV.int))],rfl,b7 rfl,λc hc=>⟨[.val (.int (c:Int)),.val (.lst (xs.map DV.int))],rfl,B5 (h5 (b7 rfl)) i3 (by decide)⟩⟩
 have tq:∀(r:DV) (j:Int),evE G (run G T fu (k+1)) (.cmp .Eq (.bin .Mod (.ix (.var 2) (.int 4)) (.int 8)) (.int j)) (D r)=some (.ok (.bl (a4%8==j)) .strong):=λr j=>b_eq (B5 (h4 (b7 rfl)) i3 (by decide)) i3;obtain⟨rows,Rr,R9,tail⟩:∃rows,Rect n m rows/\W9 rows/\evSs G (run G T fu (k+1)) fu (q1v.body.drop 7) (D (rL (P5 n m ws)))=some (.rt (rL rows) false):=by
  unfold q1v;simp only[w2F,w2P];by_cases q1:a4%8=1
  ·refine⟨_,q2K (λ(r c:Nat)=>if((r:Int)==(c:Int))then 1 else 0),q8d λr c=>by(split<;>decide),M6 (j8 (by rw[tq,q1];rfl)) (i5 (j7 (g1 _) rfl) rfl) (w4 (j8 (show _=some (Re.ok (.bl false) .strong)from by rw[show((D (rL (P5 n m ws))).set 9 _)=D _ from rfl,tq,q1];rfl)) (w4 (j8 (show _=some (Re.ok (.bl false) .strong)from by rw[show((D (rL (P5 n m ws))).set 9 _)=D _ from rfl,tq,q1];rfl)) (o6 rfl)))⟩
  ·have n1:(a4%8==1)=false:=t7.mpr q1;by_cases q2:a4%8=2
   ·refine⟨_,q2K (λ(r c:Nat)=>if decide ((r:Int)<(c:Int))then 1 else 0),q8d λr c=>by(split<;>decide),w4 (j8 (by rw[tq,n1])) (M6 (j8 (by rw[tq,q2];rfl)) (i5 (j7 (g2 _) rfl) rfl) (w4 (j8 (show _=some (Re.ok (.bl false) .strong)from by rw[show((D (rL (P5 n m ws))).set 9 _)=D _ from rfl,tq,q2];rfl)) (o6 rfl)))⟩
   ·have n2:(a4%8==2)=false:=t7.mpr q2;by_cases q3:a4%8=3
    ·refine⟨_,q2K (λ(r c:Nat)=>a5%10),q8d λr c=>by omega,w4 (j8 (by rw[tq,n1])) (w4 (j8 (by rw[tq,n2])) (M6 (j8 (by rw[tq,q3];rfl)) (i5 (j7 (g3 _) rfl) rfl) (o6 rfl)))⟩
    ·have n3:(a4%8==3)=false:=t7.mpr q3;exact⟨_,z1p hw,z5T hw9,w4 (j8 (by rw[tq,n1])) (w4 (j8 (by rw[tq,n2])) (w4 (j8 (by rw[tq,n3])) (o6 rfl)))⟩
 refine⟨n,m,rows,by omega,n5,by omega,m5,Rr,R9,?_⟩;rw[n6 (fd:=q1v) rfl rfl];unfold q1v at tail ⊢;simp only[w2F,w2P]at tail;exact r6 (i5 (j7 (d:=.int mo) (cl:=.strong) (u0 (cx:=.fresh) (x:=.lst [.int 4,.int 4,.int 4,.int 4,.int 4,.int 4,.int 4,.int 5]) rfl (B5 (h0 (b7 rfl)) i3 (by decide)) hmo) rfl)
  (i5 (j7 (d:=.int n) (cl:=.strong) (by rw[←hn];exact H9 i3 (B5 (h1 (b7 rfl)) (b7 rfl) mo0)) rfl) (i5 (j7 (d:=.int m) (cl:=.strong) (by rw[←hm];exact H9 i3 (B5 (h2 (b7 rfl)) (b7 rfl) mo0)) rfl)
  (i5 (j7 (d:=.int tp) (cl:=.strong) (u0 (cx:=.fresh) (x:=.lst [.int 2,.int 3,.int 10,.int 2]) rfl (B5 (h3 (b7 rfl)) i3 (by decide)) htop) rfl)
  (i5 (q6U cm) (G9 (y0X em (by omega) hb3) (.inr rfl) l1 (i5 (j7 rt rfl) tail)))))))
variable {fu k:Nat} {F:Nat->List DV->Option Ou} {δ:List Sv} {ds:List DV} {cl:Cl} {n m:Nat} {f:Nat->Nat->Int} {d:DV} {rows:List (List Int)}
theorem z6y{xs:List Int}{i:Int}{j:Nat}(h0:0<=i+j)(h:i+j<xs.length):∃v,∀{F:Nat->List DV->Option Ou} {δ:List Sv},evE G F (.var 2) δ=some (.ok (.lst (xs.map DV.int)) .strong)->evE G F (.var 4) δ=some (.ok (.int (j:Int)) .strong)->evE G F (.ix (.var 2) (.bin .Add (.int i) (.var 4))) δ=some (.ok (.int v) .strong):=by
 obtain⟨v,hv⟩:=z4X (l:=xs) h0 h;exact⟨v,λh1 h2=>u0 (cx:=.strong) h1 (H9 i3 h2) hv⟩
theorem q5h(x:Int)(hn:0<n):∃a:Nat,x%(n:Int)=(a:Int)/\a<n:=by
 have q1:=w3d x (b:=(n:Int)) (by omega);have q2:=w2O x (b:=(n:Int)) (by omega);exact⟨(x%(n:Int)).toNat,by omega,by omega⟩
theorem z3w(R:Rect n m rows)(hn:0<n)(h:evE G F (.var 3) δ=some (.ok (rL rows) .strong)):evE G F (.bi .len [.ix (.var 3) (.int 0)]) δ=some (.ok (.int (m:Int)) .strong):=by
 have r0:0<rows.length:=by rw[R.1];exact hn
 have t:=J2 (u0 (cx:=.strong) h (i3 (i:=((0:Nat):Int))) (U0 (rows:=rows) r0));rw[show(iD (rows.getD 0 [])).length=m by unfold iD;rw[d5];exact R.2 _ (F3 r0)]at t;exact t
theorem z4c(R:Rect n m rows)(h:evE G F (.var 3) δ=some (.ok (rL rows) .strong)):evE G F (.bi .len [.var 3]) δ=some (.ok (.int (n:Int)) .strong):=by
 have q:=J2 (ds:=rows.map λr=>.lst (iD r)) h;rw[d5,R.1]at q;exact q
abbrev S7(s p:DV)(xs:List Int)(rows:List (List Int))(j:Nat)(y z:Sv):List Sv:=[.val s,.val p,.val (.lst (xs.map DV.int)),.val (rL rows),.val (.int (j:Int)),y,z]
def z1x:List MS:=[.iff (.and [.cmp .Lt (.bi .len [.var 3]) (.int 8),.cmp .Eq (.bin .Mod (.ix (.var 2) (.bin .Add (.int 7) (.var 4))) (.int 2)) (.int 0)]) [.set 5 false (.bin .Mod (.ix (.var 2) (.bin .Add (.int 12) (.var 4))) (.bin .Add (.bi .len [.var 3]) (.int 1))),.set 3 false (.bin .Add (.bin .Add (.slt (.var 3) (.var 5)) (.lst [.ix (.var 3) (.bin .Mod (.ix (.var 2) (.bin .Add (.int 17) (.var 4))) (.bi .len [.var 3]))])) (.slf (.var 3) (.var 5)))] [.iff (.cmp .Lt (.bi .len [.ix (.var 3) (.int 0)]) (.int 8)) [.set 5 false (.bin .Mod (.ix (.var 2) (.bin .Add (.int 12) (.var 4))) (.bin .Add (.bi .len [.ix (.var 3) (.int 0)]) (.int 1))),.set 6 false (.bin .Mod (.ix (.var 2) (.bin .Add (.int 17) (.var 4))) (.bi .len [.ix (.var 3) (.int 0)])),.set 3 false (.comp (.bin .Add (.bin .Add (.slt (.var 0) (.var 1)) (.lst [.ix (.var 0) (.var 2)])) (.slf (.var 0) (.var 1))) (.one 0) (.var 3) [none,some 5,some 6])] []]]
theorem lst1(h:evE G F e δ=some (.ok d c))(hs:stro d c=true):evE G F (.lst [e]) δ=some (.ok (.lst [d]) .fresh):=z9c (d6 h i4) (show 1<=mostLen by decide) (by unfold stros;simp[hs])
theorem z8k(hx:xs.length=24)(hj:j<5)(t:Tk n m rows):∃n' m' rows' z5' z6',Tk n' m' rows'/\evSs G F fu z1x (S7 s p xs rows j z5 z6)=some (.nx [.val s,.val p,.val (.lst (xs.map DV.int)),.val (rL rows'),.val (.int (j:Int)),z5',z6']):=by
 obtain⟨v7,h7⟩:=z6y (xs:=xs) (i:=7) (j:=j) (by omega) (by rw[hx];omega);obtain⟨v12,h12⟩:=z6y (xs:=xs) (i:=12) (j:=j) (by omega) (by rw[hx];omega);obtain⟨v17,h17⟩:=z6y (xs:=xs) (i:=17) (j:=j) (by omega) (by rw[hx];omega);have ln:∀z5 z6,evE G F (.bi .len [.var 3]) (S7 s p xs rows j z5 z6)=some (.ok (.int (n:Int)) .strong):=λz5 z6=>z4c t.R (b7 rfl)
 have lm:∀z5 z6,evE G F (.bi .len [.ix (.var 3) (.int 0)]) (S7 s p xs rows j z5 z6)=some (.ok (.int (m:Int)) .strong):=λz5 z6=>z3w t.R t.n0 (b7 rfl);have q1:=b_lt (ln z5 z6) (i3 (i:=8));have q2:=b_eq (B5 (h7 (F:=F) (δ:=(S7 s p xs rows j z5 z6)) (b7 rfl) (b7 rfl)) (i3 (i:=2)) (by decide)) (i3 (i:=0));have q3:=b_lt (lm z5 z6) (i3 (i:=8));unfold z1x;have tA:tstD (evE G F (.and [.cmp .Lt (.bi .len [.var 3]) (.int 8),.cmp .Eq (.bin .Mod (.ix (.var 2) (.bin .Add (.int 7) (.var 4))) (.int 2)) (.int 0)]) (S7 s p xs rows j z5 z6))=some (.ok (decide ((n:Int)<8)&&(v7%2==0))):=by
  cases hd:decide ((n:Int)<8)with
  | false=>rw[hd]at q1;exact j8 (z3V q1)
  | true=>rw[hd]at q1;exact j8 (z1r q1 (z2T q2))
 cases hA:decide ((n:Int)<8)&&(v7%2==0)with
 | true=>
  rw[hA]at tA;rw[b9,F6]at hA;obtain⟨a,ha,hal⟩:=q5h v12 (n:=n+1) (by omega);obtain⟨b,hb,hbl⟩:=q5h v17 t.n0;have e5:evE G F (.bin .Mod (.ix (.var 2) (.bin .Add (.int 12) (.var 4))) (.bin .Add (.bi .len [.var 3]) (.int 1))) (S7 s p xs rows j z5 z6)=some (.ok (.int (a:Int)) .strong):=by rw[←ha];exact B5 (h12 (b7 rfl) (b7 rfl)) (add1 (ln z5 z6)) (by omega)
  have e3:evE G F (.bin .Add (.bin .Add (.slt (.var 3) (.var 5)) (.lst [.ix (.var 3) (.bin .Mod (.ix (.var 2) (.bin .Add (.int 17) (.var 4))) (.bi .len [.var 3]))])) (.slf (.var 3) (.var 5))) (S7 s p xs rows j (.val (.int (a:Int))) z6)=some (.ok (rL (insR a b rows)) .fresh):=(by have ei:evE G F (.ix (.var 3) (.bin .Mod (.ix (.var 2) (.bin .Add (.int 17) (.var 4))) (.bi .len [.var 3]))) (S7 s p xs rows j (.val (.int (a:Int))) z6)=some (.ok (.lst (iD (rows.getD b []))) .strong):=(by refine u0 (cx:=.strong) (y:=.int (b:Int)) (cy:=.strong) (b7 rfl) ?_ (U0 (by rw[t.R.1];exact hbl));rw[←hb];exact B5 (h17 (b7 rfl) (b7 rfl)) (ln _ z6) (by omega));have q:=z4h (z4h (z1N (F:=F) (δ:=(S7 s p xs rows j (.val (.int (a:Int))) z6)) (a:=.var 3) (b:=.var 5) (c:=.strong) (c1:=.strong) (ds:=rows.map λr=>.lst (iD r)) (h:=a) (b7 rfl) (b7 rfl)) (lst1 ei rfl) (by rw[J4,d5,t.R.1];simp;have:=t.n8;omega)) (z5a (F:=F) (δ:=(S7 s p xs rows j (.val (.int (a:Int))) z6)) (a:=.var 3) (b:=.var 5) (c:=.strong) (c1:=.strong) (ds:=rows.map λr=>.lst (iD r)) (h:=a) (b7 rfl) (b7 rfl)) (by rw[p9,J4,Q2,d5,t.R.1];simp;have:=t.n8;omega);rw[q];unfold rL insR;rw[z9,z9,Q5,w3y];rfl);exact⟨_,_,_,_,_,t.row (a:=a) (s:=b) (by omega) (by omega) hbl,M6 tA (i5 (j7 e5 rfl) (i5 (j7 e3 rfl) rfl)) rfl⟩
 | false=>
  rw[hA]at tA;cases hB:decide ((m:Int)<8)with
  | false=>
   rw[hB]at q3;exact⟨n,m,rows,z5,z6,t,q9t tA (w4 (j8 q3) rfl) rfl⟩
  | true=>
   rw[hB]at q3;rw[F6]at hB;obtain⟨a,ha,hal⟩:=q5h v12 (n:=m+1) (by omega);obtain⟨b,hb,hbl⟩:=q5h v17 t.m0;have e5:evE G F (.bin .Mod (.ix (.var 2) (.bin .Add (.int 12) (.var 4))) (.bin .Add (.bi .len [.ix (.var 3) (.int 0)]) (.int 1))) (S7 s p xs rows j z5 z6)=some (.ok (.int (a:Int)) .strong):=by rw[←ha];exact B5 (h12 (b7 rfl) (b7 rfl)) (add1 (lm z5 z6)) (by omega)
   have e6:evE G F (.bin .Mod (.ix (.var 2) (.bin .Add (.int 17) (.var 4))) (.bi .len [.ix (.var 3) (.int 0)])) (S7 s p xs rows j (.val (.int (a:Int))) z6)=some (.ok (.int (b:Int)) .strong):=(by rw[←hb];exact B5 (h17 (b7 rfl) (b7 rfl)) (lm _ z6) (by omega));have e3:evE G F (.comp (.bin .Add (.bin .Add (.slt (.var 0) (.var 1)) (.lst [.ix (.var 0) (.var 2)])) (.slf (.var 0) (.var 1))) (.one 0) (.var 3) [none,some 5,some 6]) (S7 s p xs rows j (.val (.int (a:Int))) (.val (.int (b:Int))))=some (.ok (rL (rows.map (ins a b))) .fresh):=by
    have q:=C5 (F:=F) (δ:=(S7 s p xs rows j (.val (.int (a:Int))) (.val (.int (b:Int))))) (l:=rows) (h:=λr=>.lst (iD r)) (f:=λr=>.lst (iD (ins a b r))) (elt:=.bin .Add (.bin .Add (.slt (.var 0) (.var 1)) (.lst [.ix (.var 0) (.var 2)])) (.slf (.var 0) (.var 1))) (tg:=.one 0) (it:=.var 3) (fr:=[none,some 5,some 6]) (cl:=.strong) rfl (by decide) (by rw[t.R.1];exact i7 t.n8 (by decide)) λr hr=>by
     refine⟨[.val (.lst (iD r)),.val (.int (a:Int)),.val (.int (b:Int))],.fresh,rfl,?_,rfl⟩;have hrl:=t.R.2 r hr;have idl:(iD r).length=m:=by unfold iD;rw[d5,hrl]
     have q:=z4h (z4h (z1N (F:=F) (δ:=[.val (.lst (iD r)),.val (.int (a:Int)),.val (.int (b:Int))]) (a:=.var 0) (b:=.var 1) (c:=.strong) (c1:=.strong) (ds:=iD r) (h:=a) (b7 rfl) (b7 rfl)) (lst1 (u0 (a:=.var 0) (b:=.var 2) (cx:=.strong) (b7 rfl) (b7 rfl) (q6B (r:=r) (j:=b) (by rw[hrl];exact hbl))) rfl) (by rw[J4,idl];simp;omega)) (z5a (F:=F) (δ:=[.val (.lst (iD r)),.val (.int (a:Int)),.val (.int (b:Int))]) (a:=.var 0) (b:=.var 1) (c:=.strong) (c1:=.strong) (ds:=iD r) (h:=a) (b7 rfl) (b7 rfl)) (by rw[p9,J4,Q2,idl];simp;omega);rw[q];unfold ins iD;rw[z9,z9,Q5,w3y];rfl
    rw[q];unfold rL;rw[j4];rfl
   exact⟨_,_,_,_,_,t.colm (a:=a) (s:=b) (by omega) (by omega) hbl,q9t tA (M6 (j8 q3) (i5 (j7 e5 rfl) (i5 (j7 e6 rfl) (i5 (j7 e3 rfl) rfl))) rfl) rfl⟩
theorem z1M(hl:rows.length<=8)(h:j3 (evE G F e δ)=some (.ok (rows.map λr=>.lst (iD r)) .strong)):evE G F (.bi .tuple [.comp (.bi .tuple [.var 0]) (.one 0) e [none]]) δ=some (.ok (tT rows) .strong):=
 q3Y (c:=.fresh) (C5 (l:=rows) (h:=λr=>.lst (iD r)) (f:=λr=>.tup (iD r)) h (by decide) (i7 hl (by decide)) λr hr=>⟨[.val (.lst (iD r))],.strong,rfl,rfl,rfl⟩)
theorem z4p(ns:List Int)(hns:ns.length<=63):∃(n m:Nat) (rows:List (List Int)),Tk n m rows/\run G T fu (k+3) 24 [.scr ns,.int 2]=some (.v (tT rows) false):=by
 obtain⟨v0,c0⟩:=z2R (fu:=fu) (k:=k+1) ns 0;obtain⟨xs,hx,st⟩:=q9k (fu:=fu) (k:=k+1) v0 24 (by decide);obtain⟨n,m,rows,n0,n5,m0,m5,R,R9,co⟩:=z9k (fu:=fu) (k:=k) ns hns xs hx;have t0:Tk n m rows:=⟨n0,by omega,m0,by omega,R,z1B (by rw[R.1];exact n5),z1B (by rw[N4];exact m5),R9⟩;obtain⟨a6,h6⟩:=X8 (xs:=xs) (i:=6) (by omega) (by rw[hx];omega);obtain⟨tn,htn,ht5⟩:=q5h a6 (n:=5) (by decide);obtain⟨δ',lp,n',m',rows',z4,z5,z6,t',rfl⟩:=L6 (i:=4) (I:=λ_ δ=>∃n m rows z4 z5 z6,Tk n m rows/\δ=[.val (.scr ns),.val (.int 2),.val (.lst (xs.map DV.int)),.val (rL rows),z4,z5,z6])
  (body:=λδ'=>evSs G (run G T fu (k+2)) fu z1x δ') tn 0 (δ:=[.val (.scr ns),.val (.int 2),.val (.lst (xs.map DV.int)),.val (rL rows),.no,.no,.no])
  (λj hj δ I=>by
   obtain⟨n,m,rows,z4,z5,z6,t,rfl⟩:=I;rw[show(0:Int)+(j:Int)=j by omega];obtain⟨n',m',rows',z5',z6',t',e⟩:=z8k (F:=run G T fu (k+2)) (fu:=fu) hx (j:=j) (by omega) (s:=.scr ns) (p:=.int 2) (z5:=z5) (z6:=z6) t;exact⟨_,e,n',m',rows',_,z5',z6',t',rfl⟩) ⟨n,m,rows,.no,.no,.no,t0,rfl⟩
 refine⟨n',m',rows',t',?_⟩;rw[n6 (fd:=q2e) rfl rfl];unfold q2e;have w:evE G (run G T fu (k+2)) (.bin .Mod (.ix (.var 2) (.int 6)) (.int 5)) [.val (.scr ns),.val (.int 2),.val (.lst (xs.map DV.int)),.val (rL rows),.no,.no,.no]=some (.ok (.int (tn:Int)) .strong):=by rw[←htn];exact B5 (h6 (b7 rfl)) i3 (by decide)
 exact r6 (i5 (j7 (j5 (fr:=true) (d6 (j5 (fr:=false) (d6 (b7 rfl) (d6 i3 i4)) rfl c0) (d6 i3 i4)) rfl st) rfl)
  (i5 (j7 (j5 (fr:=false) (d6 (b7 rfl) (d6 (b7 rfl) (d6 (b7 rfl) i4))) rfl co) rfl) (G9 (N2 w (by omega)) (.inr rfl) lp (o6 (x5 (cl:=.strong) (z1M (by rw[t'.R.1];exact t'.n8) rfl))))))
variable {fu k:Nat} {F:Nat->List DV->Option Ou} {δ:List Sv} {ds:List DV} {cl:Cl} {n m:Nat} {f:Nat->Nat->Int} {d:DV} {rows:List (List Int)}
theorem y0D(ha:evE G F a δ=some (.ok (.int i) cx))(hb:evE G F b δ=some (.ok (.int j) cy))(hj:0<=j):evE G F (.bin .RShift a b) δ=some (.ok (.int (i/2^j.toNat)) .strong):=
 F0 ha hb (show(if 0<=j then some (Re.ok (.int (i/2^j.toNat)) .strong)else none)=_ from b8 hj)
def shl(n:Nat):List (List Int):=(List.range n).map λ(r:Nat)=>(List.range 3).map λ(c:Nat)=>(r:Int)/2^(c:Int).toNat%2
def idn(n:Nat):List (List Int):=(List.range n).map λ(r:Nat)=>(List.range n).map λ(c:Nat)=>if((r:Int)==(c:Int))then(1:Int)else 0
theorem z1G:∀N∈[6,7,8],(sm (FI (shl N)).length (FI (flip 3 (shl N))).length=false/\sm (FI (idn N)).length (FI (flip N (idn N))).length=false)/\(sm (FI (flip 3 (shl N))).length (FI (flip N (flip 3 (shl N)))).length=false/\sm (FI (flip N (idn N))).length (FI (flip N (flip N (idn N)))).length=false):=by decide +kernel
theorem z8d(c:Int):∃(n m:Nat) (rows:List (List Int)),3<=n/\n<=8/\3<=m/\m<=8/\Rect n m rows/\sm (FI rows).length (FI (flip m rows)).length=false/\run G T fu (k+1) 31 [.int c]=some (.v (tT rows) false):=by
 obtain⟨N,hN,hN6,hN8⟩:∃N:Nat,6+c%3=(N:Int)/\6<=N/\N<=8:=⟨(6+c%3).toNat,by omega,by omega,by omega⟩;have gb:=z1G N (by
  have:N=6\/N=7\/N=8:=by omega
  rcases this with h | h | h<;>rw[h]<;>decide)
 have s2:evE G (run G T fu k) (.comp (.comp (.bin .Mod (.bin .RShift (.var 1) (.var 0)) (.int 2)) (.one 0) (.rng [.int 3]) [none,some 0]) (.one 0) (.rng [.var 1]) [none]) [.val (.int c),.val (.int (N:Int)),.no]=some (.ok (rL (shl N)) .fresh):=
  z3g (n:=N) (m:=3) (g:=λ(r c:Nat)=>(r:Int)/2^(c:Int).toNat%2) (b7 rfl) hN8 (by decide) λr hr=>⟨[.val (.int (r:Int))],rfl,rfl,λc hc=>⟨[.val (.int (c:Int)),.val (.int (r:Int))],rfl,B5 (y0D (b7 rfl) (b7 rfl) (D6 c)) i3 (by decide)⟩⟩
 have s3:∀v,evE G (run G T fu k) (.comp (.comp (.bi .int [.cmp .Eq (.var 1) (.var 0)]) (.one 0) (.rng [.var 1]) [none,some 0]) (.one 0) (.rng [.var 1]) [none,some 1]) [.val (.int c),.val (.int (N:Int)),.val v]=some (.ok (rL (idn N)) .fresh):=λv=>
  z3g (n:=N) (m:=N) (g:=λ(r c:Nat)=>if((r:Int)==(c:Int))then(1:Int)else 0) (b7 rfl) hN8 hN8 λr hr=>⟨[.val (.int (r:Int)),.val (.int (N:Int))],rfl,b7 rfl,λc hc=>⟨[.val (.int (c:Int)),.val (.int (r:Int))],rfl,q6m (b_eq (b7 rfl) (b7 rfl))⟩⟩
 have t1:∀v,evE G (run G T fu k) (.cmp .Eq (.bin .Mod (.bin .FloorDiv (.var 0) (.int 3)) (.int 2)) (.int 0)) [.val (.int c),.val (.int (N:Int)),.val v]=some (.ok (.bl (c/3%2==0)) .strong):=λv=>b_eq (B5 (z7S (b7 rfl) i3 (by decide)) i3 (by decide)) i3;have t2:∀v,evE G (run G T fu k) (.cmp .Eq (.bin .Mod (.bin .FloorDiv (.var 0) (.int 6)) (.int 2)) (.int 1)) [.val (.int c),.val (.int (N:Int)),.val v]=some (.ok (.bl (c/6%2==1)) .strong):=λv=>b_eq (B5 (z7S (b7 rfl) i3 (by decide)) i3 (by decide)) i3;have e1:evE G (run G T fu k) (.bin .Add (.int 6) (.bin .Mod (.var 0) (.int 3))) (f8 3 [.int c])=some (.ok (.int (N:Int)) .strong):=by rw[←hN];exact H9 i3 (B5 (b7 rfl) i3 (by decide))
 have tail:∀(n m:Nat) (rows:List (List Int)),3<=n->n<=8->3<=m->m<=8->Rect n m rows->sm (FI rows).length (FI (flip m rows)).length=false->sm (FI (flip m rows)).length (FI (flip n (flip m rows))).length=false ->
   ∃(n' m':Nat) (rows':List (List Int)),3<=n'/\n'<=8/\3<=m'/\m'<=8/\Rect n' m' rows'/\sm (FI rows').length (FI (flip m' rows')).length=false/\evSs G (run G T fu k) fu (P4.body.drop 3) [.val (.int c),.val (.int (N:Int)),.val (rL rows)]=some (.rt (tT rows') false):=λn m rows a1 a2 a3 a4 R b1 b2=>by
  unfold P4;simp only[w2F,w2P];have q:=t2 (rL rows);cases h:c/6%2==1 with
  | true=>
   rw[h]at q;have R':=X6 R;exact⟨m,n,flip m rows,a3,a4,a1,a2,R',b2,M6 (j8 q) (i5 (j7 (z2m 2 rows n m R (by omega) a2 a4 rfl) rfl) rfl) (o6 (x5 (cl:=.strong) (z1M (by rw[R'.1];exact a4) rfl)))⟩
  | false=>
   rw[h]at q;exact⟨n,m,rows,a1,a2,a3,a4,R,b1,w4 (j8 q) (o6 (x5 (cl:=.strong) (z1M (by rw[R.1];exact a2) rfl)))⟩
 unfold P4 at tail;simp only[w2F,w2P]at tail;have q:=t1 (rL (shl N));cases h:c/3%2==0 with
 | true=>
  rw[h]at q;obtain⟨n,m,rows,a1,a2,a3,a4,R,b,e⟩:=tail N N (idn N) (by omega) hN8 (by omega) hN8 (q2K _) gb.1.2 gb.2.2;refine⟨n,m,rows,a1,a2,a3,a4,R,b,?_⟩;rw[n6 (fd:=P4) rfl rfl];unfold P4;exact r6 (i5 (j7 e1 rfl) (i5 (j7 s2 rfl) (M6 (j8 q) (i5 (j7 (s3 _) rfl) rfl) e)))
 | false=>
  rw[h]at q;obtain⟨n,m,rows,a1,a2,a3,a4,R,b,e⟩:=tail N 3 (shl N) (by omega) hN8 (by omega) (by omega) (q2K _) gb.1.1 gb.2.1;refine⟨n,m,rows,a1,a2,a3,a4,R,b,?_⟩;rw[n6 (fd:=P4) rfl rfl];unfold P4;exact r6 (i5 (j7 e1 rfl) (i5 (j7 s2 rfl) (w4 (j8 q) e)))
end
section
def minN:List Nat->Nat
 | []=>0
 | x::r=>if r.isEmpty then x else min x (minN r)
theorem q4P:∀{l:List Nat},l≠[]->minN l∈l/\∀x∈l,minN l<=x
 | [],h=>absurd rfl h
 | [x],_=>⟨by simp[minN],by simp[minN]⟩
 | x::y::r,_=>by
  obtain⟨h1,h2⟩:=q4P (l:=y::r) (by simp);have e:minN (x::y::r)=min x (minN (y::r)):=rfl;rw[e];refine⟨?_,λz hz=>?_⟩
  ·by_cases q:x<=minN (y::r)
   ·rw[w2H q];exact i8
   ·rw[w3T (by omega)];exact i6 _ h1
  ·rcases e8.mp hz with q | q
   ·rw[q];exact Nat.min_le_left ..
   ·exact i7 (Nat.min_le_right ..) (h2 z q)
theorem q7X(h1:z∈l)(h2:∀x∈l,z<=x):z=minN l:=by
 obtain⟨a,b⟩:=q4P (l:=l) (by rintro rfl;cases h1);exact Nat.le_antisymm (h2 _ a) (b _ h1)
theorem z8H(h0:l1≠[])(h1:∀x∈l1,1+x∈l2)(h2:∀y∈l2,∃x∈l1,y=1+x):1+minN l1=minN l2:=by
 obtain⟨a,b⟩:=q4P h0;refine q7X (h1 _ a) λy hy=>?_
 obtain⟨x,hx,rfl⟩:=h2 y hy;have:=b x hx;omega
def stp(f:Mx)(V:Nat->Nat->Nat)(R C:Nat):Nat:=if wn f R C=1 then 0 else minN ((wl R C).map λw=>1+max (V w.2.2.1.1 w.2.2.1.2) (V w.2.2.2.1 w.2.2.2.2))
def zZ(f:Mx):Nat->Nat->Nat->Nat
 | 0,_,_=>0
 | n+1,R,C=>stp f (zZ f n) R C
theorem q6E(h:w∈wl R C):(∃g,Sb g R/\g<R - g/\w.2.2=((R - g,C),(g,C)))\/∃g,Sb g C/\g<C - g/\w.2.2=((R,C - g),(R,g)):=by
 unfold wl at h;rcases A3.mp h with q | q
 ·obtain⟨g,hg,rfl⟩:=f9.mp q;exact .inl ⟨g,(z0m hg).1,(z0m hg).2,rfl⟩
 ·obtain⟨g,hg,rfl⟩:=f9.mp q;exact .inr ⟨g,(z0m hg).1,(z0m hg).2,rfl⟩
theorem y1h(h:w∈wl R C):w.2.2.1.1+w.2.2.1.2<R+C/\w.2.2.2.1+w.2.2.2.2<R+C:=by
 rcases q6E h with⟨g,s,_,e⟩ | ⟨g,s,_,e⟩
 ·rw[e];have:=s.1;have:=s.2.1;dsimp only;omega
 ·rw[e];have:=s.1;have:=s.2.1;dsimp only;omega
theorem q7l{f:Mx}{V W:Nat->Nat->Nat}{R C:Nat}(h:∀r c,r+c<R+C->V r c=W r c):stp f V R C=stp f W R C:=by
 unfold stp;split
 ·rfl
 ·congr 1
  apply G5;intro w hw;obtain⟨a,b⟩:=y1h hw;rw[h _ _ a,h _ _ b]
theorem z2c(f:Mx):∀(N n R C:Nat),n<=N->R+C<=n->zZ f n R C=zZ f (R+C) R C
 | 0,n,R,C,h1,h2=>by rw[show R+C=n by omega]
 | N+1,n,R,C,h1,h2=>by
  by_cases e:R+C=n
  ·rw[e]
  ·obtain⟨m,rfl⟩:∃m,n=m+1:=⟨n - 1,by omega⟩;cases hk:R+C with
   | zero=>
    obtain rfl:R=0:=by omega
    obtain rfl:C=0:=by omega
    show stp f (zZ f m) 0 0=0;unfold stp;split
    ·rfl
    ·rfl
   | succ k=>
    show stp f (zZ f m) R C=stp f (zZ f k) R C;exact q7l λr c h=>by rw[z2c f N m r c (by omega) (by omega),z2c f N k r c (by omega) (by omega)]
def V(f:Mx)(R C:Nat):Nat:=zZ f (R+C) R C
theorem V_eq(f:Mx)(h:0<R+C):V f R C=stp f (V f) R C:=by
 unfold V;cases hk:R+C with
 | zero=>omega
 | succ k=>
  show stp f (zZ f k) R C=_;exact q7l λr c h=>z2c f k k r c (e9 _) (by omega)
def r1(n:Nat):List Nat:=(List.range (n - 1)).map (· + 1)
theorem X9:j∈r1 n↔0<j/\j<n:=by
 unfold r1;rw[f9];constructor
 ·rintro⟨i,h,rfl⟩;have:=s9.mp h;omega
 ·rintro⟨h1,h2⟩;exact⟨j - 1,s9.mpr (by omega),by omega⟩
theorem z2s(h:0<c):r1 (c+1)=r1 c++[c]:=by
 unfold r1;obtain⟨d,rfl⟩:∃d,c=d+1:=⟨c - 1,by omega⟩;rw[show d+1+1 - 1=d+1 by omega,show d+1 - 1=d by omega,Z4,z9];rfl
def ps(b r c:Nat):List (Nat×Nat):=(r1 r).flatMap (λi=>(r1 (2^b)).map λj=>(i,j))++(r1 c).map λj=>(r,j)
theorem G4:q∈ps b r c↔(0<q.1/\q.1<r/\0<q.2/\q.2<2^b)\/(q.1=r/\0<q.2/\q.2<c):=by
 unfold ps;rw[A3,List.mem_flatMap,f9];constructor
 ·rintro(⟨i,h1,h2⟩ | ⟨j,h,rfl⟩)
  ·obtain⟨j,h3,rfl⟩:=f9.mp h2;have:=X9.mp h1;have:=X9.mp h3;exact .inl ⟨by omega,by omega,by omega,by omega⟩
  ·exact .inr ⟨rfl,X9.mp h⟩
 ·rintro(⟨h1,h2,h3,h4⟩ | ⟨h1,h2,h3⟩)
  ·exact .inl ⟨q.1,X9.mpr ⟨h1,h2⟩,f9.mpr ⟨q.2,X9.mpr ⟨h3,h4⟩,rfl⟩⟩
  ·exact .inr ⟨q.2,X9.mpr ⟨h2,h3⟩,by rw[←h1]⟩
theorem z1n(h:0<c):ps b r (c+1)=ps b r c++[(r,c)]:=by
 unfold ps;rw[z2s h,z9,J3];rfl
theorem q9D(h:0<r):ps b (r+1) 1=ps b r (2^b):=by
 unfold ps;rw[z2s h,w2d];show _++[]=_;rw[B3]
 congr 1
 simp
theorem q8D(b:Nat):ps b 1 1=[]:=rfl
def lx(p q:Nat×Nat):Prop:=p.1<q.1\/(p.1=q.1/\p.2<q.2)
theorem z1P(h:(ps b r 1).Pairwise lx):∀d,(ps b r (d+1)).Pairwise lx
 | 0=>h
 | d+1=>by
  rw[z1n (by omega)];refine w28.mpr ⟨z1P h d,w3X _ _,λp hp q hq=>?_⟩;rw[u8.mp hq];rcases G4.mp hp with z | z
  ·exact .inl z.2.1
  ·exact .inr ⟨z.1,z.2.2⟩
theorem z2t(b:Nat):∀d,(ps b (d+1) 1).Pairwise lx
 | 0=>by rw[q8D];exact .nil
 | d+1=>by
  rw[q9D (by omega)];have:=z1P (z2t b d) (2^b - 1)
  rwa [show 2^b - 1+1=2^b by have:=O3 b;omega]at this
theorem q9x(n:Nat):(r1 n).length=n - 1:=by unfold r1;rw[d5,w6]
theorem z0D(b:Nat):∀d,(ps b (d+1) 1).length=d*(2^b - 1)
 | 0=>by rw[q8D];simp
 | d+1=>by
  have e:ps b (d+1) (2^b)=ps b (d+1) 1++(r1 (2^b)).map λj=>(d+1,j):=by unfold ps;rw[J3];rfl
  rw[q9D (by omega),e,p9,d5,q9x,z0D b d,w3K]
def tbl(f:Mx)(b r c:Nat):Tb:=(ps b r c).map λp=>(p,V f p.1 p.2)
theorem q9o{V:Nat×Nat->Nat}{q:Nat×Nat}:∀l:List (Nat×Nat),(l.map λp=>(p,V p)).lookup q=if q∈l then some (V q)else none
 | []=>rfl
 | p::l=>by
  rw[y0,D7];by_cases e:q=p
  ·subst e;simp
  ·rw[show(q==p)=false from t7.mpr e];show(l.map λp=>(p,V p)).lookup q=_;rw[q9o l];simp[e]
theorem Y0(q:Nat×Nat):(tbl f b r c).lookup q=if q∈ps b r c then some (V f q.1 q.2)else none:=q9o (V:=λp=>V f p.1 p.2) _
theorem z0v(f:Mx)(b r c:Nat):(tbl f b r c).length=(ps b r c).length:=d5 ..
end
section
variable {fu k:Nat} {F:Nat->List DV->Option Ou} {δ:List Sv} {ds:List DV} {cl:Cl} {a b R C:Nat} {rest:List (List Int)}
theorem z4P(hb:b<=5)(R0:0<R)(hR:R<=32)(hC:C<=32):(ps b R C).length<=1000:=by
 have e:ps b R C=ps b R 1++(r1 C).map λj=>(R,j):=by unfold ps;rw[J3];rfl
 obtain⟨d,rfl⟩:∃d,R=d+1:=⟨R - 1,by omega⟩;rw[e,p9,d5,q9x,z0D];have pb:=p32 hb;have:d*(2^b - 1)<=31*31:=w3k (by omega) (by omega);omega
theorem y0L(C0:0<C)(C1:C<2^b)(R0:0<R)(h:w∈wl R C):w.2.2.1∈ps b R C/\w.2.2.2∈ps b R C:=by
 rcases q6E h with⟨g,s,_,e⟩ | ⟨g,s,_,e⟩
 ·have:=s.1;have:=s.2.1;rw[e];exact⟨G4.mpr (.inl ⟨by dsimp only;omega,by dsimp only;omega,C0,C1⟩),G4.mpr (.inl ⟨by dsimp only;omega,by dsimp only;omega,C0,C1⟩)⟩
 ·have:=s.1;have:=s.2.1;rw[e];exact⟨G4.mpr (.inr ⟨rfl,by dsimp only;omega,by dsimp only;omega⟩),G4.mpr (.inr ⟨rfl,by dsimp only;omega,by dsimp only;omega⟩)⟩
def wv(f:Mx)(w:Wy):Nat:=1+max (V f w.2.2.1.1 w.2.2.1.2) (V f w.2.2.2.1 w.2.2.2.2)
theorem q9z(h:0<C):tbl f b R (C+1)=tbl f b R C++[((R,C),V f R C)]:=by
 unfold tbl;rw[z1n h,z9];rfl
theorem y0o(hR:R<32)(hC:C<32)(R0:0<R)(C0:0<C)(h2:2<=wn f R C):wl R C≠[]:=by
 intro z';unfold wl at z';obtain⟨q1,q2⟩:=List.append_eq_nil_iff.mp z';rcases y0K hR hC R0 C0 h2 with q | q
 ·exact q (w2e.mp q1)
 ·exact q (w2e.mp q2)
theorem z4o(t:DV)(rc:Rect a b rest)(w9:W9 rest)(a0:0<a)(ha:a<=5)(hb:b<=5)(R0:0<R)(R1:R<2^a)(C0:0<C)(C1:C<2^b)(w:Sv) :
  ∃w',evSs G (run G T fu (k+3)) fu lnB (lnD t rest (tbl (mf rest) b R C) (.val (.int R)) (.val (.int C)) w)=some (.nx (lnD t rest (tbl (mf rest) b R (C+1)) (.val (.int R)) (.val (.int C)) w')):=by
 have pa:=p32 ha;have pb:=p32 hb;have hR:R<32:=by omega
 have hC:C<32:=by omega
 have hln:(tbl (mf rest) b R C).length<100000:=by rw[z0v];have:=z4P (b:=b) (R:=R) (C:=C) hb R0 (by omega) (by omega);omega
 have nw:(tbl (mf rest) b R C).lookup (R,C)=none:=by
  rw[Y0,d7 λz=>?_];rcases G4.mp z with q | q
  ·have:=q.2.1;dsimp only at this;omega
  ·have:=q.2.2;dsimp only at this;omega
 have cnt:=z6G (fu:=fu) (k:=k) (δ:=lnD t rest (tbl (mf rest) b R C) (.val (.int R)) (.val (.int C)) w) rc w9 a0 ha hb R0 R1 C0 C1 rfl rfl rfl;have tst:=z6a cnt (i3 (i:=((1:Nat):Int)));have wp':=z5n rc w9 ha hb R0 R1 C0 C1;have ve:=V_eq (mf rest) (R:=R) (C:=C) (by omega);unfold stp at ve;rw[q9z C0];by_cases h1:wn (mf rest) R C=1
 ·rw[h1]at tst;rw[b8 h1]at ve;rw[ve];exact⟨w,M6 (j8 tst) (i5 (z2Z (z:=0) rfl (b7 rfl) (b7 rfl) (b7 rfl) nw hln) rfl) rfl⟩
 ·have tf:(wn (mf rest) R C==1)=false:=t7.mpr h1;rw[tf]at tst;rw[d7 h1]at ve;have h2:2<=wn (mf rest) R C:=by omega
  have sp:=j5 (G:=G) (F:=run G T fu (k+3)) (δ:=lnD t rest (tbl (mf rest) b R C) (.val (.int R)) (.val (.int C)) w) (f:=17) (es:=[.var 5,.var 6]) (l:=[(.int R,.strong),(.int C,.strong)]) rfl rfl (z4D (fu:=fu) (k:=k+1) hR hC);have cm:=C5 (F:=run G T fu (k+3)) (δ:=lnD t rest (tbl (mf rest) b R C) (.val (.int R)) (.val (.int C)) (.val (.lst ((wl R C).map wD)))) (l:=wl R C) (h:=wD) (f:=λw=>.int ((wv (mf rest) w:Nat):Int)) (elt:=.callv 4 [("joined_bits",15)] [.dgp 5 (.var 2),.dgp 5 (.var 3)]) (tg:=.many [0,1,2,3]) (it:=.var 7) (fr:=[none,none,none,none,some 2,some 4]) (cl:=.strong) rfl (by decide)
   (by unfold wl;rw[p9,d5,d5];exact i7 (w3l (q6a hR) (q6a hC)) (by decide)) λw hw=>by obtain⟨i1,i2⟩:=y0L C0 C1 R0 hw;refine⟨[.val w.1,.val (.int w.2.1),.val (.tup [.int w.2.2.1.1,.int w.2.2.1.2]),.val (.tup [.int w.2.2.2.1,.int w.2.2.2.2]),.val (.fn "joined_bits"),.od (dD (tbl (mf rest) b R C))],.strong,rfl,?_,rfl⟩;exact z3Z (F:=run G T fu (k+3)) (δ:=[.val w.1,.val (.int w.2.1),.val (.tup [.int w.2.2.1.1,.int w.2.2.1.2]),.val (.tup [.int w.2.2.2.1,.int w.2.2.2.2]),.val (.fn "joined_bits"),.od (dD (tbl (mf rest) b R C))]) (i:=4) (xs:=[("joined_bits",15)]) (es:=[.dgp 5 (.var 2),.dgp 5 (.var 3)]) rfl rfl (d6 (z5e (L:=tbl (mf rest) b R C) rfl (b7 rfl) (by rw[Y0,b8 i1])) (d6 (z5e (L:=tbl (mf rest) b R C) rfl (b7 rfl) (by rw[Y0,b8 i2])) i4)) rfl (z3q (fu:=fu) (k:=k+2) _ _)
  have cm':evE G (run G T fu (k+3)) (.comp (.callv 4 [("joined_bits",15)] [.dgp 5 (.var 2),.dgp 5 (.var 3)]) (.many [0,1,2,3]) (.var 7) [none,none,none,none,some 2,some 4]) (lnD t rest (tbl (mf rest) b R C) (.val (.int R)) (.val (.int C)) (.val (.lst ((wl R C).map wD))))=some (.ok (.lst (nD ((wl R C).map (wv (mf rest))))) .fresh):=(by rw[cm];unfold nD;rw[j4];rfl);have ne:(wl R C).map (wv (mf rest))≠[]:=λz=>y0o hR hC R0 C0 h2 (w2e.mp z);obtain⟨z,hz,hm,ez⟩:=z2r cm' ne;rw[q7X hz hm,show minN ((wl R C).map (wv (mf rest)))=V (mf rest) R C from ve.symm]at ez;exact⟨_,q9t (j8 tst) (i5 (j7 sp rfl) (i5 (z2Z (z:=V (mf rest) R C) rfl ez (b7 rfl) (b7 rfl) nw hln) rfl)) rfl⟩
theorem z3W(t:DV)(rc:Rect a b rest)(w9:W9 rest)(a0:0<a)(ha:a<=5)(hb:b<=5)(R0:0<R)(R1:R<2^a)(y w:Sv) :
  ∃δ',A9 (.one 6) (λδ'=>evSs G (run G T fu (k+3)) fu lnB δ') (upTo 1 (2^b - 1)) (lnD t rest (tbl (mf rest) b R 1) (.val (.int R)) y w)=some (.nx δ')/\∃y' w',δ'=lnD t rest (tbl (mf rest) b R (2^b - 1+1)) (.val (.int R)) y' w':=by
 refine L6 (I:=λj δ'=>∃y' w',δ'=lnD t rest (tbl (mf rest) b R (j+1)) (.val (.int R)) y' w') (2^b - 1) 1 (λj hj δ h=>?_) ⟨y,w,rfl⟩;obtain⟨y',w',rfl⟩:=h;obtain⟨w2,e⟩:=z4o (fu:=fu) (k:=k) t rc w9 a0 ha hb R0 R1 (C:=j+1) (by omega) (by omega) w';have e1:(lnD t rest (tbl (mf rest) b R (j+1)) (.val (.int R)) y' w').set 6 (.val (.int (1+(j:Int))))=lnD t rest (tbl (mf rest) b R (j+1)) (.val (.int R)) (.val (.int ((j+1:Nat):Int))) w':=by show lnD t rest (tbl (mf rest) b R (j+1)) (.val (.int R)) (.val (.int (1+(j:Int)))) w'=_;rw[show(1:Int)+(j:Int)=((j+1:Nat):Int) by omega]
 exact⟨_,by rw[e1];exact e,_,_,rfl⟩
theorem z3G(t:DV)(rc:Rect a b rest)(w9:W9 rest)(a0:0<a)(ha:a<=5)(hb:b<=5)(x y w:Sv) :
  ∃δ',A9 (.one 5) (λδ'=>evSs G (run G T fu (k+3)) fu [lnF] δ') (upTo 1 (2^a - 1)) (lnD t rest [] x y w)=some (.nx δ')/\∃x' y' w',δ'=lnD t rest (tbl (mf rest) b (2^a - 1+1) 1) x' y' w':=by
 have pb:=p32 hb;have b1:=O3 b;refine L6 (I:=λj δ'=>∃x' y' w',δ'=lnD t rest (tbl (mf rest) b (j+1) 1) x' y' w') (2^a - 1) 1 (λj hj δ h=>?_) ⟨x,y,w,rfl⟩;obtain⟨x',y',w',rfl⟩:=h;obtain⟨δ2,e,y2,w2,rfl⟩:=z3W (fu:=fu) (k:=k) t rc w9 a0 ha hb (R:=j+1) (by omega) (by omega) y' w';rw[show 2^b - 1+1=2^b by omega]at e;have e1:(lnD t rest (tbl (mf rest) b (j+1) 1) x' y' w').set 5 (.val (.int (1+(j:Int))))=lnD t rest (tbl (mf rest) b (j+1) 1) (.val (.int ((j+1:Nat):Int))) y' w':=(by show lnD t rest (tbl (mf rest) b (j+1) 1) (.val (.int (1+(j:Int)))) y' w'=_;rw[show(1:Int)+(j:Int)=((j+1:Nat):Int) by omega]);have e2:tbl (mf rest) b (j+1) (2^b)=tbl (mf rest) b (j+1+1) 1:=by unfold tbl;rw[q9D (by omega)]
 rw[e2]at e;have r0:0<rest.length:=by rw[rc.1];exact a0
 have ln:=T9 (F:=run G T fu (k+3)) (δ:=lnD t rest (tbl (mf rest) b (j+1) 1) (.val (.int ((j+1:Nat):Int))) y' w') (u0 (a:=.var 3) (b:=.int 0) (cx:=.strong) (b7 rfl) (i3 (i:=((0:Nat):Int))) (q5G r0));rw[show(iD (rest.getD 0 [])).length=b by unfold iD;rw[d5];exact rc.2 _ (F3 r0)]at ln;exact⟨_,by rw[e1];exact G9 (q5K (z5r ln (by omega)) (by omega)) (.inr rfl) e rfl,_,_,_,rfl⟩
def ft(m:Nat)(rows:List (List Int)):Tb:=tbl (mf (rst m rows)) (FI (flip m rows)).length (2^(FI rows).length) 1
theorem z5E:Rect (FI rows).length (FI (flip m rows)).length (rst m rows):=by
 refine⟨by unfold rst sub;rw[d5],λr hr=>?_⟩;obtain⟨i,_,rfl⟩:=f9.mp hr;rw[d5]
theorem z5F(rc:Rect n m rows)(w9:W9 rows):W9 (rst m rows):=λr hr x hx=>by
 obtain⟨i,hi,rfl⟩:=f9.mp hr;obtain⟨j,hj,rfl⟩:=f9.mp hx;have:=U1 hi;have:=U1 hj;rw[(X6 rc).1]at this;exact z3s rc w9 (by rw[←rc.1];omega) this
theorem z1o(rows:List (List Int))(n m:Nat)(rc:Rect n m rows)(w9:W9 rows)(hn:0<n)(hn2:n<=60)(hm2:m<=60)(h1:(FI rows).length<=5)(h2:(FI (flip m rows)).length<=5) :
  run G T fu (k+6) 16 [tT rows,.int 0,.fn "joined_bits"]=some (.v (dC (ft m rows)) false):=by
 have a0:0<(FI rows).length:=P6 (by rw[rc.1];exact hn);have rc':=z5E (m:=m) (rows:=rows);obtain⟨δ',e,x',y',w',rfl⟩:=z3G (fu:=fu) (k:=k+2) (tT rows) rc' (z5F rc w9) a0 h1 h2 .no .no .no;have a1:=O3 (FI rows).length;rw[show 2^(FI rows).length - 1+1=2^(FI rows).length by omega]at e;have pa:=p32 h1;rw[n6 (fd:=q1n) rfl rfl];have c1:=j5 (G:=G) (F:=run G T fu (k+5)) (δ:=f8 8 [tT rows,.int 0,.fn "joined_bits"]) (f:=10) (es:=[.var 0]) (l:=[(tT rows,.strong)]) rfl rfl (q6i (fu:=fu) (k:=k) rows n m rc hn hn2 hm2 h1 h2);have c2:=j5 (G:=G) (F:=run G T fu (k+5)) (δ:=f8 8 [tT rows,.int 0,.fn "joined_bits"]) (f:=8) (es:=[.var 0]) (l:=[(tT rows,.strong)]) rfl rfl (q7h (fu:=fu) (k:=k+2) rows n m rc hn hn2 hm2);have ln:=T9 (F:=run G T fu (k+5)) (δ:=lnD (tT rows) (rst m rows) [] .no .no .no) (e:=.var 3) (ds:=(rst m rows).map λr=>.tup (iD r)) (c:=.strong) rfl;rw[d5,rc'.1]at ln;show Ou.of (evSs G (run G T fu (k+5)) fu [.exp (.call 10 [.var 0]),.set 3 false (.call 8 [.var 0]),.sep 4,.fo (.one 5) (.rng [.int 1,.bin .LShift (.int 1) (.bi .len [.var 3])]) [lnF],.retd 4] (f8 8 [tT rows,.int 0,.fn "joined_bits"]))=_;exact r6 (i5 (z1V c1) (i5 (j7 c2 rfl) (i5 (z4Q rfl) (G9 (q5K (z5r ln (by omega)) (by omega)) (.inr rfl) e (o6 (z0z rfl))))))
theorem q8r(a0:0<(FI rows).length)(b0:0<(FI (flip m rows)).length):∃L,ft m rows=L++[((2^(FI rows).length - 1,2^(FI (flip m rows)).length - 1),V (mf (rst m rows)) (2^(FI rows).length - 1) (2^(FI (flip m rows)).length - 1))]:=by
 unfold ft;generalize (FI rows).length=A at *;generalize (FI (flip m rows)).length=B at *;have a1:2<=2^A:=i7 (by decide:2<=2^1) (N8 (by decide) a0);have b1:2<=2^B:=i7 (by decide:2<=2^1) (N8 (by decide) b0);have e:=q9z (f:=mf (rst m rows)) (b:=B) (R:=2^A - 1) (C:=2^B - 1) (by omega);rw[show 2^B - 1+1=2^B by omega]at e;have e2:tbl (mf (rst m rows)) B (2^A) 1=tbl (mf (rst m rows)) B (2^A - 1) (2^B):=by have:=q9D (b:=B) (r:=2^A - 1) (by omega);rw[show 2^A - 1+1=2^A by omega]at this;unfold tbl;rw[this]
 exact⟨_,e2.trans e⟩
theorem z5l(h1:(FI rows).length<=5)(h2:(FI (flip m rows)).length<=5):(ft m rows).length=(2^(FI rows).length - 1)*(2^(FI (flip m rows)).length - 1)/\(ft m rows).length<=1000:=by
 unfold ft;rw[z0v];have a1:=O3 (FI rows).length;have pa:=p32 h1;refine⟨?_,z4P h2 a1 pa (by omega)⟩;have:=z0D (FI (flip m rows)).length (2^(FI rows).length - 1)
 rwa [show 2^(FI rows).length - 1+1=2^(FI rows).length by omega]at this
theorem q4t(rows:List (List Int))(n m:Nat)(rc:Rect n m rows)(w9:W9 rows)(hn:0<n)(hn2:n<=60)(hm:0<m)(hm2:m<=60)(h1:(FI rows).length<=5)(h2:(FI (flip m rows)).length<=5) :
  run G T fu (k+8) 12 [tT rows]=some (.v (.lst ((ft m rows).map tD)) true):=by
 have a0:0<(FI rows).length:=P6 (by rw[rc.1];exact hn);have b0:0<(FI (flip m rows)).length:=P6 (by rw[(X6 rc).1];exact hm);have e:=z1o (fu:=fu) (k:=k) rows n m rc w9 hn hn2 hm2 h1 h2;have e1:run G T fu (k+7) 14 [tT rows]=some (.v (dC (ft m rows)) false):=(by rw[n6 (fd:=q1i) rfl rfl];unfold q1i;exact r6 (o6 (x5 (cl:=.strong) (j5 (G:=G) (F:=run G T fu (k+6)) (δ:=f8 1 [tT rows]) (l:=[(tT rows,.strong),(.int 0,.strong),(.fn "joined_bits",.strong)]) rfl rfl e))));rw[n6 (fd:=q1E) rfl rfl];unfold q1E;have c:=j5 (G:=G) (F:=run G T fu (k+7)) (δ:=f8 1 [tT rows]) (f:=14) (es:=[.var 0]) (l:=[(tT rows,.strong)]) rfl rfl e1;obtain⟨L,eL⟩:=q8r (m:=m) a0 b0;exact r6 (o6 (x5 (cl:=.fresh) (j5 (fr:=true) (d6 c i4) rfl (z6x (fu:=fu) (k:=k+6) _ (by rw[eL];simp) (by have:=(z5l (m:=m) h1 h2).2;omega)))))
theorem z8h(rows:List (List Int))(n m:Nat)(rc:Rect n m rows)(w9:W9 rows)(hn:0<n)(hn2:n<=60)(hm:0<m)(hm2:m<=60)(h1:(FI rows).length<=5)(h2:(FI (flip m rows)).length<=5) :
  run G T fu (k+9) 19 [tT rows]=some (.v (.int (V (mf (rst m rows)) (2^(FI rows).length - 1) (2^(FI (flip m rows)).length - 1):Nat)) false):=by
 have a0:0<(FI rows).length:=P6 (by rw[rc.1];exact hn);have b0:0<(FI (flip m rows)).length:=P6 (by rw[(X6 rc).1];exact hm);have e2:=q4t (fu:=fu) (k:=k) rows n m rc w9 hn hn2 hm hm2 h1 h2;obtain⟨L,eL⟩:=q8r (m:=m) a0 b0;rw[eL]at e2;rw[n6 (fd:=q1F) rfl rfl];unfold q1F;generalize 2^(FI rows).length - 1=A at *;generalize 2^(FI (flip m rows)).length - 1=B at *;have c:=j5 (G:=G) (F:=run G T fu (k+8)) (δ:=f8 1 [tT rows]) (f:=12) (es:=[.var 0]) (l:=[(tT rows,.strong)]) rfl rfl e2;rw[z9]at c;exact r6 (o6 (x5 (cl:=.strong) (u0 (cx:=.strong) (u0 c (z8p (i3 (i:=1))) (z7R _ _)) (i3 (i:=2)) rfl)))
end
section
variable {fu k:Nat} {F:Nat->List DV->Option Ou} {δ:List Sv} {ds:List DV} {cl:Cl} {a b R C:Nat} {rest:List (List Int)}
theorem q6D(n:Nat)(hn:n<=8):run G T fu (k+1) 26 [.int n]=some (.v (.int ((2^n:Nat):Int)) false):=by
 rw[n6 (fd:=q2g) rfl rfl];unfold q2g;obtain⟨δ',e,z,rfl⟩:=L6 (i:=2) (I:=λj δ=>∃z,δ=[.val (.int n),.val (.int ((2^j:Nat):Int)),z]) (body:=λδ'=>evSs G (run G T fu k) fu [.set 1 false (.bin .Mult (.var 1) (.int 2))] δ') n 0 (δ:=[.val (.int n),.val (.int 1),.no]) (λj hj δ h=>by
  obtain⟨z,rfl⟩:=h;have mk:F9 ((2^j:Nat):Int) 2=true:=by unfold F9;simp
  have q:=R8 (G:=G) (F:=run G T fu k) (δ:=[.val (.int n),.val (.int ((2^j:Nat):Int)),.val (.int (0+(j:Int)))]) (a:=.var 1) (b:=.int 2) (b7 rfl) i3 mk;rw[show((2^j:Nat):Int)*2=((2^(j+1):Nat):Int) by rw[Nat.pow_succ];push_cast;rfl]at q;exact⟨_,i5 (j7 q rfl) rfl,_,rfl⟩) ⟨.no,rfl⟩
 exact r6 (i5 (j7 (i3 (i:=1)) rfl) (G9 (N2 (b7 rfl) (by omega)) (.inr rfl) e (o6 (x5 (cl:=.strong) (b7 rfl)))))
def lh(R:Nat):List Nat:=(r1 R).filter λh=>h &&& R==h
theorem U3:h∈lh R↔Sb h R:=by
 unfold lh Sb;rw[u9,X9,d8,and_assoc]
theorem q5V(h:R<32):(lh R).length<=31:=i7 (w1T _ _) (by rw[q9x];omega)
theorem q7s(hR:R<32):run G T fu (k+1) 27 [.int R]=some (.v (.lst (nD (lh R))) true):=by
 rw[n6 (fd:=q1L) rfl rfl];unfold q1L;have w:=q5K (F:=run G T fu k) (δ:=f8 1 [.int R]) (b:=.var 0) (n:=R) (b7 rfl) (by omega);rw[y0u]at w;refine r6 (o6 (x5 (cl:=.fresh) (q2N (f:=λ(h:Nat)=>.int (h:Int)) (p:=λh=>h &&& R==h) w (by decide) (l:=r1 R) (by rw[q9x];exact i7 (show R - 1<=1000 by omega) (by decide)) λh hh=>?_)));refine⟨[.val (.int h),.val (.int R)],rfl,?_,.strong,b7 rfl,rfl⟩;have e1:=z6a (F:=run G T fu k) (δ:=[.val (.int (h:Int)),.val (.int R)]) (z4T (a:=.var 0) (b:=.var 1) (b7 rfl) (b7 rfl)) (b7 (n:=0) rfl);rw[e1];rfl
abbrev Sp:=(Nat×Nat)×(Nat×Nat)
def sD(w:Sp):DV:=.tup [.tup [.int w.1.1,.int w.1.2],.tup [.int w.2.1,.int w.2.2]]
def ls(R C:Nat):List Sp:=(lh R).map (λh=>((h,C),(R - h,C)))++(lh C).map (λh=>((R,h),(R,C - h)))
theorem z0L(hR:R<32)(hC:C<32):run G T fu (k+2) 28 [.int R,.int C]=some (.v (.lst ((ls R C).map sD)) true):=by
 rw[n6 (fd:=q1O) rfl rfl];unfold q1O;have c1:=j5 (G:=G) (F:=run G T fu (k+1)) (δ:=f8 3 [.int R,.int C]) (f:=27) (es:=[.var 0]) (l:=[(.int R,.strong)]) rfl rfl (q7s (k:=k) (fu:=fu) hR);have c2:=j5 (G:=G) (F:=run G T fu (k+1)) (δ:=[.val (.int R),.val (.int C),.val (.lst ((lh R).map λh=>sD ((h,C),(R - h,C))))]) (f:=27) (es:=[.var 1]) (l:=[(.int C,.strong)]) rfl rfl (q7s (k:=k) (fu:=fu) hC);have w1:j3 (evE G (run G T fu (k+1)) (.call 27 [.var 0]) (f8 3 [.int R,.int C]))=some (.ok ((lh R).map λ(h:Nat)=>DV.int (h:Int)) .fresh):=by rw[c1];rfl
 have w2:j3 (evE G (run G T fu (k+1)) (.call 27 [.var 1]) [.val (.int R),.val (.int C),.val (.lst ((lh R).map λh=>sD ((h,C),(R - h,C))))])=some (.ok ((lh C).map λ(h:Nat)=>DV.int (h:Int)) .fresh):=by rw[c2];rfl
 have m1:=C5 (elt:=.tup [.tup [.var 0,.var 1],.tup [.bin .Sub (.var 2) (.var 0),.var 1]]) (tg:=.one 0) (fr:=[none,some 1,some 0]) (f:=λh=>sD ((h,C),(R - h,C))) w1 (by decide) (i7 (q5V hR) (by decide)) λh hh=>
  ⟨[.val (.int h),.val (.int C),.val (.int R)],.strong,rfl,by
   have s:=L7 (G:=G) (F:=run G T fu (k+1)) (δ:=[.val (.int h),.val (.int C),.val (.int R)]) (a:=.var 2) (b:=.var 0) (i:=R) (j:=h) (b7 rfl) (b7 rfl);rw[q4F (U3.mp hh).2.1]at s;exact E3 (d6 (E3 (d6 (b7 rfl) (d6 (b7 rfl) i4)) (ln4 (by simp)) rfl) (d6 (E3 (d6 s (d6 (b7 rfl) i4)) (ln4 (by simp)) rfl) i4)) (ln4 (by simp)) rfl,rfl⟩
 have m2:=C5 (elt:=.tup [.tup [.var 1,.var 0],.tup [.var 1,.bin .Sub (.var 2) (.var 0)]]) (tg:=.one 0) (fr:=[none,some 0,some 1]) (f:=λh=>sD ((R,h),(R,C - h))) w2 (by decide) (i7 (q5V hC) (by decide)) λh hh=>
  ⟨[.val (.int h),.val (.int R),.val (.int C)],.strong,rfl,by
   have s:=L7 (G:=G) (F:=run G T fu (k+1)) (δ:=[.val (.int h),.val (.int R),.val (.int C)]) (a:=.var 2) (b:=.var 0) (i:=C) (j:=h) (b7 rfl) (b7 rfl);rw[q4F (U3.mp hh).2.1]at s;exact E3 (d6 (E3 (d6 (b7 rfl) (d6 (b7 rfl) i4)) (ln4 (by simp)) rfl) (d6 (E3 (d6 (b7 rfl) (d6 s i4)) (ln4 (by simp)) rfl) i4)) (ln4 (by simp)) rfl,rfl⟩
 refine r6 (i5 (j7 m1 rfl) (o6 (x5 (cl:=.fresh) ?_)));refine(F0 (b7 rfl) m2 (show binD .Add (.lst ((lh R).map λh=>sD ((h,C),(R - h,C)))) (.lst ((lh C).map λh=>sD ((R,h),(R,C - h)))) .strong .fresh=some (.ok (.lst ((ls R C).map sD)) .fresh)from ?_));show(if((lh R).map λh=>sD ((h,C),(R - h,C))).length+((lh C).map λh=>sD ((R,h),(R,C - h))).length<=mostLen then _ else none)=_;rw[b8]
 ·unfold ls;rw[z9,j4,j4];rfl
 ·rw[d5,d5];exact i7 (w3l (q5V hR) (q5V hC)) (by decide)
theorem z9N(hR:R<32)(hC:C<32)(R0:0<R)(C0:0<C)(h1:wn f R C≠1)(hp:0<wn f R C):ls R C≠[]/\V f R C=1+minN ((ls R C).map λw=>max (V f w.1.1 w.1.2) (V f w.2.1 w.2.2)):=by
 have h2:2<=wn f R C:=by omega
 have ne:=y0o hR hC R0 C0 h2;have toL:∀w∈wl R C,∃s∈ls R C,s=(w.2.2.2,w.2.2.1):=λw hw=>by
  rcases q6E hw with⟨g,s,_,e⟩ | ⟨g,s,_,e⟩
  ·exact⟨_,z8 _ (f9.mpr ⟨g,U3.mpr s,rfl⟩),by rw[e]⟩
  ·exact⟨_,y9 _ (f9.mpr ⟨g,U3.mpr s,rfl⟩),by rw[e]⟩
 have toW:∀s∈ls R C,∃w∈wl R C,w.2.2=(s.1,s.2)\/w.2.2=(s.2,s.1):=λs hs=>by
  unfold ls at hs;unfold wl;rcases A3.mp hs with q | q
  ·obtain⟨g,hg,rfl⟩:=f9.mp q;have sb:=U3.mp hg;rcases z2H R hR g (sb.lt hR) sb with q | ⟨q,e⟩
   ·exact⟨_,z8 _ (f9.mpr ⟨g,q,rfl⟩),.inr rfl⟩
   ·exact⟨_,z8 _ (f9.mpr ⟨R - g,q,rfl⟩),.inl (by show((R - (R - g),C),(R - g,C))=_;rw[e])⟩
  ·obtain⟨g,hg,rfl⟩:=f9.mp q;have sb:=U3.mp hg;rcases z2H C hC g (sb.lt hC) sb with q | ⟨q,e⟩
   ·exact⟨_,y9 _ (f9.mpr ⟨g,q,rfl⟩),.inr rfl⟩
   ·exact⟨_,y9 _ (f9.mpr ⟨C - g,q,rfl⟩),.inl (by show((R,C - (C - g)),(R,C - g))=_;rw[e])⟩
 have lne:ls R C≠[]:=(by obtain⟨w,hw⟩:=List.exists_mem_of_ne_nil _ ne;obtain⟨s,hs,_⟩:=toL w hw;intro z;rw[z]at hs;cases hs);refine⟨lne,?_⟩;rw[V_eq f (by omega)];unfold stp;rw[d7 h1]
 symm
 refine z8H (λz=>lne (w2e.mp z)) (λx hx=>?_) (λy hy=>?_)
 ·obtain⟨s,hs,rfl⟩:=f9.mp hx;obtain⟨w,hw,e | e⟩:=toW s hs
  ·exact f9.mpr ⟨w,hw,by rw[e]⟩
  ·exact f9.mpr ⟨w,hw,by rw[e,Nat.max_comm]⟩
 ·obtain⟨w,hw,rfl⟩:=f9.mp hy;obtain⟨s,hs,e⟩:=toL w hw;exact⟨_,f9.mpr ⟨s,hs,rfl⟩,by rw[e,Nat.max_comm]⟩
end
section
variable {fu k:Nat} {F:Nat->List DV->Option Ou} {δ:List Sv} {ds:List DV} {cl:Cl} {a b R C:Nat} {rest:List (List Int)}
def eN(f:Mx)(R C i j:Nat):List Int:=if R.testBit i&&C.testBit j then[f i j]else[]
def rowS(f:Mx)(R C b i:Nat):List Int:=(List.range b).flatMap (eN f R C i)
def snS(f:Mx)(R C a b:Nat):List Int:=(List.range a).flatMap (rowS f R C b)
theorem z0H(f:Mx)(R C i:Nat):∀b,(rowS f R C b i).length<=b
 | 0=>e9 _
 | b+1=>by have:=z0H f R C i b;unfold rowS at this ⊢;rw[Z4,w2d,p9];have e:([b].flatMap (eN f R C i)).length<=1:=(by rw[w2U,w2A,B3];unfold eN;split<;>simp);omega
theorem z8U(f:Mx)(R C b:Nat):∀a,(snS f R C a b).length<=a*b
 | 0=>by simp[snS]
 | a+1=>by have:=z8U f R C b a;unfold snS at this ⊢;rw[Z4,w2d,p9,w2U,w2A,B3,w3K];have:=z0H f R C a b;omega
theorem q8y:x∈snS f R C a b↔∃i j,i<a/\j<b/\R.testBit i=true/\C.testBit j=true/\x=f i j:=by
 unfold snS rowS eN;simp only[List.mem_flatMap,s9];constructor
 ·rintro⟨i,hi,j,hj,h⟩
  split at h
  ·rename_i q;rw[b9]at q;exact⟨i,j,hi,hj,q.1,q.2,u8.mp h⟩
  ·cases h
 ·rintro⟨i,j,hi,hj,h1,h2,rfl⟩
  exact⟨i,hi,j,hj,by rw[h1,h2];exact u8.mpr rfl⟩
theorem q9i:∀(r:List Int) (m:Int),(maxI m r=m\/maxI m r∈r)/\m<=maxI m r/\∀x∈r,x<=maxI m r
 | [],m=>⟨.inl rfl,w4c _,λ_ h=>nomatch h⟩
 | x::r,m=>by
  show(maxI (if m<x then x else m) r=m\/_)/\_;obtain⟨h1,h2,h3⟩:=q9i r (if m<x then x else m);by_cases q:m<x
  ·rw[b8 q]at h1 h2 h3 ⊢;refine⟨.inr ?_,by show m<=maxI (if m<x then x else m) r;rw[b8 q];omega,λy hy=>?_⟩
   ·show maxI (if m<x then x else m) r∈_;rw[b8 q];rcases h1 with h | h
    ·rw[h];exact i8
    ·exact i6 _ h
   ·show y<=maxI (if m<x then x else m) r;rw[b8 q];rcases e8.mp hy with e | e
    ·rw[e];exact h2
    ·exact h3 y e
  ·rw[d7 q]at h1 h2 h3 ⊢;refine⟨?_,by show m<=maxI (if m<x then x else m) r;rw[d7 q];exact h2,λy hy=>?_⟩
   ·rcases h1 with h | h
    ·exact .inl h
    ·right;show maxI (if m<x then x else m) r∈_;rw[d7 q];exact i6 _ h
   ·show y<=maxI (if m<x then x else m) r;rw[d7 q];rcases e8.mp hy with e | e
    ·rw[e];omega
    ·exact h3 y e
theorem z6Q(m:Int)(r:List Int):minI m r=maxI m r↔∀x∈m::r,∀y∈m::r,x=y:=by
 obtain⟨h1,h2,h3⟩:=q8i r m;obtain⟨g1,g2,g3⟩:=q9i r m;have lo:∀x∈m::r,minI m r<=x:=λx hx=>by rcases e8.mp hx with e | e;rw[e];exact h2;exact h3 x e
 have hi:∀x∈m::r,x<=maxI m r:=λx hx=>by rcases e8.mp hx with e | e;rw[e];exact g2;exact g3 x e
 constructor
 ·intro e x hx y hy;have:=lo x hx;have:=hi x hx;have:=lo y hy;have:=hi y hy;omega
 ·intro h;refine h _ ?_ _ ?_
  ·rcases h1 with e | e
   ·rw[e];exact i8
   ·exact i6 _ e
  ·rcases g1 with e | e
   ·rw[e];exact i8
   ·exact i6 _ e
theorem z8I(h9:∀i∈cs R,∀j∈cs C,0<=f i j/\f i j<=9)(hi0:i0∈cs R)(hj0:j0∈cs C):wn f R C=1↔∀i∈cs R,∀j∈cs C,f i j=f i0 j0:=by
 unfold wn;have inF:∀i∈cs R,∀j∈cs C,(f i j).toNat∈(List.range 10).filter (wp f R C):=λi hi j hj=>by have:=h9 i hi j hj;exact u9.mpr ⟨s9.mpr (by omega),U2.mpr ⟨i,j,hi,hj,by omega⟩⟩
 constructor
 ·intro h i hi j hj;obtain⟨w,hw⟩:=w4e.mp h;have q1:=inF i hi j hj;have q2:=inF i0 hi0 j0 hj0;rw[hw]at q1 q2;have:=u8.mp q1;have:=u8.mp q2;have:=h9 i hi j hj;have:=h9 i0 hi0 j0 hj0;omega
 ·intro h;have b0:=h9 i0 hi0 j0 hj0;have e:(List.range 10).filter (wp f R C)=(List.range 10).filter λw=>w==(f i0 j0).toNat:=by
   apply List.filter_congr;intro w _;rw[U9,U2,d8];constructor
   ·rintro⟨i,j,hi,hj,q⟩;have:=h i hi j hj;omega
   ·rintro rfl;exact⟨i0,j0,hi0,hj0,by omega⟩
  have q:=inF i0 hi0 j0 hj0;rw[e]at q ⊢;have:=z4O (f i0 j0).toNat (by omega);have:=w2o q;omega
abbrev oS(rest:List (List Int))(R C:Nat)(l:List Int)(x y:Sv):List Sv:=[.val (rL rest),.val (.int R),.val (.int C),.own (.lst (iD l)),x,y]
def oB:List MS:=[.iff (.and [.cmp .Eq (.bin .BitAnd (.bin .RShift (.var 1) (.var 4)) (.int 1)) (.int 1),.cmp .Eq (.bin .BitAnd (.bin .RShift (.var 2) (.var 5)) (.int 1)) (.int 1)]) [.app 3 (.ix (.ix (.var 0) (.var 4)) (.var 5))] []]
theorem y0y{i j:Nat}{u v:ME}(hu:evE G F u δ=some (.ok (.int (i:Int)) .strong))(hv:evE G F v δ=some (.ok (.int (j:Int)) .strong)):evE G F (.cmp .Eq (.bin .BitAnd (.bin .RShift u v) (.int 1)) (.int 1)) δ=some (.ok (.bl (i.testBit j)) .strong):=by
 have e:=F0 (G:=G) (F:=F) (δ:=δ) (op:=.BitAnd) (b:=.int 1) (y:=.int 1) (cy:=.strong) (y0D hu hv (by omega)) i3 (show binD .BitAnd (.int ((i:Int)/2^((j:Int).toNat))) (.int 1) .strong .strong=some (.ok (.int (if i.testBit j then 1 else 0)) .strong) by
  show some (Re.ok (.int (Builtin.bitAnd ((i:Int)/2^((j:Int).toNat)) 1)) .strong)=_;rw[z4E])
 have:=b_eq e (i3 (i:=1));rw[this];cases i.testBit j<;>rfl
theorem o_in(rc:Rect a b rest)(hi:i<a)(hj:j<b)(hl:l.length<=900):evSs G F fu oB (oS rest R C l (.val (.int i)) (.val (.int j)))=some (.nx (oS rest R C (l++eN (mf rest) R C i j) (.val (.int i)) (.val (.int j)))):=by
 have q1:=y0y (F:=F) (δ:=oS rest R C l (.val (.int i)) (.val (.int j))) (u:=.var 1) (v:=.var 4) (i:=R) (j:=i) (b7 rfl) (b7 rfl);have q2:=y0y (F:=F) (δ:=oS rest R C l (.val (.int i)) (.val (.int j))) (u:=.var 2) (v:=.var 5) (i:=C) (j:=j) (b7 rfl) (b7 rfl);unfold oB eN;cases h1:R.testBit i with
 | false=>
  rw[h1]at q1;rw[G6,d7 v9,B3];exact w4 (j8 (z3V q1)) rfl
 | true=>
  rw[h1]at q1;cases h2:C.testBit j with
  | false=>
   rw[h2]at q2;rw[w3h,d7 v9,B3];exact w4 (j8 (z1r q1 (z2T q2))) rfl
  | true=>
   rw[h2]at q2;rw[Bool.and_self,b8 rfl];have e:=z5h (G:=G) (F:=F) (fu:=fu) (i:=3) (e:=.ix (.ix (.var 0) (.var 4)) (.var 5)) (δ:=oS rest R C l (.val (.int i)) (.val (.int j))) (ds:=iD l) (d:=.int (mf rest i j)) (cl:=.strong) rfl
    (u0 (cx:=.strong) (cy:=.strong) (u0 (cx:=.strong) (cy:=.strong) (b7 rfl) (b7 rfl) (U0 (by rw[rc.1];exact hi))) (b7 rfl) (q6B (by rw[rc.2 _ (F3 (by rw[rc.1];exact hi))];exact hj))) rfl (by unfold iD;rw[d5];exact O0 hl (by decide))
   have e2:iD l++[DV.int (mf rest i j)]=iD (l++[mf rest i j]):=by unfold iD;rw[z9];rfl
   rw[e2]at e;exact M6 (j8 (z1r q1 (z2T q2))) (i5 e rfl) rfl
theorem z0k(rc:Rect a b rest)(w9:W9 rest)(a0:0<a)(ha:a<=5)(hb:b<=5)(R0:0<R)(R1:R<2^a)(C0:0<C)(C1:C<2^b):run G T fu (k+1) 29 [rL rest,.int R,.int C]=some (.v (.bl (wn (mf rest) R C==1)) false):=by
 have pa:=p32 ha;have pb:=p32 hb;rw[n6 (fd:=q1o) rfl rfl];unfold q1o;have len0:∀(l:List Int) (x y:Sv),evE G (run G T fu k) (.bi .len [.ix (.var 0) (.int 0)]) (oS rest R C l x y)=some (.ok (.int (b:Int)) .strong):=λl x y=>by
  have e:=J2 (F:=run G T fu k) (δ:=oS rest R C l x y) (u0 (a:=.var 0) (b:=.int 0) (cx:=.strong) (b7 rfl) (i3 (i:=((0:Nat):Int))) (U0 (rows:=rest) (by rw[rc.1];exact a0)))
  rwa [show(iD (rest.getD 0 [])).length=b by unfold iD;rw[d5];exact rc.2 _ (F3 (by rw[rc.1];exact a0))]at e
 obtain⟨δ',lp,x',y',rfl⟩:=L6 (i:=4) (I:=λr δ=>∃x y,δ=oS rest R C (snS (mf rest) R C r b) x y) (body:=λδ'=>evSs G (run G T fu k) fu [.fo (.one 5) (.rng [.bi .len [.ix (.var 0) (.int 0)]]) oB] δ') a 0 (δ:=oS rest R C [] .no .no) (λr hr δ h=>by
  obtain⟨x,y,rfl⟩:=h;rw[show(0:Int)+(r:Int)=r by omega];have sl:=z8U (mf rest) R C b r;have slm:r*b<=5*5:=w3k (by omega) hb;obtain⟨δ2,l2,y2,rfl⟩:=L6 (i:=5) (I:=λc δ=>∃y,δ=oS rest R C (snS (mf rest) R C r b++rowS (mf rest) R C c r) (.val (.int (r:Int))) y) (body:=λδ'=>evSs G (run G T fu k) fu oB δ') b 0 (δ:=oS rest R C (snS (mf rest) R C r b) (.val (.int (r:Int))) y) (λc hc δ h=>by
   obtain⟨y,rfl⟩:=h;rw[show(0:Int)+(c:Int)=c by omega];have rl:=z0H (mf rest) R C r c;have e:=o_in (F:=run G T fu k) (fu:=fu) (R:=R) (C:=C) rc hr hc (l:=snS (mf rest) R C r b++rowS (mf rest) R C c r) (by rw[p9];omega);refine⟨_,e,.val (.int (c:Int)),?_⟩;have e2:rowS (mf rest) R C (c+1) r=rowS (mf rest) R C c r++eN (mf rest) R C r c:=by unfold rowS;rw[Z4,w2d,w2U,w2A,B3]
   rw[e2,J3]) ⟨y,by unfold rowS;rw[List.range_zero,w2A,B3]⟩
  refine⟨_,G9 (N2 (len0 _ _ _) (by omega)) (.inr rfl) l2 rfl,.val (.int (r:Int)),y2,?_⟩;have e2:snS (mf rest) R C (r+1) b=snS (mf rest) R C r b++rowS (mf rest) R C b r:=by unfold snS;rw[Z4,w2d,w2U,w2A,B3]
  rw[e2]) ⟨.no,.no,rfl⟩
 have ln:=J2 (F:=run G T fu k) (δ:=oS rest R C [] .no .no) (e:=.var 0) (ds:=rest.map λr=>.lst (iD r)) (c:=.strong) (b7 rfl);rw[d5,rc.1]at ln;have inA:∀i,i∈cs R->i<a:=λi hi=>q5P R1 hi;have inB:∀j,j∈cs C->j<b:=λj hj=>q5P C1 hj;obtain⟨i0,hi0⟩:=w1y (q6S R (by omega) R0);obtain⟨j0,hj0⟩:=w1y (q6S C (by omega) C0);have h9:∀i∈cs R,∀j∈cs C,0<=mf rest i j/\mf rest i j<=9:=λi hi j hj=>z3s rc w9 (inA i hi) (inB j hj);have m0:mf rest i0 j0∈snS (mf rest) R C a b:=q8y.mpr ⟨i0,j0,inA _ hi0,inB _ hj0,N3 hi0,N3 hj0,rfl⟩;obtain⟨m,r,es⟩:∃m r,snS (mf rest) R C a b=m::r:=by
  cases h:snS (mf rest) R C a b with
  | nil=>rw[h]at m0;cases m0
  | cons m r=>exact⟨m,r,rfl⟩
 have eqv:(minI m r==maxI m r)=(wn (mf rest) R C==1):=by
  rw[U9,d8,d8,z6Q,←es,z8I h9 hi0 hj0];constructor
  ·intro h i hi j hj;exact h _ (q8y.mpr ⟨i,j,inA _ hi,inB _ hj,N3 hi,N3 hj,rfl⟩) _ m0
  ·intro h x hx y hy;obtain⟨i,j,_,_,h1,h2,rfl⟩:=q8y.mp hx;obtain⟨i',j',_,_,h3,h4,rfl⟩:=q8y.mp hy;rw[h i (X7 h1) j (X7 h2),h i' (X7 h3) j' (X7 h4)]
 have vo:evE G (run G T fu k) (.var 3) (oS rest R C (snS (mf rest) R C a b) x' y')=some (.ok (.lst (iD (m::r))) .top):=by rw[es];exact q5i rfl
 have mn:evE G (run G T fu k) (.bi .min [.var 3]) (oS rest R C (snS (mf rest) R C a b) x' y')=some (.ok (.int (minI m r)) .strong):=(by rw[z2W (d6 vo i4)];show(match ints? (iD (m::r))with | some (n::r)=>some (Re.ok (.int (minI n r)) .strong) | _=>_)=_;rw[q4R]);have mx:evE G (run G T fu k) (.bi .max [.var 3]) (oS rest R C (snS (mf rest) R C a b) x' y')=some (.ok (.int (maxI m r)) .strong):=(by show Rs.thn (evEs G (run G T fu k) [.var 3] (oS rest R C (snS (mf rest) R C a b) x' y')) (λl=>maxD l)=_;rw[d6 vo i4];show(match ints? (iD (m::r))with | some (n::r)=>some (Re.ok (.int (maxI n r)) .strong) | _=>_)=_;rw[q4R]);have fin:=b_eq mn mx;rw[eqv]at fin;exact r6 (i5 (q6U (G:=G) (F:=run G T fu k) (fu:=fu) (δ:=f8 6 [rL rest,.int R,.int C]) (i:=3) (e:=.lst []) (d:=.lst []) rfl) (G9 (N2 ln (by omega)) (.inr rfl) lp (o6 (x5 (cl:=.strong) fin))))
end
section
variable {fu k:Nat} {F:Nat->List DV->Option Ou} {δ:List Sv} {ds:List DV} {cl:Cl} {a b R C:Nat} {rest:List (List Int)}
def tI(p:(Nat×Nat)×Nat):Int×Int×Int:=((p.1.1:Int),(p.1.2:Int),(p.2:Int))
theorem q8E:∀L:Tb,trips? (L.map tD)=some (L.map tI)
 | []=>rfl
 | p::L=>by show(trips? (L.map tD)).map (((p.1.1:Int),(p.1.2:Int),(p.2:Int)) :: ·)=_;rw[q8E L];rfl
theorem z5B:∀{L:Tb},(L.map (·.1)).Pairwise lx->L4 (L.map tI)=true
 | [],_=>rfl
 | [_],_=>rfl
 | p::q::L,h=>by
  show(ltT (tI p) (tI q)&&L4 ((q::L).map tI))=true;rw[b9];have h':=F5.mp h;refine⟨?_,z5B (L:=q::L) h'.2⟩;have:p.1.1<q.1.1\/(p.1.1=q.1.1/\p.1.2<q.1.2):=h'.1 q.1 i8;unfold ltT tI;simp only[C7,F6,b9,d8];rcases this with z | ⟨z1,z2⟩
  ·left;omega
  ·right;exact⟨by omega,.inl (by omega)⟩
theorem y0k(p:(Nat×Nat)×Nat):deq (tD p) (tD p)=true:=by
 show(((p.1.1:Int)==(p.1.1:Int))&&(((p.1.2:Int)==(p.1.2:Int))&&(((p.2:Int)==(p.2:Int))&&true)))=true;simp
theorem z3b:∀L:Tb,deqs (L.map tD) (L.map tD)=true
 | []=>rfl
 | p::L=>by show(deq (tD p) (tD p)&&deqs (L.map tD) (L.map tD))=true;rw[y0k,z3b L];rfl
theorem pl_T(L:Tb):DV.plain 60 (.lst (L.map tD))=true:=q3R λd hd=>by
 obtain⟨p,_,rfl⟩:=f9.mp hd;rfl
theorem ne_T(L:Tb):cmpD .NotEq (.lst (L.map tD)) (.lst (L.map tD))=some false:=by
 show(if DV.plain 60 (.lst (L.map tD))&&DV.plain 60 (.lst (L.map tD))then some (!deqs (L.map tD) (L.map tD))else none)=_;rw[pl_T,z3b];rfl
theorem eq_T(L:Tb):cmpD .Eq (.lst (L.map tD)) (.lst (L.map tD))=some true:=by
 show(if DV.plain 60 (.lst (L.map tD))&&DV.plain 60 (.lst (L.map tD))then some (deqs (L.map tD) (L.map tD))else none)=_;rw[pl_T,z3b];rfl
theorem z4e{L:Tb}(h:evE G F e δ=some (.ok (.lst (L.map tD)) c))(h0:L≠[])(hl:(L.map (·.1)).Pairwise lx)(hm:L.length<=1000):evE G F (.bi .sorted [e]) δ=some (.ok (.lst (L.map tD)) (Cl.anew c c)):=by
 show Rs.thn (evEs G F [e] δ) (λl=>q4c l)=_;rw[d6 h i4];show(match trips? (L.map tD)with
  | some ps=>if L4 ps=true/\ps.length<=1000 then some (Re.ok (.lst (L.map tD)) (Cl.anew c c))else none
  | none=>none)=_
 rw[q8E];show(if L4 (L.map tI)=true/\(L.map tI).length<=1000 then _ else _)=_;rw[b8 ⟨z5B hl,by rw[d5];exact hm⟩]
abbrev kS(P:Tb)(rest:List (List Int))(L:Tb)(x y z w:Sv):List Sv:=[.val (.lst (P.map tD)),.val (rL rest),.od (dD L),x,y,z,w]
def kB:List MS:=[.iff (.or [.not (.isi (.var 3) ["tuple"]),.cmp .NotEq (.bi .len [.var 3]) (.int 3),.cmp .NotEq (.bi .len [.compi (.var 0) (.one 0) (.var 3) (.call 20 [.var 0]) [none]]) (.int 3)]) [.ret (.non)] [],.dpp 2 [.ix (.var 3) (.int 0),.ix (.var 3) (.int 1)] (.ix (.var 3) (.int 2))]
theorem k_in(p:(Nat×Nat)×Nat)(hn:L.lookup p.1=none)(hl:L.length<=1000)(y z w:Sv):evSs G (run G T fu (k+1)) fu kB (kS P rest L (.val (tD p)) y z w)=some (.nx (kS P rest (L++[p]) (.val (tD p)) y z w)):=by
 have n1:evE G (run G T fu (k+1)) (.not (.isi (.var 3) ["tuple"])) (kS P rest L (.val (tD p)) y z w)=some (.ok (.bl false) .strong):=rfl;have n2:evE G (run G T fu (k+1)) (.cmp .NotEq (.bi .len [.var 3]) (.int 3)) (kS P rest L (.val (tD p)) y z w)=some (.ok (.bl false) .strong):=rfl;have cm:=q2N (F:=run G T fu (k+1)) (δ:=kS P rest L (.val (tD p)) y z w) (elt:=.var 0) (tg:=.one 0) (it:=.var 3) (cd:=.call 20 [.var 0]) (fr:=[none]) (l:=[(p.1.1:Int),(p.1.2:Int),(p.2:Int)]) (h:=λi=>.int i) (f:=λi=>.int i) (p:=λ_=>true) (cl:=.strong) rfl (by decide) (show 3<=mostLen by decide) λi hi=>
  ⟨[.val (.int i)],rfl,by rw[j5 (G:=G) (F:=run G T fu (k+1)) (δ:=[.val (.int i)]) (f:=20) (es:=[.var 0]) (l:=[(.int i,.strong)]) (fr:=false) rfl rfl (z9H (fu:=fu) (k:=k) (x:=i))];rfl,.strong,b7 rfl,rfl⟩
 have n3:evE G (run G T fu (k+1)) (.cmp .NotEq (.bi .len [.compi (.var 0) (.one 0) (.var 3) (.call 20 [.var 0]) [none]]) (.int 3)) (kS P rest L (.val (tD p)) y z w)=some (.ok (.bl false) .strong):=(by have:=J2 cm;exact O8 this (i3 (i:=3)) rfl);have d:=z2Z (F:=run G T fu (k+1)) (fu:=fu) (i:=2) (a:=.ix (.var 3) (.int 0)) (b:=.ix (.var 3) (.int 1)) (e:=.ix (.var 3) (.int 2)) (δ:=kS P rest L (.val (tD p)) y z w) (L:=L) (r:=p.1.1) (c:=p.1.2) (z:=p.2) (cx:=.strong) (cy:=.strong) (cz:=.strong) rfl (u0 (cx:=.strong) (b7 rfl) (i3 (i:=2)) rfl) (u0 (cx:=.strong) (b7 rfl) (i3 (i:=0)) rfl) (u0 (cx:=.strong) (b7 rfl) (i3 (i:=1)) rfl) hn (by omega);exact w4 (j8 (or_f n1 (or_f n2 (or_1 n3)))) (i5 d rfl)
theorem z5v(y z w:Sv):∀(L2 L1:Tb) (x:Sv),(L1++L2).length<=1000->((L1++L2).map (·.1)).Pairwise lx->∃x',A9 (.one 3) (λδ'=>evSs G (run G T fu (k+1)) fu kB δ') (L2.map tD) (kS P rest L1 x y z w)=some (.nx (kS P rest (L1++L2) x' y z w))
 | [],L1,x,_,_=>⟨x,by rw[B3];rfl⟩
 | p::L2,L1,x,hl,hp=>by
  have hn:L1.lookup p.1=none:=by
   rw[z9]at hp;have hp':=(w28.mp hp).2.2;cases hq:L1.lookup p.1 with
   | none=>rfl
   | some v=>
    have hm:p.1∈L1.map (·.1):=by
     clear hp hp' hl
     induction L1 with
     | nil=>cases hq
     | cons u r ih=>
      rw[D7]at hq;by_cases e:p.1=u.1
      ·rw[y0,e];exact i8
      ·rw[show(p.1==u.1)=false from t7.mpr e]at hq;exact i6 _ (ih hq)
    rcases hp' _ hm p.1 (by rw[y0];exact i8)with q | q
    ·omega
    ·omega
  have e:=k_in (fu:=fu) (k:=k) (rest:=rest) (P:=P) (L:=L1) p hn (by rw[p9]at hl;omega) y z w;have ap:L1++p::L2=(L1++[p])++L2:=by rw[J3];rfl
  rw[ap]at hl hp ⊢;obtain⟨x',e2⟩:=z5v y z w L2 (L1++[p]) (.val (tD p)) hl hp;refine⟨x',?_⟩;rw[y0,q6e (δ1:=kS P rest L1 (.val (tD p)) y z w) rfl e];exact e2
theorem y0l{i:Nat}{e:ME}{L:Tb}{r c:Nat}{cx:Cl}(h0:δ[i]? = some (.od (dD L)))(h:evE G F e δ=some (.ok (.tup [.int r,.int c]) cx))(hl:(r,c)∈L.map (·.1)):evE G F (.din i e) δ=some (.ok (.bl true) .strong):=by
 have e1:evE G F (.din i e) δ=(match δ[i]? with
  | some (.od (.tup [.dct ks _]))=>Re.thn (evE G F e δ) λy _=>dinD ks y
  | _=>none):=rfl
 rw[e1,h0];show Re.thn (evE G F e δ) (λy _=>dinD (L.map λp=>kk p.1) y)=_;rw[h,u6];show some (Re.ok (.bl (decide (kk (r,c)∈L.map λp=>kk p.1))) .strong)=_;rw[B8];obtain⟨p,hp,e⟩:=f9.mp hl;exact f9.mpr ⟨p,hp,by rw[e]⟩
theorem z7N(L:Tb)(rc:Rect a b rest)(a0:0<a)(ha:a<=5)(hb:b<=5)(h0:L≠[])(hl:L.length=(2^a - 1)*(2^b - 1))(hm:L.length<=1000)(hp:(L.map (·.1)).Pairwise lx)(hin:∀r c,0<r->r<2^a->0<c->c<2^b->(r,c)∈L.map (·.1)) :
  run G T fu (k+2) 30 [.lst (L.map tD),rL rest]=some (.v (dC L) false):=by
 have pa:=p32 ha;have pb:=p32 hb;rw[n6 (fd:=q2V) rfl rfl];have s1:evE G (run G T fu (k+1)) (.or [.not (.isi (.var 0) ["list"]),.cmp .NotEq (.var 0) (.bi .sorted [.var 0])]) (f8 7 [.lst (L.map tD),rL rest])=some (.ok (.bl false) .strong):=
  or_f (cx:=.strong) rfl (or_1 (O8 (b7 (d:=.lst (L.map tD)) rfl) (z4e (L:=L) (c:=.strong) (b7 rfl) h0 hp hm) (ne_T L)))
 obtain⟨x',e3⟩:=z5v (fu:=fu) (k:=k) (rest:=rest) (P:=L) .no .no .no L [] .no hm hp;rw[w26]at e3;have len1:∀x y z w,evE G (run G T fu (k+1)) (.call 26 [.bi .len [.var 1]]) (kS L rest L x y z w)=some (.ok (.int ((2^a:Nat):Int)) .strong):=λx y z w=>by have ln:=J2 (F:=run G T fu (k+1)) (δ:=kS L rest L x y z w) (e:=.var 1) (ds:=rest.map λr=>.lst (iD r)) (c:=.strong) (b7 rfl);rw[d5,rc.1]at ln;exact j5 (fr:=false) (d6 ln i4) rfl (q6D (fu:=fu) (k:=k) a (by omega))
 have len0:∀x y z w,evE G (run G T fu (k+1)) (.call 26 [.bi .len [.ix (.var 1) (.int 0)]]) (kS L rest L x y z w)=some (.ok (.int ((2^b:Nat):Int)) .strong):=λx y z w=>by have e:=J2 (F:=run G T fu (k+1)) (δ:=kS L rest L x y z w) (u0 (a:=.var 1) (b:=.int 0) (cx:=.strong) (b7 rfl) (i3 (i:=((0:Nat):Int))) (U0 (rows:=rest) (by rw[rc.1];exact a0)));rw[show(iD (rest.getD 0 [])).length=b by unfold iD;rw[d5];exact rc.2 _ (F3 (by rw[rc.1];exact a0))]at e;exact j5 (fr:=false) (d6 e i4) rfl (q6D (fu:=fu) (k:=k) b (by omega))
 obtain⟨δ',lp,y',z',rfl⟩:=L6 (i:=5) (I:=λr δ=>∃z w,δ=kS L rest L x' (.val (.int ((r*(2^b - 1):Nat):Int))) z w) (body:=λδ'=>evSs G (run G T fu (k+1)) fu [.fo (.one 6) (.rng [.int 1,.call 26 [.bi .len [.ix (.var 1) (.int 0)]]]) [.set 4 false (.bin .Add (.var 4) (.bi .int [.din 2 (.tup [.var 5,.var 6])]))]] δ') (2^a - 1) 1 (δ:=kS L rest L x' (.val (.int 0)) .no .no) (λr hr δ h=>by
  obtain⟨z,w,rfl⟩:=h;obtain⟨δ2,l2,w2,rfl⟩:=L6 (i:=6) (I:=λc δ=>∃w,δ=kS L rest L x' (.val (.int ((r*(2^b - 1)+c:Nat):Int))) (.val (.int ((r+1:Nat):Int))) w) (body:=λδ'=>evSs G (run G T fu (k+1)) fu [.set 4 false (.bin .Add (.var 4) (.bi .int [.din 2 (.tup [.var 5,.var 6])]))] δ') (2^b - 1) 1 (δ:=kS L rest L x' (.val (.int ((r*(2^b - 1):Nat):Int))) (.val (.int ((r+1:Nat):Int))) w) (λc hc δ h=>by
   obtain⟨w,rfl⟩:=h;rw[show(1:Int)+(c:Int)=((c+1:Nat):Int) by omega];have t:=E3 (G:=G) (F:=run G T fu (k+1)) (δ:=kS L rest L x' (.val (.int ((r*(2^b - 1)+c:Nat):Int))) (.val (.int ((r+1:Nat):Int))) (.val (.int ((c+1:Nat):Int)))) (d6 (b7 (n:=5) (d:=.int ((r+1:Nat):Int)) rfl) (d6 (b7 (n:=6) (d:=.int ((c+1:Nat):Int)) rfl) i4)) (ln4 (by simp)) rfl;have dn:=q6m (y0l (L:=L) (i:=2) rfl t (hin (r+1) (c+1) (by omega) (by omega) (by omega) (by omega)));have ad:=H9 (G:=G) (F:=run G T fu (k+1)) (a:=.var 4) (b7 (n:=4) (d:=.int ((r*(2^b - 1)+c:Nat):Int)) rfl) dn;rw[show((r*(2^b - 1)+c:Nat):Int)+(if true=true then 1 else 0)=((r*(2^b - 1)+(c+1):Nat):Int) by rw[b8 rfl];push_cast;omega]at ad;exact⟨_,i5 (j7 ad rfl) rfl,_,rfl⟩) ⟨w,rfl⟩
  rw[show(1:Int)+(r:Int)=((r+1:Nat):Int) by omega];refine⟨_,G9 (q5K (len0 _ _ _ _) (by omega)) (.inr rfl) l2 rfl,.val (.int ((r+1:Nat):Int)),w2,?_⟩;rw[w3K]) ⟨.no,.no,by rw[Nat.zero_mul];rfl⟩
 have ll:=J2 (F:=run G T fu (k+1)) (δ:=kS L rest L x' (.val (.int (((2^a - 1)*(2^b - 1):Nat):Int))) y' z') (e:=.var 0) (ds:=L.map tD) (c:=.strong) (b7 rfl);rw[d5,hl]at ll;have c1:=b_ne (b7 (G:=G) (F:=run G T fu (k+1)) (δ:=kS L rest L x' (.val (.int (((2^a - 1)*(2^b - 1):Nat):Int))) y' z') (n:=4) (d:=.int (((2^a - 1)*(2^b - 1):Nat):Int)) rfl) ll;have sa:=L7 (len1 x' (.val (.int (((2^a - 1)*(2^b - 1):Nat):Int))) y' z') (i3 (i:=1));have sb:=L7 (len0 x' (.val (.int (((2^a - 1)*(2^b - 1):Nat):Int))) y' z') (i3 (i:=1));have a1:=O3 a;have b1:=O3 b;rw[show((2^a:Nat):Int) - 1=((2^a - 1:Nat):Int) by omega]at sa;rw[show((2^b:Nat):Int) - 1=((2^b - 1:Nat):Int) by omega]at sb;have mu:=R8 sa sb (by unfold F9;simp;omega);rw[show((2^a - 1:Nat):Int)*((2^b - 1:Nat):Int)=(((2^a - 1)*(2^b - 1):Nat):Int) by push_cast;rfl]at mu;have c2:=b_ne (b7 (G:=G) (F:=run G T fu (k+1)) (δ:=kS L rest L x' (.val (.int (((2^a - 1)*(2^b - 1):Nat):Int))) y' z') (n:=4) (d:=.int (((2^a - 1)*(2^b - 1):Nat):Int)) rfl) mu;rw[Y8]at c1 c2;show Ou.of (evSs G (run G T fu (k+1)) fu [.iff (.or [.not (.isi (.var 0) ["list"]),.cmp .NotEq (.var 0) (.bi .sorted [.var 0])]) [.ret (.non)] [],.sep 2,.fo (.one 3) (.var 0) kB,.set 4 false (.int 0),.fo (.one 5) (.rng [.int 1,.call 26 [.bi .len [.var 1]]]) [.fo (.one 6) (.rng [.int 1,.call 26 [.bi .len [.ix (.var 1) (.int 0)]]]) [.set 4 false (.bin .Add (.var 4) (.bi .int [.din 2 (.tup [.var 5,.var 6])]))]],.iff (.or [.cmp .NotEq (.var 4) (.bi .len [.var 0]),.cmp .NotEq (.var 4) (.bin .Mult (.bin .Sub (.call 26 [.bi .len [.var 1]]) (.int 1)) (.bin .Sub (.call 26 [.bi .len [.ix (.var 1) (.int 0)]]) (.int 1)))]) [.ret (.non)] [],.retd 2] (f8 7 [.lst (L.map tD),rL rest]))=_;exact r6 (w4 (j8 s1) (i5 (z4Q rfl) (G9 (ds:=L.map tD) (cl:=.strong) rfl (.inl rfl) e3 (i5 (j7 (i3 (i:=0)) rfl) (G9 (q5K (len1 _ _ _ _) (by omega)) (.inr rfl) lp (w4 (j8 (or_f c1 (or_1 c2))) (o6 (z0z rfl))))))))
end
section
variable {fu k:Nat} {F:Nat->List DV->Option Ou} {δ:List Sv} {ds:List DV} {cl:Cl} {a b R C:Nat} {rest rows:List (List Int)} {n m:Nat}
theorem q6d{u e:ME}{L:Tb}{r c z:Nat}{cx cy:Cl}(ha:evE G F u δ=some (.ok (dC L) cx))(h:evE G F e δ=some (.ok (.tup [.int r,.int c]) cy))(hl:L.lookup (r,c)=some z):evE G F (.dix u e) δ=some (.ok (.int z) .strong):=by
 have e1:evE G F (.dix u e) δ=Re.thn (evE G F u δ) (λx _=>Re.thn (evE G F e δ) λy _=>dixD x y):=rfl;rw[e1,ha,u6,h,u6];show(match E2 (kk (r,c)) (L.map λp=>kk p.1) (L.map λp=>.int (p.2:Int))with
  | some (.int v)=>some (Re.ok (.int v) .strong)
  | _=>none)=_
 rw[q7M,hl];rfl
theorem y1O{L:Tb}(h0:L≠[])(h:evE G F (.var 0) δ=some (.ok (dC L) .strong)):j3 (evE G F (.kys (.var 0)) δ)=some (.ok (L.map λp=>.tup [.int p.1.1,.int p.1.2]) .strong):=by
 have e1:evE G F (.kys (.var 0)) δ=Re.thn (evE G F (.var 0) δ) (λx c=>kysD x c):=rfl;rw[e1,h,u6];cases L with
 | nil=>exact absurd rfl h0
 | cons p L=>
  show j3 (if Cl.strong=.strong then(kvp? ((p::L).map λp=>kk p.1) ((p::L).map λp=>.int (p.2:Int))).map (λl=>Re.ok (.lst (l.map λp=>.tup [.int p.1.1,.int p.1.2])) .strong)else none)=_;rw[b8 rfl,q7N];show some (Ri.ok ((((p::L).map λp=>(((p.1.1:Int),(p.1.2:Int)),(p.2:Int)))).map λp=>.tup [.int p.1.1,.int p.1.2]) .strong)=_;rw[j4];rfl
abbrev yS(L:Tb)(rest:List (List Int))(x y z:Sv):List Sv:=[.val (dC L),.val (rL rest),x,y,z]
def yB:List MS:=[.set 4 false (.int 0),.iff (.not (.call 29 [.var 1,.var 2,.var 3])) [.set 4 false (.bin .Add (.int 1) (.bi .min [.comp (.bi .max [.dix (.var 2) (.var 0),.dix (.var 2) (.var 1)]) (.many [0,1]) (.call 28 [.var 2,.var 3]) [none,none,some 0]]))] [],.iff (.cmp .NotEq (.dix (.var 0) (.tup [.var 2,.var 3])) (.var 4)) [.ret (.bl false)] []]
theorem y2g(R0:0<R)(R1:R<2^a)(C0:0<C)(C1:C<2^b)(h:p∈ls R C):p.1∈ps b (2^a) 1/\p.2∈ps b (2^a) 1:=by
 unfold ls at h;rcases A3.mp h with q | q
 ·obtain⟨g,hg,rfl⟩:=f9.mp q;have sb:=U3.mp hg;have:=sb.1;have:=sb.2.1;exact⟨G4.mpr (.inl ⟨by dsimp only;omega,by dsimp only;omega,C0,C1⟩),G4.mpr (.inl ⟨by dsimp only;omega,by dsimp only;omega,C0,C1⟩)⟩
 ·obtain⟨g,hg,rfl⟩:=f9.mp q;have sb:=U3.mp hg;have:=sb.1;have:=sb.2.1;exact⟨G4.mpr (.inl ⟨R0,R1,by dsimp only;omega,by dsimp only;omega⟩),G4.mpr (.inl ⟨R0,R1,by dsimp only;omega,by dsimp only;omega⟩)⟩
theorem y_in(rc:Rect a b rest)(w9:W9 rest)(a0:0<a)(ha:a<=5)(hb:b<=5)(R0:0<R)(R1:R<2^a)(C0:0<C)(C1:C<2^b)(z:Sv):∃z',evSs G (run G T fu (k+2)) fu yB (yS (tbl (mf rest) b (2^a) 1) rest (.val (.int R)) (.val (.int C)) z)=some (.nx (yS (tbl (mf rest) b (2^a) 1) rest (.val (.int R)) (.val (.int C)) z')):=by
 have pa:=p32 ha;have pb:=p32 hb;have hR:R<32:=by omega
 have hC:C<32:=by omega
 let D:Sv->List Sv:=λz=>yS (tbl (mf rest) b (2^a) 1) rest (.val (.int R)) (.val (.int C)) z
 have wp':=z5n rc w9 ha hb R0 R1 C0 C1;have ow:=R7 (j5 (G:=G) (F:=run G T fu (k+2)) (δ:=D (.val (.int 0))) (f:=29) (es:=[.var 1,.var 2,.var 3]) (l:=[(rL rest,.strong),(.int R,.strong),(.int C,.strong)]) (fr:=false) rfl rfl (z0k (fu:=fu) (k:=k+1) rc w9 a0 ha hb R0 R1 C0 C1));have tl:∀z:Nat,z=V (mf rest) R C->evSs G (run G T fu (k+2)) fu [.iff (.cmp .NotEq (.dix (.var 0) (.tup [.var 2,.var 3])) (.var 4)) [.ret (.bl false)] []] (D (.val (.int z)))=some (.nx (D (.val (.int z)))):=λz hz=>by
  subst hz;have lk:(tbl (mf rest) b (2^a) 1).lookup (R,C)=some (V (mf rest) R C):=by rw[Y0,b8 (G4.mpr (.inl ⟨R0,R1,C0,C1⟩))]
  have dx:=q6d (F:=run G T fu (k+2)) (δ:=D (.val (.int (V (mf rest) R C:Nat)))) (u:=.var 0) (e:=.tup [.var 2,.var 3]) (L:=tbl (mf rest) b (2^a) 1) (r:=R) (c:=C) (cx:=.strong) (cy:=.strong) (b7 rfl) (E3 (d6 (b7 rfl) (d6 (b7 rfl) i4)) (ln4 (by simp)) rfl) lk;have ne:=b_ne dx (b7 (n:=4) (d:=.int (V (mf rest) R C:Nat)) rfl);rw[Y8]at ne;exact w4 (j8 ne) rfl
 unfold yB;by_cases h1:wn (mf rest) R C=1
 ·have t1:(!(wn (mf rest) R C==1))=false:=by rw[h1];rfl
  rw[t1]at ow;have v0:V (mf rest) R C=0:=by rw[V_eq _ (by omega)];unfold stp;rw[b8 h1]
  exact⟨_,i5 (j7 (i3 (i:=0)) rfl) (w4 (j8 ow) (tl 0 v0.symm))⟩
 ·have t1:(!(wn (mf rest) R C==1))=true:=by rw[t7.mpr h1];rfl
  rw[t1]at ow;obtain⟨lne,ve⟩:=z9N hR hC R0 C0 h1 wp';have sp:=j5 (G:=G) (F:=run G T fu (k+2)) (δ:=D (.val (.int 0))) (f:=28) (es:=[.var 2,.var 3]) (l:=[(.int R,.strong),(.int C,.strong)]) (fr:=true) rfl rfl (z0L (fu:=fu) (k:=k) hR hC);have cm:=C5 (F:=run G T fu (k+2)) (δ:=D (.val (.int 0))) (l:=ls R C) (h:=sD) (f:=λw=>.int ((max (V (mf rest) w.1.1 w.1.2) (V (mf rest) w.2.1 w.2.2):Nat):Int)) (elt:=.bi .max [.dix (.var 2) (.var 0),.dix (.var 2) (.var 1)]) (tg:=.many [0,1]) (it:=.call 28 [.var 2,.var 3]) (fr:=[none,none,some 0]) (cl:=.fresh) (by rw[sp];rfl) (by decide)
   (by unfold ls;rw[p9,d5,d5];exact i7 (w3l (q5V hR) (q5V hC)) (by decide)) λw hw=>by obtain⟨i1,i2⟩:=y2g (a:=a) (b:=b) R0 R1 C0 C1 hw;refine⟨[.val (.tup [.int w.1.1,.int w.1.2]),.val (.tup [.int w.2.1,.int w.2.2]),.val (dC (tbl (mf rest) b (2^a) 1))],.strong,rfl,?_,rfl⟩;exact z7G (q6d (L:=tbl (mf rest) b (2^a) 1) (cx:=.strong) (cy:=.strong) (b7 rfl) (b7 rfl) (by rw[Y0,b8 i1])) (q6d (L:=tbl (mf rest) b (2^a) 1) (cx:=.strong) (cy:=.strong) (b7 rfl) (b7 rfl) (by rw[Y0,b8 i2]))
  have cm':evE G (run G T fu (k+2)) (.comp (.bi .max [.dix (.var 2) (.var 0),.dix (.var 2) (.var 1)]) (.many [0,1]) (.call 28 [.var 2,.var 3]) [none,none,some 0]) (D (.val (.int 0)))=some (.ok (.lst (nD ((ls R C).map λw=>max (V (mf rest) w.1.1 w.1.2) (V (mf rest) w.2.1 w.2.2)))) .fresh):=(by rw[cm];unfold nD;rw[j4];rfl);obtain⟨z,hz,hm,ez⟩:=z2r cm' (λz=>lne (w2e.mp z));have zz:=q7X hz hm;have ad:=H9 (G:=G) (F:=run G T fu (k+2)) (δ:=D (.val (.int 0))) (i3 (i:=1)) ez;rw[show(1:Int)+(z:Int)=((1+z:Nat):Int) by omega]at ad;exact⟨_,i5 (j7 (i3 (i:=0)) rfl) (M6 (j8 ow) (i5 (j7 ad rfl) rfl) (tl (1+z) (by rw[ve,zz])))⟩
theorem z5o(rc:Rect a b rest)(w9:W9 rest)(a0:0<a)(ha:a<=5)(hb:b<=5):∀(l:List (Nat×Nat)) (x y z:Sv),(∀p∈l,p∈ps b (2^a) 1)->∃x' y' z',A9 (.many [2,3]) (λδ'=>evSs G (run G T fu (k+2)) fu yB δ') (l.map λp=>.tup [.int p.1,.int p.2]) (yS (tbl (mf rest) b (2^a) 1) rest x y z)=some (.nx (yS (tbl (mf rest) b (2^a) 1) rest x' y' z'))
 | [],x,y,z,_=>⟨x,y,z,rfl⟩
 | p::l,x,y,z,h=>by
  have hp:0<p.1/\p.1<2^a/\0<p.2/\p.2<2^b:=by
   rcases G4.mp (h p i8)with q | q
   ·exact q
   ·omega
  obtain⟨z1,e1⟩:=y_in (fu:=fu) (k:=k) rc w9 a0 ha hb hp.1 hp.2.1 hp.2.2.1 hp.2.2.2 z;obtain⟨x',y',z',e2⟩:=z5o rc w9 a0 ha hb l (.val (.int p.1)) (.val (.int p.2)) z1 λq hq=>h q (i6 _ hq)
  refine⟨x',y',z',?_⟩;rw[y0,q6e (δ1:=yS (tbl (mf rest) b (2^a) 1) rest (.val (.int p.1)) (.val (.int p.2)) z) rfl e1];exact e2
theorem z7E(rc:Rect a b rest)(w9:W9 rest)(a0:0<a)(ha:a<=5)(hb:b<=5)(h0:tbl (mf rest) b (2^a) 1≠[]):run G T fu (k+3) 33 [dC (tbl (mf rest) b (2^a) 1),rL rest]=some (.v (.bl true) false):=by
 rw[n6 (fd:=q2P) rfl rfl];obtain⟨x',y',z',e⟩:=z5o (fu:=fu) (k:=k) rc w9 a0 ha hb (ps b (2^a) 1) .no .no .no λp hp=>hp
 have w:=y1O (F:=run G T fu (k+2)) (δ:=yS (tbl (mf rest) b (2^a) 1) rest .no .no .no) (L:=tbl (mf rest) b (2^a) 1) h0 (b7 rfl);have ew:(tbl (mf rest) b (2^a) 1).map (λp=>DV.tup [.int p.1.1,.int p.1.2])=(ps b (2^a) 1).map λp=>.tup [.int p.1,.int p.2]:=by unfold tbl;rw[j4];rfl
 rw[ew]at w;show Ou.of (evSs G (run G T fu (k+2)) fu [.fo (.many [2,3]) (.kys (.var 0)) yB,.ret (.bl true)] (f8 5 [dC (tbl (mf rest) b (2^a) 1),rL rest]))=_;exact r6 (G9 w (.inl rfl) e (o6 rfl))
theorem z9l(R:Rect n m rows)(hn:0<n)(n8:n<=8)(m8:m<=8)(hs:sm (FI rows).length (FI (flip m rows)).length=false):run G T fu (k+8) 12 [tT rows]=some (.x "TooGreat")/\run G T fu (k+9) 19 [tT rows]=some (.x "TooGreat"):=by
 have c:=y1S (fu:=fu) (k:=k) R hn n8 m8;rw[hs,d7 v9]at c;have e1:run G T fu (k+6) 16 [tT rows,.int 0,.fn "joined_bits"]=some (.x "TooGreat"):=(by rw[n6 (fd:=q1n) rfl rfl];exact z2K (P7 (q8h (q3a (d6 (b7 rfl) i4) c))));have rx:∀{F:Nat->List DV->Option Ou} {δ:List Sv} {e:ME} {c:Str},evE G F e δ=some (.ex c)->evS G F fu (.ret e) δ=some (.ex c δ):=λ{F δ e c} h=>by
  have e0:evS G F fu (.ret e) δ=Re.thnS δ (evE G F e δ) (λd c=>some (retD d c)):=by rw[evS]
  rw[e0,h];rfl
 have e2:run G T fu (k+7) 14 [tT rows]=some (.x "TooGreat"):=(by rw[n6 (fd:=q1i) rfl rfl];exact z2K (P7 (rx (q3a (l:=[(tT rows,.strong),(.int 0,.strong),(.fn "joined_bits",.strong)]) rfl e1))));have e3:run G T fu (k+8) 12 [tT rows]=some (.x "TooGreat"):=by
  rw[n6 (fd:=q1E) rfl rfl];have q:=q3a (G:=G) (F:=run G T fu (k+7)) (δ:=f8 1 [tT rows]) (f:=14) (es:=[.var 0]) (l:=[(tT rows,.strong)]) rfl e2;refine z2K (P7 (rx ?_));show Rs.thn (evEs G (run G T fu (k+7)) [.call 14 [.var 0]] (f8 1 [tT rows])) (λl=>A5 (run G T fu (k+7)) 13 l)=_;have:evEs G (run G T fu (k+7)) [.call 14 [.var 0]] (f8 1 [tT rows])=some (.ex "TooGreat"):=by unfold evEs;rw[q]
  rw[this];rfl
 refine⟨e3,?_⟩;rw[n6 (fd:=q1F) rfl rfl];have q:=q3a (G:=G) (F:=run G T fu (k+8)) (δ:=f8 1 [tT rows]) (f:=12) (es:=[.var 0]) (l:=[(tT rows,.strong)]) rfl e3;refine z2K (P7 (rx ?_));show Re.thn (Re.thn (evE G (run G T fu (k+8)) (.call 12 [.var 0]) (f8 1 [tT rows])) _) _=_;rw[q];rfl
theorem q7v{t:DV}{w:Bool}(h:run G T fu k (if w then 12 else 19) [t]=some (.x "TooGreat")):run G T fu (k+1) 32 [t,.bl w]=some (.v (.bl true) false):=by
 rw[n6 (fd:=q1x) rfl rfl];unfold q1x;have b1:evSs G (run G T fu k) fu [.iff (.var 1) [.exp (.call 12 [.var 0])] [.exp (.call 19 [.var 0])]] [.val t,.val (.bl w),.val .non,.no]=some (.ex "TooGreat" [.val t,.val (.bl w),.val .non,.no]):=by
  cases w with
  | true=>exact z4H (j8 (x:=true) (cl:=.strong) rfl) (P7 (q8h (q3a (d6 (b7 rfl) i4) h)))
  | false=>exact P7 ((z0h (j8 (x:=false) (cl:=.strong) rfl)).trans (P7 (q8h (q3a (d6 (b7 rfl) i4) h))))
 have b2:evS G (run G T fu k) fu (.tryc [.iff (.var 1) [.exp (.call 12 [.var 0])] [.exp (.call 19 [.var 0])]] "TalkError" 3 2) [.val t,.val (.bl w),.val .non,.no]=some (.nx [.val t,.val (.bl w),.val (.exc "TooGreat"),.no]):=(by show tryD G "TalkError" 3 2 (evSs G (run G T fu k) fu [.iff (.var 1) [.exp (.call 12 [.var 0])] [.exp (.call 19 [.var 0])]] [.val t,.val (.bl w),.val .non,.no])=_;rw[b1];rfl);exact r6 (i5 (j7 (d:=.non) (cl:=.strong) rfl rfl) (i5 b2 (w4 (j8 (x:=false) (cl:=.strong) rfl) (o6 rfl))))
end
section
variable {fu k:Nat} {F:Nat->List DV->Option Ou} {δ:List Sv} {ds:List DV} {cl:Cl} {n m:Nat} {rows:List (List Int)}
theorem y0m:∀L:Tb,DV.immuts (L.map λp=>.int (p.2:Int))=true
 | []=>rfl
 | p::L=>by show(DV.immut (.int (p.2:Int))&&DV.immuts (L.map λp=>.int (p.2:Int)))=true;rw[y0m L];rfl
theorem z9r(h:δ[i]? = some (.own (.lst l))):evS G F fu (.clr i) δ=some (.nx (δ.set i (.own (.lst [])))):=by
 have e:evS G F fu (.clr i) δ=(match δ[i]? with
  | some (.own (.lst _))=>some (.nx (δ.set i (.own (.lst []))))
  | _=>none):=by rw[evS]<;>rfl
 rw[e,h]
theorem z7c(ns:List Int)(hns:ns.length<=63):run G T 100 60 34 [.scr ns]=some (.v (.bl true) false):=by
 obtain⟨n,m,rows,t,e1⟩:=z4p (fu:=100) (k:=56) ns hns;have s1:(FI rows).length<=5:=z4J t.fr;have s2:(FI (flip m rows)).length<=5:=z4J t.fc;have a0:0<(FI rows).length:=P6 (by rw[t.R.1];exact t.n0);have b0:0<(FI (flip m rows)).length:=P6 (by rw[(X6 t.R).1];exact t.m0);have n8:=t.n8;have m8:=t.m8;have e2:=z0u (fu:=100) (k:=58) t.R t.n0 t.n8 t.m8;have e3:=q4t (fu:=100) (k:=51) rows n m t.R t.w9 t.n0 (by omega) t.m0 (by omega) s1 s2;have rc:=z5E (m:=m) (rows:=rows);have w9:=z5F t.R t.w9;obtain⟨l1,l2⟩:=z5l (m:=m) (rows:=rows) s1 s2;obtain⟨L0,eL⟩:=q8r (m:=m) a0 b0;have h0:ft m rows≠[]:=by rw[eL];simp
 have kmap:(ft m rows).map (·.1)=ps (FI (flip m rows)).length (2^(FI rows).length) 1:=(by unfold ft tbl;rw[j4];exact List.map_id _);have hp:((ft m rows).map (·.1)).Pairwise lx:=by
  rw[kmap];have:=z2t (FI (flip m rows)).length (2^(FI rows).length - 1)
  rwa [show 2^(FI rows).length - 1+1=2^(FI rows).length by have:=O3 (FI rows).length;omega]at this
 have e4:=z7N (fu:=100) (k:=57) (ft m rows) rc a0 s1 s2 h0 l1 l2 hp (λr c h1 h2 h3 h4=>by rw[kmap];exact G4.mpr (.inl ⟨h1,h2,h3,h4⟩));have e5:=z7E (fu:=100) (k:=56) rc w9 a0 s1 s2 h0;have e6:=z8h (fu:=100) (k:=50) rows n m t.R t.w9 t.n0 (by omega) t.m0 (by omega) s1 s2;have lk:(ft m rows).lookup (2^(FI rows).length - 1,2^(FI (flip m rows)).length - 1)=some (V (mf (rst m rows)) (2^(FI rows).length - 1) (2^(FI (flip m rows)).length - 1)):=(by unfold ft;rw[Y0,b8];have:2<=2^(FI rows).length:=i7 (by decide:2<=2^1) (N8 (by decide) a0);have:2<=2^(FI (flip m rows)).length:=i7 (by decide:2<=2^1) (N8 (by decide) b0);exact G4.mpr (.inl ⟨by dsimp only;omega,by dsimp only;omega,by dsimp only;omega,by dsimp only;omega⟩));obtain⟨v1,c1⟩:=z2R (fu:=100) (k:=58) ns 1;obtain⟨n',m',rows',n3,n8',m3,m8',R',bad,e7⟩:=z8d (fu:=100) (k:=58) v1;have bp:=(z9l (fu:=100) (k:=50) R' (by omega) n8' m8' bad).1;have bl:=(z9l (fu:=100) (k:=49) R' (by omega) n8' m8' bad).2;have r1':=q7v (fu:=100) (k:=58) (t:=tT rows') (w:=true) bp;have r2':=q7v (fu:=100) (k:=58) (t:=tT rows') (w:=false) bl;obtain⟨P,hP⟩:∃P,(ft m rows).map tD=P:=⟨_,rfl⟩;have eqP:cmpD .Eq (.lst P) (.lst P)=some true:=by rw[←hP];exact eq_T _
 obtain⟨V0,hV⟩:∃v,V (mf (rst m rows)) (2^(FI rows).length - 1) (2^(FI (flip m rows)).length - 1)=v:=⟨_,rfl⟩;rw[hV]at e6 lk;have e2':run G T 100 59 25 [tT rows]=some (.v (rL (rst m rows)) true):=e2;have e5':run G T 100 59 33 [dC (ft m rows),rL (rst m rows)]=some (.v (.bl true) false):=e5;rw[hP]at e3 e4;have immD:DV.immut (dC (ft m rows))=true:=y0m _
 let D:Sv->Sv->Sv->Sv->Sv->List Sv:=λx y z v w=>[.val (.scr ns),.val (tT rows),.val (rL (rst m rows)),x,y,z,v,w]
 have q4:=z4f (G:=G) (F:=run G T 100 59) (δ:=D (.own (.lst P)) .no .no .no .no) (f:=30) (es:=[.var 3,.var 2]) (l:=[(.lst P,.top),(rL (rst m rows),.strong)]) (fr:=false) (d6 (q5i rfl) (d6 (b7 rfl) i4)) rfl e4;have t1:evE G (run G T 100 59) (.or [.cmp .Is (.var 4) (.non),.not (.call 33 [.var 4,.var 2])]) (D (.own (.lst P)) (.val (dC (ft m rows))) .no .no .no)=some (.ok (.bl false) .strong):=
  or_f (cx:=.strong) rfl (or_1 (R7 (j5 (fr:=false) (d6 (b7 rfl) (d6 (b7 rfl) i4)) rfl e5')))
 have a1:=O3 (FI rows).length;have b1:=O3 (FI (flip m rows)).length;have pw1:evE G (run G T 100 59) (.bin .Sub (.call 26 [.bi .len [.var 2]]) (.int 1)) (D (.own (.lst P)) (.val (dC (ft m rows))) .no .no .no)=some (.ok (.int ((2^(FI rows).length - 1:Nat):Int)) .strong):=by
  have ln:=J2 (F:=run G T 100 59) (δ:=D (.own (.lst P)) (.val (dC (ft m rows))) .no .no .no) (e:=.var 2) (ds:=(rst m rows).map λr=>.lst (iD r)) (c:=.strong) (b7 rfl);rw[d5,rc.1]at ln;have:=L7 (j5 (fr:=false) (d6 ln i4) rfl (q6D (fu:=100) (k:=58) (FI rows).length (by omega))) (i3 (i:=1))
  rwa [show((2^(FI rows).length:Nat):Int) - 1=((2^(FI rows).length - 1:Nat):Int) by omega]at this
 have pw2:evE G (run G T 100 59) (.bin .Sub (.call 26 [.bi .len [.ix (.var 2) (.int 0)]]) (.int 1)) (D (.own (.lst P)) (.val (dC (ft m rows))) .no .no .no)=some (.ok (.int ((2^(FI (flip m rows)).length - 1:Nat):Int)) .strong):=by
  have r0:0<(rst m rows).length:=by rw[rc.1];exact a0
  have ln:=J2 (F:=run G T 100 59) (δ:=D (.own (.lst P)) (.val (dC (ft m rows))) .no .no .no) (u0 (a:=.var 2) (b:=.int 0) (cx:=.strong) (b7 rfl) (i3 (i:=((0:Nat):Int))) (U0 (rows:=rst m rows) r0));rw[show(iD ((rst m rows).getD 0 [])).length=(FI (flip m rows)).length by unfold iD;rw[d5];exact rc.2 _ (F3 r0)]at ln;have:=L7 (j5 (fr:=false) (d6 ln i4) rfl (q6D (fu:=100) (k:=58) (FI (flip m rows)).length (by omega))) (i3 (i:=1))
  rwa [show((2^(FI (flip m rows)).length:Nat):Int) - 1=((2^(FI (flip m rows)).length - 1:Nat):Int) by omega]at this
 have q5:=q6d (F:=run G T 100 59) (δ:=D (.own (.lst P)) (.val (dC (ft m rows))) .no .no .no) (u:=.var 4) (L:=ft m rows) (cx:=.strong) (b7 rfl) (E3 (d6 pw1 (d6 pw2 i4)) (ln4 (by simp)) rfl) lk;have gr:∀δ:List Sv,δ[0]? = some (.val (.scr ns))->evE G (run G T 100 59) (.call 31 [.call 21 [.var 0,.int 1]]) δ=some (.ok (tT rows') .strong):=λδ h=>j5 (fr:=false) (d6 (j5 (fr:=false) (d6 (b7 h) (d6 i3 i4)) rfl c1) i4) rfl e7;have t2:evE G (run G T 100 59) (.or [.not (.call 20 [.var 6]),.cmp .NotEq (.var 6) (.var 5),.not (.call 32 [.call 31 [.call 21 [.var 0,.int 1]],.bl true])]) (D (.own (.lst P)) (.val (dC (ft m rows))) (.val (.int V0)) (.val (.int V0)) .no)=some (.ok (.bl false) .strong):=by have n1:=R7 (j5 (G:=G) (F:=run G T 100 59) (δ:=D (.own (.lst P)) (.val (dC (ft m rows))) (.val (.int V0)) (.val (.int V0)) .no) (f:=20) (es:=[.var 6]) (l:=[(.int V0,.strong)]) (fr:=false) rfl rfl (z9H (fu:=100) (k:=58) (x:=(V0:Int))));have n2:=b_ne (b7 (G:=G) (F:=run G T 100 59) (δ:=D (.own (.lst P)) (.val (dC (ft m rows))) (.val (.int V0)) (.val (.int V0)) .no) (n:=6) (d:=.int V0) rfl) (b7 (n:=5) (d:=.int V0) rfl);rw[Y8]at n2;exact or_f n1 (or_f n2 (or_1 (R7 (j5 (fr:=false) (d6 (gr _ rfl) (d6 (show evE G _ (.bl true) _=some (.ok (.bl true) .strong)from rfl) i4)) rfl r1'))))
 have t3:evE G (run G T 100 59) (.not (.call 32 [.call 31 [.call 21 [.var 0,.int 1]],.bl false])) (D (.own (.lst P)) (.val (dC (ft m rows))) (.val (.int V0)) (.val (.int V0)) .no)=some (.ok (.bl false) .strong):=
  R7 (j5 (fr:=false) (d6 (gr _ rfl) (d6 (show evE G _ (.bl false) _=some (.ok (.bl false) .strong)from rfl) i4)) rfl r2')
 have q7:evE G (run G T 100 59) (.bi .list [.var 3]) (D (.own (.lst P)) (.val (dC (ft m rows))) (.val (.int V0)) (.val (.int V0)) .no)=some (.ok (.lst P) .fresh):=(by show Rs.thn (evEs G (run G T 100 59) [.var 3] (D (.own (.lst P)) (.val (dC (ft m rows))) (.val (.int V0)) (.val (.int V0)) .no)) (λl=>V8 l)=_;rw[d6 (q5i rfl) i4];rfl);have fin:=O8 (G:=G) (F:=run G T 100 59) (δ:=D (.own (.lst [])) (.val (dC (ft m rows))) (.val (.int V0)) (.val (.int V0)) (.val (.lst P))) (j5 (f:=12) (es:=[.var 1]) (l:=[(tT rows,.strong)]) (fr:=true) rfl rfl e3) (b7 (n:=7) (d:=.lst P) rfl) eqP;rw[n6 (fd:=z4v) rfl rfl];unfold z4v;exact r6 (i5 (j7 (j5 (fr:=false) (d6 (b7 rfl) (d6 i3 i4)) rfl e1) rfl)
  (i5 (j7 (j5 (fr:=true) (d6 (b7 rfl) i4) rfl e2') rfl)
  (i5 (q6U (j5 (fr:=true) (d6 (b7 rfl) i4) rfl e3))
  (i5 (j7 q4 immD) (w4 (j8 t1) (i5 (j7 q5 rfl)
  (i5 (j7 (j5 (fr:=false) (d6 (b7 rfl) i4) rfl e6) rfl)
  (w4 (j8 t2) (w4 (j8 t3) (i5 (j7 q7 rfl) (i5 (z9r rfl) (o6 (x5 fin)))))))))))))
end
end k21
end
noncomputable section
namespace k21
open PySem PySem.W L2 PySem.Spec PyProof.Rows
section
theorem lnS{α:Type}{us:List α}{n:Nat}(h:us.length=n+1):∃a r,us=a::r/\r.length=n:=by cases us with | nil=>cases h | cons a r=>exact⟨a,r,rfl,Nat.succ.inj h⟩
theorem ln0{α:Type}{us:List α}(h:us.length=0):us=[]:=w1O.mp h
theorem ln1{α:Type}{us:List α}(h:us.length=1):∃a0,us=[a0]:=by obtain⟨_,_,rfl,h0⟩:=lnS h;obtain rfl:=ln0 h0;exact⟨_,rfl⟩
theorem ln2{α:Type}{us:List α}(h:us.length=2):∃a0 a1,us=[a0,a1]:=by obtain⟨_,_,rfl,h0⟩:=lnS h;obtain⟨_,_,rfl,h1⟩:=lnS h0;obtain rfl:=ln0 h1;exact⟨_,_,rfl⟩
theorem ln3{α:Type}{us:List α}(h:us.length=3):∃a0 a1 a2,us=[a0,a1,a2]:=by obtain⟨_,_,rfl,h0⟩:=lnS h;obtain⟨_,_,rfl,h1⟩:=lnS h0;obtain⟨_,_,rfl,h2⟩:=lnS h1;obtain rfl:=ln0 h2;exact⟨_,_,_,rfl⟩
def fn:List Str:=[("is_int" : Str),("flipped" : Str),("cut" : Str),("check_cards" : Str),("cards_in" : Str),("crossing" : Str),("row_kinds" : Str),("column_kinds" : Str),("trimmed" : Str),("is_small" : Str),("check_small" : Str),("words_in" : Str),("bits_paper" : Str),("paper" : Str),("bits_numbers" : Str),("joined_bits" : Str),("least_numbers" : Str),("splits" : Str),("halves" : Str),("least_bits" : Str),("_law_int" : Str),("_law_cell_at" : Str),("_law_stream" : Str),("_law_core" : Str),("_law_table" : Str),("_law_trimmed" : Str),("_law_power" : Str),("_law_halves" : Str),("_law_splits" : Str),("_law_one_word" : Str),("_law_known" : Str),("_law_great" : Str),("_law_refused" : Str),("_law_obeys" : Str),("law" : Str)]
def bl:List Str:=["isinstance","int","bool","tuple","range","len","sorted","set","max","min","list","ValueError"]
def cl:List Str:=["TalkError","NoTable","NoCard","TooGreat"]
theorem ok0:okD fn bl cl q3E ["thing","least","most"] ["thing","least","most"] (top 1)=true:=by decide +kernel
theorem ok1:okD fn bl cl q3P ["table"] ["table"] (top 9)=true:=by decide +kernel
theorem ok2:okD fn bl cl z3z ["table","rows","columns"] ["table","rows","columns"] (top 10)=true:=by decide +kernel
theorem ok3:okD fn bl cl q1N ["cards","size"] ["cards","size"] (top 11)=true:=by decide +kernel
theorem ok4:okD fn bl cl q3e ["cards"] ["cards"] (top 12)=true:=by decide +kernel
theorem ok5:okD fn bl cl q2Z ["table","rows","columns"] ["table","rows","columns"] (top 13)=true:=by decide +kernel
theorem ok6:okD fn bl cl q2D ["table"] ["table"] (top 14)=true:=by decide +kernel
theorem ok7:okD fn bl cl q1B ["table"] ["table"] (top 15)=true:=by decide +kernel
theorem ok8:okD fn bl cl q3F ["table"] ["table"] (top 16)=true:=by decide +kernel
theorem ok9:okD fn bl cl q3b ["table","rest"] ["table"] (top 17)=true:=by decide +kernel
theorem ok10:okD fn bl cl q1f ["table"] ["table"] (top 18)=true:=by decide +kernel
theorem ok11:okD fn bl cl q3d ["table","words","row"] ["table"] (top 19)=true:=by decide +kernel
theorem ok12:okD fn bl cl q1E ["table"] ["table"] (top 21)=true:=by decide +kernel
theorem ok13:okD fn bl cl q6q ["numbers"] ["numbers"] (top 22)=true:=by decide +kernel
theorem ok14:okD fn bl cl q1i ["table"] ["table"] (top 23)=true:=by decide +kernel
theorem ok15:okD fn bl cl q1P ["no","yes"] ["no","yes"] (top 24)=true:=by decide +kernel
theorem ok16:okD fn bl cl q1n ["table","ground","joined","rest","numbers","rows","columns","ways"] ["table","ground","joined"] (top 25)=true:=by decide +kernel
theorem ok17:okD fn bl cl q4L ["rows","columns","by_rows","by_columns"] ["rows","columns"] (top 26)=true:=by decide +kernel
theorem ok18:okD fn bl cl q4D ["cards"] ["cards"] (top 27)=true:=by decide +kernel
theorem ok19:okD fn bl cl q1F ["table"] ["table"] (top 29)=true:=by decide +kernel
theorem ok20:okD fn bl cl q4e ["_law_found"] ["_law_found"] (top 31)=true:=by decide +kernel
theorem ok21:okD fn bl cl q1z ["_law_script","_law_k"] ["_law_script","_law_k"] (top 32)=true:=by decide +kernel
theorem ok22:okD fn bl cl q1K ["_law_cell","_law_many","_law_found","_law_number","_law_k"] ["_law_cell","_law_many"] (top 33)=true:=by decide +kernel
theorem ok23:okD fn bl cl q1v ["_law_script","_law_start","_law_xs","_law_most","_law_many","_law_wide","_law_top","_law_words","_law_k","_law_rows"] ["_law_script","_law_start","_law_xs"] (top 34)=true:=by decide +kernel
theorem ok24:okD fn bl cl q2e ["_law_script","_law_start","_law_xs","_law_rows","_law_k","_law_at","_law_there"] ["_law_script","_law_start"] (top 35)=true:=by decide +kernel
theorem ok25:okD fn bl cl q1y ["_law_table_here","_law_rows","_law_columns","_law_kept"] ["_law_table_here"] (top 36)=true:=by decide +kernel
theorem ok26:okD fn bl cl q2g ["_law_many","_law_found","_law_k"] ["_law_many"] (top 37)=true:=by decide +kernel
theorem ok27:okD fn bl cl q1L ["_law_some"] ["_law_some"] (top 38)=true:=by decide +kernel
theorem ok28:okD fn bl cl q1O ["_law_rows","_law_columns","_law_found"] ["_law_rows","_law_columns"] (top 39)=true:=by decide +kernel
theorem ok29:okD fn bl cl q1o ["_law_small","_law_rows","_law_columns","_law_seen","_law_r","_law_c"] ["_law_small","_law_rows","_law_columns"] (top 40)=true:=by decide +kernel
theorem ok30:okD fn bl cl q2V ["_law_paper","_law_small","_law_known_here","_law_row","_law_every","_law_rows","_law_columns"] ["_law_paper","_law_small"] (top 41)=true:=by decide +kernel
theorem ok31:okD fn bl cl P4 ["_law_cell","_law_many","_law_rows"] ["_law_cell"] (top 42)=true:=by decide +kernel
theorem ok32:okD fn bl cl q1x ["_law_table_here","_law_paper","_law_caught","error"] ["_law_table_here","_law_paper"] (top 43)=true:=by decide +kernel
theorem ok33:okD fn bl cl q2P ["_law_known_here","_law_small","_law_rows","_law_columns","_law_due"] ["_law_known_here","_law_small"] (top 44)=true:=by decide +kernel
theorem ok34:okD fn bl cl z4v ["_law_script","_law_table_here","_law_small","_law_paper","_law_known_here","_law_every","_law_found","_law_held"] ["_law_script"] (top 45)=true:=by decide +kernel
abbrev ck(P:Params)(x:Str)(f:Addr)(i:Nat)(dV pm:Value)(cd:Addr):Prop:=(nsIn (kK P) mainGlobals x,(kK P).lookup f,codeIn (kK P) (.ref cd) x,keepIn (kK P) (.ref f))=(some (some (.ref f)),some (fo x i dV pm cd),true,true)
theorem ck4{P:Params}{x:Str}{f:Addr}{i:Nat}{dV pm:Value}{cd:Addr}(q:ck P x f i dV pm cd):nsIn (kK P) mainGlobals x=some (some (.ref f))/\(kK P).lookup f=some (fo x i dV pm cd)/\codeIn (kK P) (.ref cd) x=true/\keepIn (kK P) (.ref f)=true:=by
 obtain⟨a,b⟩:=w4a q;obtain⟨b,c⟩:=w4a b;exact⟨a,b,w4a c⟩
theorem zz(P:Params):bl.map (nsIn (kK P) mainGlobals)=bl.map λ_=>some none:=by kernel_rfl
open PySem.W
theorem all_mk{l:OpenLaw}{w:World}{h:Heap}{mg:Str->Option Value}{fa:Addr}(X:(kK w.params).In h)(Ns:h.Ns mainGlobals mg)(hfa:mg "law" = some (.ref fa)):∃fd:FuncData,(∀(s:Shared) (v:Value),BindsTo s fd ⟨[v],[]⟩ [("_law_script",v)])/\∀base:Heap,(kK w.params).In base->base.Ns mainGlobals mg->FnOk l.prog w (kK w.params) mg base CX0 60 fa fd ["_law_script"] (spS (kK w.params)):=by
 obtain⟨a0,l0,c0,k0⟩:=ck4 (P:=w.params) (x:="is_int") (f:=21) (i:=1) (dV:=.none) (pm:=(.str "talkleast.checks" 187)) (cd:=20) (by kernel_rfl);have S0:=p5 X Ns ok0 a0 l0 c0 k0 λ_ _ _ _ _ _ us hl=>by obtain⟨_,_,_,rfl⟩:=ln3 hl;rfl
 obtain⟨a1,l1,c1,k1⟩:=ck4 (P:=w.params) (x:="flipped") (f:=75) (i:=9) (dV:=.none) (pm:=(.str "talkleast.tables" 266)) (cd:=74) (by kernel_rfl);have S1:=p5 X Ns ok1 a1 l1 c1 k1 λ_ _ _ _ _ _ us hl=>by obtain⟨_,rfl⟩:=ln1 hl;rfl
 obtain⟨a2,l2,c2,k2⟩:=ck4 (P:=w.params) (x:="cut") (f:=82) (i:=10) (dV:=.none) (pm:=(.str "talkleast.tables" 266)) (cd:=81) (by kernel_rfl);have S2:=p5 X Ns ok2 a2 l2 c2 k2 λ_ _ _ _ _ _ us hl=>by obtain⟨_,_,_,rfl⟩:=ln3 hl;rfl
 obtain⟨a3,l3,c3,k3⟩:=ck4 (P:=w.params) (x:="check_cards") (f:=89) (i:=11) (dV:=.none) (pm:=(.str "talkleast.tables" 266)) (cd:=88) (by kernel_rfl);have S3:=p5 X Ns ok3 a3 l3 c3 k3 λ_ _ _ _ _ _ us hl=>by obtain⟨_,_,rfl⟩:=ln2 hl;rfl
 obtain⟨a4,l4,c4,k4⟩:=ck4 (P:=w.params) (x:="cards_in") (f:=94) (i:=12) (dV:=.none) (pm:=(.str "talkleast.tables" 266)) (cd:=93) (by kernel_rfl);have S4:=p5 X Ns ok4 a4 l4 c4 k4 λ_ _ _ _ _ _ us hl=>by obtain⟨_,rfl⟩:=ln1 hl;rfl
 obtain⟨a5,l5,c5,k5⟩:=ck4 (P:=w.params) (x:="crossing") (f:=99) (i:=13) (dV:=.none) (pm:=(.str "talkleast.tables" 266)) (cd:=98) (by kernel_rfl);have S5:=p5 X Ns ok5 a5 l5 c5 k5 λ_ _ _ _ _ _ us hl=>by obtain⟨_,_,_,rfl⟩:=ln3 hl;rfl
 obtain⟨a6,l6,c6,k6⟩:=ck4 (P:=w.params) (x:="row_kinds") (f:=104) (i:=14) (dV:=.none) (pm:=(.str "talkleast.tables" 266)) (cd:=103) (by kernel_rfl);have S6:=p5 X Ns ok6 a6 l6 c6 k6 λ_ _ _ _ _ _ us hl=>by obtain⟨_,rfl⟩:=ln1 hl;rfl
 obtain⟨a7,l7,c7,k7⟩:=ck4 (P:=w.params) (x:="column_kinds") (f:=111) (i:=15) (dV:=.none) (pm:=(.str "talkleast.tables" 266)) (cd:=110) (by kernel_rfl);have S7:=p5 X Ns ok7 a7 l7 c7 k7 λ_ _ _ _ _ _ us hl=>by obtain⟨_,rfl⟩:=ln1 hl;rfl
 obtain⟨a8,l8,c8,k8⟩:=ck4 (P:=w.params) (x:="trimmed") (f:=118) (i:=16) (dV:=.none) (pm:=(.str "talkleast.tables" 266)) (cd:=117) (by kernel_rfl);have S8:=p5 X Ns ok8 a8 l8 c8 k8 λ_ _ _ _ _ _ us hl=>by obtain⟨_,rfl⟩:=ln1 hl;rfl
 obtain⟨a9,l9,c9,k9⟩:=ck4 (P:=w.params) (x:="is_small") (f:=125) (i:=17) (dV:=.none) (pm:=(.str "talkleast.tables" 266)) (cd:=124) (by kernel_rfl);have S9:=p5 X Ns ok9 a9 l9 c9 k9 λ_ _ _ _ _ _ us hl=>by obtain⟨_,rfl⟩:=ln1 hl;rfl
 obtain⟨a10,l10,c10,k10⟩:=ck4 (P:=w.params) (x:="check_small") (f:=132) (i:=18) (dV:=.none) (pm:=(.str "talkleast.tables" 266)) (cd:=131) (by kernel_rfl);have S10:=p5 X Ns ok10 a10 l10 c10 k10 λ_ _ _ _ _ _ us hl=>by obtain⟨_,rfl⟩:=ln1 hl;rfl
 obtain⟨a11,l11,c11,k11⟩:=ck4 (P:=w.params) (x:="words_in") (f:=139) (i:=19) (dV:=.none) (pm:=(.str "talkleast.tables" 266)) (cd:=138) (by kernel_rfl);have S11:=p5 X Ns ok11 a11 l11 c11 k11 λ_ _ _ _ _ _ us hl=>by obtain⟨_,rfl⟩:=ln1 hl;rfl
 obtain⟨a12,l12,c12,k12⟩:=ck4 (P:=w.params) (x:="bits_paper") (f:=146) (i:=21) (dV:=.none) (pm:=(.str "talkleast.parts" 349)) (cd:=145) (by kernel_rfl);have S12:=p5 X Ns ok12 a12 l12 c12 k12 λ_ _ _ _ _ _ us hl=>by obtain⟨_,rfl⟩:=ln1 hl;rfl
 obtain⟨a13,l13,c13,k13⟩:=ck4 (P:=w.params) (x:="paper") (f:=151) (i:=22) (dV:=.none) (pm:=(.str "talkleast.parts" 349)) (cd:=150) (by kernel_rfl);have S13:=p5 X Ns ok13 a13 l13 c13 k13 λ_ _ _ _ _ _ us hl=>by obtain⟨_,rfl⟩:=ln1 hl;rfl
 obtain⟨a14,l14,c14,k14⟩:=ck4 (P:=w.params) (x:="bits_numbers") (f:=158) (i:=23) (dV:=.none) (pm:=(.str "talkleast.parts" 349)) (cd:=157) (by kernel_rfl);have S14:=p5 X Ns ok14 a14 l14 c14 k14 λ_ _ _ _ _ _ us hl=>by obtain⟨_,rfl⟩:=ln1 hl;rfl
 obtain⟨a15,l15,c15,k15⟩:=ck4 (P:=w.params) (x:="joined_bits") (f:=165) (i:=24) (dV:=.none) (pm:=(.str "talkleast.parts" 349)) (cd:=164) (by kernel_rfl);have S15:=p5 X Ns ok15 a15 l15 c15 k15 λ_ _ _ _ _ _ us hl=>by obtain⟨_,_,rfl⟩:=ln2 hl;rfl
 obtain⟨a16,l16,c16,k16⟩:=ck4 (P:=w.params) (x:="least_numbers") (f:=170) (i:=25) (dV:=.none) (pm:=(.str "talkleast.parts" 349)) (cd:=169) (by kernel_rfl);have S16:=p5 X Ns ok16 a16 l16 c16 k16 λ_ _ _ _ _ _ us hl=>by obtain⟨_,_,_,rfl⟩:=ln3 hl;rfl
 obtain⟨a17,l17,c17,k17⟩:=ck4 (P:=w.params) (x:="splits") (f:=175) (i:=26) (dV:=.none) (pm:=(.str "talkleast.parts" 349)) (cd:=174) (by kernel_rfl);have S17:=p5 X Ns ok17 a17 l17 c17 k17 λ_ _ _ _ _ _ us hl=>by obtain⟨_,_,rfl⟩:=ln2 hl;rfl
 obtain⟨a18,l18,c18,k18⟩:=ck4 (P:=w.params) (x:="halves") (f:=180) (i:=27) (dV:=.none) (pm:=(.str "talkleast.parts" 349)) (cd:=179) (by kernel_rfl);have S18:=p5 X Ns ok18 a18 l18 c18 k18 λ_ _ _ _ _ _ us hl=>by obtain⟨_,rfl⟩:=ln1 hl;rfl
 obtain⟨a19,l19,c19,k19⟩:=ck4 (P:=w.params) (x:="least_bits") (f:=187) (i:=29) (dV:=.none) (pm:=(.str "talkleast.least" 397)) (cd:=186) (by kernel_rfl);have S19:=p5 X Ns ok19 a19 l19 c19 k19 λ_ _ _ _ _ _ us hl=>by obtain⟨_,rfl⟩:=ln1 hl;rfl
 obtain⟨a20,l20,c20,k20⟩:=ck4 (P:=w.params) (x:="_law_int") (f:=194) (i:=31) (dV:=.none) (pm:=(.str "law_talkleast_k21_bits_papers" 406)) (cd:=193) (by kernel_rfl);have S20:=p5 X Ns ok20 a20 l20 c20 k20 λ_ _ _ _ _ _ us hl=>by obtain⟨_,rfl⟩:=ln1 hl;rfl
 obtain⟨a21,l21,c21,k21⟩:=ck4 (P:=w.params) (x:="_law_cell_at") (f:=201) (i:=32) (dV:=.none) (pm:=(.str "law_talkleast_k21_bits_papers" 406)) (cd:=200) (by kernel_rfl);have S21:=p5 X Ns ok21 a21 l21 c21 k21 λ_ _ _ _ _ _ us hl=>by obtain⟨_,_,rfl⟩:=ln2 hl;rfl
 obtain⟨a22,l22,c22,k22⟩:=ck4 (P:=w.params) (x:="_law_stream") (f:=208) (i:=33) (dV:=.none) (pm:=(.str "law_talkleast_k21_bits_papers" 406)) (cd:=207) (by kernel_rfl);have S22:=p5 X Ns ok22 a22 l22 c22 k22 λ_ _ _ _ _ _ us hl=>by obtain⟨_,_,rfl⟩:=ln2 hl;rfl
 obtain⟨a23,l23,c23,k23⟩:=ck4 (P:=w.params) (x:="_law_core") (f:=213) (i:=34) (dV:=.none) (pm:=(.str "law_talkleast_k21_bits_papers" 406)) (cd:=212) (by kernel_rfl);have S23:=p5 X Ns ok23 a23 l23 c23 k23 λ_ _ _ _ _ _ us hl=>by obtain⟨_,_,_,rfl⟩:=ln3 hl;rfl
 obtain⟨a24,l24,c24,k24⟩:=ck4 (P:=w.params) (x:="_law_table") (f:=218) (i:=35) (dV:=.none) (pm:=(.str "law_talkleast_k21_bits_papers" 406)) (cd:=217) (by kernel_rfl);have S24:=p5 X Ns ok24 a24 l24 c24 k24 λ_ _ _ _ _ _ us hl=>by obtain⟨_,_,rfl⟩:=ln2 hl;rfl
 obtain⟨a25,l25,c25,k25⟩:=ck4 (P:=w.params) (x:="_law_trimmed") (f:=223) (i:=36) (dV:=.none) (pm:=(.str "law_talkleast_k21_bits_papers" 406)) (cd:=222) (by kernel_rfl);have S25:=p5 X Ns ok25 a25 l25 c25 k25 λ_ _ _ _ _ _ us hl=>by obtain⟨_,rfl⟩:=ln1 hl;rfl
 obtain⟨a26,l26,c26,k26⟩:=ck4 (P:=w.params) (x:="_law_power") (f:=230) (i:=37) (dV:=.none) (pm:=(.str "law_talkleast_k21_bits_papers" 406)) (cd:=229) (by kernel_rfl);have S26:=p5 X Ns ok26 a26 l26 c26 k26 λ_ _ _ _ _ _ us hl=>by obtain⟨_,rfl⟩:=ln1 hl;rfl
 obtain⟨a27,l27,c27,k27⟩:=ck4 (P:=w.params) (x:="_law_halves") (f:=235) (i:=38) (dV:=.none) (pm:=(.str "law_talkleast_k21_bits_papers" 406)) (cd:=234) (by kernel_rfl);have S27:=p5 X Ns ok27 a27 l27 c27 k27 λ_ _ _ _ _ _ us hl=>by obtain⟨_,rfl⟩:=ln1 hl;rfl
 obtain⟨a28,l28,c28,k28⟩:=ck4 (P:=w.params) (x:="_law_splits") (f:=240) (i:=39) (dV:=.none) (pm:=(.str "law_talkleast_k21_bits_papers" 406)) (cd:=239) (by kernel_rfl);have S28:=p5 X Ns ok28 a28 l28 c28 k28 λ_ _ _ _ _ _ us hl=>by obtain⟨_,_,rfl⟩:=ln2 hl;rfl
 obtain⟨a29,l29,c29,k29⟩:=ck4 (P:=w.params) (x:="_law_one_word") (f:=247) (i:=40) (dV:=.none) (pm:=(.str "law_talkleast_k21_bits_papers" 406)) (cd:=246) (by kernel_rfl);have S29:=p5 X Ns ok29 a29 l29 c29 k29 λ_ _ _ _ _ _ us hl=>by obtain⟨_,_,_,rfl⟩:=ln3 hl;rfl
 obtain⟨a30,l30,c30,k30⟩:=ck4 (P:=w.params) (x:="_law_known") (f:=252) (i:=41) (dV:=.none) (pm:=(.str "law_talkleast_k21_bits_papers" 406)) (cd:=251) (by kernel_rfl);have S30:=p5 X Ns ok30 a30 l30 c30 k30 λ_ _ _ _ _ _ us hl=>by obtain⟨_,_,rfl⟩:=ln2 hl;rfl
 obtain⟨a31,l31,c31,k31⟩:=ck4 (P:=w.params) (x:="_law_great") (f:=257) (i:=42) (dV:=.none) (pm:=(.str "law_talkleast_k21_bits_papers" 406)) (cd:=256) (by kernel_rfl);have S31:=p5 X Ns ok31 a31 l31 c31 k31 λ_ _ _ _ _ _ us hl=>by obtain⟨_,rfl⟩:=ln1 hl;rfl
 obtain⟨a32,l32,c32,k32⟩:=ck4 (P:=w.params) (x:="_law_refused") (f:=264) (i:=43) (dV:=.none) (pm:=(.str "law_talkleast_k21_bits_papers" 406)) (cd:=263) (by kernel_rfl);have S32:=p5 X Ns ok32 a32 l32 c32 k32 λ_ _ _ _ _ _ us hl=>by obtain⟨_,_,rfl⟩:=ln2 hl;rfl
 obtain⟨a33,l33,c33,k33⟩:=ck4 (P:=w.params) (x:="_law_obeys") (f:=269) (i:=44) (dV:=.none) (pm:=(.str "law_talkleast_k21_bits_papers" 406)) (cd:=268) (by kernel_rfl);have S33:=p5 X Ns ok33 a33 l33 c33 k33 λ_ _ _ _ _ _ us hl=>by obtain⟨_,_,rfl⟩:=ln2 hl;rfl
 obtain⟨a34,l34,c34,k34⟩:=ck4 (P:=w.params) (x:="law") (f:=276) (i:=45) (dV:=.none) (pm:=(.str "law_talkleast_k21_bits_papers" 406)) (cd:=275) (by kernel_rfl);have S34:=p5 X Ns ok34 a34 l34 c34 k34 λ_ _ _ _ _ _ us hl=>by obtain⟨_,rfl⟩:=ln1 hl;rfl
 have e:=hfa.symm.trans (mg_of X Ns a34);cases e;refine⟨_,λs v=>.of_eq rfl,λbase _ _=>z3B (T:=T) (G:=G) (fu:=100) rfl (p6 S0 (p6 S1 (p6 S2 (p6 S3 (p6 S4 (p6 S5 (p6 S6 (p6 S7 (p6 S8 (p6 S9 (p6 S10 (p6 S11 (p6 S12 (p6 S13 (p6 S14 (p6 S15 (p6 S16 (p6 S17 (p6 S18 (p6 S19 (p6 S20 (p6 S21 (p6 S22 (p6 S23 (p6 S24 (p6 S25 (p6 S26 (p6 S27 (p6 S28 (p6 S29 (p6 S30 (p6 S31 (p6 S32 (p6 S33 (p6 S34 z8G))))))))))))))))))))))))))))))))))) (λx hx=>mg_none_of X Ns (w3C.mp (zz _) x hx)) ?_ ?_ ?_ z6Z z3N (i:=34) rfl rfl S34 z7c⟩
 ·have xa0:nsIn (kK w.params) mainGlobals "TalkError" = some (some (.ref 31)):=by kernel_rfl
  have xa1:nsIn (kK w.params) mainGlobals "NoTable" = some (some (.ref 44)):=by kernel_rfl
  have xa2:nsIn (kK w.params) mainGlobals "NoCard" = some (some (.ref 56)):=by kernel_rfl
  have xa3:nsIn (kK w.params) mainGlobals "TooGreat" = some (some (.ref 68)):=by kernel_rfl
  refine⟨q4M ⟨31,mg_of X Ns xa0,⟨by kernel_rfl,by kernel_rfl,by kernel_rfl,by kernel_rfl,by kernel_rfl,by kernel_rfl,by kernel_rfl,by kernel_rfl⟩,⟨_,_,_,[.type "ValueError",.type "Exception",.type "BaseException",.type "object"],w1W,by kernel_rfl⟩,(E8 (t:="TalkError") (Ct:=31) (mg_of X Ns xa0) ⟨by kernel_rfl,λ_=>by kernel_rfl⟩ (E8 (t:="NoTable") (Ct:=44) (mg_of X Ns xa1) ⟨by kernel_rfl,λz=>nomatch z⟩ (E8 (t:="NoCard") (Ct:=56) (mg_of X Ns xa2) ⟨by kernel_rfl,λz=>nomatch z⟩ (E8 (t:="TooGreat") (Ct:=68) (mg_of X Ns xa3) ⟨by kernel_rfl,λz=>nomatch z⟩ q6y)))),by kernel_rfl⟩ (q4M ⟨44,mg_of X Ns xa1,⟨by kernel_rfl,by kernel_rfl,by kernel_rfl,by kernel_rfl,by kernel_rfl,by kernel_rfl,by kernel_rfl,by kernel_rfl⟩,⟨_,_,_,[.type "ValueError",.type "Exception",.type "BaseException",.type "object"],w1W,by kernel_rfl⟩,(E8 (t:="TalkError") (Ct:=31) (mg_of X Ns xa0) ⟨by kernel_rfl,λ_=>by kernel_rfl⟩ (E8 (t:="NoTable") (Ct:=44) (mg_of X Ns xa1) ⟨by kernel_rfl,λ_=>by kernel_rfl⟩ (E8 (t:="NoCard") (Ct:=56) (mg_of X Ns xa2) ⟨by kernel_rfl,λz=>nomatch z⟩ (E8 (t:="TooGreat") (Ct:=68) (mg_of X Ns xa3) ⟨by kernel_rfl,λz=>nomatch z⟩ q6y)))),by kernel_rfl⟩ (q4M ⟨56,mg_of X Ns xa2,⟨by kernel_rfl,by kernel_rfl,by kernel_rfl,by kernel_rfl,by kernel_rfl,by kernel_rfl,by kernel_rfl,by kernel_rfl⟩,⟨_,_,_,[.type "ValueError",.type "Exception",.type "BaseException",.type "object"],w1W,by kernel_rfl⟩,(E8 (t:="TalkError") (Ct:=31) (mg_of X Ns xa0) ⟨by kernel_rfl,λ_=>by kernel_rfl⟩ (E8 (t:="NoTable") (Ct:=44) (mg_of X Ns xa1) ⟨by kernel_rfl,λz=>nomatch z⟩ (E8 (t:="NoCard") (Ct:=56) (mg_of X Ns xa2) ⟨by kernel_rfl,λ_=>by kernel_rfl⟩ (E8 (t:="TooGreat") (Ct:=68) (mg_of X Ns xa3) ⟨by kernel_rfl,λz=>nomatch z⟩ q6y)))),by kernel_rfl⟩ (q4M ⟨68,mg_of X Ns xa3,⟨by kernel_rfl,by kernel_rfl,by kernel_rfl,by kernel_rfl,by kernel_rfl,by kernel_rfl,by kernel_rfl,by kernel_rfl⟩,⟨_,_,_,[.type "ValueError",.type "Exception",.type "BaseException",.type "object"],w1W,by kernel_rfl⟩,(E8 (t:="TalkError") (Ct:=31) (mg_of X Ns xa0) ⟨by kernel_rfl,λ_=>by kernel_rfl⟩ (E8 (t:="NoTable") (Ct:=44) (mg_of X Ns xa1) ⟨by kernel_rfl,λz=>nomatch z⟩ (E8 (t:="NoCard") (Ct:=56) (mg_of X Ns xa2) ⟨by kernel_rfl,λz=>nomatch z⟩ (E8 (t:="TooGreat") (Ct:=68) (mg_of X Ns xa3) ⟨by kernel_rfl,λ_=>by kernel_rfl⟩ q6y)))),by kernel_rfl⟩ (z6c)))),all_cons ⟨_,mg_of X Ns xa0⟩ (all_cons ⟨_,mg_of X Ns xa1⟩ (all_cons ⟨_,mg_of X Ns xa2⟩ (all_cons ⟨_,mg_of X Ns xa3⟩ (z7m))))⟩
 ·intro x d h;have g0:nsIn (kK w.params) mainGlobals "SMALL_LINES" = some (some (.int 5 268)):=by kernel_rfl
  exact q9e ⟨_,.int _,mg_of X Ns g0,⟨_,rfl⟩,λH=>t5.mpr rfl⟩ (q9e ⟨_,.ref _,S15.mg,rfl,λH=>z2V.mpr ⟨_,rfl,S15.mg⟩⟩ (z6o)) x d h
 ·intro x kvs h;exact z6h x kvs h
end
end k21
open PySem PySem.W PyProof.Rows
set_option maxRecDepth 100000 in
set_option maxHeartbeats 0 in
theorem PySem.Challenge.cw_talkleast_k21_bits_papers_holds : PySem.Challenge.rw_talkleast_k21_bits_papers.Holds := by
 refine holds_law (by kernel_rfl) λ said => ?_
 refine holds_open (q := k21.kQ) (loose := k21.kL) (Xt := λ s => xlAt k21.kQ [] s && recOk (RowW.records (OpenRow.toRowW (OpenLaw.row PySem.Challenge.rw_talkleast_k21_bits_papers))) s) (XP := XL k21.kQ []) (Yf := (kHook k21.kK k21.kA k21.kE).obs) (Ya := (kHook k21.kK k21.kA k21.kE).val) (YP := (kHook k21.kK k21.kA k21.kE).says) (N := 3898) k21.kLeft (kHook k21.kK k21.kA k21.kE).of (kHook k21.kK k21.kA k21.kE).keeps (λ s e => xl_of s (Bool.and_eq_true_iff.mp e).1) XL.keeps (by rfl) (by rfl) (by rfl) (λ s e => recFacts_of (Bool.and_eq_true_iff.mp e).2) (by rfl) said (by decide +kernel) ⟨rfl, rfl, rfl, rfl, rfl, by decide +kernel⟩ ?hw ?hc
 case hw => w_witness2
 exact L2.walkE (l := PySem.Challenge.rw_talkleast_k21_bits_papers) (k := 60) (p := "_law_script") rfl rfl ⟨rfl, by decide, by decide⟩ (λ w h Y => kIn_of Y) λ w mg fa h KX G hmg => k21.all_mk KX G hmg
end

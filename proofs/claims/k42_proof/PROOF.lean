import PyProof.Rows.All
import Wide.All
import OpenK.AllK
import Wide.FinOn
import Lean
import PyProof.EqAt
import PyProof.EqKinds
import PyProof.TupleCall
import PyProof.ExcAttrAll.ValueError
import PyProof.ZipIter
import PyProof.TupleIter
import PyProof.P3In
import PyProof.Rows.SeqMore2
import PyProof.FactsAll.tuple_3
import PyProof.FactsAll.list_3
import PyProof.Rows.Range3
import KE.KRevIter
import PyProof.Rows.FactsT2
import PySem.Builtin.Int.W1All
import PyProof.SetScanFacts
import PyProof.SetKind
import PyProof.DictKinds
import PyProof.DictStraight
import PyProof.Rows.SetFrom
import PyProof.CollectWalk
import PyProof.Seq
import PyProof.DictIter
import PyProof.Rows.Tup
import PyProof.FactsAll.set_1
import PyProof.FactsAll.set_2
import PyProof.Rows.SortWalk
import PyProof.ConsumeWalk
import PyProof.Rows.SumAny
import PySem.Syntax
import PySem.Eval
import PyProof.DictTable
import PyProof.ListRange
import PyProof.EnumMake
import PyProof.DictItems
import PyProof.DictItemsLoops
import PyProof.MeetsDict
import PyProof.DictWalks
import PyProof.RulesTry
import KE.KPairComp
import PySem.Challenge.RW_talkleast_k42_bases_and_makeups
set_option Elab.async false
set_option linter.all false
set_option bootstrap.genMatcherCode false
set_option genSizeOfSpec false
set_option compiler.extract_closed false
set_option maxRecDepth 100000
set_option maxHeartbeats 4000000
section
open PySem PySem.Spec PyProof.Rows
abbrev d6:=@List.getElem?_set_ne
abbrev b9:=@wpAny_bind
abbrev i7:=@List.getD_eq_getElem?_getD
abbrev d7:=@Bool.and_eq_true
abbrev d8:=@List.length_map
abbrev j3:=@List.getElem?_eq_getElem
abbrev i6:=@List.mem_cons_of_mem
abbrev m5:=@Heap.get?_push_of_some
abbrev j5:=@List.mem_cons_self
abbrev f9:=@List.mem_cons
abbrev d4:=@if_pos
abbrev m4:=@List.length_cons
abbrev m9:=@List.getElem?_map
abbrev w9:=@List.getElem?_eq_some_iff
abbrev i4:=@wpAny_pure
abbrev d5:=@if_neg
abbrev i8:=@beq_iff_eq
abbrev j2:=@Nat.le_refl
abbrev u7:=@List.mem_append_right
abbrev u4:=@List.mem_append_left
abbrev x8:=@Option.map_eq_some_iff
abbrev j8:=@Heap.lt_size
abbrev j9:=@List.map_map
abbrev m6:=@Nat.le_trans
abbrev p0:=@List.mem_range
abbrev x9:=@Heap.get?_push_size
abbrev x4:=@Nat.lt_of_lt_of_le
abbrev v9:=@Bool.not_eq_true'
abbrev u0:=@List.length_set
abbrev p4:=@Int.mul_assoc
abbrev p7:=@List.map_cons
abbrev o7:=@List.mem_map
abbrev C8:=@List.getElem?_set_self
abbrev A7:=@List.size_toArray
abbrev A8:=@List.length_range
abbrev y0:=@List.mem_append
abbrev C4:=@beq_eq_false_iff_ne
abbrev C9:=@List.map_congr_left
abbrev C5:=@List.length_append
abbrev B8:=@Int.toNat_natCast
abbrev D0:=@List.mem_singleton
abbrev C6:=@decide_eq_false
abbrev A0:=@Int.mul_comm
abbrev B9:=@decide_eq_true
abbrev D6:=@List.all_eq_true
abbrev F5:=@wpAny_setField_rec
abbrev M1:=@List.getElem?_append_left
abbrev B3:=@Nat.ne_of_lt
abbrev G4:=@Nat.lt_of_le_of_lt
abbrev E4:=@List.map_append
abbrev B1:=@wpAny_field
abbrev F6:=@List.getElem_mem
abbrev F7:=@List.not_mem_nil
abbrev F1:=@Option.some.inj
abbrev K1:=@Array.length_toList
abbrev K2:=@Bool.false_ne_true
abbrev K3:=@Int.natCast_nonneg
abbrev P7:=@List.getElem?_append_right
abbrev D1:=@Int.one_mul
abbrev J0:=@Bool.or_eq_true
abbrev L3:=@decide_eq_true_eq
abbrev M2:=@wpAny_newObj_type
abbrev K4:=@Heap.size_push
abbrev J1:=@List.any_cons
abbrev G5:=@Int.mul_zero
abbrev O0:=@PySem.mem_of_lookup
abbrev P8:=@List.contains_iff_mem
abbrev T7:=@wpAny_callSpecial?_slot
abbrev M3:=@List.mem_filter
abbrev O1:=@List.mem_filterMap
abbrev M4:=@List.append_nil
abbrev P9:=@List.mem_of_getElem?
abbrev N3:=@List.lookup_cons
abbrev Q0:=@List.replicate_succ
abbrev F8:=@wpAny_mono
abbrev T9:=@List.length_singleton
abbrev K5:=@Int.zero_mul
abbrev Q2:=@wpAny_pyIter_tuple
abbrev W1:=@List.length_eq_zero_iff
abbrev O3:=@Option.bind_some
abbrev M5:=@Nat.lt_irrefl
abbrev N4:=@Bool.false_and
abbrev Q3:=@List.append_assoc
abbrev O4:=@List.nodup_cons
abbrev O5:=@List.find?_cons
abbrev Q4:=@List.length_take
abbrev Q5:=@wpAny_call_entry
abbrev N5:=@List.sum_cons
abbrev Z4:=@List.getElem?_replicate
abbrev U0:=@Int.mul_left_comm
abbrev Q6:=@Option.map_some
abbrev W3:=@List.getElem_of_mem
abbrev Z5:=@List.range_succ_eq_map
abbrev Z6:=@List.getElem?_eq_none
abbrev Q7:=@Int.natAbs_mul
abbrev w1H:=@List.mem_or_eq_of_mem_set
abbrev Z7:=@Heap.get?_none_of_le
abbrev Z8:=@Bool.or_eq_false_iff
abbrev U1:=@PySem.W.kia_one
abbrev Z9:=@Nat.pow_le_pow_right
abbrev W4:=@List.flatten_cons
abbrev w1N:=@List.getElem?_range
abbrev W5:=@beq_self_eq_true
abbrev U2:=@wpAny_seqItems
abbrev K6:=@or_false
abbrev O6:=@Nat.zero_le
abbrev Q8:=@Nat.ne_of_gt
abbrev w1T:=@PyProof.Rows.callWith_type1
abbrev w1U:=@decide_eq_true_iff
abbrev W6:=@wpAny_passesOwn
abbrev W7:=@Nat.two_pow_pos
abbrev w1X:=@F.slot_tuple_iterator_next
abbrev w1Y:=@PySem.F.excBase_ValueError
abbrev w1Z:=@wpAny_pyIter_list
abbrev w10:=@Classical.byContradiction
abbrev w11:=@Nat.mul_le_mul_right
abbrev w12:=@List.length_drop
abbrev w13:=@List.any_eq_true
abbrev U3:=@List.map_set
abbrev U4:=@Int.zero_add
abbrev U5:=@Nat.pow_succ
abbrev w17:=@PySem.F.slot_dict_items
abbrev W8:=@wpAny_holding
abbrev X0:=@wpAny_attempt
abbrev w2a:=@wpAny_loadPart'
abbrev w2b:=@wpAny_typeNameOfWhole_itemiter
abbrev w2c:=@Nat.not_lt_zero
abbrev w2d:=@Int.natAbs_natCast
abbrev w2e:=@Int.neg_one_mul
abbrev w2f:=@PySem.W.cellsFrom_some
abbrev w2g:=@Calls.callWith_builtin
abbrev w2h:=@List.find?_cons_of_neg
abbrev w2i:=@wpAny_truthy_bool
abbrev w2j:=@of_decide_eq_true
abbrev w2k:=@List.length_replicate
abbrev w2l:=@F.slot_enumerate_next
abbrev X1:=@Nat.zero_add
abbrev X2:=@Int.add_zero
abbrev w2o:=@Nat.le_add_right
abbrev U6:=@bne_iff_ne
abbrev w2q:=@Int.fmod_eq_emod_of_nonneg
abbrev w2r:=@Bool.true_and
abbrev N6:=@Iff.rfl
abbrev X3:=@Int.mul_add
abbrev X4:=@Nat.add_mul
abbrev w2v:=@PySem.W.hideAll_get
abbrev w2w:=@List.filterMap_cons
abbrev w2x:=@wpAny_execs_nil
abbrev w2y:=@Option.isSome_iff_exists
abbrev w2z:=@Nat.succ.inj
abbrev w2A:=@Nat.gcd_zero_right
abbrev w2B:=@Nat.gcd_comm
abbrev w2C:=@PySem.F.plainAttrs_list
abbrev w2D:=@PySem.F.plainAttrs_dict
abbrev w2E:=@List.filter_cons_of_neg
abbrev w2F:=@List.filter_cons_of_pos
abbrev w2G:=@List.take_of_length_le
abbrev w2H:=@wpAny_isOneOf_itemiter
abbrev w2I:=@Int.neg_mul
abbrev w2J:=@Option.getD_some
abbrev w2K:=@List.ext_getElem
abbrev w2L:=@List.getElem_map
abbrev w2M:=@Array.getElem?_toList
abbrev w2N:=@PyProof.Rows.slot_tuple_getitem
abbrev w2O:=@Nat.le_of_lt
abbrev w2P:=@wpAny_updateSeq_pair
abbrev w2Q:=@F.slot_zip_next
abbrev w2R:=@Nat.min_eq_left
abbrev w2S:=@F.slot_dict_itemiterator_next
abbrev w2T:=@PySem.evalArgs_none
abbrev w2U:=@List.length_pos_iff
abbrev w2V:=@Nat.mul_le_mul_left
abbrev w2W:=@Bool.and_false
abbrev w2X:=@F.args_tuple_iterator_next_1
abbrev w2Y:=@Nat.mul_le_mul
abbrev w2Z:=@wpAny_letGo
abbrev w20:=@Int.le_refl
abbrev w21:=@Int.mul_sub
abbrev w22:=@Int.add_mul
abbrev w23:=@Nat.one_mul
abbrev w24:=@Nat.gcd_rec
abbrev w25:=@assignInOrder_cons
abbrev w26:=@wpAny_Call_Name_kw
abbrev w27:=@F.entry_tuple_iterator_next
abbrev w28:=@tupleKind_room_in1
abbrev w29:=@List.zip_cons_cons
abbrev w3a:=@wpAny_letOwnedTupleGo_items
abbrev w3b:=@List.find?_eq_none
abbrev w3c:=@List.getElem_range
abbrev w3d:=@Int.emod_lt_of_pos
abbrev w3e:=@Paired.length
abbrev w3f:=@Calls.Name_function_global
abbrev w3g:=@wpAny_standAt
abbrev w3h:=@Int.fdiv_eq_ediv_of_nonneg
abbrev w3i:=@wpAny_onRaise
abbrev w3j:=@nums_intItems
abbrev w3k:=@Bool.and_self
abbrev w3l:=@Nat.mul_assoc
abbrev w3m:=@Nat.gcd_zero_left
abbrev w3n:=@wpAny_rule
abbrev w3o:=@List.mem_of_find?_eq_some
abbrev w3p:=@List.drop_eq_getElem_cons
abbrev w3q:=@PySem.F.args_dict_items_1
abbrev w3r:=@Int.eq_of_mul_eq_mul_left
abbrev w3s:=@Nat.mul_comm
abbrev w3t:=@Nat.le_of_not_lt
abbrev w3u:=@codeAny_mono
abbrev w3v:=@wpAny_comprehension_free
abbrev w3w:=@wpAny_isInstance
abbrev w3x:=@numAt_eq
abbrev w3y:=@Nat.lt_succ_self
abbrev w3z:=@PySem.F.slot_list_append
abbrev w3A:=@PySem.F.type_list_append
abbrev w3B:=@Nat.lt_trans
abbrev w3C:=@PySem.F.entry_dict_items
abbrev w3D:=@Int.le_trans
abbrev w3E:=@wpAny_Call_method0_late
abbrev w3F:=@List.getElem?_cons_succ
abbrev w3G:=@F.args_enumerate_next_1
abbrev w3H:=@PySem.F.type_dict_items
abbrev w3I:=@Nat.le_mul_of_pos_right
abbrev w3J:=@Int.natCast_dvd_natCast
abbrev w3K:=@List.of_mem_zip
abbrev w3L:=@eq_of_beq
abbrev w3M:=@List.forIn_cons
abbrev w3N:=@pushCells_keeps
abbrev w3O:=@Bool.eq_iff_iff
abbrev w3P:=@Heap.DictOf.new
abbrev w3Q:=@Int.mul_eq_zero
abbrev w3R:=@Int.emod_nonneg
abbrev w3S:=@subscriptTail_builtinR
abbrev w3T:=@Heap.get?_update_other
abbrev w3U:=@intItems_at
abbrev w3V:=@F.entry_enumerate_next
abbrev w3W:=@F.slot_dict_items_iter
abbrev w3X:=@List.drop_of_length_le
abbrev w3Y:=@Heap.get?_update_self
abbrev w3Z:=@wpAny_newTuple
abbrev w30:=@isSubtype_stop
abbrev w31:=@PySem.F.slot_dict_get
abbrev w32:=@List.take_append_drop
abbrev w33:=@List.drop_zero
abbrev w34:=@call_meets
abbrev w35:=@Nat.mod_lt
abbrev w36:=@Bool.false_or
abbrev w37:=@seqIndex_neg
abbrev w38:=@List.set_set
abbrev w39:=@call_meetsIn
abbrev w4a:=@Int.pow_succ
abbrev w4b:=@Nat.sub_self
abbrev w4c:=@Bool.or_true
end
noncomputable section
namespace L2
open PySem
section
def K7(s:Stmt):Arguments:=match s with
 | .FunctionDef _ a _ _ _ _ _ _ _ _=>a
 | _=>{posonlyargs:=[],args:=[],vararg:=none,kwonlyargs:=[],kw_defaults:=[],kwarg:=none,defaults:=[]}
def E5(s:Stmt):List Stmt:=match s with
 | .FunctionDef _ _ b _ _ _ _ _ _ _=>b
 | _=>[]
def q9(s:Stmt):Scope:=match s with
 | .FunctionDef _ _ _ _ _ _ sc _ _ _=>sc
 | _=>{kind:=.function,names:=[],isGenerator:=false,isCoroutine:=false}
end
end L2
namespace k42
open PySem PySem.W L2 PySem.Spec PyProof.Rows
section
def top(i:Nat):Stmt:=PySem.Challenge.pw_talkleast_k42_bases_and_makeups.main.body.getD i (.Pass ⟨0,0,0,0⟩)
def fo(n:Str)(i:Nat)(dV pm:Value)(cd:Addr):Obj:=⟨.type "function",none,.func (fnOf n n (K7 (top i)) (E5 (top i)) (q9 (top i)) dV .none .none pm none (.ref cd) .none),#[]⟩
def en(P:Params)(s:Str)(t:Nat)(v:Value):DictEntry:=⟨PyData.keyHash P s,.str s t,v⟩
def co(n:Str)(t:Nat)(ln na fl:Int)(a b c d e:Value)(q:Int)(r:Nat):Obj:=⟨.type "code",none,.fields #[.str n t,.str n (t+1),.str "/claim/cut.py" (t+2),.int ln 0,.int na 0,.int 0 0,.int 0 0,.int fl 0,a,.bool true,.int 181 0,b,.none,c,d,e,.int q 0,.int ln 0,.str "/claim/cut.py" r],#[]⟩
def kK(P:Params):Frag:=[(2,⟨.none,none,.dict #[] 0,#[]⟩),
 (3,⟨.type "dict",none,.dict #[en P "__name__" 165 (.str "law_talkleast_k42_bases_and_makeups" 372),en P "__doc__" 166 .none,en P "__package__" 167 .none,en P "__loader__" 168 (.builtin "__main__.__loader__#opaque"),en P "__spec__" 169 .none,en P "__annotations__" 170 (.ref 6),en P "__builtins__" 171 (.ref 4),en P "__file__" 173 (.str "/claim/cut.py" 172),en P "__cached__" 174 .none,en P "is_int" 197 (.ref 21),en P "in_lowest_terms" 203 (.ref 26),en P "common_divisor" 214 (.ref 33),en P "TalkError" 234 (.ref 43),en P "NoTable" 250 (.ref 56),en P "NoCard" 266 (.ref 68),en P "TooGreat" 282 (.ref 80),en P "flipped" 290 (.ref 87),en P "check_card" 298 (.ref 94),en P "determinant" 309 (.ref 101),en P "with_row" 323 (.ref 108),en P "turn" 333 (.ref 115),en P "base" 340 (.ref 122),en P "rank" 347 (.ref 129),en P "base_lines" 353 (.ref 134),en P "reduced" 359 (.ref 139),en P "leading_place" 365 (.ref 144),en P "makeup" 371 (.ref 149),en P "_law_int" 380 (.ref 156),en P "_law_cell_at" 388 (.ref 163),en P "_law_stream" 399 (.ref 170),en P "_law_table" 405 (.ref 175),en P "_law_as_table" 411 (.ref 180),en P "_law_mixed" 417 (.ref 185),en P "_law_divisor" 425 (.ref 192),en P "_law_rising" 435 (.ref 199),en P "_law_made" 441 (.ref 204),en P "_law_ahead" 447 (.ref 209),en P "_law_refused" 457 (.ref 216),en P "_law_based" 467 (.ref 223),en P "law" 473 (.ref 228)] 40,#[]⟩),
 (20,co "is_int" 189 2 3 3 (.ref 15) (.ref 16) (.ref 17) (.ref 18) (.ref 19) 195 196),
 (21,fo "is_int" 1 .none (.str "talkleast.checks" 187) 20),
 (25,co "in_lowest_terms" 198 4 1 3 (.ref 22) (.ref 23) .none .none (.ref 24) 201 202),
 (26,fo "in_lowest_terms" 2 .none (.str "talkleast.checks" 187) 25),
 (32,co "common_divisor" 204 9 2 3 (.ref 27) (.ref 28) (.ref 29) (.ref 30) (.ref 31) 212 213),
 (33,fo "common_divisor" 3 .none (.str "talkleast.checks" 187) 32),
 (42,⟨.type "dict",none,.dict #[en P "__module__" 224 (.str "talkleast.errors" 215),en P "__firstlineno__" 228 (.int 18 227),en P "__static_attributes__" 229 (.ref 41),en P "__weakref__" 231 (.ref 44),en P "__doc__" 232 .none] 3,#[]⟩),
 (43,⟨.type "type",none,.cls ⟨"TalkError",[.type "ValueError"],[.ref 43,.type "ValueError",.type "Exception",.type "BaseException",.type "object"],42,"TalkError",true,[],[.ref 56,.ref 68,.ref 80],false,none,false⟩,#[some (.ref 34),none,some (.str "TalkError" 217),some (.str "TalkError" 225),some (.builtin "ValueError.__new__"),some (.bool true)]⟩),
 (44,⟨.type "getset_descriptor",none,.fields #[.str "__weakref__" 230,.ref 43,.builtin "ExceptionGroup.__weakref__",.none],#[]⟩),
 (55,⟨.type "dict",none,.dict #[en P "__module__" 242 (.str "talkleast.errors" 215),en P "__firstlineno__" 246 (.int 20 245),en P "__static_attributes__" 247 (.ref 54),en P "__doc__" 248 .none] 2,#[]⟩),
 (56,⟨.type "type",none,.cls ⟨"NoTable",[.ref 43],[.ref 56,.ref 43,.type "ValueError",.type "Exception",.type "BaseException",.type "object"],55,"NoTable",true,[],[],false,none,false⟩,#[some (.ref 47),none,some (.str "NoTable" 235),some (.str "NoTable" 243),some (.builtin "ValueError.__new__"),some (.bool true)]⟩),
 (67,⟨.type "dict",none,.dict #[en P "__module__" 258 (.str "talkleast.errors" 215),en P "__firstlineno__" 262 (.int 22 261),en P "__static_attributes__" 263 (.ref 66),en P "__doc__" 264 .none] 2,#[]⟩),
 (68,⟨.type "type",none,.cls ⟨"NoCard",[.ref 43],[.ref 68,.ref 43,.type "ValueError",.type "Exception",.type "BaseException",.type "object"],67,"NoCard",true,[],[],false,none,false⟩,#[some (.ref 59),none,some (.str "NoCard" 251),some (.str "NoCard" 259),some (.builtin "ValueError.__new__"),some (.bool true)]⟩),
 (79,⟨.type "dict",none,.dict #[en P "__module__" 274 (.str "talkleast.errors" 215),en P "__firstlineno__" 278 (.int 24 277),en P "__static_attributes__" 279 (.ref 78),en P "__doc__" 280 .none] 2,#[]⟩),
 (80,⟨.type "type",none,.cls ⟨"TooGreat",[.ref 43],[.ref 80,.ref 43,.type "ValueError",.type "Exception",.type "BaseException",.type "object"],79,"TooGreat",true,[],[],false,none,false⟩,#[some (.ref 71),none,some (.str "TooGreat" 267),some (.str "TooGreat" 275),some (.builtin "ValueError.__new__"),some (.bool true)]⟩),
 (86,co "flipped" 285 27 1 3 (.ref 83) (.ref 84) .none .none (.ref 85) 288 289),
 (87,fo "flipped" 10 .none (.str "talkleast.tables" 283) 86),
 (93,co "check_card" 291 29 2 3 (.ref 88) (.ref 89) (.ref 90) (.ref 91) (.ref 92) 296 297),
 (94,fo "check_card" 11 .none (.str "talkleast.tables" 283) 93),
 (100,co "determinant" 301 33 1 3 (.ref 95) (.ref 96) (.ref 97) (.ref 98) (.ref 99) 307 308),
 (101,fo "determinant" 13 .none (.str "talkleast.ranks" 299) 100),
 (107,co "with_row" 310 38 2 3 (.ref 102) (.ref 103) (.ref 104) (.ref 105) (.ref 106) 321 322),
 (108,fo "with_row" 14 .none (.str "talkleast.ranks" 299) 107),
 (114,co "turn" 324 46 2 3 (.ref 109) (.ref 110) (.ref 111) (.ref 112) (.ref 113) 331 332),
 (115,fo "turn" 15 .none (.str "talkleast.ranks" 299) 114),
 (121,co "base" 334 54 1 3 (.ref 116) (.ref 117) (.ref 118) (.ref 119) (.ref 120) 338 339),
 (122,fo "base" 16 .none (.str "talkleast.ranks" 299) 121),
 (128,co "rank" 341 56 1 3 (.ref 123) (.ref 124) (.ref 125) (.ref 126) (.ref 127) 345 346),
 (129,fo "rank" 17 .none (.str "talkleast.ranks" 299) 128),
 (133,co "base_lines" 348 58 1 3 (.ref 130) (.ref 131) .none .none (.ref 132) 351 352),
 (134,fo "base_lines" 18 .none (.str "talkleast.ranks" 299) 133),
 (138,co "reduced" 354 67 2 3 (.ref 135) (.ref 136) .none .none (.ref 137) 357 358),
 (139,fo "reduced" 19 .none (.str "talkleast.ranks" 299) 138),
 (143,co "leading_place" 360 74 1 3 (.ref 140) (.ref 141) .none .none (.ref 142) 363 364),
 (144,fo "leading_place" 20 .none (.str "talkleast.ranks" 299) 143),
 (148,co "makeup" 366 76 2 3 (.ref 145) (.ref 146) .none .none (.ref 147) 369 370),
 (149,fo "makeup" 21 .none (.str "talkleast.ranks" 299) 148),
 (155,co "_law_int" 374 88 1 3 (.ref 150) (.ref 151) (.ref 152) (.ref 153) (.ref 154) 378 379),
 (156,fo "_law_int" 23 .none (.str "law_talkleast_k42_bases_and_makeups" 372) 155),
 (162,co "_law_cell_at" 381 90 2 3 (.ref 157) (.ref 158) (.ref 159) (.ref 160) (.ref 161) 386 387),
 (163,fo "_law_cell_at" 24 .none (.str "law_talkleast_k42_bases_and_makeups" 372) 162),
 (169,co "_law_stream" 389 94 2 3 (.ref 164) (.ref 165) (.ref 166) (.ref 167) (.ref 168) 397 398),
 (170,fo "_law_stream" 25 .none (.str "law_talkleast_k42_bases_and_makeups" 372) 169),
 (174,co "_law_table" 400 101 3 3 (.ref 171) (.ref 172) .none .none (.ref 173) 403 404),
 (175,fo "_law_table" 26 .none (.str "law_talkleast_k42_bases_and_makeups" 372) 174),
 (179,co "_law_as_table" 406 109 1 3 (.ref 176) (.ref 177) .none .none (.ref 178) 409 410),
 (180,fo "_law_as_table" 27 .none (.str "law_talkleast_k42_bases_and_makeups" 372) 179),
 (184,co "_law_mixed" 412 111 2 3 (.ref 181) (.ref 182) .none .none (.ref 183) 415 416),
 (185,fo "_law_mixed" 28 .none (.str "law_talkleast_k42_bases_and_makeups" 372) 184),
 (191,co "_law_divisor" 418 127 2 3 (.ref 186) (.ref 187) (.ref 188) (.ref 189) (.ref 190) 423 424),
 (192,fo "_law_divisor" 29 .none (.str "law_talkleast_k42_bases_and_makeups" 372) 191),
 (198,co "_law_rising" 426 131 2 3 (.ref 193) (.ref 194) (.ref 195) (.ref 196) (.ref 197) 433 434),
 (199,fo "_law_rising" 30 .none (.str "law_talkleast_k42_bases_and_makeups" 372) 198),
 (203,co "_law_made" 436 140 4 3 (.ref 200) (.ref 201) .none .none (.ref 202) 439 440),
 (204,fo "_law_made" 31 .none (.str "law_talkleast_k42_bases_and_makeups" 372) 203),
 (208,co "_law_ahead" 442 155 3 3 (.ref 205) (.ref 206) .none .none (.ref 207) 445 446),
 (209,fo "_law_ahead" 32 .none (.str "law_talkleast_k42_bases_and_makeups" 372) 208),
 (215,co "_law_refused" 448 160 2 3 (.ref 210) (.ref 211) (.ref 212) (.ref 213) (.ref 214) 455 456),
 (216,fo "_law_refused" 33 .none (.str "law_talkleast_k42_bases_and_makeups" 372) 215),
 (222,co "_law_based" 458 169 2 3 (.ref 217) (.ref 218) (.ref 219) (.ref 220) (.ref 221) 465 466),
 (223,fo "_law_based" 34 .none (.str "law_talkleast_k42_bases_and_makeups" 372) 222),
 (227,co "law" 468 179 1 3 (.ref 224) (.ref 225) .none .none (.ref 226) 471 472),
 (228,fo "law" 35 .none (.str "law_talkleast_k42_bases_and_makeups" 372) 227)]
def kA:List Addr:=[2,3,20,21,25,26,32,33,42,43,44,55,56,67,68,79,80,86,87,93,94,100,101,107,108,114,115,121,122,128,129,133,134,138,139,143,144,148,149,155,156,162,163,169,170,174,175,179,180,184,185,191,192,198,199,203,204,208,209,215,216,222,223,227,228]
theorem kE:∀P,kA=(kK P).map (·.1):=λ_=>by kernel_rfl
def kQ:Program:=view PySem.Challenge.pw_talkleast_k42_bases_and_makeups [1,2,3,5,6,7,8,10,11,13,14,15,16,17,18,19,20,21,23,24,25,26,27,28,29,30,31,32,33,34,35]
def kL:List Str:=[]
set_option maxHeartbeats 0 in
theorem kLeft:LeftO PySem.Challenge.pw_talkleast_k42_bases_and_makeups kQ kL (λs=>xlAt kQ [] s&&recOk (RowW.records (OpenRow.toRowW (OpenLaw.row PySem.Challenge.rw_talkleast_k42_bases_and_makeups))) s) (kHook kK kA kE).obs (kHook kK kA kE).val 3428:=by
 intro w
 kernel_rfl
end
end k42
end
noncomputable section
namespace L2
open PySem PySem.Spec PyProof.Rows
section
abbrev Key:=Sum Int Str
def q8G:Key->Value->Bool
 | .inl k,v=>Value.isInt k v
 | .inr x,v=>Value.isStrOf x v
def keyH(w:World):Key->Int
 | .inl k=>hashInt k
 | .inr x=>hashStr w x
theorem Q9:∀{k:Key} {v:Value},q8G k v=true->(∃i t,k=Sum.inl i/\v=Value.int i t)\/(∃x t,k=Sum.inr x/\v=Value.str x t)
 | .inl i,v,h=>by obtain⟨t,e⟩:=Value.isInt_shape (k:=i) (v:=v) h;exact .inl ⟨i,t,rfl,e⟩
 | .inr x,v,h=>by obtain⟨t,e⟩:=Value.isStrOf_shape (x:=x) (v:=v) h;exact .inr ⟨x,t,rfl,e⟩
theorem z0X(i:Int)(t:Tok):q8G (.inl i) (.int i t)=true:=by simp[q8G,Value.isInt]
theorem z1z(x:Str)(t:Tok):q8G (.inr x) (.str x t)=true:=by simp[q8G,Value.isStrOf]
theorem z9P(a b:Int):decide ((Sum.inl a:Key)=Sum.inl b)=(a==b):=by
 by_cases e:a=b
 ·subst e;simp
 ·have h:¬(Sum.inl a:Key)=Sum.inl b:=λq=>e (Sum.inl.inj q);rw[C6 h];exact(C4.mpr e).symm
theorem z9e(a b:Str):decide ((Sum.inr a:Key)=Sum.inr b)=decide (a=b):=by
 by_cases e:a=b
 ·subst e;simp
 ·have h:¬(Sum.inr a:Key)=Sum.inr b:=λq=>e (Sum.inr.inj q);rw[C6 h,C6 e]
theorem z8I(a:Int)(b:Str):decide ((Sum.inl a:Key)=Sum.inr b)=false:=C6 (λq=>nomatch q)
theorem z8N(a:Str)(b:Int):decide ((Sum.inr a:Key)=Sum.inl b)=false:=C6 (λq=>nomatch q)
def C7(prog:Program)(w:World):PySem.KeyKind prog w Key where
 is:=q8G
 hash:=keyH w
 inj:=λv a b ha hb=>by
  rcases Q9 ha with⟨i,t,rfl,rfl⟩ | ⟨x,t,rfl,rfl⟩
  ·rcases Q9 hb with⟨j,u,rfl,e⟩ | ⟨y,u,rfl,e⟩
   ·injection e with e1 _;rw[e1]
   ·exact nomatch e
  ·rcases Q9 hb with⟨j,u,rfl,e⟩ | ⟨y,u,rfl,e⟩
   ·exact nomatch e
   ·injection e with e1 _;rw[e1]
 byValue:=λk v h=>by rcases Q9 h with⟨i,t,rfl,rfl⟩ | ⟨x,t,rfl,rfl⟩<;>rfl
 pyHash:=λhv h=>by
  rcases Q9 hv with⟨i,t,rfl,rfl⟩ | ⟨x,t,rfl,rfl⟩
  ·exact wpAny_pyHash_int h
  ·exact wpAny_pyHash_str h
 eqBool:=λhu hv h=>by
  rcases Q9 hu with⟨i,t,rfl,rfl⟩ | ⟨x,t,rfl,rfl⟩
  ·rcases Q9 hv with⟨j,u,rfl,rfl⟩ | ⟨y,u,rfl,rfl⟩
   ·rw[z9P]at h;exact wpAny_eqBool_int h
   ·rw[z8I]at h;exact SeqAt.EqAt.int_str i t y u _ _ _ _ h
  ·rcases Q9 hv with⟨j,u,rfl,rfl⟩ | ⟨y,u,rfl,rfl⟩
   ·rw[z8N]at h;exact SeqAt.EqAt.str_int x t j u _ _ _ _ h
   ·rw[z9e]at h;exact wpAny_eqBool_str h
 «strs»:=λk x t v h=>by
  rcases Q9 h with⟨i,u,rfl,e⟩ | ⟨y,u,rfl,e⟩
  ·exact nomatch e
  ·injection e with e1 _
   subst e1;cases v<;>rfl
theorem q6S(prog:Program)(w:World)(i:Int)(t:Tok):(C7 prog w).is (.inl i) (.int i t)=true:=z0X i t
theorem q7q(prog:Program)(w:World)(x:Str)(t:Tok):(C7 prog w).is (.inr x) (.str x t)=true:=z1z x t
end
section
inductive V where
 | non | bl (b:Bool) | int (i:Int) | str (x:Str) | byt (b:Array UInt8) | flt (b:UInt64) | ref (a:Addr) | ty (n:String)
 deriving DecidableEq
def RelV:V->Value->Prop
 | .non,u=>u=Value.none
 | .bl b,u=>u=Value.bool b
 | .int i,u=>∃t,u=Value.int i t
 | .str x,u=>∃t,u=Value.str x t
 | .byt b,u=>∃t,u=Value.bytes b t
 | .flt b,u=>∃t,u=Value.float b t
 | .ref a,u=>u=Value.ref a
 | .ty n,u=>u=Value.type n
abbrev Vals:List V->List Value->Prop:=Paired RelV
theorem Vals.length(r:Vals xs us):xs.length=us.length:=w3e r
theorem Vals.get:∀{xs:List V} {us:List Value} {i:Nat} {x:V},Vals xs us->xs[i]? = some x->∃u,us[i]? = some u/\RelV x u
 | _,_,_,_,.nil,e=>by simp at e
 | _,_,0,_,.cons r _,e=>by simp at e;subst e;exact⟨_,rfl,r⟩
 | _,_,i+1,x,.cons _ t,e=>by obtain⟨u,h1,h2⟩:=Vals.get (i:=i) (x:=x) t (by simpa using e);exact⟨u,by simpa using h1,h2⟩
theorem Vals.set(r:RelV x u):∀{xs:List V} {us:List Value} (i:Nat),Vals xs us->Vals (xs.set i x) (us.set i u)
 | _,_,_,.nil=>.nil
 | _,_,0,.cons _ t=>.cons r t
 | _,_,i+1,.cons q t=>.cons q (Vals.set r i t)
theorem Vals.append:∀{xs ys:List V} {us ws:List Value},Vals xs us->Vals ys ws->Vals (xs++ys) (us++ws)
 | _,_,_,_,.nil,s=>s
 | _,_,_,_,.cons r t,s=>.cons r (Vals.append t s)
theorem Vals.take:∀{xs:List V} {us:List Value} (n:Nat),Vals xs us->Vals (xs.take n) (us.take n)
 | _,_,0,_=>.nil
 | _,_,_+1,.nil=>.nil
 | _,_,n+1,.cons r t=>.cons r (Vals.take n t)
theorem Vals.drop:∀{xs:List V} {us:List Value} (n:Nat),Vals xs us->Vals (xs.drop n) (us.drop n)
 | _,_,0,r=>r
 | _,_,_+1,.nil=>.nil
 | _,_,n+1,.cons _ t=>Vals.drop n t
def RelO:Option V->Option Value->Prop
 | some v,some u=>RelV v u
 | none,none=>True
 | _,_=>False
def KV{κ:Type}:List (κ×V)->List (κ×Value)->Prop:=Paired λ(p:κ×V) (q:κ×Value)=>p.1=q.1/\RelV p.2 q.2
def kV:Key->V
 | .inl i=>.int i
 | .inr x=>.str x
inductive HO where
 | lst (xs:List V)
 | tup (xs:List V)
 | dK (kvs:List (Key×V)) | dT (kvs:List (List Key×V))
 | set (S:Int->Bool) (n:Nat)
 | ins (C dx:Addr) (fs:List (Str×V))
 | own (x:Addr)
 | xd (fs:List (Str×V))
 | met (f x:Addr)
 | rng (lo hi:Int)
 | frz (o:Obj) (u:HO)
 | tbl (ps:Array Value)
 | ext (φ:Heap->Prop)
abbrev Hp:=Addr->Option HO
def upd(H:Hp)(a:Addr)(o:HO):Hp:=λb=>if b=a then some o else H b
theorem w6:upd H a o a=some o:=by unfold upd;rw[d4 rfl]
theorem j4(h:b≠a):upd H a o b=H b:=by unfold upd;rw[d5 h]
theorem y0M{H:Hp}{a b:Addr}{o u:HO}(h:H a=some o)(h':H b=some u)(d:o≠u):a≠b:=by
 intro e;subst e;rw[h]at h';exact d (F1 h')
theorem G0{H:Hp}{a b:Addr}{o:HO}(h:H a=some o)(h':H b=none):a≠b:=by
 intro e;subst e;rw[h]at h';cases h'
def R0(h:Heap)(a:Addr)(items:Array Value):Prop:=∃o,h.get? a=some o/\(o.cls=.type "tuple" /\ o.dict=none)/\∃n,o.data=.seq items n
theorem R0.tup{a items}(x:R0 h a items):IsTup h a items:=let ⟨o,ho,hc,r⟩:=x;⟨o,ho,hc.1,r⟩
theorem R0.lt{h:Heap}{a items}(x:R0 h a items):a<h.objs.size:=let ⟨_,ho,_⟩:=x;j8 ho
theorem R0.new(h:Heap)(items:Array Value):R0 (h.push {cls:=.type "tuple",data:=.seq items}) h.objs.size items:=⟨_,x9 _ rfl,⟨rfl,rfl⟩,_,rfl⟩
section
variable (P:Program) (w:World)
def r6(H:Hp)(h:Heap)(a:Addr):HO->Prop
 | .lst xs=>xs.length<=sizeLine/\∃(its:List Value) (n:Nat),Vals xs its/\h.get? a=some {cls:=.type "list",data:=.seq its.toArray n}
 | .tup xs=>xs.length<=sizeLine/\∃its:List Value,Vals xs its/\R0 h a its.toArray
 | .dK kvs=>kvs.length<=sizeLine/\(a==sysModules)=false/\∃vs,KV kvs vs/\h.DictOf (C7 P w) a vs
 | .dT kvs=>kvs.length<=sizeLine/\(a==sysModules)=false/\∃xs:List (List Key×Addr×Value),
   Paired (λ(p:List Key×V) (q:List Key×Addr×Value)=>p.1=q.1/\H q.2.1=some (.tup (p.1.map kV))/\RelV p.2 q.2.2) kvs xs /\
   ∃o es ep,h.get? a=some o/\o.ExactDict/\o.data=.dict es ep/\es.toList=xs.map (entryOfKey (tupleKind (C7 P w)))/\(xs.map (·.1)).Nodup
 | .set S n=>h.SetOf (intKind P w) a S n
 | .ins C dx fs=>H dx=some (.own a)/\fs.length<=1000/\dx≠a/\h.get? a=some (PySem.W.instObj C dx) /\
   ∃mA,h.Ns1 dx mA/\(∀f,RelO (fs.lookup f) (mA f))/\PySem.Within mA (fs.map (·.1))
 | .own _=>∃o,h.get? a=some o
 | .xd fs=>∃mA,h.Ns1 a mA/\∀f,RelO (fs.lookup f) (mA f)
 | .rng lo hi=>∃t u v,h.get? a=some {cls:=.type "range",data:=.fields #[.int lo t,.int hi u,.int 1 v]}
 | .frz o u=>h.get? a=some o/\r6 H h a u
 | .tbl ps=>h.get? a=some {cls:=.none,data:=.fields ps}
 | .met f x=>h.get? a=some (PySem.W.methodObj (.ref f) (.ref x))
 | .ext φ=>φ h/\(∃o,h.get? a=some o)/\∀h1 h2:Heap,φ h1->(∀o,h1.get? a=some o->h2.get? a=some o)->φ h2
def HOk(H:Hp)(h:Heap):Prop:=∀a o,H a=some o->r6 P w H h a o
end
section
variable {P:Program} {w:World} {H H':Hp} {h h':Heap} {a:Addr} {o:HO}
theorem r6.lt(x:r6 P w H h a o):a<h.objs.size:=by
 cases o with
 | lst xs=>obtain⟨_,_,_,_,e⟩:=x;exact j8 e
 | tup xs=>obtain⟨_,_,_,p⟩:=x;exact p.lt
 | dK kvs=>obtain⟨_,_,_,_,o,_,_,e,_⟩:=x;exact j8 e
 | dT kvs=>obtain⟨_,_,_,_,o,_,_,e,_⟩:=x;exact j8 e
 | set S n=>obtain⟨o,_,_,_,e,_⟩:=x;exact j8 e
 | ins C dx fs=>obtain⟨_,_,_,e,_⟩:=x;exact j8 e
 | own y=>obtain⟨_,e⟩:=x;exact j8 e
 | xd fs=>obtain⟨_,⟨_,_,_,e,_⟩,_⟩:=x;exact j8 e
 | rng lo hi=>obtain⟨_,_,_,e⟩:=x;exact j8 e
 | frz ob u=>obtain⟨e,_⟩:=x;exact j8 e
 | tbl ps=>exact j8 (show h.get? a=some _ from x)
 | met f y=>exact j8 (show h.get? a=some _ from x)
 | ext φ=>obtain⟨_,⟨_,e⟩,_⟩:=x;exact j8 e
theorem Paired.mapP:∀{l₁:List α} {l₂:List β},Paired F l₁ l₂->(∀a b,F a b->G a b)->Paired G l₁ l₂
 | _,_,.nil,_=>.nil
 | _,_,.cons r t,f=>.cons (f _ _ r) (Paired.mapP t f)
theorem r6.stay(x:r6 P w H h a o)(k:∀b u,(b=a\/H b=some (.own a))->h.get? b=some u->h'.get? b=some u)
  (ho:∀b,H b=some (.own a)->H' b=some (.own a)) (ht:∀b xs,H b=some (.tup xs)->H' b=some (.tup xs)):r6 P w H' h' a o:=by
 induction o with
 | lst xs=>obtain⟨z,its,n,r,e⟩:=x;exact⟨z,its,n,r,k _ _ (.inl rfl) e⟩
 | tup xs=>obtain⟨z,its,r,ob,e,c⟩:=x;exact⟨z,its,r,ob,k _ _ (.inl rfl) e,c⟩
 | dK kvs=>obtain⟨z,y,vs,r,ob,es,ep,e,c⟩:=x;exact⟨z,y,vs,r,ob,es,ep,k _ _ (.inl rfl) e,c⟩
 | dT kvs=>
  obtain⟨z,y,xs,r,ob,es,ep,e,c⟩:=x;exact⟨z,y,xs,Paired.mapP r λp q z=>⟨z.1,ht _ _ z.2.1,z.2.2⟩,ob,es,ep,k _ _ (.inl rfl) e,c⟩
 | set S n=>obtain⟨ob,es,ep,t,e,c⟩:=x;exact⟨ob,es,ep,t,k _ _ (.inl rfl) e,c⟩
 | ins C dx fs=>
  obtain⟨d,z,ne,e,mA,⟨od,es,ep,e2,c⟩,r⟩:=x;exact⟨ho _ d,z,ne,k _ _ (.inl rfl) e,mA,⟨od,es,ep,k _ _ (.inr d) e2,c⟩,r⟩
 | own y=>obtain⟨ob,e⟩:=x;exact⟨ob,k _ _ (.inl rfl) e⟩
 | xd fs=>obtain⟨mA,⟨od,es,ep,e,c⟩,r⟩:=x;exact⟨mA,⟨od,es,ep,k _ _ (.inl rfl) e,c⟩,r⟩
 | rng lo hi=>obtain⟨t,u,v,e⟩:=x;exact⟨t,u,v,k _ _ (.inl rfl) e⟩
 | frz ob u ih=>obtain⟨e,q⟩:=x;exact⟨k _ _ (.inl rfl) e,ih q⟩
 | tbl ps=>
  have e:h.get? a=some {cls:=.none,data:=.fields ps}:=x;show h'.get? a=some {cls:=.none,data:=.fields ps};exact k a _ (.inl rfl) e
 | met f y=>
  have e:h.get? a=some (PySem.W.methodObj (.ref f) (.ref y)):=x;show h'.get? a=some (PySem.W.methodObj (.ref f) (.ref y));exact k a _ (.inl rfl) e
 | ext φ=>obtain⟨p,⟨o,e⟩,st⟩:=x;exact⟨st _ _ p λo q=>k _ _ (.inl rfl) q,⟨o,k _ _ (.inl rfl) e⟩,st⟩
theorem HOk.lt(x:HOk P w H h)(e:H a=some o):a<h.objs.size:=(x a o e).lt
theorem HOk.fresh(x:HOk P w H h)(e:h.objs.size<=a):H a=none:=by
 cases q:H a with
 | none=>rfl
 | some u=>exact absurd (x4 (x.lt q) e) (M5 _)
theorem HOk.kept(x:HOk P w H h)(k:∀b u,h.get? b=some u->h'.get? b=some u):HOk P w H h':=λa o e=>
 (x a o e).stay (λb u _ q=>k b u q) (λ_ q=>q) λ_ _ q=>q
theorem HOk.laid(x:HOk P w H h)(k:∀b u,h.get? b=some u->h'.get? b=some u)(hp:h.objs.size<=a)(new:r6 P w (upd H a o) h' a o):HOk P w (upd H a o) h':=λb u e=>by
 have hn:=x.fresh hp;by_cases hb:b=a
 ·subst hb;rw[w6]at e;cases e;exact new
 ·rw[j4 hb]at e;exact(x b u e).stay (λc v _ q=>k c v q) (λc q=>by rw[j4 (G0 q hn)];exact q) λc xs q=>by rw[j4 (G0 q hn)];exact q
end
def Rd(H:Hp)(a:Addr)(u:HO):Prop:=H a=some u\/∃o,H a=some (.frz o u)
theorem Rd.ok(r:Rd H a u)(x:HOk P w H h):r6 P w H h a u:=by
 rcases r with r | ⟨o,r⟩
 ·exact x a u r
 ·obtain⟨_,q⟩:=x a _ r;exact q
def Mut:Option HO->Prop
 | some (.lst _)=>True
 | some (.dK _)=>True
 | some (.dT _)=>True
 | some (.set _ _)=>True
 | some (.ins _ _ _)=>True
 | some (.ext _)=>True
 | _=>False
section
variable {P:Program} {w:World} {H:Hp} {h h':Heap} {x e:Addr} {o':HO}
theorem HOk.write(ok:HOk P w H h)(mu:Mut (H x))(he:e=x\/H e=some (.own x))(k:∀b u,b≠e->h.get? b=some u->h'.get? b=some u)(heo:∃u,h'.get? e=some u)
  (new:r6 P w (upd H x o') h' x o'):HOk P w (upd H x o') h':=λb u q=>by
 have nown:∀c y,H c=some (.own y)->c≠x:=λc y r z=>by subst z;rw[r]at mu;exact mu
 have ntup:∀c xs,H c=some (.tup xs)->c≠x:=λc xs r z=>by subst z;rw[r]at mu;exact mu
 by_cases hb:b=x
 ·subst hb;rw[w6]at q;cases q;exact new
 ·rw[j4 hb]at q;by_cases hbe:b=e
  ·have q':H b=some (.own x):=by
    rcases he with z | z
    ·exact absurd (hbe.trans z) hb
    ·rw[hbe];exact z
   rw[q]at q';cases q';obtain⟨v,hv⟩:=heo;exact⟨v,by rw[hbe];exact hv⟩
  ·refine(ok b u q).stay (λc v hc r=>k c v ?_ r) (λc r=>by rw[j4 (nown c b r)];exact r) λc xs r=>by rw[j4 (ntup c xs r)];exact r
   rcases hc with rfl | hc
   ·exact hbe
   ·rintro rfl
    rcases he with z | z
    ·exact nown c b hc z
    ·rw[hc]at z;cases z;exact hb rfl
end
structure Un(fs ex:List Addr)(H H':Hp)(h h':Heap):Prop where
 keep:∀b o,h.get? b=some o->H b=none->b∉fs->b∉ex->h'.get? b=some o
 slot:∀b o,h.get? b=some o->H b=none->b∈fs->b∉ex->∃sl,h'.get? b=some {o with slots:=sl}
 free:∀b o,h.get? b=some o->H b=none->b∉ex->H' b=none
 there:∀b o,h.get? b=some o->b∉ex->∃o',h'.get? b=some o'
 tups:∀b xs,H b=some (.tup xs)->H' b=some (.tup xs)
 frzs:∀b o u,H b=some (.frz o u)->H' b=some (.frz o u)
 tbls:∀b ps,H b=some (.tbl ps)->∃more,H' b=some (.tbl (ps++more))
section
variable {fs fs' ex ex':List Addr} {H H1 H2:Hp} {h h1 h2 h':Heap} {a x e:Addr} {o:HO}
theorem Un.any(u:Un fs ex H H1 h h1)(q:h.get? b=some ob)(n:H b=none)(hx:b∉ex):∃sl,h1.get? b=some {ob with slots:=sl}:=by
 by_cases hb:b∈fs
 ·exact u.slot b ob q n hb hx
 ·exact⟨ob.slots,u.keep b ob q n hb hx⟩
theorem Un.kept(k:∀b u,h.get? b=some u->h'.get? b=some u):Un fs ex H H h h':=
 ⟨λb ob q _ _ _=>k b ob q,λb ob q _ _ _=>⟨ob.slots,k b ob q⟩,λ_ _ _ n _=>n,λb ob q _=>⟨ob,k b ob q⟩,λ_ _ q=>q,λ_ _ _ q=>q,λ_ ps q=>⟨#[],by rw[q];simp⟩⟩
theorem Un.refl:Un fs ex H H h h:=Un.kept λ_ _ q=>q
theorem Un.laid(k:∀b u,h.get? b=some u->h'.get? b=some u)(hp:h.objs.size<=a)(hn:H a=none):Un fs ex H (upd H a o) h h' where
 keep:=λb u q _ _ _=>k b u q
 slot:=λb u q _ _ _=>⟨u.slots,k b u q⟩
 free:=λb u q n _=>by rw[j4 (B3 (x4 (j8 q) hp))];exact n
 there:=λb u q _=>⟨u,k b u q⟩
 tups:=λb xs q=>by rw[j4 (G0 q hn)];exact q
 frzs:=λb u xs q=>by rw[j4 (G0 q hn)];exact q
 tbls:=λb ps q=>⟨#[],by rw[j4 (G0 q hn),q];simp⟩
theorem Un.write(mu:Mut (H x))(he:e=x\/H e=some (.own x))(k:∀b u,b≠e->h.get? b=some u->h'.get? b=some u)(heo:∃u,h'.get? e=some u):Un fs ex H (upd H x o) h h':=by
 have hx:∀b,H b=none->b≠x:=λb n z=>by subst z;rw[n]at mu;exact mu
 have hb:∀b,H b=none->b≠e:=λb n z=>by
  subst z;rcases he with r | r
  ·exact hx b n r
  ·rw[n]at r;cases r
 have hm:∀b u,H b=some u->¬Mut (some u)->b≠x:=λb u q nm z=>by subst z;rw[q]at mu;exact nm mu
 refine⟨λb u q n _ _=>k b u (hb b n) q,λb u q n _ _=>⟨u.slots,k b u (hb b n) q⟩,λb u q n _=>by rw[j4 (hx b n)];exact n,λb u q _=>?_,
  λb xs q=>by rw[j4 (hm b _ q λz=>z)];exact q,λb u xs q=>by rw[j4 (hm b _ q λz=>z)];exact q,λb ps q=>⟨#[],by rw[j4 (hm b _ q λz=>z),q];simp⟩⟩
 by_cases hbe:b=e
 ·subst hbe;exact heo
 ·exact⟨u,k b u hbe q⟩
end
def trk(h:Heap)(H:Hp):List Addr:=(List.range h.objs.size).filter λa=>(H a).isSome
def hidT(h:Heap)(H:Hp):Heap:=PySem.W.hideAll h (trk h H)
theorem z0n(h:Heap)(H:Hp):(hidT h H).objs.size=h.objs.size:=PySem.W.hideAll_size _ _
theorem z1J(e:h.get? b=some o)(n:H b=none):(hidT h H).get? b=some o:=
 w2v _ e λhm=>by have q:(H b).isSome=true:=(M3.mp hm).2;rw[n]at q;simp at q
theorem z4V(e:(hidT h H).get? b=some o):h.get? b=some o/\H b=none:=by
 have e':h.get? b=some o:=PySem.W.of_hideAll (trk h H) e;refine⟨e',?_⟩;cases q:H b with
 | none=>rfl
 | some x=>
  have hm:b∈trk h H:=M3.mpr ⟨p0.mpr (j8 e'),by simp[q]⟩;have z:(hidT h H).get? b=none:=PySem.W.hideAll_none (trk h H) hm;rw[z]at e;cases e
def z6Z(g h:Heap)(L:Addr):List (Addr×Obj):=(List.range h.objs.size).filterMap λa=>if a=L\/(g.get? a).isSome=true then none else(h.get? a).map λo=>(a,o)
def rest(g h:Heap)(L d:Addr):List (Addr×Obj):=(z6Z g h L).filter λp=>decide (p.1≠d)
end
section
structure Mod(K:PySem.W.Frag)(mg:Str->Option Value)(base:Heap):Prop where
 kin:K.In base
 glob:base.Ns mainGlobals mg
 blt:∃mb,base.Ns builtinsNs mb/\∀x:Str,x ≠ "__name__" -> mb x=bootBuiltins x
 nolimit:base.NoLimit
structure Cx where
 prog:Program
 w:World
 K:PySem.W.Frag
 mg:Str->Option Value
 base:Heap
 A:Around
 N:List Str
 s₀:Shared
 H₀:Hp
 env:Env
 outer:List Env
 stack:List Env
 ex:List Addr
 fn:Str->Bool
 calm:Bool
 pn:List (Addr×Obj)
 xe:Value->Shared->Prop
def frs(l:List Env):List Addr:=l.filterMap (·.frame)
abbrev Cx.fs(X:Cx):List Addr:=frs X.outer
def Vis(sc:Scope)(x:Str):Prop:=sc.names.lookup x=some .local\/sc.names.lookup x=some .cell\/sc.names.lookup x=some .free
def Loc(sc:Scope)(x:Str):Prop:=sc.names.lookup x=some .local\/sc.names.lookup x=some .cell
def Look(env:Env)(h:Heap)(m:Str->Option Value)(x:Str)(u:Value):Prop:=
 (env.kindOf x=some .local/\m x=some u)\/((env.kindOf x=some .cell\/env.kindOf x=some .free)/\∃c,env.cells.lookup x=some c/\h.IsCell c (some u))
structure Cx.Ok(X:Cx):Prop where
 mod:Mod X.K X.mg X.base
 kind:X.env.scope.kind=.function
 glob:X.env.globals=mainGlobals
 blt:X.env.builtins=builtinsNs
 above:X.s₀.heap.objs.size<=X.env.locals
 inj:∀x y c,X.env.cells.lookup x=some c->X.env.cells.lookup y=some c->x=y
 has:∀x,(X.env.kindOf x=some .cell\/X.env.kindOf x=some .free)->∃c,X.env.cells.lookup x=some c
 cab:∀x c,X.fn x=true->X.env.cells.lookup x=some c->X.s₀.heap.objs.size<=c
 hd:X.calm=true->X.A.handled=none
 frames:X.A.frames=some X.stack
 stk:X.stack=X.outer\/(X.stack=X.env::X.outer/\X.env.frame=some X.env.locals)
 exf:∀b∈X.ex,b≠X.env.locals/\∀x c,X.env.cells.lookup x=some c->c≠b
 bs:∀b o,X.base.get? b=some o->X.s₀.heap.get? b=some o/\X.H₀ b=none
 bsz:X.base.objs.size<=X.s₀.heap.objs.size
 noex:∀b o,X.base.get? b=some o->b∉X.ex
 exfs:∀b∈X.ex,b∉X.fs
 funs:X.s₀.heap.FunFrames X.base X.outer
 frf:∀b∈X.fs,X.H₀ b=none
structure Inv(X:Cx)(pins:List (Addr×Obj))(σ:List (Option V))(H:Hp)(s:Shared):Prop where
 ok:X.Ok
 os:s.os=X.s₀.os
 bare:AllBare s.gens
 base:Un X.fs X.ex X.H₀ H X.s₀.heap s.heap
 loc:∃m,s.heap.Ns X.env.locals m/\∀(i:Nat) (x:Str) (v:V),X.N[i]? = some x->σ[i]? = some (some v)->Vis X.env.scope x->∃u,RelV v u/\Look X.env s.heap m x u
 cell:∀x c,X.env.cells.lookup x=some c->∃v,s.heap.IsCell c v
 free:H X.env.locals=none
 freeC:∀x c,X.env.cells.lookup x=some c->H c=none
 pin:∀p∈X.pn++pins,s.heap.get? p.1=some p.2/\H p.1=none/\p.1≠X.env.locals/\p.1∉X.fs/\∀v,p.2.data ≠ .cell v
 hok:HOk X.prog X.w H s.heap
 len:σ.length=X.N.length
section
variable {X:Cx} {pins:List (Addr×Obj)} {σ:List (Option V)} {H H':Hp} {s:Shared} {h':Heap}
theorem Cx.Ok.nofr(ok:X.Ok)(e:X.base.get? b=some o):b∉X.fs:=λhb=>by
 have:=(ok.funs.mem hb).1;rw[e]at this;cases this
theorem Inv.bs(I:Inv X pins σ H s):∀b o,X.base.get? b=some o->s.heap.get? b=some o/\H b=none:=λb o e=>
 ⟨I.base.keep b o (I.ok.bs b o e).1 (I.ok.bs b o e).2 (I.ok.nofr e) (I.ok.noex b o e),I.base.free b o (I.ok.bs b o e).1 (I.ok.bs b o e).2 (I.ok.noex b o e)⟩
theorem Inv.bk(I:Inv X pins σ H s):∀b o,X.base.get? b=some o->s.heap.get? b=some o:=λb o e=>(I.bs b o e).1
theorem Inv.mod(I:Inv X pins σ H s):Mod X.K X.mg X.base:=I.ok.mod
theorem Inv.kIn(I:Inv X pins σ H s):X.K.In s.heap:=I.ok.mod.kin.keeps I.bk
theorem Inv.lt(I:Inv X pins σ H s):X.env.locals<s.heap.objs.size:=let ⟨_,hn,_⟩:=I.loc;hn.lt
theorem Inv.sz(I:Inv X pins σ H s):X.s₀.heap.objs.size<=s.heap.objs.size:=m6 I.ok.above (w2O I.lt)
theorem Inv.nofs(I:Inv X pins σ H s){a:Addr}(h:s.heap.objs.size<=a):a∉X.fs:=λhb=>by
 obtain⟨_,o,ho,_⟩:=I.ok.funs.mem hb
 exact absurd (x4 (j8 ho) (m6 I.sz h)) (M5 _)
theorem Inv.cne(I:Inv X pins σ H s):∀x c,X.env.cells.lookup x=some c->c≠X.env.locals:=λx c e z=>by
 obtain⟨v,o,ho,hd⟩:=I.cell x c e;obtain⟨m,⟨o',es,ep,ho',hd',_⟩,_⟩:=I.loc;rw[z,ho']at ho;cases ho;rw[hd']at hd;cases hd
theorem Inv.funs(I:Inv X pins σ H s):s.heap.FunFrames X.base X.outer:=by
 have all:∀(l:List Env),(∀b∈frs l,b∈X.fs)->X.s₀.heap.FunFrames X.base l->s.heap.FunFrames X.base l:=by
  intro l
  induction l with
  | nil=>intro _ _;trivial
  | cons env r ih=>
   intro hs hl;obtain⟨hk,⟨L,o,hf,hn,ho,hd⟩,hr⟩:=hl;have hL:L∈X.fs:=hs L (by unfold frs;rw[w2w,hf];exact j5);obtain⟨sl,e⟩:=I.base.slot L o ho (I.ok.frf L hL) hL λz=>I.ok.exfs L z hL
   exact⟨hk,⟨L,_,hf,hn,e,hd⟩,ih (λb hb=>hs b (by unfold frs;rw[w2w,hf];exact i6 _ hb)) hr⟩
 exact all X.outer (λ_ hb=>hb) I.ok.funs
theorem Inv.stack(I:Inv X pins σ H s):s.heap.FunFrames X.base X.stack:=by
 rcases I.ok.stk with e | ⟨e,hf⟩
 ·rw[e];exact I.funs
 ·rw[e];obtain⟨m,hn,_⟩:=I.loc;refine .cons (by rw[I.ok.kind];decide) hf hn ?_ I.funs
  exact Z7 (m6 I.ok.bsz I.ok.above)
theorem Inv.stkSub(I:Inv X pins σ H s):∀b∈frs X.stack,b∈X.env.locals::X.fs:=λb hb=>by
 rcases I.ok.stk with e | ⟨e,hf⟩
 ·rw[e]at hb;exact i6 _ hb
 ·rw[e]at hb;unfold frs at hb;rw[w2w,hf]at hb;exact hb
theorem Inv.stkFree(I:Inv X pins σ H s):∀b∈frs X.stack,H b=none:=λb hb=>by
 rcases f9.mp (I.stkSub b hb)with e | hb
 ·rw[e];exact I.free
 ·obtain⟨_,o,ho,_⟩:=I.ok.funs.mem hb
  exact I.base.free b o ho (I.ok.frf b hb) λz=>I.ok.exfs b z hb
theorem Inv.step{g':Array GenState}{t':Nat}{d':Drawn}{ch:List Addr}(I:Inv X pins σ H s)
  (hch:∀b∈ch,(b∈X.ex\/X.s₀.heap.objs.size<=b)/\b≠X.env.locals/\(∀x c,X.env.cells.lookup x=some c->c≠b)/\∀p∈X.pn++pins,p.1≠b)
  (keep:∀b o,b≠X.env.locals->b∉X.fs->b∉ch->s.heap.get? b=some o->H b=none->h'.get? b=some o)
  (slot:∀b o,b≠X.env.locals->b∈X.fs->b∉ch->s.heap.get? b=some o->H b=none->∃sl,h'.get? b=some {o with slots:=sl}) (free:∀b o,b∉ch->s.heap.get? b=some o->H b=none->H' b=none)
  (there:∀b o,b∉ch->s.heap.get? b=some o->∃o',h'.get? b=some o')
  (tups:∀b xs,H b=some (.tup xs)->H' b=some (.tup xs)) (frzs:∀b o u,H b=some (.frz o u)->H' b=some (.frz o u)) (tbls:∀b ps,H b=some (.tbl ps)->∃more,H' b=some (.tbl (ps++more)))
  (ns:∀m,s.heap.Ns X.env.locals m->h'.Ns X.env.locals m) (hok:HOk X.prog X.w H' h') (hg:AllBare g') :
  Inv X pins σ H' {s with heap:=h',gens:=g',drawn:=d',toks:=t'}:=by
 have neL:∀b o,X.s₀.heap.get? b=some o->b≠X.env.locals:=λb o e=>B3 (x4 (j8 e) I.ok.above);have neC:∀b o,X.s₀.heap.get? b=some o->b∉X.ex->b∉ch:=λb o e hx hb=>by
  rcases(hch b hb).1 with z | z
  ·exact hx z
  ·exact absurd (x4 (j8 e) z) (M5 _)
 have cellK:∀x c,X.env.cells.lookup x=some c->∀v,s.heap.IsCell c v->h'.IsCell c v:=λx c e v ⟨o,ho,hd⟩=>by
  have nch:c∉ch:=λz=>(hch c z).2.2.1 x c e rfl;by_cases hc:c∈X.fs
  ·obtain⟨sl,q⟩:=slot c o (I.cne x c e) hc nch ho (I.freeC x c e);exact⟨_,q,hd⟩
  ·exact⟨o,keep c o (I.cne x c e) hc nch ho (I.freeC x c e),hd⟩
 refine⟨I.ok,I.os,hg,⟨λb o e n hb hx=>?_,λb o e n hb hx=>?_,λb o e n hx=>?_,λb o e hx=>?_,λb xs e=>tups b xs (I.base.tups b xs e),λb o xs e=>frzs b o xs (I.base.frzs b o xs e),λb ps e=>?_⟩,?_,λx c e=>?_,?_,λx c e=>?_,λp hp=>?_,hok,I.len⟩
 ·exact keep b o (neL b o e) hb (neC b o e hx) (I.base.keep b o e n hb hx) (I.base.free b o e n hx)
 ·obtain⟨sl,e1⟩:=I.base.slot b o e n hb hx;obtain⟨sl',e2⟩:=slot b _ (neL b o e) hb (neC b o e hx) e1 (I.base.free b o e n hx);exact⟨sl',e2⟩
 ·obtain⟨o',e1⟩:=I.base.there b o e hx;exact free b o' (neC b o e hx) e1 (I.base.free b o e n hx)
 ·obtain⟨o',e1⟩:=I.base.there b o e hx;exact there b o' (neC b o e hx) e1
 ·obtain⟨m1,e1⟩:=I.base.tbls b ps e;obtain⟨m2,e2⟩:=tbls b _ e1;exact⟨m1++m2,by rw[e2,Array.append_assoc]⟩
 ·obtain⟨m,hn,hl⟩:=I.loc;refine⟨m,ns m hn,λi x v e1 e2 e3=>?_⟩;obtain⟨u,r,l⟩:=hl i x v e1 e2 e3;refine⟨u,r,?_⟩;rcases l with l | ⟨k,c,e,z⟩
  ·exact .inl l
  ·exact .inr ⟨k,c,e,cellK x c e _ z⟩
 ·obtain⟨v,z⟩:=I.cell x c e;exact⟨v,cellK x c e v z⟩
 ·obtain⟨m,⟨o,_,_,ho,_⟩,_⟩:=I.loc;exact free _ o (λz=>(hch _ z).2.1 rfl) ho I.free
 ·obtain⟨v,o,ho,hd⟩:=I.cell x c e;exact free c o (λz=>(hch c z).2.2.1 x c e rfl) ho (I.freeC x c e)
 ·obtain⟨e,n,ne,nf,d⟩:=I.pin p hp;have nch:p.1∉ch:=λz=>(hch p.1 z).2.2.2 p hp rfl
  exact⟨keep p.1 p.2 ne nf nch e n,free p.1 p.2 nch e n,ne,nf,d⟩
theorem Inv.un(I:Inv X pins σ H s)(u:Un X.fs [] H H' s.heap h')(hok:HOk X.prog X.w H' h'):Inv X pins σ H' {s with heap:=h',toks:=t'}:=by
 obtain⟨m,⟨o,es,ep,ho,r⟩,_⟩:=id I.loc;obtain⟨sl,hL⟩:=u.any ho I.free (by simp);exact I.step (g':=s.gens) (d':=s.drawn) (ch:=[]) (λ_ z=>nomatch z) (λb o _ hb _ e n=>u.keep b o e n hb (by simp)) (λb o _ hb _ e n=>u.slot b o e n hb (by simp)) (λb o _ e n=>u.free b o e n (by simp)) (λb o _ e=>u.there b o e (by simp)) u.tups u.frzs u.tbls (λm' hm=>by
  obtain⟨o',es',ep',ho',r'⟩:=hm;rw[ho]at ho';cases ho';exact⟨_,es',ep',hL,r'⟩) hok I.bare
theorem Inv.call(I:Inv X pins σ H s)(u:Un (frs X.stack) ch H H' s.heap h')(hok:HOk X.prog X.w H' h')(hg:AllBare g')
  (hch:∀b∈ch,(b∈X.ex\/X.s₀.heap.objs.size<=b)/\b≠X.env.locals/\(∀x c,X.env.cells.lookup x=some c->c≠b)/\∀p∈X.pn++pins,p.1≠b) :
  Inv X pins σ H' {s with heap:=h',gens:=g',drawn:=d',toks:=t'}:=by
 obtain⟨m,⟨o,es,ep,ho,r⟩,_⟩:=id I.loc;obtain⟨sl,hL⟩:=u.any ho I.free λz=>(hch _ z).2.1 rfl
 exact I.step (ch:=ch) hch (λb o hL hb hc e n=>u.keep b o e n (λz=>(f9.mp (I.stkSub b z)).elim hL hb) hc) (λb o _ _ hc e n=>u.any e n hc) (λb o hc e n=>u.free b o e n hc) (λb o hc e=>u.there b o e hc) u.tups u.frzs u.tbls (λm' hm=>by
  obtain⟨o',es',ep',ho',r'⟩:=hm;rw[ho]at ho';cases ho';exact⟨_,es',ep',hL,r'⟩) hok hg
theorem Inv.turned(I:Inv X pins σ H s)(k:∀b o,b≠it->s.heap.get? b=some o->h'.get? b=some o)(hn:H it=none)(hL:it≠X.env.locals)
  (h1:it∈X.ex\/X.s₀.heap.objs.size<=it) (h2:∀x c,X.env.cells.lookup x=some c->c≠it) (h3:∀p∈X.pn++pins,p.1≠it):Inv X pins σ H {s with heap:=h',toks:=t'}:=by
 have nit:∀b u,H b=some u->b≠it:=λb u e z=>by rw[z,hn]at e;cases e
 refine I.step (g':=s.gens) (d':=s.drawn) (ch:=[it]) (λb hb=>?_) (λb o _ _ hc e _=>k b o (λz=>hc (by simp[z])) e) (λb o _ _ hc e _=>⟨o.slots,k b o (λz=>hc (by simp[z])) e⟩) (λ_ _ _ _ n=>n)
  (λb o hc e=>⟨o,k b o (λz=>hc (by simp[z])) e⟩) (λ_ _ e=>e) (λ_ _ _ e=>e) (λb ps e=>⟨#[],by rw[e];simp⟩) (λm hm=>?_) (λb u e=>?_) I.bare
 ·have e:b=it:=by simpa using hb
  subst e;exact⟨h1,hL,h2,h3⟩
 ·obtain⟨o,es,ep,ho,r⟩:=hm;exact⟨o,es,ep,k _ o (Ne.symm hL) ho,r⟩
 ·refine(I.hok b u e).stay (λc v hc q=>k c v ?_ q) (λ_ q=>q) λ_ _ q=>q;rcases hc with z | z
  ·rw[z];exact nit b u e
  ·exact nit c _ z
theorem Inv.tok(I:Inv X pins σ H s)(t:Nat):Inv X pins σ H {s with toks:=t}:=I.un (h':=s.heap) (t':=t) Un.refl I.hok
theorem Inv.kept(I:Inv X pins σ H s)(k:∀b u,s.heap.get? b=some u->h'.get? b=some u):Inv X pins σ H {s with heap:=h',toks:=t'}:=I.un (Un.kept k) (I.hok.kept k)
theorem Inv.laid{a:Addr}(I:Inv X pins σ H s)(k:∀b u,s.heap.get? b=some u->h'.get? b=some u)(hp:s.heap.objs.size<=a)(new:r6 X.prog X.w (upd H a o) h' a o) :
  Inv X pins σ (upd H a o) {s with heap:=h',toks:=t'}:=I.un (Un.laid k hp (I.hok.fresh hp)) (I.hok.laid k hp new)
theorem Inv.write(I:Inv X pins σ H s)(mu:Mut (H x))(he:e=x\/H e=some (.own x))(k:∀b u,b≠e->s.heap.get? b=some u->h'.get? b=some u)(heo:∃u,h'.get? e=some u)
  (new:r6 X.prog X.w (upd H x o) h' x o):Inv X pins σ (upd H x o) {s with heap:=h',toks:=t'}:=I.un (Un.write mu he k heo) (I.hok.write mu he k heo new)
theorem Inv.pins_of(I:Inv X pins σ H s)(h:∀p∈pins',s.heap.get? p.1=some p.2/\H p.1=none/\p.1≠X.env.locals/\p.1∉X.fs/\∀v,p.2.data ≠ .cell v):Inv X pins' σ H s:=
 ⟨I.ok,I.os,I.bare,I.base,I.loc,I.cell,I.free,I.freeC,λp hp=>(y0.mp hp).elim (λz=>I.pin p (u4 _ z)) (h p),I.hok,I.len⟩
theorem q4i{N:List Str}(hN:N.Nodup){i j:Nat}{x:Str}(a:N[i]? = some x)(b:N[j]? = some x):i=j:=by
 obtain⟨h1,e1⟩:=w9.mp a;obtain⟨h2,e2⟩:=w9.mp b;exact(List.getElem_inj hN).mp (e1.trans e2.symm)
theorem q6k(I:Inv X pins σ H s)(hN:X.N.Nodup)(hi:X.N[i]? = some x)(hx:Loc X.env.scope x)(r:RelV v u)
  (h:∀s',Inv X pins (σ.set i (some v)) H s'->(∃a,Heap.SameBut a s.heap s'.heap/\(a=X.env.locals\/X.env.cells.lookup x=some a))->Q () s') (hf:X.fn x=true\/X.env.scope.names.lookup x=some .local:=by first | exact .inl rfl | exact .inr rfl | assumption):wpAny M A (storeName X.env x u) Q E s:=by
 obtain⟨m,hn,hl⟩:=id I.loc;have hcls:(X.env.scope.kind == .class||(X.env.scope.kind == .module&&X.env.locals != X.env.globals))=false:=by rw[I.ok.kind];rfl
 have hiσ:i<σ.length:=by rw[I.len];exact(w9.mp hi).1
 have cne:=I.cne;have tracked:∀{a:Addr} {h':Heap},(∃o,s.heap.get? a=some o/\H a=none)->Heap.SameBut a s.heap h'->HOk X.prog X.w H h':=λ{a h'} ha hs b ob e=>by
  obtain⟨_,_,hfree⟩:=ha;refine(I.hok b ob e).stay (λc w' hc q=>(hs.2 c ?_).trans q) (λ_ q=>q) λ_ _ q=>q
  rintro rfl
  rcases hc with rfl | hc
  ·rw[hfree]at e;cases e
  ·rw[hfree]at hc;cases hc
 rcases hx with hk | hk
 ·refine wpAny_storeName_local hk hn (λh' hn' hs=>?_) hcls;obtain⟨oL,_,_,hoL,_⟩:=id hn;refine h _ ⟨I.ok,I.os,I.bare,⟨λb o e n hb hx=>?_,λb o e n hb hx=>?_,I.base.free,λb o e hx=>?_,I.base.tups,I.base.frzs,I.base.tbls⟩,⟨_,hn',λj y v' e1 e2 e3=>?_⟩,λy c e=>?_,I.free,I.freeC,λp hp=>?_,tracked ⟨oL,hoL,I.free⟩ hs,by simpa using I.len⟩ ⟨_,hs,.inl rfl⟩
  ·exact(hs.2 b (B3 (x4 (j8 e) I.ok.above))).trans (I.base.keep b o e n hb hx)
  ·obtain⟨sl,e1⟩:=I.base.slot b o e n hb hx;exact⟨sl,(hs.2 b (B3 (x4 (j8 e) I.ok.above))).trans e1⟩
  ·obtain⟨o',e1⟩:=I.base.there b o e hx;exact⟨o',(hs.2 b (B3 (x4 (j8 e) I.ok.above))).trans e1⟩
  ·by_cases hj:j=i
   ·subst hj;rw[hi]at e1;cases e1;rw[C8 hiσ]at e2;cases e2;exact⟨u,r,.inl ⟨hk,by simp⟩⟩
   ·rw[d6 (Ne.symm hj)]at e2;obtain⟨u',r',q⟩:=hl j y v' e1 e2 e3;refine⟨u',r',?_⟩;rcases q with⟨k,e⟩ | ⟨k,c,e,z⟩
    ·refine .inl ⟨k,?_⟩;have:y≠x:=λe=>hj (q4i hN e1 (e▸hi));simp[this,e]
    ·exact .inr ⟨k,c,e,z.sameBut hs (cne y c e)⟩
  ·obtain⟨w',z⟩:=I.cell y c e;exact⟨w',z.sameBut hs (cne y c e)⟩
  ·obtain⟨e,n,ne,nf,d⟩:=I.pin p hp;exact⟨(hs.2 p.1 ne).trans e,n,ne,nf,d⟩
 ·have hfn:X.fn x=true:=by
   rcases hf with z | z
   ·exact z
   ·rw[z]at hk;cases hk
  obtain⟨c,hc⟩:=I.ok.has x (.inl hk);obtain⟨w',z⟩:=I.cell x c hc;refine wpAny_storeName_cell I.ok.kind hk hc z (λh' hc' hs=>?_);obtain⟨oc,hoc,hocd⟩:=id z;refine h {s with heap:=h'} ⟨I.ok,I.os,I.bare,⟨λb o e n hb hx=>?_,λb o e n hb hx=>?_,I.base.free,λb o e hx=>?_,I.base.tups,I.base.frzs,I.base.tbls⟩,⟨m,hn.sameBut hs (Ne.symm (cne x c hc)),λj y v' e1 e2 e3=>?_⟩,λy c' e=>?_,I.free,I.freeC,λp hp=>?_,tracked ⟨oc,hoc,I.freeC x c hc⟩ hs,by simpa using I.len⟩ ⟨c,hs,.inr hc⟩
  ·exact(hs.2 b (B3 (x4 (j8 e) (I.ok.cab x c hfn hc)))).trans (I.base.keep b o e n hb hx)
  ·obtain⟨sl,e1⟩:=I.base.slot b o e n hb hx;exact⟨sl,(hs.2 b (B3 (x4 (j8 e) (I.ok.cab x c hfn hc)))).trans e1⟩
  ·obtain⟨o',e1⟩:=I.base.there b o e hx;exact⟨o',(hs.2 b (B3 (x4 (j8 e) (I.ok.cab x c hfn hc)))).trans e1⟩
  ·by_cases hj:j=i
   ·subst hj;rw[hi]at e1;cases e1;rw[C8 hiσ]at e2;cases e2;exact⟨u,r,.inr ⟨.inl hk,c,hc,hc'⟩⟩
   ·rw[d6 (Ne.symm hj)]at e2;obtain⟨u',r',q⟩:=hl j y v' e1 e2 e3;refine⟨u',r',?_⟩;rcases q with q | ⟨k,c',e,z'⟩
    ·exact .inl q
    ·refine .inr ⟨k,c',e,z'.sameBut hs ?_⟩
     rintro rfl
     exact hj (q4i hN e1 (I.ok.inj _ _ _ e hc▸hi))
  ·by_cases hcc:c'=c
   ·subst hcc;exact⟨_,hc'⟩
   ·obtain⟨w2,z2⟩:=I.cell y c' e;exact⟨w2,z2.sameBut hs hcc⟩
  ·obtain⟨e,n,ne,nf,d⟩:=I.pin p hp;refine⟨(hs.2 p.1 ?_).trans e,n,ne,nf,d⟩;intro q;rw[q,hoc]at e;have q':oc=p.2:=F1 e;exact d w' (by rw[←q'];exact hocd)
theorem q3v(I:Inv X pins σ H s)(hN:X.N.Nodup)(hi:X.N[i]? = some x)(hx:Loc X.env.scope x)(r:RelV v u)
  (h:∀s',Inv X pins (σ.set i (some v)) H s'->Q () s') (hf:X.fn x=true\/X.env.scope.names.lookup x=some .local:=by first | exact .inl rfl | exact .inr rfl | assumption):wpAny M A (storeName X.env x u) Q E s:=
 q6k I hN hi hx r (λs' I' _=>h s' I') hf
theorem Inv.call'(I:Inv X pins σ H s)(ho:s'.os=s.os)(u:Un (frs X.stack) ch H H' s.heap s'.heap)(hok:HOk X.prog X.w H' s'.heap)(hg:AllBare s'.gens)
  (hch:∀b∈ch,(b∈X.ex\/X.s₀.heap.objs.size<=b)/\b≠X.env.locals/\(∀x c,X.env.cells.lookup x=some c->c≠b)/\∀p∈X.pn++pins,p.1≠b):Inv X pins σ H' s':=by
 obtain⟨h',g',d',t',o'⟩:=s';have e:o'=s.os:=ho;subst e;exact I.call (g':=g') (t':=t') (d':=d') u hok hg hch
end
abbrev XK:=Value->Option Addr->Hp->Prop
abbrev St:=List (Option V)
abbrev VK:=V->Hp->Prop
abbrev TE:=St->Hp->VK->Prop
abbrev TT:=St->Hp->(Bool->Hp->Prop)->Prop
abbrev TA:=St->Hp->(List V->Hp->Prop)->Prop
structure Ends where
 nx:St->Hp->Prop
 rt:VK
 bk:St->Hp->Prop:=λ_ _=>False
 ct:St->Hp->Prop:=λ_ _=>False
abbrev TS:=Ends->St->Hp->Prop
def EP(X:Cx)(pins:List (Addr×Obj))(σ:St)(Q:VK)(u:Value)(s':Shared):Prop:=∃v H',Inv X pins σ H' s'/\RelV v u/\Q v H'
def TP(X:Cx)(pins:List (Addr×Obj))(σ:St)(Q:Bool->Hp->Prop)(b:Bool)(s':Shared):Prop:=∃H',Inv X pins σ H' s'/\Q b H'
def AP(X:Cx)(pins:List (Addr×Obj))(σ:St)(Q:List V->Hp->Prop)(us:List Value)(s':Shared):Prop:=∃vs H',Inv X pins σ H' s'/\Vals vs us/\Q vs H'
def SP(X:Cx)(pins:List (Addr×Obj))(D:Ends)(f:Flow)(s':Shared):Prop:=
 match f with
 | .next=>∃σ' H',Inv X pins σ' H' s'/\D.nx σ' H'
 | .brk=>∃σ' H',Inv X pins σ' H' s'/\D.bk σ' H'
 | .cont=>∃σ' H',Inv X pins σ' H' s'/\D.ct σ' H'
 | .ret u=>∃v σ' H',Inv X pins σ' H' s'/\RelV v u/\D.rt v H'
def PE(X:Cx)(e:Expr)(t:TE):Prop:=
 ∀(pins:List (Addr×Obj)) (s:Shared) (σ:St) (H:Hp) (Q:VK),Inv X pins σ H s->t σ H Q->wpAny (model X.prog X.w) X.A (eval e X.env) (EP X pins σ Q) X.xe s
def PT(X:Cx)(e:Expr)(t:TT):Prop:=
 ∀(pins:List (Addr×Obj)) (s:Shared) (σ:St) (H:Hp) (Q:Bool->Hp->Prop),Inv X pins σ H s->t σ H Q->wpAny (model X.prog X.w) X.A (isTrue e X.env (eval e X.env)) (TP X pins σ Q) X.xe s
def PW(X:Cx)(e:Expr)(t:TT):Prop:=
 ∀(whole:Sem Value) (pins:List (Addr×Obj)) (s:Shared) (σ:St) (H:Hp) (Q:Bool->Hp->Prop),Inv X pins σ H s->t σ H Q->wpAny (model X.prog X.w) X.A (isTrue e X.env whole) (TP X pins σ Q) X.xe s
theorem PW.pt(h:PW X e t):PT X e t:=h _
def PA(X:Cx)(es:List Expr)(t:TA):Prop:=
 ∀(pos:Pos) (pins:List (Addr×Obj)) (s:Shared) (σ:St) (H:Hp) (Q:List V->Hp->Prop),Inv X pins σ H s->t σ H Q->wpAny (model X.prog X.w) X.A (spliced (backTo pos (starEach es X.env))) (AP X pins σ Q) X.xe s
def PS(X:Cx)(st:Stmt)(t:TS):Prop:=
 ∀(pins:List (Addr×Obj)) (s:Shared) (σ:St) (H:Hp) (D:Ends),Inv X pins σ H s->t D σ H->wpAny (model X.prog X.w) X.A (exec st X.env) (SP X pins D) X.xe s
def PSs(X:Cx)(st:List Stmt)(t:TS):Prop:=
 ∀(pins:List (Addr×Obj)) (s:Shared) (σ:St) (H:Hp) (D:Ends),Inv X pins σ H s->t D σ H->wpAny (model X.prog X.w) X.A (execs st X.env) (SP X pins D) X.xe s
theorem thn{α:Type}{t:Sem α}{Q Q':α->Shared->Prop}{M:Model}{A:Around}{E:Value->Shared->Prop}{s:Shared}(h:wpAny M A t Q E s)(hQ:∀a s,Q a s->Q' a s):wpAny M A t Q' E s:=F8 h hQ λ_ _ x=>x
end
section
section
variable {X:Cx}
theorem bin{a b:Expr}{ta tb:TE}(ha:PE X a ta)(hb:PE X b tb){pins:List (Addr×Obj)}{s:Shared}{σ:St}{H:Hp}{R:V->V->Hp->Prop}(I:Inv X pins σ H s)(h:ta σ H λx H1=>tb σ H1 λy H2=>R x y H2)
  {α:Type} {Q:α->Shared->Prop} {f:Value->Value->Sem α}
  (hf:∀v u s2 x y H2,Inv X pins σ H2 s2->RelV x v->RelV y u->R x y H2->wpAny (model X.prog X.w) X.A (f v u) Q X.xe s2) :
  wpAny (model X.prog X.w) X.A (eval a X.env) (λv s₁=>wpAny (model X.prog X.w) X.A (eval b X.env) (λu s₂=>wpAny (model X.prog X.w) X.A (f v u) Q X.xe s₂) X.xe s₁) X.xe s:=by
 refine thn (ha pins s σ H _ I h) λv s1 ⟨x,H1,I1,r1,q1⟩=>?_;refine thn (hb pins s1 σ H1 _ I1 q1) λu s2 ⟨y,H2,I2,r2,q2⟩=>?_;exact hf v u s2 x y H2 I2 r1 r2 q2
def tVar(i:Nat):TE:=λσ H Q=>∃v,σ[i]? = some (some v)/\Q v H
def tC(v:V):TE:=λ_ H Q=>Q v H
theorem O7(hN:X.N[i]? = some x)(hv:Vis X.env.scope x)(hd:(x==("__debug__" : Str))=false:=by decide)(hcd:(x==("__classdict__" : Str))=false:=by decide):PE X (.Name x pos) (tVar i):=by
 intro pins s σ H Q I h;obtain⟨v,e,h⟩:=h;obtain⟨m,hn,hl⟩:=I.loc;obtain⟨u,r,l⟩:=hl i x v hN e hv;have fin:EP X pins σ Q u s:=⟨v,H,I,r,h⟩;rcases l with⟨hk,hm⟩ | ⟨hk,c,hc,hcell⟩
 ·exact wpAny_Name (wpAny_loadName_local I.ok.kind hk hn hm fin) hd
 ·rcases hk with hk | hk
  ·exact wpAny_Name (wpAny_loadName_cell I.ok.kind hk hc hcell fin) hd
  ·exact wpAny_Name (wpAny_loadName_free I.ok.kind hk hc hcell fin hcd) hd
theorem q7y{i j pos}:PE X (.Constant (.int i) j pos) (tC (.int i)):=λ_ _ _ H _ I h=>wpAny_Constant_int ⟨.int i,H,I.tok _,⟨_,rfl⟩,h⟩
theorem y1I{b j pos}:PE X (.Constant (.bool b) j pos) (tC (.bl b)):=λ_ _ _ H _ I h=>Constant_bool ⟨.bl b,H,I,rfl,h⟩
theorem z7Z{j pos}:PE X (.Constant .none j pos) (tC .non):=λ_ _ _ H _ I h=>Constant_none ⟨.non,H,I,rfl,h⟩
theorem z9F{x j pos}:PE X (.Constant (.str x) j pos) (tC (.str x)):=λ_ _ _ H _ I h=>Calls.Constant_str ⟨.str x,H,I.tok _,⟨_,rfl⟩,h⟩
def Gl(X:Cx)(x:Str):Prop:=X.env.kindOf x=some .globalImplicit
theorem q5T{σ:St}(I:Inv X pins σ H s)(hg:Gl X x)(hm:X.mg x=some u)(h:Q u s)
  (hd:(x==("__debug__" : Str))=false:=by decide):wpAny (model X.prog X.w) X.A (eval (.Name x pos) X.env) Q E s:=
 w3f I.ok.kind hg (Calls.loadGlobal_global (by rw[I.ok.glob];exact I.mod.glob.keeps I.bk) hm h) hd
theorem q5j{σ:St}(I:Inv X pins σ H s)(hg:Gl X x)(hm:X.mg x=none)(hv:bootBuiltins x=some u)(h:Q u s)
  (hn:x ≠ "__name__":=by decide) (hd:(x==("__debug__" : Str))=false:=by decide):wpAny (model X.prog X.w) X.A (eval (.Name x pos) X.env) Q E s:=by
 obtain⟨mb,h1,h2⟩:=I.mod.blt;exact w3f I.ok.kind hg (Calls.loadGlobal_builtin (by rw[I.ok.glob];exact I.mod.glob.keeps I.bk) hm (by rw[I.ok.blt];exact h1.keeps I.bk) ((h2 x hn).trans hv) h) hd
theorem z1w(hg:Gl X x)(hm:X.mg x=some u)(r:RelV v u)(hd:(x==("__debug__" : Str))=false:=by decide):PE X (.Name x pos) (tC v):=
 λ_ _ _ H _ I h=>q5T I hg hm ⟨v,H,I,r,h⟩ hd
theorem z0p(hg:Gl X x)(hm:X.mg x=none)(hv:bootBuiltins x=some u)(r:RelV v u)(hn:x ≠ "__name__":=by decide)(hd:(x==("__debug__" : Str))=false:=by decide):PE X (.Name x pos) (tC v):=
 λ_ _ _ H _ I h=>q5j I hg hm hv ⟨v,H,I,r,h⟩ hn hd
variable {a b:Expr} {ta tb:TE} {pos:Pos}
variable {tA tB':TT} {rest:List Expr}
def tAnd(t u:TT):TT:=λσ H Q=>t σ H λc H1=>if c=true then u σ H1 Q else Q false H1
def tOr(t u:TT):TT:=λσ H Q=>t σ H λc H1=>if c=true then Q true H1 else u σ H1 Q
def tNot(t:TT):TT:=λσ H Q=>t σ H λc H1=>Q (!c) H1
theorem z6K(ha:PT X a tA):PW X (.BoolOp .And [a] pos) tA:=by
 intro wh pins s σ H Q I h;refine isTrue_and (thn (ha pins s σ H Q I h) λc s1 e=>?_);cases c with
 | true=>exact isTrue_and_nil e
 | false=>exact e
theorem z8P(ha:PT X a tA):PW X (.BoolOp .Or [a] pos) tA:=by
 intro wh pins s σ H Q I h;refine isTrue_or (thn (ha pins s σ H Q I h) λc s1 e=>?_);cases c with
 | false=>exact isTrue_or_nil e
 | true=>exact e
theorem z0g(ha:PT X a tA)(hb:PW X (.BoolOp .And (b::rest) pos) tB'):PW X (.BoolOp .And (a::b::rest) pos) (tAnd tA tB'):=by
 intro wh pins s σ H Q I h;refine isTrue_and (thn (ha pins s σ H _ I h) λc s1 ⟨H1,I1,q1⟩=>?_);cases c with
 | true=>exact hb wh pins s1 σ H1 Q I1 q1
 | false=>exact⟨H1,I1,q1⟩
theorem z6l(ha:PT X a tA)(hb:PW X (.BoolOp .Or (b::rest) pos) tB'):PW X (.BoolOp .Or (a::b::rest) pos) (tOr tA tB'):=by
 intro wh pins s σ H Q I h;refine isTrue_or (thn (ha pins s σ H _ I h) λc s1 ⟨H1,I1,q1⟩=>?_);cases c with
 | true=>exact⟨H1,I1,q1⟩
 | false=>exact hb wh pins s1 σ H1 Q I1 q1
theorem z3F(ha:PT X a tA):PT X (.UnaryOp .Not a pos) (tNot tA):=by
 intro pins s σ H Q I h;exact isTrue_not (ha pins s σ H (λc H1=>Q (!c) H1) I h)
theorem z4k{op}(h:PE X a t):PE X (.BoolOp op [a] pos) t:=λpins s σ H Q I hw=>BoolOp_one (h pins s σ H Q I hw)
end
end
section
def SqL(K:PySem.W.Frag)(H:Hp)(a:Addr)(xs:List V):Prop:=
 Rd H a (.lst xs) \/
  ∃(o:Obj) (its:Array Value) (n:Nat),K.lookup a=some o/\o.cls=.type "list" /\ o.dict=none/\o.data=.seq its n/\its.size<=sizeLine/\Vals xs its.toList
def SqT(K:PySem.W.Frag)(H:Hp)(a:Addr)(xs:List V):Prop:=
 Rd H a (.tup xs) \/
  ∃(o:Obj) (its:Array Value) (n:Nat),K.lookup a=some o/\(o.cls=.type "tuple" /\ o.dict=none)/\o.data=.seq its n/\its.size<=sizeLine/\Vals xs its.toList
def absV:Value->Option V
 | .none=>some .non
 | .bool b=>some (.bl b)
 | .int i _=>some (.int i)
 | .str x _=>some (.str x)
 | .bytes b _=>some (.byt b)
 | .float b _=>some (.flt b)
 | .ref a=>some (.ref a)
 | .type n=>some (.ty n)
 | _=>none
theorem RelV.abs(r:RelV x u):absV u=some x:=by
 cases x with
 | non=>cases r;rfl
 | bl _=>cases r;rfl
 | int _=>obtain⟨t,rfl⟩:=r;rfl
 | str _=>obtain⟨t,rfl⟩:=r;rfl
 | byt _=>obtain⟨t,rfl⟩:=r;rfl
 | flt _=>obtain⟨t,rfl⟩:=r;rfl
 | ref _=>cases r;rfl
 | ty _=>cases r;rfl
theorem RelV.inj(r:RelV x u)(q:RelV y u):x=y:=F1 (r.abs.symm.trans q.abs)
theorem Vals.inj(h:Vals xs us):Vals ys us->xs=ys:=by
 induction h generalizing ys with
 | nil=>intro t;cases t;rfl
 | cons r _ ih=>intro t;cases t with | cons r' t'=>rw[r.inj r',ih t']
section
variable {X:Cx} {pins:List (Addr×Obj)} {σ:St} {H:Hp} {s:Shared} {a:Addr} {xs ys:List V}
theorem SqL.of{K:PySem.W.Frag}(h:H a=some (.lst xs)):SqL K H a xs:=.inl (.inl h)
theorem SqT.of{K:PySem.W.Frag}(h:H a=some (.tup xs)):SqT K H a xs:=.inl (.inl h)
theorem Inv.list(I:Inv X pins σ H s)(h:SqL X.K H a xs):∃its:List Value,Vals xs its/\PlainL s.heap a its.toArray/\xs.length<=sizeLine:=by
 rcases h with h | ⟨o,its,n,hk,hc,hd,hs,hz,r⟩
 ·obtain⟨z,its,n,r,e⟩:=h.ok I.hok;exact⟨its,r,⟨_,n,e,rfl,rfl,rfl⟩,z⟩
 ·refine⟨its.toList,r,⟨o,n,I.kIn a o hk,hc,hd,by simpa using hs⟩,?_⟩;have e:=r.length;simp only[K1]at e;omega
theorem Inv.tuple(I:Inv X pins σ H s)(h:SqT X.K H a xs):∃its:List Value,Vals xs its/\IsTup s.heap a its.toArray/\xs.length<=sizeLine:=by
 rcases h with h | ⟨o,its,n,hk,hc,hs,hz,r⟩
 ·obtain⟨z,its,r,p⟩:=h.ok I.hok;exact⟨its,r,p.tup,z⟩
 ·refine⟨its.toList,r,⟨o,I.kIn a o hk,hc.1,n,by simpa using hs⟩,?_⟩;have e:=r.length;simp only[K1]at e;omega
theorem Inv.list_inj(I:Inv X pins σ H s)(h:SqL X.K H a xs)(h':SqL X.K H a ys):xs=ys:=by
 obtain⟨its,r,⟨o,n,e,_,_,d⟩,_⟩:=I.list h;obtain⟨its',r',⟨o',n',e',_,_,d'⟩,_⟩:=I.list h';rw[e]at e';cases e';rw[d]at d';injection d' with d1 _
 have:its=its':=by simpa using congrArg Array.toList d1
 subst this;exact r.inj r'
theorem Inv.tuple_inj(I:Inv X pins σ H s)(h:SqT X.K H a xs)(h':SqT X.K H a ys):xs=ys:=by
 obtain⟨its,r,⟨o,e,_,n,d⟩,_⟩:=I.tuple h;obtain⟨its',r',⟨o',e',_,n',d'⟩,_⟩:=I.tuple h';rw[e]at e';cases e';rw[d]at d';injection d' with d1 _
 have:its=its':=by simpa using congrArg Array.toList d1
 subst this;exact r.inj r'
end
section
variable {X:Cx} {pins:List (Addr×Obj)} {σ:St} {H:Hp} {s:Shared} {E:Value->Shared->Prop}
end
section
variable {X:Cx} {st:Stmt} {rest:List Stmt} {t u:TS} {e:Expr} {te:TE} {pos:Pos}
def y1A:TS:=λD σ H=>D.nx σ H
def tSeq(t u:TS):TS:=λD σ H=>t {D with nx:=u D} σ H
theorem z4G:PSs X [] y1A:=λ_ _ σ H _ I h=>w2x ⟨σ,H,I,h⟩
theorem q4d(h1:PS X st t)(h2:PSs X rest u):PSs X (st::rest) (tSeq t u):=by
 intro pins s σ H D I h;refine wpAny_execs_cons (thn (h1 pins s σ H {D with nx:=u D} I h) λf s1 q=>?_);cases f with
 | next=>
  obtain⟨σ',H',I',q⟩:=q;exact h2 pins s1 σ' H' D I' q
 | ret v=>exact q
 | brk=>exact q
 | cont=>exact q
theorem z4y(h1:PS X st t):PSs X [st] t:=by
 intro pins s σ H D I h;refine wpAny_execs_cons (thn (h1 pins s σ H D I h) λf s1 q=>?_);cases f with
 | next=>exact w2x q
 | ret v=>exact q
 | brk=>exact q
 | cont=>exact q
theorem Inv.quiet{σ:St}(I:Inv X pins σ H s):interactive X.env=false:=by simp[interactive,I.ok.kind]
def y1d(te:TE):TS:=λD σ H=>te σ H λ_ H1=>D.nx σ H1
theorem q4L(he:PE X e te)(hs:swapsWith e none pos.line X.env=pure false:=by rfl):PS X (.Expr e pos) (y1d te):=by
 intro pins s σ H D I h;exact wpAny_Expr_any (thn (he pins s σ H _ I h) λv s1 ⟨x,H1,I1,r1,q1⟩=>⟨σ,H1,I1,q1⟩) I.quiet hs
def tRet(te:TE):TS:=λD σ H=>te σ H D.rt
theorem q5r(he:PE X e te):PS X (.Return (some e) pos) (tRet te):=by
 intro pins s σ H D I h;exact wpAny_Return_some (thn (he pins s σ H _ I h) λv s1 ⟨x,H1,I1,r1,q1⟩=>⟨x,σ,H1,I1,r1,q1⟩)
def tIfS(c:TT)(t u:TS):TS:=λD σ H=>c σ H λb H1=>if b=true then t D σ H1 else u D σ H1
theorem z5W(hc:PT X c tc)(ha:PSs X a t)(hb:PSs X b u):PS X (.If c a b pos) (tIfS tc t u):=by
 intro pins s σ H D I h;refine wpAny_If (thn (hc pins s σ H _ I h) λd s1 ⟨H1,I1,q1⟩=>?_);cases d with
 | true=>exact ha pins s1 σ H1 D I1 q1
 | false=>exact hb pins s1 σ H1 D I1 q1
def z9f:TS:=λ_ _ _=>False
theorem X5:PSs X sts z9f:=λ_ _ _ _ _ _ h=>h.elim
end
abbrev TG:=V->St->Hp->(St->Hp->Prop)->Prop
abbrev TGs:=List V->St->Hp->(St->Hp->Prop)->Prop
def PG(X:Cx)(target:Expr)(t:TG):Prop:=
 ∀(pins:List (Addr×Obj)) (s:Shared) (σ:St) (H:Hp) (v:V) (u:Value) (Q:St->Hp->Prop),Inv X pins σ H s->RelV v u->t v σ H Q ->
  wpAny (model X.prog X.w) X.A (assign target X.env u) (λ_ s'=>∃σ' H',Inv X pins σ' H' s'/\Q σ' H') X.xe s
def PGs(X:Cx)(ts:List Expr)(t:TGs):Prop:=
 ∀(pins:List (Addr×Obj)) (s:Shared) (σ:St) (H:Hp) (vs:List V) (us:List Value) (Q:St->Hp->Prop),Inv X pins σ H s->Vals vs us->t vs σ H Q ->
  wpAny (model X.prog X.w) X.A (assignInOrder ((assignEach ts X.env).map (·.2)) us) (λ_ s'=>∃σ' H',Inv X pins σ' H' s'/\Q σ' H') X.xe s
abbrev TSet:=V->V->V->Hp->(Hp->Prop)->Prop
def PSet(X:Cx)(t:TSet):Prop:=
 ∀(pins:List (Addr×Obj)) (s:Shared) (σ:St) (H:Hp) (o i v:V) (ov iv u:Value) (Q:Hp->Prop),Inv X pins σ H s->RelV o ov->RelV i iv->RelV v u->t o i v H Q ->
  wpAny (model X.prog X.w) X.A (setItem ov iv u) (λ_ s'=>∃H',Inv X pins σ H' s'/\Q H') X.xe s
section
variable {X:Cx} {pos:Pos}
def q8J(i:Nat):TG:=λv σ H Q=>Q (σ.set i (some v)) H
theorem z0s(hN:X.N.Nodup)(hi:X.N[i]? = some x)(hx:Loc X.env.scope x)(hf:X.fn x=true\/X.env.scope.names.lookup x=some .local:=by first | exact .inl rfl | exact .inr rfl | assumption):PG X (.Name x pos) (q8J i):=by
 intro pins s σ H v u Q I r h;exact wpAny_assign_Name (q3v I hN hi hx r (λs' I'=>⟨_,H,I',h⟩) hf)
def gNil:TGs:=λvs σ H Q=>vs=[]/\Q σ H
def z8t(t:TG)(u:TGs):TGs:=λvs σ H Q=>∃v r,vs=v::r/\t v σ H λσ' H'=>u r σ' H' Q
theorem z4J:PGs X [] gNil:=by
 intro pins s σ H vs us Q I r h;obtain⟨e,h⟩:=h;subst e;cases r;exact assignInOrder_nil ⟨σ,H,I,h⟩
theorem z2T(h1:PG X e t)(h2:PGs X es u)
  (hs:(assignEach (e::es) X.env).map (·.2)=assign e X.env::(assignEach es X.env).map (·.2):=by rfl):PGs X (e::es) (z8t t u):=by
 intro pins s σ H vs us Q I r h;obtain⟨v,vr,e1,h⟩:=h;subst e1;cases r with
 | cons r rr=>
  rw[hs];refine w25 (thn (h1 pins s σ H _ _ _ I r h) λ_ s1 ⟨σ1,H1,I1,q1⟩=>?_);exact h2 pins s1 σ1 H1 _ _ Q I1 rr q1
def gTup(K:PySem.W.Frag)(n:Nat)(t:TGs):TG:=λv σ H Q=>∃a xs,v=.ref a/\SqT K H a xs/\xs.length=n/\t xs σ H Q
theorem z9m(hc:X.calm=true)(h:PGs X es t)
  (hn:(assignEach es X.env).length=n:=by rfl) (hst:(assignEach es X.env).findIdx? (·.1)=none:=by rfl):PG X (.Tuple es k pos) (gTup X.K n t):=by
 intro pins s σ H v u Q I r hw;obtain⟨a,xs,e1,hq,hl,hw⟩:=hw;subst e1;cases r;obtain⟨its,rv,ht,hz⟩:=I.tuple hq;refine assign_Tuple_tuple (I.ok.hd hc) ht (by simp[hn,←hl,rv.length]) hst λh' hx=>?_
 have I1:Inv X pins σ H {s with heap:=h'}:=I.kept (t':=s.toks) λb o e=>hx b o (B3 (j8 e)) e;exact h pins _ σ H xs _ Q I1 (by simpa using rv) hw
def gSub(to ti:TE)(t:TSet):TG:=λv σ H Q=>to σ H λo H1=>ti σ H1 λi H2=>t o i v H2 λH3=>Q σ H3
theorem z9d(ho:PE X o to)(hi:PE X i ti)(hs:PSet X t)
  (ha:∀v,assign (.Subscript o i pos) X.env v=(do
   let ov ←holding [v] (eval o X.env)
   let iv ←holding [v,ov] (eval i X.env)
   standAt pos
   holding [v,ov,iv] (setItem ov iv v)
   release [v,ov,iv] []):=by intro _;rfl):PG X (.Subscript o i pos) (gSub to ti t):=by
 intro pins s σ H v u Q I r h;rw[ha];refine b9 (W8 (thn (ho pins s σ H _ I h) λov s1 ⟨x,H1,I1,r1,q1⟩=>?_));refine b9 (W8 (thn (hi pins s1 σ H1 _ I1 q1) λiv s2 ⟨y,H2,I2,r2,q2⟩=>?_));refine b9 (w3g (b9 (W8 (thn (hs pins s2 σ H2 x y v ov iv u _ I2 r1 r2 r q2) λ_ s3 ⟨H3,I3,q3⟩=>?_))));exact wpAny_release ⟨σ,H3,I3,q3⟩
def tAsg(te:TE)(g:TG):TS:=λD σ H=>te σ H λx H1=>g x σ H1 D.nx
theorem z7U(he:PE X e te)(hg:PG X tg g)(hs:swapsWithSole [tg] e pos.line X.env=pure false:=by rfl)(hw:swappedStores [tg] e X.env=pure none:=by rfl)
  (h1:(assignEach [tg] X.env).map (·.2)=[assign tg X.env]:=by rfl):PS X (.Assign [tg] e pos) (tAsg te g):=by
 intro pins s σ H D I h;refine wpAny_Assign_stores (thn (he pins s σ H _ I h) λv s1 ⟨x,H1,I1,r1,q1⟩=>?_) hs hw;rw[h1];exact thn (hg pins s1 σ H1 x v _ I1 r1 q1) λ_ s2 q=>q
theorem q6a(hN:X.N.Nodup)(hi:X.N[i]? = some x)(hx:Loc X.env.scope x)(he:PE X e te)(hs:swapsWith e (some (.Name x pos')) pos.line X.env=pure false:=by rfl)(hf:X.fn x=true\/X.env.scope.names.lookup x=some .local:=by first | exact .inl rfl | exact .inr rfl | assumption) :
  PS X (.Assign [.Name x pos'] e pos) (tAsg te (q8J i)):=by
 intro pins s σ H D I h;refine wpAny_Assign_Name (thn (he pins s σ H _ I h) λv s1 ⟨y,H1,I1,r1,q1⟩=>?_) hs;exact q3v I1 hN hi hx r1 (λs2 I2=>⟨_,H1,I2,q1⟩) hf
def tPar(i j:Nat)(ta:TA):TS:=λD σ H=>ta σ H λvs H1=>∃v w,vs=[v,w]/\D.nx ((σ.set i (some v)).set j (some w)) H1
theorem y0a{kt k2 pt2}(hc:X.calm=true)(hN:X.N.Nodup)(hi:X.N[i]? = some x)(hj:X.N[j]? = some y)(hij:i≠j)
  (hx:X.env.scope.names.lookup x=some .local) (hy:X.env.scope.names.lookup y=some .local) (ha:PA X [a,b] ta)
  (hw:swappedStores [.Tuple [.Name x px,.Name y py] kt pt] (.Tuple [a,b] k2 pt2) X.env=pure (some [x,y]))
  (hs:swapsWithSole [.Tuple [.Name x px,.Name y py] kt pt] (.Tuple [a,b] k2 pt2) pos.line X.env=pure false:=by rfl) :
  PS X (.Assign [.Tuple [.Name x px,.Name y py] kt pt] (.Tuple [a,b] k2 pt2) pos) (tPar i j ta):=by
 intro pins s σ H D I h;rw[exec_Assign_arm];refine b9 (w3g ?_);rw[hs];refine b9 (i4 ?_);rw[d5 (by decide)];refine b9 (Tuple_ (thn (ha _ pins s σ H _ I h) λus s1 ⟨vs,H1,I1,r1,q1⟩=>?_));obtain⟨v,w,e1,q1⟩:=q1;subst e1;obtain⟨u1,u2,rfl,rv,rw'⟩:∃u1 u2,us=[u1,u2]/\RelV v u1/\RelV w u2:=by
  cases r1 with
  | cons p q=>
   cases q with
   | cons p' q'=>
    cases q';exact⟨_,_,rfl,p,p'⟩
 refine M2 ?_ (by show 2<=sizeLine;decide);have I2:Inv X pins σ H1 {s1 with heap:=s1.heap.push {cls:=.type "tuple",data:=.seq [u1,u2].toArray}}:=I1.kept (t':=s1.toks) λb o e=>m5 _ e;rw[hw];refine b9 (i4 ?_);show wpAny (model X.prog X.w) X.A (do rule "assign.swapped-stores";let items ←unpackItems (.ref s1.heap.objs.size) 2 none;assignInOrder [λv=>bindName X.env y v,λv=>bindName X.env x v] items.reverse;pure Flow.next) _ _ _;refine b9 (w3n (b9 (unpackItems_tuple (items:=#[u1,u2]) (I.ok.hd hc) (IsTup.new s1.heap _) λh' hx'=>?_)));have I3:=I2.kept (h':=h') (t':=s1.toks) λb o e=>hx' b o (B3 (j8 e)) e;show wpAny _ _ (assignInOrder [λv=>bindName X.env y v,λv=>bindName X.env x v] [u2,u1] >>= λ_=>pure Flow.next) _ _ _;refine b9 (w25 (wpAny_bindName (q3v I3 hN hj (.inl hy) rw' (λs2 I4=>?_) (.inr hy))));refine w25 (wpAny_bindName (q3v I4 hN hi (.inl hx) rv (λs3 I5=>assignInOrder_nil (i4 ?_)) (.inr hx)));rw[List.set_comm _ _ (Ne.symm hij)]at I5;exact⟨_,H1,I5,q1⟩
end
section
variable {X:Cx} {pos:Pos}
def z8n(c:TT)(tb:TS):TS:=λD σ H=>∃W:Nat->St->Hp->Prop,(∃m,W m σ H)/\∀m σ H,W m σ H ->
 c σ H λb H1=>if b=true then ∃N:St->Hp->Prop,(∀σ' H',N σ' H'->∃m',m'<m/\W m' σ' H')/\tb {D with nx:=N,ct:=N,bk:=D.nx} σ H1 else D.nx σ H1
theorem z2Q(hp:PassesOwn (model X.prog X.w) X.A X.env X.xe)(hc:PT X c tc)(hb:PSs X body tb):PS X (.While c body [] pos) (z8n tc tb):=by
 intro pins s σ H D I h;obtain⟨W,⟨m0,w0⟩,turn⟩:=h;refine wpAny_While (codeAny_whileLoop (λn s'=>∃σ' H',Inv X pins σ' H' s'/\W n σ' H') ?_ m0 ⟨σ,H,I,w0⟩)
 rintro n s1 ⟨σ1,H1,I1,w1⟩
 refine W6 hp (thn (hc pins s1 σ1 H1 _ I1 (turn n σ1 H1 w1)) λb s2 ⟨H2,I2,q2⟩=>?_);cases b with
 | true=>
  obtain⟨N,hN,q2⟩:=q2;rw[d4 rfl];refine W6 hp (thn (hb pins s2 σ1 H2 _ I2 q2) λf s3 q3=>?_);cases f with
  | next=>
   obtain⟨σ3,H3,I3,n3⟩:=q3;obtain⟨m',hm,w3⟩:=hN σ3 H3 n3;exact⟨m',hm,σ3,H3,I3,w3⟩
  | cont=>
   obtain⟨σ3,H3,I3,n3⟩:=q3;obtain⟨m',hm,w3⟩:=hN σ3 H3 n3;exact⟨m',hm,σ3,H3,I3,w3⟩
  | brk=>exact q3
  | ret v=>exact q3
 | false=>
  rw[d5 K2];exact w2x ⟨σ1,H2,I2,q2⟩
end
structure It where
 go:Nat->Hp->Prop
 yld:Nat->Hp->V->Hp->Prop
 stop:Nat->Hp->Prop
def FpOk(X:Cx)(pins:List (Addr×Obj))(H:Hp)(b:Addr):Prop:=
 H b=none/\b≠X.env.locals/\b∉X.fs/\(b∈X.ex\/X.s₀.heap.objs.size<=b)/\(∀x c,X.env.cells.lookup x=some c->c≠b)/\∀p∈X.pn++pins,p.1≠b
theorem Inv.fpOk{σ:St}{b:Addr}(I:Inv X pins σ H s)(hb:s.heap.objs.size<=b)(hn:H' b=none):FpOk X pins H' b:=by
 refine⟨hn,Q8 (x4 I.lt hb),I.nofs hb,.inr (m6 I.sz hb),λx c e z=>?_,λp hp z=>?_⟩
 ·obtain⟨v,q⟩:=I.cell x c e;exact absurd (x4 q.lt (by rw[z];exact hb)) (M5 _)
 ·exact absurd (x4 (j8 (I.pin p hp).1) (by rw[z];exact hb)) (M5 _)
structure Turn(P:Program)(w:World)(K:PySem.W.Frag)(tg:Expr)(J:It)(fp:List Addr)(it:Addr)(tn:Nat->Heap->Prop):Prop where
 mem:it∈fp
 obj:∀i h,tn i h->∀b∈fp,∃o,h.get? b=some o/\∀v,o.data ≠ .cell v
 keep:∀i h h',tn i h->(∀b∈fp,∀o,h.get? b=some o->h'.get? b=some o)->tn i h'
 item:∀(X:Cx),X.prog=P->X.w=w->X.K=K->X.calm=true->∀(i:Nat) (pins:List (Addr×Obj)) (s:Shared) (σ:St) (H:Hp) (E:Value->Shared->Prop),Inv X pins σ H s->(∀b∈fp,FpOk X pins H b)->tn i s.heap->J.go i H ->
  wpAny (model P w) X.A (pyNext (.ref it)) (λr s1=>∃u,r=some u /\
   wpAny (model P w) X.A (letOwnedTupleGo tg (.ref it) u) (λ_ s2=>∃x H',Inv X pins σ H' s2/\RelV x u/\J.yld i H x H'/\tn (i+1) s2.heap/\∀b∈fp,H' b=none) E s1) E s
 done:∀(X:Cx),X.prog=P->X.w=w->X.K=K->X.calm=true->∀(i:Nat) (pins:List (Addr×Obj)) (s:Shared) (σ:St) (H:Hp) (E:Value->Shared->Prop),Inv X pins σ H s->(∀b∈fp,FpOk X pins H b)->tn i s.heap->J.stop i H ->
  wpAny (model P w) X.A (pyNext (.ref it)) (λr s1=>r=none/\Inv X pins σ H s1) E s
 self:∀(A:Around) (i:Nat) (s:Shared) (Q:Value->Shared->Prop) (E:Value->Shared->Prop),tn i s.heap->Q (.ref it) s->wpAny (model P w) A (pyIter (.ref it)) Q E s
abbrev TI:=St->Hp->(It->Hp->Prop)->Prop
def PIE(X:Cx)(pins:List (Addr×Obj))(σ:St)(tg:Expr)(R:It->Hp->Prop)(itv:Value)(s2:Shared):Prop:=
 ∃(it:Addr) (fp:List Addr) (tn:Nat->Heap->Prop) (J:It) (H':Hp),itv=.ref it/\Inv X pins σ H' s2/\Turn X.prog X.w X.K tg J fp it tn/\tn 0 s2.heap/\(∀b∈fp,FpOk X pins H' b)/\R J H'
def PI(X:Cx)(tg iter:Expr)(wi:TI):Prop:=
 ∀(pins:List (Addr×Obj)) (s:Shared) (σ:St) (H:Hp) (R:It->Hp->Prop),Inv X pins σ H s->wi σ H R ->
  wpAny (model X.prog X.w) X.A (eval iter X.env) (λv s1=>wpAny (model X.prog X.w) X.A (pyIter v) (PIE X pins σ tg R) X.xe s1) X.xe s
theorem z6f(ho:s.heap.get? it=some o)(hc:o.cls=.type n)(hd:o.data=.fields vs)
    (hn : ["enumerate","zip","dict_itemiterator","dict_reverseitemiterator","odict_iterator","itertools.zip_longest","itertools.pairwise"].contains n=false) (hQ:Q () s):wpAny M A (letOwnedTupleGo tg (.ref it) u) Q E s:=by
  unfold letOwnedTupleGo;cases tg<;>first
    | exact i4 hQ
    | (cases u<;>first
        | exact i4 hQ
        | (refine b9 (wpAny_load ho ?_)
           rw[hc,hd];show wpAny M A (if(["enumerate","zip","dict_itemiterator","dict_reverseitemiterator","odict_iterator","itertools.zip_longest","itertools.pairwise"].contains n&&vs[0]? == some (rawInt _))=true then _ else _) Q E s;rw[d5 (by intro h;rw[hn,N4]at h;cases h)];exact i4 hQ))
def Itl(K:PySem.W.Frag)(a:Addr):It:=
 ⟨λi H=>∃xs x,SqL K H a xs/\xs[i]? = some x,λi H x H'=>H'=H/\∀xs,SqL K H a xs->xs[i]? = some x,λi H=>∃xs,SqL K H a xs/\xs.length<=i⟩
def Itt(K:PySem.W.Frag)(a:Addr):It:=
 ⟨λi H=>∃xs x,SqT K H a xs/\xs[i]? = some x,λi H x H'=>H'=H/\∀xs,SqT K H a xs->xs[i]? = some x,λi H=>∃xs,SqT K H a xs/\xs.length<=i⟩
def Itr(lo:Int)(n:Nat):It:=⟨λi _=>i<n,λi H x H'=>H'=H/\x=.int (lo+i),λi _=>n<=i⟩
theorem z0w{P:Program}{w:World}{K:PySem.W.Frag}{tg:Expr}(a it:Addr):Turn P w K tg (Itl K a) [it] it (λi h=>h.IsListIter it a i) where
 mem:=by simp
 obj:=λi h st b hb=>by
  have e:b=it:=by simpa using hb
  subst e;obtain⟨o,e,c,d⟩:=st;exact⟨o,e,λv z=>by rw[d]at z;cases z⟩
 keep:=λi h h' st k=>st.at λo e=>k it (by simp) o e
 item:=by
  intro X hP hw hK hc i pins s σ H E I hf st hg;subst hP hw hK;obtain⟨xs,x,hq,hx⟩:=hg;obtain⟨its,rv,p,hz⟩:=I.list hq;obtain⟨u,hu,ru⟩:=rv.get hx;obtain⟨f0,f1,f2,f3,f4,f5⟩:=hf it (by simp);refine wpAny_pyNext_list_item st p.isList (x:=u) (by simpa using hu) λh' st' sb=>?_
  have I1:Inv X pins σ H {s with heap:=h'}:=I.turned (t':=s.toks) (λb o hb e=>(sb.2 b hb).trans e) f0 f1 f3 f4 f5;obtain⟨o,e,c,d⟩:=id st';exact⟨u,rfl,z6f (s:={s with heap:=h'}) e c d (by decide) ⟨x,H,I1,ru,⟨rfl,λys hy=>by rw[I.list_inj hy hq];exact hx⟩,st',λb hb=>(hf b hb).1⟩⟩
 done:=by
  intro X hP hw hK hc i pins s σ H E I hf st hg;subst hP hw hK;obtain⟨xs,hq,hx⟩:=hg;obtain⟨its,rv,p,hz⟩:=I.list hq;obtain⟨f0,f1,f2,f3,f4,f5⟩:=hf it (by simp);have hl:=rv.length;exact wpAny_pyNext_list_end (I.ok.hd hc) st p.isList (by simp;omega) λh' eb=>⟨rfl,I.turned (t':=s.toks) (λb o hb e=>eb b o hb e) f0 f1 f3 f4 f5⟩
 self:=λ_ _ _ _ _ st h=>wpAny_pyIter_listiter st h
theorem q8H{P:Program}{w:World}{K:PySem.W.Frag}{tg:Expr}(a it:Addr):Turn P w K tg (Itt K a) [it] it (λi h=>h.IsTupleIter it a i) where
 mem:=by simp
 obj:=λi h st b hb=>by
  have e:b=it:=by simpa using hb
  subst e;obtain⟨o,e,c,d⟩:=st;exact⟨o,e,λv z=>by rw[d]at z;cases z⟩
 keep:=λi h h' st k=>st.at λo e=>k it (by simp) o e
 item:=by
  intro X hP hw hK hc i pins s σ H E I hf st hg;subst hP hw hK;obtain⟨xs,x,hq,hx⟩:=hg;obtain⟨its,rv,p,hz⟩:=I.tuple hq;obtain⟨u,hu,ru⟩:=rv.get hx;obtain⟨f0,f1,f2,f3,f4,f5⟩:=hf it (by simp);refine wpAny_pyNext_tuple_item st (show s.heap.IsTuple a its.toArray from p) (x:=u) (by simpa using hu) λh' st' sb=>?_
  have I1:Inv X pins σ H {s with heap:=h'}:=I.turned (t':=s.toks) (λb o hb e=>(sb.2 b hb).trans e) f0 f1 f3 f4 f5;obtain⟨o,e,c,d⟩:=id st';exact⟨u,rfl,z6f (s:={s with heap:=h'}) e c d (by decide) ⟨x,H,I1,ru,⟨rfl,λys hy=>by rw[I.tuple_inj hy hq];exact hx⟩,st',λb hb=>(hf b hb).1⟩⟩
 done:=by
  intro X hP hw hK hc i pins s σ H E I hf st hg;subst hP hw hK;obtain⟨xs,hq,hx⟩:=hg;obtain⟨its,rv,p,hz⟩:=I.tuple hq;obtain⟨f0,f1,f2,f3,f4,f5⟩:=hf it (by simp);have hl:=rv.length;exact wpAny_pyNext_tuple_end (I.ok.hd hc) st (show s.heap.IsTuple a its.toArray from p) (by simp;omega) λh' eb=>⟨rfl,I.turned (t':=s.toks) (λb o hb e=>eb b o hb e) f0 f1 f3 f4 f5⟩
 self:=λ_ _ _ _ _ st h=>wpAny_pyIter_tupleiter st h
theorem q9a{P:Program}{w:World}{K:PySem.W.Frag}{tg:Expr}(it:Addr)(lo:Int)(n:Nat):Turn P w K tg (Itr lo n) [it] it (λi h=>IsRangeIter h it (lo+(i:Nat)*1) ((n:Int) - (i:Nat)) 1) where
 mem:=by simp
 obj:=λi h st b hb=>by
  have e:b=it:=by simpa using hb
  subst e;exact⟨_,st,λv z=>by
   have z':Data.fields _=Data.cell v:=z;cases z'⟩
 keep:=λi h h' st k=>k it (by simp) _ st
 item:=by
  intro X hP hw hK hc i pins s σ H E I hf st hg;subst hP hw hK;obtain⟨f0,f1,f2,f3,f4,f5⟩:=hf it (by simp);have W:=Walks.range (prog:=X.prog) (w:=X.w) (I.ok.hd hc) it lo 1 n;refine W.item i s _ _ hg st λv h' tk hv st' kk=>?_
  obtain⟨t,rfl⟩:=hv;have I1:Inv X pins σ H {s with heap:=h',toks:=tk}:=I.turned (λb o hb e=>kk b o (by simpa using hb) e) f0 f1 f3 f4 f5;refine⟨_,rfl,z6f (s:={s with heap:=h',toks:=tk}) (n:="range_iterator") st' rfl rfl (by decide) ⟨.int (lo+i),H,I1,⟨t,?_⟩,⟨rfl,rfl⟩,st',λb hb=>(hf b hb).1⟩⟩;rw[Int.mul_one]
 done:=by
  intro X hP hw hK hc i pins s σ H E I hf st hg;subst hP hw hK;obtain⟨f0,f1,f2,f3,f4,f5⟩:=hf it (by simp);exact wpAny_pyNext_range_end (I.ok.hd hc) st (by have:n<=i:=hg;omega) λh' eb=>⟨rfl,I.turned (t':=s.toks) (λb o hb e=>eb b o hb e) f0 f1 f3 f4 f5⟩
 self:=λ_ _ _ _ _ st h=>wpAny_pyIter_rangeiter st h
end
section
section
variable {X:Cx} {tg:Expr}
def y1Q(K:PySem.W.Frag)(tl:TE):TI:=λσ H R=>tl σ H λx H1=>∃a,x=.ref a/\(∃xs,SqL K H1 a xs)/\R (Itl K a) H1
def iTup(K:PySem.W.Frag)(tl:TE):TI:=λσ H R=>tl σ H λx H1=>∃a,x=.ref a/\(∃xs,SqT K H1 a xs)/\R (Itt K a) H1
theorem q7b(hl:PE X l tl):PI X tg l (y1Q X.K tl):=by
 intro pins s σ H R I h;refine thn (hl pins s σ H _ I h) λv s1 ⟨x,H1,I1,r1,q1⟩=>?_
 obtain⟨a,e,⟨xs,hq⟩,q⟩:=q1;subst e;cases r1;obtain⟨its,rv,p,hz⟩:=I1.list hq;refine w1Z p.isList ?_;refine⟨s1.heap.objs.size,[s1.heap.objs.size],_,_,H1,rfl,I1.kept (t':=s1.toks) λb o e=>m5 _ e,z0w a _,⟨_,x9 _ rfl,rfl,rfl⟩,λb hb=>?_,q⟩;have e:b=s1.heap.objs.size:=by simpa using hb
 subst e;exact I1.fpOk (j2 _) (I1.hok.fresh (j2 _))
theorem z7E(hl:PE X l tl):PI X tg l (iTup X.K tl):=by
 intro pins s σ H R I h;refine thn (hl pins s σ H _ I h) λv s1 ⟨x,H1,I1,r1,q1⟩=>?_
 obtain⟨a,e,⟨xs,hq⟩,q⟩:=q1;subst e;cases r1;obtain⟨its,rv,p,hz⟩:=I1.tuple hq;refine Q2 (show s1.heap.IsTuple a its.toArray from p) ?_;refine⟨s1.heap.objs.size,[s1.heap.objs.size],_,_,H1,rfl,I1.kept (t':=s1.toks) λb o e=>m5 _ e,q8H a _,⟨_,x9 _ rfl,rfl,rfl⟩,λb hb=>?_,q⟩;have e:b=s1.heap.objs.size:=by simpa using hb
 subst e;exact I1.fpOk (j2 _) (I1.hok.fresh (j2 _))
theorem z2K{pins:List (Addr×Obj)}{σ:St}{H:Hp}{s:Shared}{R:It->Hp->Prop}{E:Value->Shared->Prop}{lo hi:Int}{t u v:Tok}{tk:Nat}(I:Inv X pins σ H s)(h1 : -(2^62)<=lo)(h2:lo<2^62)(h3 : -(2^62)<=hi)(h4:hi<2^62)
  (q:R (Itr lo (hi - lo).toNat) H):wpAny (model X.prog X.w) X.A (pyIter (.ref s.heap.objs.size)) (PIE X pins σ tg R) E {s with heap:=s.heap.push {cls:=.type "range",data:=.fields #[.int lo t,.int hi u,.int 1 v]},toks:=tk}:=by
 refine wpAny_pyIter_range (IsRange.new ..) (small_one h1 h2 h3 h4) ?_;have I1:Inv X pins σ H {s with heap:=s.heap.push {cls:=.type "range",data:=.fields #[.int lo t,.int hi u,.int 1 v]},toks:=tk}:=I.kept λb o e=>m5 _ e;refine⟨(s.heap.push {cls:=.type "range",data:=.fields #[.int lo t,.int hi u,.int 1 v]}).objs.size,[(s.heap.push {cls:=.type "range",data:=.fields #[.int lo t,.int hi u,.int 1 v]}).objs.size],_,_,H,rfl,
  I1.kept (t':=tk) λb o e=>m5 _ e,q9a _ lo (hi - lo).toNat,?_,λb hb=>?_,q⟩
 ·have e1:lo+((0:Nat):Int)*1=lo:=by simp
  have e2:(((hi - lo).toNat:Nat):Int) - ((0:Nat):Int)=Builtin.Range.rangeSize lo hi 1:=by rw[rangeSize_one];split<;>omega
  show IsRangeIter _ _ (lo+((0:Nat):Int)*1) ((((hi - lo).toNat:Nat):Int) - ((0:Nat):Int)) 1;rw[e1,e2];exact x9 _ rfl
 ·have e:b=(s.heap.push {cls:=.type "range",data:=.fields #[.int lo t,.int hi u,.int 1 v]}).objs.size:=by simpa using hb
  subst e;exact I1.fpOk (j2 _) (I1.hok.fresh (j2 _))
def y0s(ta:TA):TI:=λσ H R=>ta σ H λvs H1=>∃j:Int,vs=[.int j] /\ -(2^62)<=j/\j<2^62/\R (Itr 0 j.toNat) H1
theorem q9X(hg:Gl X "range")(hm:X.mg "range" = none)(ha:PA X [a] ta)(hs:starEach [a] X.env=[(false,eval a X.env)]:=by rfl):PI X tg (.Call (.Name "range" p) [a] [] pos) (y0s ta):=by
 intro pins s σ H R I h;refine Call_ (q5j I hg hm boot_range (w1T (thn (ha pos pins s σ H _ I h) λus s1 ⟨vs,H1,I1,r1,q1⟩=>?_) hs rfl));obtain⟨j,e,q1,q2,q⟩:=q1;subst e;cases r1 with
 | cons r rr=>
  cases rr;obtain⟨t,rfl⟩:=r;exact call_range_1 (z2K I1 (by omega) (by omega) q1 q2 (by simpa using q))
def tFor(wi:TI)(g:TG)(tb:TS):TS:=λD σ H=>wi σ H λJ H1=>∃W:Nat->Nat->St->Hp->Prop,(∃m,W 0 m σ H1)/\∀i m σ H,W i m σ H ->
 (J.stop i H/\D.nx σ H)\/(J.go i H/\∃N:St->Hp->Prop,(∀σ' H',N σ' H'->∃m',m'<m/\W (i+1) m' σ' H')/\∀x H',J.yld i H x H'->g x σ H' λσ2 H2=>tb {D with nx:=N,ct:=N,bk:=D.nx} σ2 H2)
def q6t(fp:List Addr)(h:Heap):List (Addr×Obj):=fp.filterMap λb=>(h.get? b).map λo=>(b,o)
theorem q2P(hb:b∈fp)(e:h.get? b=some o):(b,o)∈q6t fp h:=O1.mpr ⟨b,hb,by rw[e];rfl⟩
theorem z0L(hp:p∈q6t fp h):p.1∈fp/\h.get? p.1=some p.2:=by
 obtain⟨b,hb,e⟩:=O1.mp hp;cases q:h.get? b with
 | none=>rw[q]at e;cases e
 | some o=>
  rw[q]at e;have e':(b,o)=p:=F1 e;subst e';exact⟨hb,q⟩
theorem Inv.pinned{σ:St}(I:Inv X pins σ H s)(hf:∀b∈fp,FpOk X pins H b)(ho:∀b∈fp,∃o,s.heap.get? b=some o/\∀v,o.data ≠ .cell v):Inv X (pins++q6t fp s.heap) σ H s:=
 I.pins_of λp hp=>(y0.mp hp).elim (λz=>I.pin p (u7 _ z)) λz=>by obtain⟨hb,e⟩:=z0L z;obtain⟨f0,f1,f2,_⟩:=hf p.1 hb;obtain⟨o,e',d⟩:=ho p.1 hb;rw[e]at e';cases e';exact⟨e,f0,f1,f2,d⟩
theorem Inv.unpinned{σ:St}(I:Inv X (pins++pl) σ H s):Inv X pins σ H s:=I.pins_of λp hp=>I.pin p (u7 _ (u4 _ hp))
theorem z4p(hp:PassesOwn (model X.prog X.w) X.A X.env X.xe)(hc:X.calm=true)(hi:PI X tg iter wi)(hg:PG X tg g)(hb:PSs X body tb)
  (hs:∀x,foldedSetIterable iter X.env x=pure x:=by intro _;rfl):PS X (.For tg iter body [] pos) (tFor wi g tb):=by
 intro pins s σ H D I h;refine wpAny_For (thn (hi pins s σ H _ I h) λv s1 h1=>thn h1 λitv s2 h2=>?_) hs;obtain⟨it,fp,tn,J,H2,e,I2,T,st2,f2,W,⟨m0,w0⟩,turn⟩:=h2;subst e;have stat:∀{H':Hp},(∀b∈fp,H' b=none)->∀b∈fp,FpOk X pins H' b:=λhn b hb=>⟨hn b hb,(f2 b hb).2⟩
 refine codeAny_forLoop_any (λn s'=>∃i σ' H',Inv X pins σ' H' s'/\tn i s'.heap/\(∀b∈fp,H' b=none)/\W i n σ' H') ?_ m0 ⟨0,σ,H2,I2,st2,λb hb=>(f2 b hb).1,w0⟩
 rintro n s3 ⟨i,σ3,H3,I3,st3,fr3,w3⟩
 rcases turn i n σ3 H3 w3 with⟨stop,qn⟩ | ⟨go,N,hN,step⟩
 ·refine W6 hp (thn (T.done X rfl rfl rfl hc i pins s3 σ3 H3 X.xe I3 (stat fr3) st3 stop) λr s4 ⟨hr,I4⟩=>?_);subst hr;exact w2x ⟨σ3,H3,I4,qn⟩
 ·refine W6 hp (thn (T.item X rfl rfl rfl hc i pins s3 σ3 H3 X.xe I3 (stat fr3) st3 go) λr s4 ⟨u,hr,h4⟩=>?_);subst hr;refine W6 hp (thn h4 λ_ s5 ⟨x,H5,I5,r5,y5,st5,fr5⟩=>?_);have I5':=I5.pinned (stat fr5) (T.obj _ _ st5);refine W6 hp (thn (hg _ s5 σ3 H5 x u _ I5' r5 (step x H5 y5)) λ_ s6 ⟨σ6,H6,I6,q6⟩=>?_);refine W6 hp (thn (hb _ s6 σ6 H6 _ I6 q6) λf s7 q7=>?_);have again:∀{σ7:St} {H7:Hp},Inv X (pins++q6t fp s5.heap) σ7 H7 s7->N σ7 H7->∃m,m<n/\∃i σ' H',Inv X pins σ' H' s7/\tn i s7.heap/\(∀b∈fp,H' b=none)/\W i m σ' H':=λ{σ7 H7} I7 n7=>by
   obtain⟨m',hm,w7⟩:=hN σ7 H7 n7;refine⟨m',hm,i+1,σ7,H7,I7.unpinned,T.keep _ _ _ st5 λb hb o e=>(I7.pin (b,o) (u7 _ (u7 _ (q2P hb e)))).1,λb hb=>?_,w7⟩;obtain⟨o,e,d⟩:=T.obj _ _ st5 b hb;exact(I7.pin (b,o) (u7 _ (u7 _ (q2P hb e)))).2.1
  cases f with
  | next=>obtain⟨σ7,H7,I7,n7⟩:=q7;exact again I7 n7
  | cont=>obtain⟨σ7,H7,I7,n7⟩:=q7;exact again I7 n7
  | brk=>obtain⟨σ7,H7,I7,q7⟩:=q7;exact⟨σ7,H7,I7.unpinned,q7⟩
  | ret v=>obtain⟨x7,σ7,H7,I7,r7,q7⟩:=q7;exact⟨x7,σ7,H7,I7.unpinned,r7,q7⟩
end
end
section
abbrev R2:=V->V->Hp->VK->Prop
def OpR(X:Cx)(f:Value->Value->Sem Value)(r:R2):Prop:=
 ∀(pins:List (Addr×Obj)) (s:Shared) (σ:St) (H:Hp) (x y:V) (v u:Value) (Q:VK),Inv X pins σ H s->RelV x v->RelV y u->r x y H Q ->
  wpAny (model X.prog X.w) X.A (f v u) (EP X pins σ Q) X.xe s
def UnR(X:Cx)(f:Value->Sem Value)(r:V->Hp->VK->Prop):Prop:=
 ∀(pins:List (Addr×Obj)) (s:Shared) (σ:St) (H:Hp) (x:V) (v:Value) (Q:VK),Inv X pins σ H s->RelV x v->r x H Q ->
  wpAny (model X.prog X.w) X.A (f v) (EP X pins σ Q) X.xe s
def y6(X:Cx)(f:Value)(r:List V->Hp->VK->Prop):Prop:=
 ∀(pins:List (Addr×Obj)) (s:Shared) (σ:St) (H:Hp) (xs:List V) (us:List Value) (Q:VK),Inv X pins σ H s->Vals xs us->r xs H Q ->
  wpAny (model X.prog X.w) X.A (call f us) (EP X pins σ Q) X.xe s
def TruR(X:Cx)(r:V->Hp->(Bool->Hp->Prop)->Prop):Prop:=
 ∀(pins:List (Addr×Obj)) (s:Shared) (σ:St) (H:Hp) (x:V) (v:Value) (Q:Bool->Hp->Prop),Inv X pins σ H s->RelV x v->r x H Q ->
  wpAny (model X.prog X.w) X.A (truthy v) (TP X pins σ Q) X.xe s
def tOp(r:R2)(ta tb:TE):TE:=λσ H Q=>ta σ H λx H1=>tb σ H1 λy H2=>r x y H2 Q
def tUn(r:V->Hp->VK->Prop)(ta:TE):TE:=λσ H Q=>ta σ H λx H1=>r x H1 Q
def rI(C:Int->Int->Prop)(g:Int->Int->V):R2:=λx y H Q=>∃i j,x=.int i/\y=.int j/\C i j/\Q (g i j) H
def rI0(g:Int->Int->V):R2:=λx y H Q=>∃i j,x=.int i/\y=.int j/\Q (g i j) H
def rU(g:Int->V):V->Hp->VK->Prop:=λx H Q=>∃i,x=.int i/\Q (g i) H
section
variable {X:Cx} {a b c:Expr} {ta tb tc:TE} {pos:Pos}
theorem binT(ha:PE X a ta)(hb:PE X b tb){pins:List (Addr×Obj)}{s:Shared}{σ:St}{H:Hp}{R:V->V->Hp->Prop}(I:Inv X pins σ H s)
  (h:ta σ H λx H1=>tb σ H1 λy H2=>R x y H2) {Q:Value->Shared->Prop} {f:Value->Value->Sem Value}
  (hf:∀v u s2 x y H2,Inv X pins σ H2 s2->RelV x v->RelV y u->R x y H2->wpAny (model X.prog X.w) X.A (f v u) Q X.xe s2) :
  wpAny (model X.prog X.w) X.A (eval a X.env) (λv s₁=>wpAny (model X.prog X.w) X.A (eval b X.env) (λu s₂=>wpAny (model X.prog X.w) X.A (f v u) Q X.xe s₂) X.xe s₁) X.xe s:=by
 refine thn (ha pins s σ H _ I h) λv s1 ⟨x,H1,I1,r1,q1⟩=>?_;refine thn (hb pins s1 σ H1 _ I1 q1) λu s2 ⟨y,H2,I2,r2,q2⟩=>?_;exact hf v u s2 x y H2 I2 r1 r2 q2
theorem y0o(ho:OpR X (binaryOp op) r)(ha:PE X a ta)(hb:PE X b tb):PE X (.BinOp a op b pos) (tOp r ta tb):=by
 intro pins s σ H Q I h;exact wpAny_BinOp (binT ha hb I h λv u s2 x y H2 I2 rx ry q=>ho pins s2 σ H2 x y v u Q I2 rx ry q)
theorem y1y(ho:UnR X (unaryOp op) r)(ha:PE X a ta):PE X (.UnaryOp op a pos) (tUn r ta):=by
 intro pins s σ H Q I h;exact UnaryOp_ (thn (ha pins s σ H _ I h) λv s1 ⟨x,H1,I1,r1,q1⟩=>ho pins s1 σ H1 x v Q I1 r1 q1)
theorem opI{f:Value->Value->Sem Value}{C:Int->Int->Prop}{g:Int->Int->Int}
  (rule:∀(i j:Int) (t u:Tok) (s:Shared) (Q:Value->Shared->Prop) (E:Value->Shared->Prop),C i j->Q (.int (g i j) s.toks) {s with toks:=s.toks+1} -> wpAny (model X.prog X.w) X.A (f (.int i t) (.int j u)) Q E s) :
  OpR X f (rI C λi j=>.int (g i j)):=by
 intro pins s σ H x y v u Q I rx ry h;obtain⟨i,j,rfl,rfl,hc,q⟩:=h;obtain⟨t,rfl⟩:=rx;obtain⟨t',rfl⟩:=ry;exact rule i j t t' s _ _ hc ⟨.int (g i j),H,I.tok _,⟨_,rfl⟩,q⟩
theorem opI0{f:Value->Value->Sem Value}{g:Int->Int->Int}
  (rule:∀(i j:Int) (t u:Tok) (s:Shared) (Q:Value->Shared->Prop) (E:Value->Shared->Prop),Q (.int (g i j) s.toks) {s with toks:=s.toks+1} -> wpAny (model X.prog X.w) X.A (f (.int i t) (.int j u)) Q E s) :
  OpR X f (rI0 λi j=>.int (g i j)):=by
 intro pins s σ H x y v u Q I rx ry h;obtain⟨i,j,rfl,rfl,q⟩:=h;obtain⟨t,rfl⟩:=rx;obtain⟨t',rfl⟩:=ry;exact rule i j t t' s _ _ ⟨.int (g i j),H,I.tok _,⟨_,rfl⟩,q⟩
theorem opB0{f:Value->Value->Sem Value}{g:Int->Int->Bool}
  (rule:∀(i j:Int) (t u:Tok) (s:Shared) (Q:Value->Shared->Prop) (E:Value->Shared->Prop),Q (.bool (g i j)) s->wpAny (model X.prog X.w) X.A (f (.int i t) (.int j u)) Q E s) :
  OpR X f (rI0 λi j=>.bl (g i j)):=by
 intro pins s σ H x y v u Q I rx ry h;obtain⟨i,j,rfl,rfl,q⟩:=h;obtain⟨t,rfl⟩:=rx;obtain⟨t',rfl⟩:=ry;exact rule i j t t' s _ _ ⟨.bl (g i j),H,I,rfl,q⟩
def CPow(i j:Int):Prop:=0<=j/\j<=1000000/\i.natAbs<2^64
def CMul(i j:Int):Prop:=(-(2^64)<i/\i<2^64)\/(-(2^64)<j/\j<2^64)
theorem CMul.ok(h:CMul i j):IntMulOk i j:=by
 rcases h with⟨h1,h2⟩ | ⟨h1,h2⟩
 ·exact .of_left (intBits_le_64 h1 h2)
 ·exact .of_right (intBits_le_64 h1 h2)
theorem q8X(k:Nat):(0:Int)<=2^k:=by
 rw[two_pow_cast];exact K3 _
theorem z8Z:OpR X (binaryOp .Add) (rI0 λi j=>.int (i+j)):=opI0 λ_ _ _ _ _ _ _ q=>add_int q
theorem z9t:OpR X (binaryOp .Sub) (rI0 λi j=>.int (i - j)):=opI0 λ_ _ _ _ _ _ _ q=>sub_int q
theorem z9Y:OpR X (binaryOp .Mod) (rI (λ_ j=>0<j) λi j=>.int (i%j)):=opI λi j _ _ _ _ _ hc q=>by
 have h1:(0:Int)<j:=hc;exact mod_int' (by omega) (by rw[w2q i (by omega)];exact q)
theorem z4O:OpR X (binaryOp .Mod) (rI (λ_ j=>j≠0) λi j=>.int (i.fmod j)):=opI λ_ _ _ _ _ _ _ hc q=>mod_int' hc q
theorem z8Y:OpR X (binaryOp .LShift) (rI CPow λi j=>.int (i*2^j.toNat)):=opI λ_ _ _ _ _ _ _ hc q=>lshift_int_small hc.1 hc.2.1 hc.2.2 q
theorem z8o:OpR X (binaryOp .RShift) (rI (λ_ j=>0<=j) λi j=>.int (i/2^j.toNat)):=opI λi j _ _ _ _ _ hc q=>
 rshift_int hc (by rw[w3h i (q8X _)];exact q)
theorem z8h:OpR X (binaryOp .BitAnd) (rI0 λi j=>.int (Builtin.bitAnd i j)):=opI0 λ_ _ _ _ _ _ _ q=>and_int q
theorem y1G:OpR X (binaryOp .BitOr) (rI0 λi j=>.int (Builtin.bitOr i j)):=opI0 λ_ _ _ _ _ _ _ q=>or_int q
theorem unI{f:Value->Sem Value}{g:Int->Int}
  (rule:∀(i:Int) (t:Tok) (s:Shared) (Q:Value->Shared->Prop) (E:Value->Shared->Prop),Q (.int (g i) s.toks) {s with toks:=s.toks+1} -> wpAny (model X.prog X.w) X.A (f (.int i t)) Q E s) :
  UnR X f (rU λi=>.int (g i)):=by
 intro pins s σ H x v Q I rx h;obtain⟨i,rfl,q⟩:=h;obtain⟨t,rfl⟩:=rx;exact rule i t s _ _ ⟨.int (g i),H,I.tok _,⟨_,rfl⟩,q⟩
theorem z7M:UnR X (unaryOp .USub) (rU λi=>.int (-i)):=unI λ_ _ _ _ _ q=>neg_int q
end
section
variable {X:Cx} {a b c:Expr} {ta tb tc:TE} {pos:Pos}
theorem z9S{σ:St}(I:Inv X pins σ H s)(q:Q (.bl k) H)(e:k=k'):EP X pins σ Q (.bool k') s:=by
 subst e;exact⟨.bl k,H,I,rfl,q⟩
theorem y0n:OpR X (compareOp .Lt) (rI0 λi j=>.bl (decide (i<j))):=opB0 λ_ _ _ _ _ _ _ q=>lt_int q
theorem y0q:OpR X (compareOp .LtE) (rI0 λi j=>.bl (decide (i<=j))):=opB0 λ_ _ _ _ _ _ _ q=>le_int q
theorem y1S:OpR X (compareOp .Gt) (rI0 λi j=>.bl (decide (j<i))):=opB0 λ_ _ _ _ _ _ _ q=>gt_int q
theorem y0u:OpR X (compareOp .GtE) (rI0 λi j=>.bl (decide (j<=i))):=opB0 λ_ _ _ _ _ _ _ q=>ge_int q
theorem z8p:OpR X (compareOp .Is) (λx y H Q=>y=.non/\Q (.bl (decide (x=.non))) H):=by
 intro pins s σ H x y v u Q I rx ry h;obtain⟨rfl,q⟩:=h;cases ry;refine is_none_gen (z9S I q ?_);cases x<;>first
  | (cases rx;rfl)
  | (obtain⟨t,rfl⟩:=rx;rfl)
theorem OpR.or(h:OpR X f r)(h':OpR X f r'):OpR X f (λx y H Q=>r x y H Q\/r' x y H Q):=by
 intro pins s σ H x y v u Q I rx ry q;rcases q with q | q
 ·exact h pins s σ H x y v u Q I rx ry q
 ·exact h' pins s σ H x y v u Q I rx ry q
theorem y1U(b:Expr)(h:op ≠ .In:=by decide)(h2:op ≠ .NotIn:=by decide):behindInMarks op b=false:=by
 have e1:(op==CmpOp.In)=false:=by cases op<;>first | rfl | exact absurd rfl h
 have e2:(op==CmpOp.NotIn)=false:=by cases op<;>first | rfl | exact absurd rfl h2
 cases b<;>simp[behindInMarks,e1,e2]
theorem z4Z(ho:OpR X (compareOp op) r)(ha:PE X a ta)(hb:PE X b tb)(hm:behindInMarks op b=false):PE X (.Compare a [op] [b] pos) (tOp r ta tb):=by
 intro pins s σ H Q I h;exact wpAny_Compare1 (binT ha hb I h λv u s2 x y H2 I2 rx ry q=>ho pins s2 σ H2 x y v u Q I2 rx ry q) hm
def z9K(t:TE):TT:=λσ H Q=>t σ H λx H'=>∃k,x=.bl k/\Q k H'
theorem z5Z(ho:OpR X (compareOp op) r)(ha:PE X a ta)(hb:PE X b tb)(hm:behindInMarks op b=false):PT X (.Compare a [op] [b] pos) (z9K (tOp r ta tb)):=by
 intro pins s σ H Q I h;refine wpAny_isTrue_Compare1 (thn (ha pins s σ H _ I h) λv s1 ⟨x,H1,I1,r1,q1⟩=>thn (hb pins s1 σ H1 _ I1 q1) λu s2 ⟨y,H2,I2,r2,q2⟩=>
  thn (ho pins s2 σ H2 x y v u _ I2 r1 r2 q2) λc s3 ⟨z,H3,I3,r3,k,e,q3⟩=>?_) hm
 subst e;cases r3;exact w2i ⟨H3,I3,q3⟩
def z0Y(r r':R2)(ta tb tc:TE):TE:=λσ H Q=>ta σ H λx H1=>tb σ H1 λy H2=>r x y H2 λz H3=>∃k,z=.bl k /\
 (if k=true then tc σ H3 λw' H4=>r' y w' H4 Q else Q (.bl false) H3)
theorem z3q(ho:OpR X (compareOp op) r)(ho':OpR X (compareOp op') r')(ha:PE X a ta)(hb:PE X b tb)(hc:PE X c tc)
  (hm:lastMarks [op,op'] [b,c]=false:=by with_unfolding_all rfl):PE X (.Compare a [op,op'] [b,c] pos) (z0Y r r' ta tb tc):=by
 intro pins s σ H Q I h;refine Compare_chain (thn (ha pins s σ H _ I h) λv s1 ⟨x,H1,I1,r1,q1⟩=>chain_link (thn (hb pins s1 σ H1 _ I1 q1) λu s2 ⟨y,H2,I2,r2,q2⟩=>
  thn (ho pins s2 σ H2 x y v u _ I2 r1 r2 q2) λd s3 ⟨z,H3,I3,r3,k,e,q3⟩=>?_)) hm
 subst e;cases r3;refine w2i ?_;cases k with
 | false=>exact ite_ff ⟨.bl false,H3,I3,rfl,q3⟩
 | true=>exact ite_tt (chain_last (thn (hc pins s3 σ H3 _ I3 q3) λw' s4 ⟨z',H4,I4,r4,q4⟩=>ho' pins s4 σ H4 y z' u w' Q I4 r2 r4 q4))
theorem z2R(ho:OpR X (compareOp op) r)(ho':OpR X (compareOp op') r')(ha:PE X a ta)(hb:PE X b tb)(hc:PE X c tc)
  (hm:lastMarks [op,op'] [b,c]=false:=by with_unfolding_all rfl):PT X (.Compare a [op,op'] [b,c] pos) (z9K (z0Y r r' ta tb tc)):=by
 intro pins s σ H Q I h;refine isTrue_chain (thn (ha pins s σ H _ I h) λv s1 ⟨x,H1,I1,r1,q1⟩=>test_link (thn (hb pins s1 σ H1 _ I1 q1) λu s2 ⟨y,H2,I2,r2,q2⟩=>
  thn (ho pins s2 σ H2 x y v u _ I2 r1 r2 q2) λd s3 ⟨z,H3,I3,r3,k,e,q3⟩=>?_)) hm
 subst e;cases r3;refine w2i ?_;cases k with
 | false=>
  obtain⟨k',e',q'⟩:=q3;cases e';exact ite_ff ⟨H3,I3,q'⟩
 | true=>
  refine ite_tt (test_last (thn (hc pins s3 σ H3 _ I3 q3) λw' s4 ⟨z',H4,I4,r4,q4⟩=>thn (ho' pins s4 σ H4 y z' u w' _ I4 r2 r4 q4) λd' s5 ⟨z2,H5,I5,r5,k2,e2,q5⟩=>?_));subst e2;cases r5;exact w2i ⟨H5,I5,q5⟩
def TruV(K:PySem.W.Frag)(x:V)(H:Hp)(k:Bool):Prop:=
 match x with
 | .non=>k=false
 | .bl b=>k=b
 | .int i=>k=(i != 0)
 | .str y=>y.length<=sizeLine/\k=((y.length:Int) != 0)
 | .byt y=>y.size<=sizeLine/\k=((y.size:Int) != 0)
 | .ref p=>(∃xs,SqL K H p xs/\k = !xs.isEmpty)\/(∃xs,SqT K H p xs/\k = !xs.isEmpty)\/∃kvs,H p=some (.dK kvs)/\k = !kvs.isEmpty
 | _=>False
theorem q8W(r:KV kvs vs):(!vs.isEmpty) = !kvs.isEmpty:=by
 cases r<;>rfl
theorem q5t(r:Vals xs its):(!its.toArray.isEmpty) = !xs.isEmpty:=by
 cases r<;>simp
theorem X6:(sizeLine:Nat)<2^63:=by rw[sizeLine_eq];decide
theorem q7X:TruR X (λx H Q=>∃k,TruV X.K x H k/\Q k H):=by
 intro pins s σ H x v Q I rx h;obtain⟨k,e,q⟩:=h;have hl:=X6;have hs:sizeLine=16777216:=sizeLine_eq;cases x with
 | non=>
  cases rx;have e':k=false:=e;subst e';exact truthy_none ⟨H,I,q⟩
 | bl b=>
  cases rx;have e':k=b:=e;subst e';exact w2i ⟨H,I,q⟩
 | int i=>
  obtain⟨t,rfl⟩:=rx;have e':k=(i != 0):=e;subst e';exact PySem.P.truthy_int ⟨H,I,q⟩
 | str y=>
  obtain⟨t,rfl⟩:=rx;obtain⟨hy,e'⟩:y.length<=sizeLine/\k=((y.length:Int) != 0):=e;subst e';exact PySem.P.truthy_str (by omega) ⟨H,I.tok _,q⟩
 | byt y=>
  obtain⟨t,rfl⟩:=rx;obtain⟨hy,e'⟩:y.size<=sizeLine/\k=((y.size:Int) != 0):=e;subst e';exact PySem.W.truthy_bytes (by omega) ⟨H,I.tok _,q⟩
 | ref p=>
  cases rx;have e':(∃xs,SqL X.K H p xs/\k = !xs.isEmpty)\/(∃xs,SqT X.K H p xs/\k = !xs.isEmpty)\/∃kvs,H p=some (.dK kvs)/\k = !kvs.isEmpty:=e;rcases e' with⟨xs,hx,e'⟩ | ⟨xs,hx,e'⟩ | ⟨kvs,hx,e'⟩
  ·subst e';obtain⟨its,r,pl,hz⟩:=I.list hx;have hlen:=r.length;exact wpAny_truthy_list pl.isList (by simp only[A7];omega) ⟨H,I.tok _,by rw[q5t r];exact q⟩
  ·subst e';obtain⟨its,r,pl,hz⟩:=I.tuple hx;have hlen:=r.length;exact truthy_tuple pl (by simp only[A7];omega) ⟨H,I.tok _,by rw[q5t r];exact q⟩
  ·subst e';obtain⟨hz,hS,vs,r,m⟩:kvs.length<=sizeLine/\(p==sysModules)=false/\∃vs,KV kvs vs/\s.heap.DictOf (C7 X.prog X.w) p vs:=I.hok p _ hx;have hlen:kvs.length=vs.length:=w3e r;exact wpAny_truthy_dict hS m (by omega) ⟨H,I.tok _,by rw[q8W r];exact q⟩
 | _=>exact(show False from e).elim
theorem q8j(ha:PE X a ta)(he:∀whole,isTrue a X.env whole=(do let v ←whole;standAt a.pos;holding [v] (truthy v))) :
  PT X a (λσ H Q=>ta σ H λx H'=>∃k,TruV X.K x H' k/\Q k H'):=by
 intro pins s σ H Q I h;exact isTrue_plain (thn (ha pins s σ H _ I h) λv s1 ⟨x,H1,I1,r1,q1⟩=>q7X pins s1 σ H1 x v Q I1 r1 q1) (he _)
theorem M6(r:Vals [x] us):∃u,us=[u]/\RelV x u:=by
 cases r with
 | cons r1 r2=>cases r2;exact⟨_,rfl,r1⟩
theorem z1C(r:Vals [x,y] us):∃u w',us=[u,w']/\RelV x u/\RelV y w':=by
 cases r with
 | cons r1 r2=>
  cases r2 with
  | cons r3 r4=>cases r4;exact⟨_,_,rfl,r1,r3⟩
theorem z3f:y6 X (.builtin "abs") (λxs H Q=>∃i,xs=[.int i]/\Q (.int (if i<0 then -i else i)) H):=by
 intro pins s σ H xs us Q I r h;obtain⟨i,rfl,q⟩:=h;obtain⟨u,rfl,t,rfl⟩:=M6 r;exact call_abs_int λu tk=>⟨.int (if i<0 then -i else i),H,I.tok _,⟨_,rfl⟩,q⟩
theorem z1v(hc:X.calm=true):y6 X (.builtin "max") (λxs H Q=>∃i j,xs=[.int i,.int j]/\Q (.int (if j>i then j else i)) H):=by
 intro pins s σ H xs us Q I r h;obtain⟨i,j,rfl,q⟩:=h;obtain⟨u,w',rfl,⟨t,rfl⟩,⟨t',rfl⟩⟩:=z1C r;refine max_two_ints (I.ok.hd hc) λh' tk k=>⟨_,H,I.kept k,?_,q⟩
 by_cases hj:j>i
 ·rw[d4 hj,d4 hj];exact⟨_,rfl⟩
 ·rw[d5 hj,d5 hj];exact⟨_,rfl⟩
theorem z0C(hc:X.calm=true):y6 X (.builtin "min") (λxs H Q=>∃i j,xs=[.int i,.int j]/\Q (.int (if j<i then j else i)) H):=by
 intro pins s σ H xs us Q I r h;obtain⟨i,j,rfl,q⟩:=h;obtain⟨u,w',rfl,⟨t,rfl⟩,⟨t',rfl⟩⟩:=z1C r;refine min_two_ints (I.ok.hd hc) λh' tk k=>⟨_,H,I.kept k,?_,q⟩
 by_cases hj:j<i
 ·rw[d4 hj,d4 hj];exact⟨_,rfl⟩
 ·rw[d5 hj,d5 hj];exact⟨_,rfl⟩
theorem q6y:y6 X (.type "int") (λxs H Q=>(∃i,xs=[.int i]/\Q (.int i) H)\/∃k,xs=[.bl k]/\Q (.int (if k then 1 else 0)) H):=by
 intro pins s σ H xs us Q I r h;rcases h with⟨i,rfl,q⟩ | ⟨k,rfl,q⟩
 ·obtain⟨u,rfl,t,rfl⟩:=M6 r;exact call_int_int ⟨.int i,H,I,⟨_,rfl⟩,q⟩
 ·obtain⟨u,rfl,r1⟩:=M6 r;cases r1;exact call_int_bool ⟨.int (if k then 1 else 0),H,I.tok _,⟨_,rfl⟩,q⟩
end
end
section
structure ObjM(h:Heap)(x dx C:Addr)(mA:Str->Option Value):Prop where
 obj:h.get? x=some (PySem.W.instObj C dx)
 ns:h.Ns1 dx mA
 ne:dx≠x
section
variable {prog:Program} {w:World} {A:Around} {E:Value->Shared->Prop} {s:Shared} {K:PySem.W.Frag} {x dx C f:Addr} {mA:Str->Option Value} {name:Str} {v:Value}
end
theorem RelO.some_of(r:RelO (some v) o):∃u,o=some u/\RelV v u:=by
 cases o with
 | none=>exact(show False from r).elim
 | some u=>exact⟨u,rfl,r⟩
section
variable {P:Program} {w:World} {H H':Hp} {h h':Heap} {a C dx:Addr} {fs fs':List (Str×V)}
end
structure Cls(K:PySem.W.Frag)(C:Addr):Prop where
 pg:PySem.W.plainGet K C Str.empty=true
 hd:PySem.W.hasDictIn K C=true
 po:PySem.W.plainOver K C=true
 sa:PySem.W.findIn K (.ref C) "__setattr__" = some (some (.builtin "object.__setattr__"))
structure Con(K:PySem.W.Frag)(C:Addr)(f:Str)(v:V)(u:Value):Prop where
 at_:PySem.W.findIn K (.ref C) f=some (some u)
 rel:RelV v u
 get:PySem.W.specialIn K u "__get__" = some none
 cp:PySem.W.copiedNames.contains f=false
structure Meth(K:PySem.W.Frag)(C:Addr)(m:Str)(f:Addr):Prop where
 at_:PySem.W.findIn K (.ref C) m=some (some (.ref f))
 fn:PySem.W.isFn K (.ref f)=true
 kp:PySem.W.keepIn K (.ref f)=true
section
variable {X:Cx} {pins:List (Addr×Obj)} {σ:St} {H:Hp} {s:Shared} {a C dx:Addr} {fs:List (Str×V)} {f:Str} {v:V} {A:Around} {E:Value->Shared->Prop}
end
section
variable {X:Cx} {o e value:Expr} {f:Str} {pos pos' tpos:Pos} {ta tv:TE}
end
section
variable {X:Cx} {pins:List (Addr×Obj)} {σ:St} {H:Hp} {s:Shared} {A:Around} {E:Value->Shared->Prop} {Q:Value->Shared->Prop} {c:Value} {b:Bool}
inductive TyOf (K:PySem.W.Frag) (H:Hp):V->Value->Prop where
 | non:TyOf K H .non (.type "NoneType")
 | bl (x:Bool):TyOf K H (.bl x) (.type "bool")
 | int (i:Int):TyOf K H (.int i) (.type "int")
 | str (x:Str):TyOf K H (.str x) (.type "str")
 | flt (x:UInt64):TyOf K H (.flt x) (.type "float")
 | lst {a:Addr} {xs:List V} (e:H a=some (.lst xs)):TyOf K H (.ref a) (.type "list")
 | frz {a:Addr} {o:Obj} {xs:List V} (e:H a=some (.frz o (.lst xs))):TyOf K H (.ref a) (.type "list")
 | tup {a:Addr} {xs:List V} (e:H a=some (.tup xs)):TyOf K H (.ref a) (.type "tuple")
 | dK {a:Addr} {kvs:List (Key×V)} (e:H a=some (.dK kvs)):TyOf K H (.ref a) (.type "dict")
 | dT {a:Addr} {kvs:List (List Key×V)} (e:H a=some (.dT kvs)):TyOf K H (.ref a) (.type "dict")
 | ins {a C dx:Addr} {fs:List (Str×V)} (e:H a=some (.ins C dx fs)) (cl:Cls K C) (ha:PySem.W.findIn K (.ref C) "__class__" = some (some (.builtin "object.__class__")))
   (hn:PySem.W.specialIn K (.builtin "object.__class__") "__get__" = some (some (.builtin "getset_descriptor.__get__"))) (htk:PySem.W.takesIn K (.builtin "object.__class__")=some true)
   (hm:PySem.W.mroIn K C (.type "object")=some true):TyOf K H (.ref a) (.ref C)
end
end
section
structure Room(k:Nat)(A:Around):Prop where
 hd:A.handled=none
 dp:A.depth+3*k+5<recursionLimit
 un:A.units+16*k+200<cLine
theorem Room.deeper(r:Room (k+1) A)(env:Env):Room k (A.deeper env):=
 ⟨r.hd,by have:=r.dp;show A.depth+1+3*k+5<_;omega,by have:=r.un;show A.units+3+16*k+200<_;omega⟩
theorem Room.depth(r:Room k A):A.depth<recursionLimit:=by have:=r.dp;omega
theorem Room.units(r:Room k A):A.units+64<cLine:=by have:=r.un;omega
def tNil:TA:=λ_ H Q=>Q [] H
def y0y(ta:TE)(tr:TA):TA:=λσ H Q=>ta σ H λx H1=>tr σ H1 λxs H2=>Q (x::xs) H2
section
variable {X:Cx} {e:Expr} {es:List Expr} {te:TE} {t:TA} {pos:Pos}
theorem O8:PA X [] tNil:=λ_ _ _ _ H Q I h=>Calls.spliced_nil ⟨[],H,I,.nil,h⟩
theorem G1(ha:PE X e te)(hr:PA X es t)(hs:starEach (e::es) X.env=(false,eval e X.env)::starEach es X.env:=by rfl):PA X (e::es) (y0y te t):=by
 intro pos pins s σ H Q I h;rw[hs];show wpAny _ _ (spliced ((false,eval e X.env)::backTo pos (starEach es X.env))) _ _ s;refine Calls.spliced_cons (thn (ha pins s σ H _ I h) λu s1 ⟨x,H1,I1,r1,q1⟩=>?_);exact thn (hr pos pins s1 σ H1 _ I1 q1) λus s2 ⟨xs,H2,I2,r2,q2⟩=>⟨x::xs,H2,I2,.cons r1 r2,q2⟩
def tTup(t:TA):TE:=λσ H Q=>t σ H λxs H1=>xs.length<=sizeLine/\∀p,H1 p=none->Q (.ref p) (upd H1 p (.tup xs))
def tLst(t:TA):TE:=λσ H Q=>t σ H λxs H1=>xs.length<=sizeLine/\∀p,H1 p=none->Q (.ref p) (upd H1 p (.lst xs))
theorem z3A{x1}(h:PA X es t):PE X (.Tuple es x1 pos) (tTup t):=by
 intro pins s σ H Q I hq;refine wpAny_Tuple_spliced (thn (h pos pins s σ H _ I hq) λus s1 ⟨xs,H1,I1,r,z,q⟩=>⟨by rw[←r.length];exact z,?_⟩);have hf:H1 s1.heap.objs.size=none:=I1.hok.fresh (j2 _);refine⟨.ref s1.heap.objs.size,upd H1 s1.heap.objs.size (.tup xs),I1.laid (t':=s1.toks) (λb u e=>m5 _ e) (j2 _) ?_,rfl,q _ hf⟩;exact⟨z,us,r,⟨_,x9 _ rfl,⟨rfl,rfl⟩,_,rfl⟩⟩
theorem z9g(h:PA X es t):PE X (.List es pos) (tLst t):=by
 intro pins s σ H Q I hq;refine wpAny_List_spliced (thn (h pos pins s σ H _ I hq) λus s1 ⟨xs,H1,I1,r,z,q⟩=>⟨by rw[←r.length];exact z,?_⟩);have hf:H1 s1.heap.objs.size=none:=I1.hok.fresh (j2 _);refine⟨.ref s1.heap.objs.size,upd H1 s1.heap.objs.size (.lst xs),I1.laid (t':=s1.toks) (λb u e=>m5 _ e) (j2 _) ?_,rfl,q _ hf⟩;exact⟨z,us,0,r,x9 _ rfl⟩
end
abbrev Sp:=List V->Hp->VK->XK->Prop
abbrev CXT:=List Env->Hp->Shared->XK->Value->Shared->Prop
structure Env0(P:Program)(w:World)(K:PySem.W.Frag)(mg:Str->Option Value)(base:Heap)(A:Around)(outer:List Env)(s:Shared)(H:Hp):Prop where
 frames:A.frames=some outer
 mod:Mod K mg base
 bs:∀b o,base.get? b=some o->s.heap.get? b=some o/\H b=none
 bsz:base.objs.size<=s.heap.objs.size
 funs:s.heap.FunFrames base outer
 frf:∀b∈frs outer,H b=none
 hok:HOk P w H s.heap
 bare:AllBare s.gens
def CE(outer:List Env)(P:Program)(w:World)(H:Hp)(s:Shared)(Q:VK)(u:Value)(s':Shared):Prop:=
 ∃v H',s'.os=s.os/\AllBare s'.gens/\Un (frs outer) [] H H' s.heap s'.heap/\HOk P w H' s'.heap/\RelV v u/\Q v H'
def CR(CX:CXT)(outer:List Env)(P:Program)(w:World)(H:Hp)(s:Shared)(Q:VK)(E:XK)(r:Result)(s':Shared):Prop:=
 match r with
 | .ok (.ret u)=>CE outer P w H s Q u s'
 | .ok _=>False
 | .error e=>CX outer H s E e s'
structure FnOk(P:Program)(w:World)(K:PySem.W.Frag)(mg:Str->Option Value)(base:Heap)(CX:CXT)(k:Nat)(f:Addr)(fd:FuncData)(ps:List Str)(sp:Sp):Prop where
 len:∀vs H Q E,sp vs H Q E->vs.length=ps.length
 run:∀(A:Around) (outer:List Env) (s:Shared) (H:Hp) (args:Args) (us:List Value) (vs:List V) (Q:VK) (E:XK),Room k A->Env0 P w K mg base A outer s H->BindsTo s fd args (ps.zip us)->Vals vs us->sp vs H Q E ->
  codeAny (model P w) A (.call (.ref f) args) (CR CX outer P w H s Q E) s
section
variable {X:Cx} {pins:List (Addr×Obj)} {σ:St} {H:Hp} {s s':Shared}
theorem Inv.env0(I:Inv X pins σ H s):Env0 X.prog X.w X.K X.mg X.base X.A X.stack s H:=
 ⟨I.ok.frames,I.ok.mod,I.bs,m6 I.ok.bsz I.sz,I.stack,I.stkFree,I.hok,I.bare⟩
theorem Inv.after(I:Inv X pins σ H s)(h:CE X.stack X.prog X.w H s Q u s'):EP X pins σ Q u s':=by
 obtain⟨v,H',os,bare,un,hok,r,q⟩:=h;obtain⟨hh,g,d,t,os'⟩:=s';obtain rfl:os'=s.os:=os;exact⟨v,H',I.call (h':=hh) (g':=g) (d':=d) (t':=t) (ch:=[]) un hok bare (λb z=>absurd z (by simp)),r,q⟩
end
def J2(K:PySem.W.Frag)(fd:FuncData)(ps:List Str)(ds:List Value):Prop:=
 ∀(s:Shared) (us:List Value),K.In s.heap->(us++ds).length=ps.length->BindsTo s fd ⟨us,[]⟩ (ps.zip (us++ds))
theorem J2.all{K:PySem.W.Frag}{fd:FuncData}{ps:List Str}(h:∀us:List Value,us.length=ps.length->bindArgs fd ⟨us,[]⟩=pure (ps.zip us)):J2 K fd ps []:=λs us _ hl=>by
 rw[M4]at hl ⊢;exact .of_eq (h us hl)
def z1i(CX:CXT)(X:Cx)(E:XK):Prop:=∀(pins:List (Addr×Obj)) (σ:St) (H:Hp) (s:Shared) (e:Value) (s':Shared),Inv X pins σ H s->CX X.stack H s E e s'->X.xe e s'
section
variable {X:Cx} {CX:CXT} {k:Nat} {f C:Addr} {fd:FuncData} {ps:List Str} {sp:Sp} {dvs:List V} {ds:List Value} {E:XK} {x m:Str} {p pos apos:Pos} {e o:Expr} {es:List Expr} {ta:TE} {t:TA}
structure Mk(K:PySem.W.Frag)(C f:Addr):Prop where
 makes:PySem.W.makesIn K C=true
 init:PySem.W.findIn K (.ref C) "__init__" = some (some (.ref f))
 fn:PySem.W.isFn K (.ref f)=true
 kp:PySem.W.keepIn K (.ref C)=true
end
section
variable {X:Cx} {CX:CXT} {k:Nat} {f C:Addr} {fd:FuncData} {ps ks:List Str} {sp:Sp} {E:XK} {x m:Str} {p pos apos kpos:Pos} {e o:Expr} {es:List Expr} {kws:List Keyword} {te ta:TE} {t tk:TA} {nm:Option Str}
structure KBinds(K:PySem.W.Frag)(fd:FuncData)(ps ks:List Str)(g:List Value->List Value->List Value)(gV:List V->List V->List V):Prop where
 to:∀(s:Shared) (us ws:List Value),K.In s.heap->(g us ws).length=ps.length->BindsTo s fd ⟨us,ks.zip ws⟩ (ps.zip (g us ws))
 rel:∀{vs:List V} {us:List Value} {zs:List V} {ws:List Value},Vals vs us->Vals zs ws->Vals (gV vs zs) (g us ws)
variable {g:List Value->List Value->List Value} {gV:List V->List V->List V}
end
structure FnScope(N P:List Str)(sc:Scope):Prop where
 kind:sc.kind=.function
 co:sc.isCoroutine=false
 gen:sc.isGenerator=false
 nd:N.Nodup
 pre:N.take P.length=P
 par:∀x∈P,sc.names.lookup x=some .local\/sc.names.lookup x=some .cell
 nofree:∀y∈sc.names,y.2 ≠ .free
theorem q6v{kindOf:Str->Option NameKind}{x:Str}:∀{binds:List (Str×Value)} {m:Str->Option Value},(∀v,(x,v)∉binds)->bindL kindOf binds m x=m x
 | [],_,_=>rfl
 | (n,v)::r,m,h=>by
  unfold bindL;rw[q6v λw hw=>h w (i6 _ hw)];split
  ·have:x≠n:=by rintro rfl;exact h v j5
   simp[this]
  ·rfl
theorem q6E{kindOf:Str->Option NameKind}{x:Str}:∀{binds:List (Str×Value)} {m:Str->Option Value},(∀v,(x,v)∉binds)->bindC kindOf binds m x=m x
 | [],_,_=>rfl
 | (n,v)::r,m,h=>by
  unfold bindC;rw[q6E λw hw=>h w (i6 _ hw)];split
  ·rfl
  ·have:x≠n:=by rintro rfl;exact h v j5
   simp[this]
theorem q6I{kindOf:Str->Option NameKind}{x:Str}{v:Value}:∀{P:List Str} {vs:List Value} {i:Nat} {m:Str->Option Value},P.Nodup->P[i]? = some x->vs[i]? = some v->kindOf x=some .local ->
  bindL kindOf (P.zip vs) m x=some v
 | [],_,_,_,_,h,_,_=>by simp at h
 | _::_,[],_,_,_,_,h,_=>by simp at h
 | p::P,w::vs,0,m,nd,h1,h2,hk=>by simp at h1 h2;subst h1;subst h2;show bindL kindOf ((p,w)::P.zip vs) m p=_;unfold bindL;rw[q6v λv hv=>(O4.mp nd).1 (w3K hv).1,d4 hk];simp
 | p::P,w::vs,i+1,m,nd,h1,h2,hk=>by show bindL kindOf ((p,w)::P.zip vs) m x=_;unfold bindL;exact q6I (i:=i) (O4.mp nd).2 (by simpa using h1) (by simpa using h2) hk
theorem q6j{kindOf:Str->Option NameKind}{x:Str}{v:Value}:∀{P:List Str} {vs:List Value} {i:Nat} {m:Str->Option Value},P.Nodup->P[i]? = some x->vs[i]? = some v->kindOf x≠some .local ->
  bindC kindOf (P.zip vs) m x=some v
 | [],_,_,_,_,h,_,_=>by simp at h
 | _::_,[],_,_,_,_,h,_=>by simp at h
 | p::P,w::vs,0,m,nd,h1,h2,hk=>by simp at h1 h2;subst h1;subst h2;show bindC kindOf ((p,w)::P.zip vs) m p=_;unfold bindC;rw[q6E λv hv=>(O4.mp nd).1 (w3K hv).1,d5 hk];simp
 | p::P,w::vs,i+1,m,nd,h1,h2,hk=>by show bindC kindOf ((p,w)::P.zip vs) m x=_;unfold bindC;exact q6j (i:=i) (O4.mp nd).2 (by simpa using h1) (by simpa using h2) hk
def start(N:List Str)(vs:List V):St:=vs.map some++List.replicate (N.length - vs.length) none
def cxOf(CX:CXT)(P:Program)(w:World)(K:PySem.W.Frag)(mg:Str->Option Value)(base:Heap)(N:List Str)(qual:Str)(scope:Scope)(f:Addr)(cd:Value)(A:Around)(outer:List Env)(s:Shared)(H:Hp)(E:XK):Cx where
 prog:=P
 w:=w
 K:=K
 mg:=mg
 base:=base
 A:=A.deeper (envOfC qual scope s.heap.objs.size f cd)
 N:=N
 s₀:=s
 H₀:=H
 env:=envOfC qual scope s.heap.objs.size f cd
 outer:=outer
 stack:=envOfC qual scope s.heap.objs.size f cd::outer
 ex:=[]
 calm:=true
 fn:=λ_=>true
 pn:=[]
 xe:=λe s'=>wpAny (model P w) (A.deeper (envOfC qual scope s.heap.objs.size f cd)) (leaving (envOfC qual scope s.heap.objs.size f cd) e) (λ_ s''=>CX outer H s E e s'') (λe' s''=>CX outer H s E e' s'') s'
theorem q7t{sc:Scope}{n:Nat}{x:Str}(h:sc.names.lookup x=some .cell):∃c,(cellsFrom n sc.names []).lookup x=some c:=by
 have q:=w2f sc.names n [] (.inl h);exact w2y.mp q
theorem q9u{CX:CXT}{P:Program}{w:World}{K:PySem.W.Frag}{mg:Str->Option Value}{base:Heap}{N ps:List Str}{qual:Str}{scope:Scope}{f:Addr}{cd:Value}{A:Around}{outer:List Env}{s s1:Shared}{H:Hp}{E:XK}{us:List Value}{vs:List V}
  (S:FnScope N ps scope) (hd:A.handled=none) (e0:Env0 P w K mg base A outer s H) (hl:vs.length=ps.length) (r:Vals vs us)
  (x:InCallC s s.heap.objs.size (bindL (envOfC qual scope s.heap.objs.size f cd).kindOf (ps.zip us) λ_=>none) (cellsFrom (s.heap.objs.size+1) scope.names []) (bindC (envOfC qual scope s.heap.objs.size f cd).kindOf (ps.zip us) λ_=>none) s1) :
  Inv (cxOf CX P w K mg base N qual scope f cd A outer s H E) [] (start N vs) H s1:=by
 have hpl:ps.length<=N.length:=by have:=congrArg List.length S.pre;rw[Q4]at this;omega
 obtain⟨h1,tk,rfl,hk⟩:=x.done;have noA:∀b:Addr,b∉(cxOf CX P w K mg base N qual scope f cd A outer s H E).ex:=λb z=>absurd (show b∈([]:List Addr)from z) (by simp)
 refine⟨⟨e0.mod,S.kind,rfl,rfl,j2 _,λy z c h1 h2=>?_,λy hy=>?_,λy c _ h=>?_,λ_=>hd,Around.frames_deeper e0.frames,.inr ⟨rfl,rfl⟩,λb z=>absurd z (noA b),e0.bs,e0.bsz,λb _ _=>noA b,λb z=>absurd z (noA b),e0.funs,e0.frf⟩,
  rfl,e0.bare,Un.kept hk,⟨_,x.toInCall.ns,λi y v h1 h2 h3=>?_⟩,λy c h=>⟨_,x.cell y c h⟩,e0.hok.fresh (j2 _),λy c h=>?_,λp hp=>absurd (show p∈([]:List (Addr×Obj))from hp) (by simp),e0.hok.kept hk,?_⟩
 ·exact name_of_addr x.apart (O0 h1) (O0 h2)
 ·have hy:scope.names.lookup y=some .cell\/scope.names.lookup y=some .free:=hy;rcases hy with hy | hy
  ·exact q7t hy
  ·exact absurd rfl (S.nofree _ (O0 hy))
 ·exact w2O (x.above y c (O0 h))
 ·have hi:i<vs.length:=by
   unfold start at h2;by_cases hi:i<vs.length
   ·exact hi
   ·rw[P7 (by simpa using hi)]at h2;rw[Z4]at h2;split at h2<;>cases h2
  have ha:vs[i]? = some v:=by
   unfold start at h2;rw[M1 (by simpa using hi),m9]at h2;cases e:vs[i]? with
   | none=>rw[e]at h2;cases h2
   | some a=>rw[e]at h2;cases h2;rfl
  obtain⟨u,hu,rv⟩:=r.get ha;have hp:ps[i]? = some y:=(by rw[←S.pre,List.getElem?_take_of_lt (by omega)];exact h1);have ndP:ps.Nodup:=by rw[←S.pre];exact S.nd.sublist (List.take_sublist _ _)
  refine⟨u,rv,?_⟩;rcases S.par y (P9 hp)with k | k
  ·exact .inl ⟨k,q6I ndP hp hu k⟩
  ·obtain⟨c,e⟩:=q7t (n:=s.heap.objs.size+1) k;refine .inr ⟨.inl k,c,e,?_⟩;have q:=x.cell y c e;rw[q6j ndP hp hu (by show scope.names.lookup y≠_;rw[k];decide)]at q;exact q
 ·exact e0.hok.fresh (w2O (x.above y c (O0 h)))
 ·unfold start;show _=N.length;rw[C5,d8,w2k];omega
theorem y1z{CX:CXT}{P:Program}{w:World}{K:PySem.W.Frag}{mg:Str->Option Value}{base:Heap}{k:Nat}{f:Addr}{name qual:Str}{params:Arguments}{body:List Stmt}{scope:Scope}{dV kV doc pm cdv ct oc:Value}{an od:Option Addr}
  {osl:Array (Option Value)} {N ps:List Str} {sp:Sp} (lk:K.lookup f=some ⟨oc,od,.func (PySem.W.fnOf name qual params body scope dV kV doc pm an cdv ct),osl⟩) (hcd:PySem.W.codeIn K cdv qual=true) (S:FnScope N ps scope)
  (len:∀vs H Q E,sp vs H Q E->vs.length=ps.length)
  (hbody:∀(A:Around) (outer:List Env) (s:Shared) (H:Hp) (vs:List V) (Q:VK) (E:XK),Room k (A.deeper (envOfC qual scope s.heap.objs.size f cdv))->sp vs H Q E ->
   ∃t,PSs (cxOf CX P w K mg base N qual scope f cdv A outer s H E) body t/\t {nx:=λ_ H'=>Q .non H',rt:=Q} (start N vs) H) :
  FnOk P w K mg base CX (k+1) f (PySem.W.fnOf name qual params body scope dV kV doc pm an cdv ct) ps sp:=by
 refine⟨len,λA outer s H args us vs Q E hr e0 hb r hsp=>?_⟩;have hl:=len _ _ _ _ hsp;have KX:K.In s.heap:=e0.mod.kin.keeps λb o e=>(e0.bs b o e).1;have lim:s.heap.NoLimit:=e0.mod.nolimit.keeps λb o e=>(e0.bs b o e).1;have hkind:∀y∈ps.zip us,scope.names.lookup y.1=some .local\/(scope.names.lookup y.1=some .cell/\((cellsFrom (s.heap.objs.size+1) scope.names []).lookup y.1).isSome=true):=λ⟨n,v⟩ hy=>by
  rcases S.par n (w3K hy).1 with q | q
  ·exact .inl q
  ·exact .inr ⟨q,w2f _ _ _ (.inl q)⟩
 refine codeAny_call_function hr.depth (KX _ _ lk) rfl S.co S.gen rfl (PySem.W.codeRec_of KX hcd) (hb _ _ _ _ ?_)
 refine wpAny_newFunctionEnv_cells S.kind hkind λenv he s1 x=>?_;subst he;refine⟨lim.keeps x.toInCall.keep,codeAny_func ?_⟩;obtain⟨t,ht,hq⟩:=hbody A outer s H vs Q E (hr.deeper _) hsp;have I:Inv (cxOf CX P w K mg base N qual scope f cdv A outer s H E) [] (start N vs) H s1:=q9u S hr.hd e0 hl r x;refine F8 (ht [] s1 (start N vs) H _ I hq) (λfl s' hs=>?_) λe s' hs=>hs;have fin:∀{σ':St} {H':Hp} {v:V} {u:Value},Inv (cxOf CX P w K mg base N qual scope f cdv A outer s H E) [] σ' H' s'->RelV v u->Q v H'->CE outer P w H s Q u s':=
  λ{σ' H' v u} J rv q=>⟨v,H',J.os,J.bare,J.base,J.hok,rv,q⟩
 cases fl with
 | ret u=>
  obtain⟨v,σ',H',J,rv,q⟩:=hs;exact fin J rv q
 | next=>
  obtain⟨σ',H',J,q⟩:=hs;exact fin (v:=V.non) (u:=Value.none) J rfl q
 | brk=>
  obtain⟨_,_,_,q⟩:=hs;exact False.elim q
 | cont=>
  obtain⟨_,_,_,q⟩:=hs;exact False.elim q
end
section
section
variable {X:Cx} {x:Str} {p pos:Pos} {e:Expr} {es:List Expr} {t:TA} {id T:String} {r:List V->Hp->VK->Prop}
def tCB(r:List V->Hp->VK->Prop)(t:TA):TE:=λσ H Q=>t σ H λvs H1=>r vs H1 Q
theorem q5I(hc:y6 X (.builtin id) r)(hg:Gl X x)(hm:X.mg x=none)(hv:bootBuiltins x=some (.builtin id))(ha:PA X (e::es) t)(hn:x ≠ "__name__":=by decide)(hdb:(x==("__debug__" : Str))=false:=by decide)
  (he:starEach (e::es) X.env=(false,eval e X.env)::starEach es X.env:=by rfl) (hpl:(backTo pos (starEach es X.env)).any (·.1)=false:=by rfl):PE X (.Call (.Name x p) (e::es) [] pos) (tCB r t):=by
 intro pins s σ H Q I h;refine w26 (q5j I hg hm hv ?_ hn hdb);exact PyProof.Rows.callWith_builtin1 (thn (ha pos pins s σ H _ I h) λus s1 ⟨vs,H1,I1,r1,q1⟩=>hc pins s1 σ H1 vs us Q I1 r1 q1) he hpl
theorem q9s(hc:y6 X (.type T) r)(hg:Gl X x)(hm:X.mg x=none)(hv:bootBuiltins x=some (.type T))(ha:PA X (e::es) t)(hn:x ≠ "__name__":=by decide)(hdb:(x==("__debug__" : Str))=false:=by decide)
  (he:starEach (e::es) X.env=(false,eval e X.env)::starEach es X.env:=by rfl) (hpl:(backTo pos (starEach es X.env)).any (·.1)=false:=by rfl):PE X (.Call (.Name x p) (e::es) [] pos) (tCB r t):=by
 intro pins s σ H Q I h;refine w26 (q5j I hg hm hv ?_ hn hdb);exact w1T (thn (ha pos pins s σ H _ I h) λus s1 ⟨vs,H1,I1,r1,q1⟩=>hc pins s1 σ H1 vs us Q I1 r1 q1) he hpl
end
end
end L2
namespace HT
open PySem PyProof.Rows
section
section
open PySem.SeqAt
open PySem.AutoSeq1 (wpAny_loadPart')
open PySem.MeetsSeq PySem.MeetsSeq2 PySem.MeetsSeq3
end
section
variable {prog:Program} {w:World} {A:Around} {E:Value->Shared->Prop} {s:Shared}
def sIx(n d:Nat):Option Int->Nat
 | none=>d
 | some v=>if v<0 then(v+(n:Int)).toNat else min v.toNat n
theorem z9G(n d:Nat)(hd:d<=n)(o:Option Int):sIx n d o<=n:=by
 cases o with
 | none=>exact hd
 | some v=>
  show(if v<0 then(v+(n:Int)).toNat else min v.toNat n)<=n;by_cases hv:v<0
  ·rw[d4 hv];omega
  ·rw[d5 hv];exact Nat.min_le_right _ _
theorem z1m(v:Int)(n d:Nat):(if v<0 then max (v+(n:Int)) 0 else min v (n:Int))=((sIx n d (some v):Nat):Int):=by
 show(if v<0 then max (v+(n:Int)) 0 else min v (n:Int))=(((if v<0 then(v+(n:Int)).toNat else min v.toNat n):Nat):Int);by_cases hv:v<0
 ·simp only[d4 hv];omega
 ·simp only[d5 hv];omega
theorem q8u(lo hi:Option Int)(n:Nat):Builtin.Slice.sliceAdjust lo hi 1 (n:Int)=(((sIx n 0 lo:Nat):Int),((sIx n n hi:Nat):Int)):=by
 have h1:¬((1:Int)<0):=by omega
 unfold Builtin.Slice.sliceAdjust;simp only[h1,if_false];refine Prod.ext ?_ ?_
 ·cases lo with
  | none=>rfl
  | some v=>exact z1m v n 0
 ·cases hi with
  | none=>rfl
  | some v=>exact z1m v n n
theorem q8o(i j:Nat):Builtin.Slice.slicePlaces (i:Int) (j:Int) 1=j - i:=by
 unfold Builtin.Slice.slicePlaces;have h1:(1:Int)>0:=by omega
 simp only[h1,if_true,Int.ediv_one];split<;>omega
theorem q5i(p:IsPart v o)(h:Q o s):wpAny (model prog w) A (Builtin.Slice.slicePartIndex v) Q E s:=by
 cases p with
 | none=>exact slicePart_none h
 | int i t=>exact slicePart_int h
theorem q4b{sl:Addr}{vl vu:Value}{lo hi:Option Int}{n:Nat}{Q:Int×Int×Nat->Shared->Prop}(hs:s.heap.IsSliceOf sl vl vu .none)(pl:IsPart vl lo)(pu:IsPart vu hi)
  (h:Q (((sIx n 0 lo:Nat):Int),1,sIx n n hi - sIx n 0 lo) s):wpAny (model prog w) A (Builtin.Slice.sliceApplied (.ref sl) (pure (n:Int))) Q E s:=by
 obtain⟨os,hos,hcs,hds⟩:=id hs;unfold Builtin.Slice.sliceApplied Builtin.Slice.sliceFields;refine b9 (b9 (B1 hos hds (x:=vl) rfl (b9 (B1 hos hds (x:=vu) rfl (b9 (B1 hos hds (x:=.none) rfl (i4 ?_)))))));refine b9 (slicePart_none ?_);show wpAny _ _ (if((1:Int)==0)=true then _ else _) _ _ s;rw[d5 (by decide)];refine b9 (q5i pl (b9 (q5i pu (b9 (i4 ?_)))));show wpAny _ _ (match Builtin.Slice.sliceAdjust lo hi 1 (n:Int)with | (lo,hi)=>pure (lo,(1:Int),Builtin.Slice.slicePlaces lo hi 1)) _ _ s;rw[q8u lo hi n];show wpAny _ _ (pure (((sIx n 0 lo:Nat):Int),(1:Int),Builtin.Slice.slicePlaces ((sIx n 0 lo:Nat):Int) ((sIx n n hi:Nat):Int) 1)) _ _ s;rw[q8o];exact i4 h
theorem z1W(xs:Array Value)(i k:Nat):((List.range k).filterMap λ(m:Nat)=>xs[((i:Int)+(m:Int)*1).toNat]?).toArray=((xs.toList.drop i).take k).toArray:=by
 have e:(λ(m:Nat)=>xs[((i:Int)+(m:Int)*1).toNat]?)=λm=>xs[i+m]?:=by
  funext m
  have:((i:Int)+(m:Int)*1).toNat=i+m:=by omega
  rw[this]
 rw[e];have:=pick_run xs i k;rw[List.filterMap_map]at this;have e2:((λx=>xs[x]?) ∘ λx=>i+x)=λm=>xs[i+m]?:=rfl
 rw[e2]at this;rw[this]
theorem getItem_tuple_cut{t sl:Addr}{items:Array Value}{vl vu:Value}{lo hi:Option Int}{Q:Value->Shared->Prop}(ht:IsTup s.heap t items)(hs:s.heap.IsSliceOf sl vl vu .none)(pl:IsPart vl lo)(pu:IsPart vu hi)
  (hw:¬(sIx items.size 0 lo=0/\sIx items.size items.size hi=items.size))
  (h:Q (.ref s.heap.objs.size) {s with heap:=s.heap.push {cls:=.type "tuple",data:=.seq ((items.toList.drop (sIx items.size 0 lo)).take (sIx items.size items.size hi - sIx items.size 0 lo)).toArray}})
  (hsz:items.size<=sizeLine):wpAny (model prog w) A (getItem (.ref t) (.ref sl)) Q E s:=by
 have htake:sizeOk (.seq ((items.toList.drop (sIx items.size 0 lo)).take (sIx items.size items.size hi - sIx items.size 0 lo)).toArray):=(by show((items.toList.drop (sIx items.size 0 lo)).take (sIx items.size items.size hi - sIx items.size 0 lo)).toArray.size<=sizeLine;rw[A7,Q4,w12,K1];omega);have hj:sIx items.size items.size hi<=items.size:=z9G _ _ (j2 _) hi;obtain⟨os,hos,hcs,hds⟩:=id hs;have hTs:s.TypeIs (.ref sl) "slice":=⟨os,hos,hcs⟩;unfold getItem
 try with_reducible refine W8 ?_
 first | refine b9 (i4 ?_) | skip
 refine b9 (wpAny_sequenceKey ht.typeIs (by decide) ?_);refine b9 (T7 (name:=Str.ofString "__getitem__") ht.typeIs w2N
  (Q5 w2N ht.typeIs entry_tuple_getitem ?_ (args_tuple_getitem _ _)))
 show wpAny _ _ (Builtin.Tuple.tupleItemsOf (.ref t) >>= _) _ _ s;refine b9 (tupleItemsOf_ ht ?_);refine b9 (wpAny_typeOf hTs ?_);rw[d4 (by decide)];refine b9 (q4b hs pl pu ?_);have hno:¬((((sIx items.size 0 lo:Nat):Int)==0&&(1:Int)==1&&(sIx items.size items.size hi - sIx items.size 0 lo)==items.size)=true):=by intro q;rw[d7,d7]at q;have q1:((sIx items.size 0 lo:Nat):Int)=0:=w3L q.1.1;have q2:sIx items.size items.size hi - sIx items.size 0 lo=items.size:=w3L q.2;exact hw ⟨by omega,by omega⟩
 show wpAny _ _ (if(((sIx items.size 0 lo:Nat):Int)==0&&(1:Int)==1&&(sIx items.size items.size hi - sIx items.size 0 lo)==items.size)=true then _ else _) _ _ s;rw[d5 hno,z1W]
 first
  | exact b9 (m:=Builtin.Tuple.tupleExact _) (M2 (i4 ⟨_,rfl,i4 h⟩) htake)
  | exact b9 (m:=Builtin.Tuple.tupleExact _) (M2 (b9 (i4 (i4 ⟨_,rfl,i4 h⟩))) htake)
  | exact b9 (b9 (m:=Builtin.Tuple.tupleExact _) (M2 (i4 (i4 ⟨_,rfl,i4 h⟩)) htake))
  | exact b9 (b9 (m:=Builtin.Tuple.tupleExact _) (M2 (i4 ⟨_,rfl,i4 h⟩) htake))
end
end
end HT
namespace L2
open PySem PySem.Spec PyProof.Rows
section
abbrev TO:=St->Hp->(Option Int->Hp->Prop)->Prop
def PO(X:Cx)(e:Option Expr)(t:TO):Prop:=
 ∀(pins:List (Addr×Obj)) (s:Shared) (σ:St) (H:Hp) (Q:Option Int->Hp->Prop),Inv X pins σ H s->t σ H Q ->
  wpAny (model X.prog X.w) X.A (evalPart e X.env) (λu s'=>∃o H',Inv X pins σ H' s'/\IsPart u o/\Q o H') X.xe s
def z5f:TO:=λ_ H Q=>Q none H
def y0l(t:TE):TO:=λσ H Q=>t σ H λx H1=>∃i,x=.int i/\Q (some i) H1
section
variable {X:Cx} {e:Expr} {te:TE} {lo hi:Option Expr} {tl th:TO} {pos p2:Pos}
theorem q3O:PO X none z5f:=by
 intro pins s σ H Q I h;rw[evalPart_none];exact i4 ⟨none,H,I,.none,h⟩
theorem q9n(h:PE X e te):PO X (some e) (y0l te):=by
 intro pins s σ H Q I hw;rw[evalPart_some];refine thn (h pins s σ H _ I hw) λu s1 ⟨x,H1,I1,r1,q1⟩=>?_
 obtain⟨i,rfl,q⟩:=q1;obtain⟨t,rfl⟩:=r1;exact⟨some i,H1,I1,.int i t,q⟩
def SlR(X:Cx)(r:V->Option Int->Option Int->Hp->VK->Prop):Prop:=
 ∀(pins:List (Addr×Obj)) (s:Shared) (σ:St) (H:Hp) (x:V) (v vl vu:Value) (lo hi:Option Int) (sl:Addr) (Q:VK),Inv X pins σ H s->RelV x v->s.heap.IsSliceOf sl vl vu .none->IsPart vl lo->IsPart vu hi->r x lo hi H Q ->
  ∃T id,typeLookup (.type T) "__getitem__" = pure (some (.builtin id))/\s.TypeIs v T/\wpAny (model X.prog X.w) X.A (getItem v (.ref sl)) (EP X pins σ Q) X.xe s
theorem SlR.or(h:SlR X r)(h':SlR X r'):SlR X (λx lo hi H Q=>r x lo hi H Q\/r' x lo hi H Q):=by
 intro pins s σ H x v vl vu lo hi sl Q I rx hs pl pu q;rcases q with q | q
 ·exact h pins s σ H x v vl vu lo hi sl Q I rx hs pl pu q
 ·exact h' pins s σ H x v vl vu lo hi sl Q I rx hs pl pu q
def tSl(r:V->Option Int->Option Int->Hp->VK->Prop)(te:TE)(tl th:TO):TE:=λσ H Q=>te σ H λx H1=>tl σ H1 λl H2=>th σ H2 λu H3=>r x l u H3 Q
theorem O9(hr:SlR X r)(he:PE X e te)(hl:PO X lo tl)(hu:PO X hi th):PE X (.Subscript e (.Slice lo hi none p2) pos) (tSl r te tl th):=by
 intro pins s σ H Q I h;refine Subscript_ (thn (he pins s σ H _ I h) λv s1 ⟨x,H1,I1,r1,q1⟩=>?_);refine wpAny_Slice (thn (hl pins s1 σ H1 _ I1 q1) λvl s2 ⟨l,H2,I2,pl,q2⟩=>thn (hu pins s2 σ H2 _ I2 q2) λvu s3 ⟨u,H3,I3,pu,q3⟩=>?_);rw[evalPart_none];refine i4 ?_;have I4:Inv X pins σ H3 {s3 with heap:=s3.heap.push {cls:=.type "slice",data:=.fields #[vl,vu,.none]}}:=I3.kept (t':=s3.toks) λb ob q=>m5 _ q
 obtain⟨T,id,hT,ht,hg⟩:=hr pins {s3 with heap:=s3.heap.push {cls:=.type "slice",data:=.fields #[vl,vu,.none]}} σ H3 x v vl vu l u s3.heap.objs.size Q I4 r1 (Heap.IsSliceOf.new ..) pl pu q3;show wpAny (model X.prog X.w) X.A (subscriptTail e (.Slice lo hi none p2) v (.ref s3.heap.objs.size)) (EP X pins σ Q) X.xe {s3 with heap:=s3.heap.push {cls:=.type "slice",data:=.fields #[vl,vu,.none]}};exact tail_any (ops:=[.ref s3.heap.objs.size,v]) ht hT hg (by with_unfolding_all rfl)
def cutV(xs:List V)(lo hi:Option Int):List V:=(xs.drop (HT.sIx xs.length 0 lo)).take (HT.sIx xs.length xs.length hi - HT.sIx xs.length 0 lo)
theorem q4C(xs:List V)(lo hi:Option Int):(cutV xs lo hi).length<=xs.length:=by
 unfold cutV;rw[Q4,w12];omega
def rSlT(K:PySem.W.Frag):V->Option Int->Option Int->Hp->VK->Prop:=λx lo hi H Q=>∃a xs,x=.ref a/\SqT K H a xs /\
 ¬(HT.sIx xs.length 0 lo=0/\HT.sIx xs.length xs.length hi=xs.length)/\∀p,H p=none->Q (.ref p) (upd H p (.tup (cutV xs lo hi)))
theorem z7z:SlR X (rSlT X.K):=by
 intro pins s σ H x v vl vu lo hi sl Q I rx hs pl pu h;obtain⟨a,xs,rfl,hx,hw,q⟩:=h;cases rx;obtain⟨its,r,ht,hz⟩:=I.tuple hx;have hlen:its.toArray.size=xs.length:=by rw[A7];exact r.length.symm
 refine⟨"tuple",_,PyProof.Rows.slot_tuple_getitem.lookup,ht.typeIs,?_⟩;refine HT.getItem_tuple_cut ht hs pl pu (by rw[hlen];exact hw) ?_ (by rw[hlen];exact hz);rw[hlen];refine⟨.ref s.heap.objs.size,_,I.laid (t':=s.toks) (o:=.tup (cutV xs lo hi)) (λb ob q=>m5 _ q) (j2 _) ?_,rfl,q _ (I.hok.fresh (j2 _))⟩;exact⟨m6 (q4C xs lo hi) hz,_,(r.drop (HT.sIx xs.length 0 lo)).take (HT.sIx xs.length xs.length hi - HT.sIx xs.length 0 lo),R0.new _ _⟩
end
end
section
def ixN(n:Nat)(i:Int):Option Nat:=if 0<=i then(if i<n then some i.toNat else none)else if -(n:Int)<=i then some (i+n).toNat else none
def atI{α:Type}(xs:List α)(i:Int):Option α:=(ixN xs.length i).bind λj=>xs[j]?
theorem z1a(h:ixN n i=some j):seqIndex? i n=some j/\j<n /\ -(n:Int)<=i/\i<n:=by
 unfold ixN at h;by_cases h0:0<=i
 ·rw[d4 h0]at h;by_cases h1:i<n
  ·rw[d4 h1]at h;have e:i.toNat=j:=F1 h;exact⟨by rw[seqIndex_of h0 h1,e],by omega,by omega,h1⟩
  ·rw[d5 h1]at h;cases h
 ·rw[d5 h0]at h;by_cases h1 : -(n:Int)<=i
  ·rw[d4 h1]at h;have e:(i+n).toNat=j:=F1 h;exact⟨by rw[w37 (by omega) h1,e],by omega,h1,by omega⟩
  ·rw[d5 h1]at h;cases h
theorem q6M(h:atI xs i=some v):∃j,seqIndex? i xs.length=some j/\xs[j]? = some v/\j<xs.length /\ -(xs.length:Int)<=i/\i<xs.length:=by
 unfold atI at h;cases e:ixN xs.length i with
 | none=>rw[e]at h;cases h
 | some j=>
  rw[e]at h;obtain⟨h1,h2,h3,h4⟩:=z1a e;exact⟨j,h1,h,h2,h3,h4⟩
theorem z0b{α:Type}{xs:List α}{j:Nat}{v:α}(h:xs[j]? = some v):atI xs (j:Int)=some v:=by
 have hj:j<xs.length:=(w9.mp h).1;have e:ixN xs.length (j:Int)=some j:=(by unfold ixN;rw[d4 (by omega),d4 (by omega)];simp);unfold atI;rw[e];exact h
def z5s(b:Expr):Prop:=∀o i,subscripted b false o i=operate [o,i] (getItem o i)
def IxR(X:Cx)(r:R2):Prop:=
 ∀(value slice:Expr) (pins:List (Addr×Obj)) (s:Shared) (σ:St) (H:Hp) (x y:V) (v u:Value) (Q:VK),Inv X pins σ H s->RelV x v->RelV y u->r x y H Q ->
  subscripted slice false v u=operate [v,u] (getItem v u)->wpAny (model X.prog X.w) X.A (subscriptTail value slice v u) (EP X pins σ Q) X.xe s
def MtR(X:Cx)(id:String)(r:V->List V->Hp->VK->Prop):Prop:=
 ∀(pins:List (Addr×Obj)) (s:Shared) (σ:St) (H:Hp) (x:V) (xs:List V) (v:Value) (us:List Value) (Q:VK),Inv X pins σ H s->RelV x v->Vals xs us->r x xs H Q ->
  wpAny (model X.prog X.w) X.A (call (.builtin id) (v::us)) (EP X pins σ Q) X.xe s
section
variable {X:Cx} {a b:Expr} {ta tb:TE} {pos:Pos}
theorem IxR.or(h:IxR X r)(h':IxR X r'):IxR X (λx y H Q=>r x y H Q\/r' x y H Q):=by
 intro value slice pins s σ H x y v u Q I rx ry q hs;rcases q with q | q
 ·exact h value slice pins s σ H x y v u Q I rx ry q hs
 ·exact h' value slice pins s σ H x y v u Q I rx ry q hs
theorem z6h(hr:IxR X r)(ha:PE X a ta)(hb:PE X b tb)(hs:z5s b):PE X (.Subscript a b pos) (tOp r ta tb):=by
 intro pins s σ H Q I h;exact Subscript_ (binT ha hb I h λv u s2 x y H2 I2 rx ry q=>hr a b pins s2 σ H2 x y v u Q I2 rx ry q (hs _ _))
def rIxL(K:PySem.W.Frag):R2:=λx y H Q=>∃p xs i v,x=.ref p/\y=.int i/\SqL K H p xs/\atI xs i=some v/\Q v H
def rIxT(K:PySem.W.Frag):R2:=λx y H Q=>∃p xs i v,x=.ref p/\y=.int i/\SqT K H p xs/\atI xs i=some v/\Q v H
def rIxS:R2:=λx y H Q=>∃z i c,x=.str z/\y=.int i/\z.length<=sizeLine/\atI z.cps.toList i=some c/\Q (.str ⟨#[c]⟩) H
theorem z7i:IxR X (rIxL X.K):=by
 intro value slice pins s σ H x y v u Q I rx ry h hs;obtain⟨p,xs,i,z,rfl,rfl,hq,he,q⟩:=h;cases rx;obtain⟨t,rfl⟩:=ry;obtain⟨its,r,pl,hz⟩:=I.list hq;obtain⟨j,h1,h2,h3,h4,h5⟩:=q6M he;obtain⟨w,ew,rw'⟩:=r.get h2;have hl:=r.length;have hn:=X6;have fin:EP X pins σ Q w s:=⟨z,H,I,rw',q⟩;by_cases h0:0<=i
 ·have hj:i.toNat=j:=by
   rw[seqIndex_of h0 h5]at h1;exact F1 h1
  exact item_listR pl.isList h0 (by omega) (by rw[hj];simpa using ew) fin hs
 ·have hj:(i+(its.toArray.size:Int)).toNat=j:=by
   rw[w37 (by omega) h4]at h1;rw[A7,←hl];exact F1 h1
  exact w3S (x:=w) pl.isList.typeIs slot_list_getitem.lookup
   (wpAny_getItem_list_neg (Q:=λr s'=>r=w/\EP X pins σ Q r s') pl.isList (by omega) (by rw[A7]<;>omega) (by omega) (by rw[hj];simpa using ew) ⟨rfl,fin⟩) hs
theorem z0e:IxR X (rIxT X.K):=by
 intro value slice pins s σ H x y v u Q I rx ry h hs;obtain⟨p,xs,i,z,rfl,rfl,hq,he,q⟩:=h;cases rx;obtain⟨t,rfl⟩:=ry;obtain⟨its,r,pl,hz⟩:=I.tuple hq;obtain⟨j,h1,h2,h3,h4,h5⟩:=q6M he;obtain⟨w,ew,rw'⟩:=r.get h2;have hl:=r.length;have hn:=X6;have fin:EP X pins σ Q w s:=⟨z,H,I,rw',q⟩;exact w3S (x:=w) pl.typeIs slot_tuple_getitem.lookup
  (getItem_tuple (j:=j) (Q:=λr s'=>r=w/\EP X pins σ Q r s') pl (by omega) (by omega) (by rw[A7,←hl];exact h1) (by simpa using ew) ⟨rfl,fin⟩) hs
theorem z8M:IxR X rIxS:=by
 intro value slice pins s σ H x y v u Q I rx ry h hs;obtain⟨z,i,c,rfl,rfl,hz,he,q⟩:=h;obtain⟨t,rfl⟩:=rx;obtain⟨t',rfl⟩:=ry;obtain⟨j,h1,h2,h3,h4,h5⟩:=q6M he;have hl:z.cps.toList.length=z.length:=by simp[Str.length]
 rw[hl]at h1 h4 h5;have hn:=X6;exact tail_any (typeIs_str s z t) slot_str_getitem.lookup (getItem_str (c:=c) (by
  have e1:decide (i < -(2^63:Int))=false:=C6 (by omega);have e2:decide (i ≥ 2^63)=false:=C6 (by omega);rw[e1,e2,Bool.or_false]) (by rw[h1];simpa using h2) ⟨.str ⟨#[c]⟩,H,I.tok _,⟨_,rfl⟩,q⟩) hs
def rIx(K:PySem.W.Frag):R2:=λx y H Q=>rIxL K x y H Q\/rIxT K x y H Q\/rIxS x y H Q
theorem z9A:IxR X (rIx X.K):=z7i.or (z0e.or z8M)
theorem q9b(its:List Value)(n j:Nat)(u:Value):Obj.mapSeq (·.setIfInBounds j u) {cls:=.type "list",data:=.seq its.toArray n} = {cls:=.type "list",data:=.seq (its.set j u).toArray n}:=by
 simp[Obj.mapSeq]
theorem Inv.lst{σ:St}(I:Inv X pins σ H s)(h:H p=some (.lst xs)) :
  ∃(its:List Value) (n:Nat),Vals xs its/\s.heap.get? p=some {cls:=.type "list",data:=.seq its.toArray n} /\ xs.length<=sizeLine:=by
 obtain⟨z,its,n,r,e⟩:=I.hok p _ h;exact⟨its,n,r,e,z⟩
theorem Inv.lstUpd{pins:List (Addr×Obj)}{σ:St}{H:Hp}{s:Shared}{p:Addr}{xs ys:List V}{its its':List Value}{n n':Nat}{f:Obj->Obj}(I:Inv X pins σ H s)(h:H p=some (.lst xs))
  (ho:s.heap.get? p=some {cls:=.type "list",data:=.seq its.toArray n}) (hf:f {cls:=.type "list",data:=.seq its.toArray n} = {cls:=.type "list",data:=.seq its'.toArray n'}) (r:Vals ys its') (hz:ys.length<=sizeLine) (t:Nat) :
  Inv X pins σ (upd H p (.lst ys)) {s with heap:=s.heap.update p f,toks:=t}:=by
 have e:(s.heap.update p f).get? p=some {cls:=.type "list",data:=.seq its'.toArray n'}:=(by rw[w3Y f ho (by rw[hf]<;>rfl),hf]);refine I.write (x:=p) (e:=p) (by rw[h];trivial) (.inl rfl) (λb u hb q=>(w3T _ _ (Ne.symm hb)).trans q) ⟨_,e⟩ ?_;exact⟨hz,its',n',r,e⟩
def y1e:V->V->V->Hp->(Hp->Prop)->Prop:=λo i v H Q=>∃p xs k j,o=.ref p/\i=.int k/\H p=some (.lst xs)/\ixN xs.length k=some j/\Q (upd H p (.lst (xs.set j v)))
theorem z2l:PSet X y1e:=by
 intro pins s σ H o i v ov iv u Q I ro ri rv h;obtain⟨p,xs,k,j,rfl,rfl,hp,hj,q⟩:=h;cases ro;obtain⟨t,rfl⟩:=ri;obtain⟨its,n,r,ho,hz⟩:=I.lst hp;obtain⟨h1,h2,h3,h4⟩:=z1a hj;have hl:=r.length;have hn:=X6;have I':Inv X pins σ (upd H p (.lst (xs.set j v))) {s with heap:=s.heap.update p (Obj.mapSeq (·.setIfInBounds j u))}:=
  I.lstUpd hp ho (q9b its n j u) (r.set rv j) (by rw[u0];exact hz) s.toks
 by_cases h0:0<=k
 ·have hk:k.toNat=j:=by
   rw[seqIndex_of h0 h4]at h1;exact F1 h1
  exact PySem.W.ki_setAt ho h0 (by omega) (by rw[A7,←hl];exact h4) (by rw[hk];exact⟨_,I',q⟩)
 ·have hk:(k+(its.toArray.size:Int)).toNat=j:=by
   rw[w37 (by omega) h3]at h1;rw[A7,←hl];exact F1 h1
  exact PySem.W.ki_setBack ho (by omega) (by rw[A7,←hl];exact h3) (by omega) (by rw[hk];exact⟨_,I',q⟩)
theorem q6s(lo hi:Option Int)(n:Nat):(sliceBounds lo hi none n).1=((HT.sIx n 0 lo:Nat):Int)/\(sliceBounds lo hi none n).2.1=((HT.sIx n n hi:Nat):Int)/\(sliceBounds lo hi none n).2.2=1:=by
 refine⟨?_,?_,rfl⟩
 ·cases lo with
  | none=>simp[sliceBounds,HT.sIx]
  | some i=>
   simp only[sliceBounds,HT.sIx,Option.getD_none,show(1:Int)>0 by decide,if_true];by_cases h:i<0
   ·simp only[h,if_true]<;>omega
   ·simp only[h,if_false]<;>omega
 ·cases hi with
  | none=>simp[sliceBounds,HT.sIx]
  | some i=>
   simp only[sliceBounds,HT.sIx,Option.getD_none,show(1:Int)>0 by decide,if_true];by_cases h:i<0
   ·simp only[h,if_true]<;>omega
   ·simp only[h,if_false]<;>omega
theorem q5N(its:List Value)(lo hi:Option Int):slicePick its.toArray lo hi none=((its.drop (HT.sIx its.length 0 lo)).take (HT.sIx its.length its.length hi - HT.sIx its.length 0 lo)).toArray:=by
 obtain⟨h1,h2,h3⟩:=q6s lo hi its.toArray.size;unfold slicePick;rw[h1,h2,h3];simp only[sliceRange_one,pick_run,A7]<;>rfl
def rSlL(K:PySem.W.Frag):V->Option Int->Option Int->Hp->VK->Prop:=λx lo hi H Q=>∃a xs,x=.ref a/\SqL K H a xs/\∀p,H p=none->Q (.ref p) (upd H p (.lst (cutV xs lo hi)))
theorem z5u:SlR X (rSlL X.K):=by
 intro pins s σ H x v vl vu lo hi sl Q I rx hs pl pu h;obtain⟨a,xs,rfl,hx,q⟩:=h;cases rx;obtain⟨its,r,ht,hz⟩:=I.list hx;have hlen:=r.length;refine⟨"list",_,slot_list_getitem.lookup,ht.isList.typeIs,?_⟩;refine wpAny_getItem_list_slice ht.isList hs pl pu .none (by simp) ?_ (by rw[A7]<;>omega);rw[q5N,←hlen];refine⟨.ref s.heap.objs.size,_,I.laid (t':=s.toks) (o:=.lst (cutV xs lo hi)) (λb ob q=>m5 _ q) (j2 _) ?_,rfl,q _ (I.hok.fresh (j2 _))⟩;exact⟨m6 (q4C xs lo hi) hz,_,0,(r.drop (HT.sIx xs.length 0 lo)).take (HT.sIx xs.length xs.length hi - HT.sIx xs.length 0 lo),x9 _ rfl⟩
theorem q2E:y6 X (.builtin "len") (λxs H Q=>∃p ys,xs=[.ref p]/\(SqL X.K H p ys\/SqT X.K H p ys)/\Q (.int ys.length) H):=by
 intro pins s σ H xs us Q I r h;obtain⟨p,ys,rfl,hq,q⟩:=h;obtain⟨u,rfl,rx⟩:=M6 r;cases rx;have hn:=X6;rcases hq with hq | hq
 ·obtain⟨its,r',pl,hz⟩:=I.list hq;have hlen:=r'.length;exact Calls.call_len_list pl.isList (by simp only[A7]<;>omega) ⟨.int ys.length,H,I.tok _,⟨s.toks+1,by rw[A7,hlen]⟩,q⟩
 ·obtain⟨its,r',pl,hz⟩:=I.tuple hq;have hlen:=r'.length;exact len_tuple pl (by simp only[A7]<;>omega) ⟨.int ys.length,H,I.tok _,⟨s.toks+1,by rw[A7,hlen]⟩,q⟩
theorem q5Z:y6 X (.builtin "len") (λxs H Q=>∃z,xs=[.str z]/\z.length<=sizeLine/\Q (.int z.length) H):=by
 intro pins s σ H xs us Q I r h;obtain⟨z,rfl,hz,q⟩:=h;obtain⟨u,rfl,t,rfl⟩:=M6 r;have hn:=X6;exact len_str (by omega) ⟨.int z.length,H,I.tok _,⟨_,rfl⟩,q⟩
theorem q1S:y6 X (.type "list") (λxs H Q=>∃p ys,xs=[.ref p]/\(SqL X.K H p ys\/SqT X.K H p ys)/\∀l,H l=none->Q (.ref l) (upd H l (.lst ys))):=by
 intro pins s σ H xs us Q I r h;obtain⟨p,ys,rfl,hq,q⟩:=h;obtain⟨u,rfl,rx⟩:=M6 r;cases rx;have fin:∀(its:List Value),Vals ys its->ys.length<=sizeLine->∀(h':Heap) (c':Nat),(∀b o',s.heap.get? b=some o'->h'.get? b=some o') ->
   h'.get? s.heap.objs.size=some {cls:=.type "list",dict:=none,data:=.seq its.toArray c',slots:=#[]} -> EP X pins σ Q (.ref s.heap.objs.size) {s with heap:=h'}:=λits r' hz h' c' kp e=>
  ⟨.ref s.heap.objs.size,_,I.laid (t':=s.toks) kp (j2 _) (show r6 X.prog X.w _ h' _ (.lst ys)from⟨hz,its,c',r',e⟩),rfl,q _ (I.hok.fresh (j2 _))⟩
 rcases hq with hq | hq
 ·obtain⟨its,r',pl,hz⟩:=I.list hq;have hlen:=r'.length;obtain⟨o,ho,hc,n,hd⟩:=pl.isList;exact call_list_seq p (.inl rfl) ho hc hd (λh' c' kp e=>fin its r' hz h' c' kp e) (by simp only[A7]<;>omega)
 ·obtain⟨its,r',pl,hz⟩:=I.tuple hq;have hlen:=r'.length;obtain⟨o,ho,hc,n,hd⟩:=pl;exact call_list_seq p (.inr rfl) ho hc hd (λh' c' kp e=>fin its r' hz h' c' kp e) (by simp only[A7]<;>omega)
theorem q3q:y6 X (.type "tuple") (λxs H Q=>∃p ys,xs=[.ref p]/\((SqL X.K H p ys/\∀l,H l=none->Q (.ref l) (upd H l (.tup ys)))\/(SqT X.K H p ys/\Q (.ref p) H))):=by
 intro pins s σ H xs us Q I r h;obtain⟨p,ys,rfl,h⟩:=h;obtain⟨u,rfl,rx⟩:=M6 r;cases rx;rcases h with⟨hq,q⟩ | ⟨hq,q⟩
 ·obtain⟨its,r',pl,hz⟩:=I.list hq;have hlen:=r'.length;refine call_tuple_list pl.isList (λh' kp=>?_) (by simp only[A7]<;>omega);have I1:Inv X pins σ H {s with heap:=h'}:=I.kept (t':=s.toks) kp;have I2:Inv X pins σ (upd H h'.objs.size (.tup ys)) {s with heap:=h'.push {cls:=.type "tuple",data:=.seq its.toArray}}:=
   I1.laid (t':=s.toks) (λb o e=>m5 _ e) (j2 _) (show r6 X.prog X.w _ _ _ (.tup ys)from⟨hz,its,r',R0.new _ _⟩)
  exact⟨.ref h'.objs.size,_,I2,rfl,q _ (I1.hok.fresh (j2 _))⟩
 ·obtain⟨its,r',pl,hz⟩:=I.tuple hq;exact call_tuple_same pl ⟨.ref p,H,I,rfl,q⟩
def tyV(K:PySem.W.Frag)(T:String)(x:V)(H:Hp):Prop:=match x with
 | .str _=>T = "str"
 | .int _=>T = "int"
 | .ref p=>(T = "list" /\ ∃xs,SqL K H p xs)\/(T = "tuple" /\ ∃o,K.lookup p=some o/\o.cls=.type "tuple" /\ o.dict=none) \/
   (T = "dict" /\ ((∃kvs,H p=some (.dK kvs))\/∃kvs,H p=some (.dT kvs)))\/(T = "set" /\ ∃S n,H p=some (.set S n))
 | _=>False
theorem z3T{σ:St}(I:Inv X pins σ H s)(r:RelV x v)(ty:tyV X.K T x H) :
  s.TypeIs v T/\∀a,v=.ref a->∃ob,s.heap.get? a=some ob/\ob.dict=none:=by
 cases x with
 | str z=>
  obtain⟨t,rfl⟩:=r;cases(show T = "str" from ty);exact⟨typeIs_str s z t,λ_ e=>nomatch e⟩
 | int i=>
  obtain⟨t,rfl⟩:=r;cases(show T = "int" from ty);exact⟨typeIs_int s i t,λ_ e=>nomatch e⟩
 | ref p=>
  cases r;rcases ty with⟨rfl,xs,hq⟩ | ⟨rfl,o,hk,hc,hd⟩ | ⟨rfl,hk⟩ | ⟨rfl,S,n,hk⟩
  ·obtain⟨its,_,pl,_⟩:=I.list hq;refine⟨pl.isList.typeIs,λa e=>?_⟩;cases e;obtain⟨o,n,e,c,hd,_⟩:=pl;exact⟨o,e,hd⟩
  ·refine⟨⟨o,I.kIn p o hk,hc⟩,λa e=>?_⟩;cases e;exact⟨o,I.kIn _ o hk,hd⟩
  ·have z:∃o,s.heap.get? p=some o/\o.ExactDict:=by
    rcases hk with⟨kvs,hk⟩ | ⟨kvs,hk⟩
    ·obtain⟨_,_,_,_,o,_,_,e,ex,_⟩:=I.hok p _ hk;exact⟨o,e,ex⟩
    ·obtain⟨_,_,_,_,o,_,_,e,ex,_⟩:=I.hok p _ hk;exact⟨o,e,ex⟩
   obtain⟨o,e,ex⟩:=z;refine⟨⟨o,e,ex.1⟩,λa e2=>?_⟩;cases e2;exact⟨o,e,ex.2.1⟩
  ·obtain⟨o,_,_,_,e,ex,_⟩:=I.hok p _ hk;refine⟨⟨o,e,ex.1⟩,λa e2=>?_⟩;cases e2;exact⟨o,e,ex.2.1⟩
 | _=>exact False.elim ty
def tBM0(K:PySem.W.Frag)(T:String)(r:V->List V->Hp->VK->Prop)(to:TE):TE:=λσ H Q=>to σ H λx H1=>tyV K T x H1/\r x [] H1 Q
def tBM(K:PySem.W.Frag)(T:String)(r:V->List V->Hp->VK->Prop)(to:TE)(t:TA):TE:=λσ H Q=>to σ H λx H1=>tyV K T x H1/\t σ H1 λxs H2=>r x xs H2 Q
variable {o e:Expr} {es:List Expr} {to:TE} {t:TA} {name:Str} {apos cpos:Pos} {T id:String} {r:V->List V->Hp->VK->Prop}
theorem z9Z(pa:PlainAttrs T)(slot:Slot T name id)(hty:typeOf (.builtin id)=pure (.type "method_descriptor"))(hm:MtR X id r)(ho:PE X o to)
  (hbase:attributeBase o name X.env (eval o X.env)=eval o X.env:=by rfl) (hline:(apos.endLine==cpos.line)=true:=by rfl):PE X (.Call (.Attribute o name apos) [] [] cpos) (tBM0 X.K T r to):=by
 intro pins s σ H Q I h;refine w3E hbase hline (thn (ho pins s σ H _ I h) λv s1 ⟨x,H1,I1,r1,ty,q1⟩=>?_);obtain⟨h1,h2⟩:=z3T I1 r1 ty;exact⟨T,id,pa,slot,hty,h1,h2,w2g rfl (w2T (hm pins s1 σ H1 x [] v [] Q I1 r1 .nil q1))⟩
theorem z6b(pa:PlainAttrs T)(slot:Slot T name id)(hty:typeOf (.builtin id)=pure (.type "method_descriptor"))(hm:MtR X id r)(ho:PE X o to)(ha:PA X (e::es) t)
  (hbase:attributeBase o name X.env (eval o X.env)=eval o X.env:=by rfl)
  (hfew:((backTo cpos (starEach (e::es) X.env)).all (λx=>!x.1)&&(backToKw cpos (keywordEach [] X.env)).all (λx=>x.1.isSome)
   && decide ((e::es).length+([]:List Keyword).length+(if([]:List Keyword).isEmpty then 0 else 1)<30))=true:=by rfl)
  (hline:(apos.endLine==cpos.line)=true:=by rfl) (hs:starEach (e::es) X.env=(false,eval e X.env)::starEach es X.env:=by rfl) (hplain:(backTo cpos (starEach es X.env)).any (·.1)=false:=by rfl) :
  PE X (.Call (.Attribute o name apos) (e::es) [] cpos) (tBM X.K T r to t):=by
 intro pins s σ H Q I h;refine wpAny_Call_method_late hbase hfew hline rfl (thn (ho pins s σ H _ I h) λv s1 ⟨x,H1,I1,r1,ty,q1⟩=>?_);obtain⟨h1,h2⟩:=z3T I1 r1 ty;refine⟨T,id,pa,slot,hty,h1,h2,?_⟩;have hA:=ha cpos pins s1 σ H1 _ I1 q1;rw[hs]at hA ⊢;refine w2g (by show(false||(backTo cpos (starEach es X.env)).any (·.1))=false;rw[hplain]<;>rfl) (Calls.evalArgs_plain ?_);exact thn hA λus s2 ⟨vs,H2,I2,r2,q2⟩=>hm pins s2 σ H2 x vs v us Q I2 r1 r2 q2
end
end
section
def MtM(X:Cx)(id:String)(r:V->List V->Hp->VK->Prop):Prop:=
 ∀(pins:List (Addr×Obj)) (s:Shared) (σ:St) (H:Hp) (x:V) (xs:List V) (v:Value) (us:List Value) (Q:VK),Inv X pins σ H s->RelV x v->Vals xs us->r x xs H Q ->
  wpAny (model X.prog X.w) X.A (call (.builtin id) (v::us)) (EP X pins σ Q) X.xe s
theorem Vals.unc(h:Vals (x::xs) us):∃u ws,us=u::ws/\RelV x u/\Vals xs ws:=by
 cases h with
 | cons r t=>exact⟨_,_,rfl,r,t⟩
theorem Vals.nl(h:Vals [] us):us=[]:=by cases h;rfl
theorem Vals.zero(h:Vals [] us):us=[]:=by cases h;rfl
theorem Vals.one(h:Vals [x] us):∃u,us=[u]/\RelV x u:=by
 obtain⟨u,ws,rfl,r,t⟩:=h.unc;cases t.nl;exact⟨_,rfl,r⟩
theorem Vals.two(h:Vals [x,y] us):∃u v,us=[u,v]/\RelV x u/\RelV y v:=by
 obtain⟨u,ws,rfl,r,t⟩:=h.unc;obtain⟨v,rfl,q⟩:=t.one;exact⟨_,_,rfl,r,q⟩
theorem Vals.rep(h:Vals xs us):∀k:Nat,Vals (List.replicate k xs).flatten (List.replicate k us).flatten
 | 0=>.nil
 | k+1=>by rw[Q0,Q0,W4,W4];exact Vals.append h (Vals.rep h k)
theorem q6p(its:List Value):∀(k:Nat) (acc:List Value),
  List.foldl (λx1 x2=>x1++x2) acc.toArray (List.replicate k its.toArray)=(acc++(List.replicate k its).flatten).toArray
 | 0,acc=>by simp
 | k+1,acc=>by
  have e:acc.toArray++its.toArray=(acc++its).toArray:=by simp
  have e2:(acc++its)++(List.replicate k its).flatten=acc++(List.replicate (k+1) its).flatten:=(by rw[Q0,W4,Q3]);rw[←e2,←q6p its k (acc++its),←e,Q0,List.foldl_cons]
section
variable {X:Cx} {pins:List (Addr×Obj)} {σ:St} {H:Hp} {s:Shared} {l b:Addr} {xs ys zs:List V}
theorem Inv.lset{its its':List Value}{n:Nat}{f:Array Value->Array Value}{t':Nat}(I:Inv X pins σ H s)(hH:H l=some (.lst xs))
  (e:s.heap.get? l=some {cls:=.type "list",data:=.seq its.toArray n}) (hf:f its.toArray=its'.toArray) (hv:Vals ys its') (hz:ys.length<=sizeLine) :
  Inv X pins σ (upd H l (.lst ys)) {s with heap:=s.heap.update l (Obj.mapSeq f),toks:=t'}:=by
 have q:=PySem.IsL.update e f;rw[hf]at q;refine I.write (x:=l) (e:=l) (by rw[hH];exact trivial) (.inl rfl) (λb' u hb hu=>(w3T s.heap (Obj.mapSeq f) (Ne.symm hb)).trans hu) ⟨_,q⟩ ?_;exact⟨hz,its',_,hv,q⟩
theorem Inv.lnew(I:Inv X pins σ H s)(hv:Vals ys its)(hz:ys.length<=sizeLine) :
  Inv X pins σ (upd H s.heap.objs.size (.lst ys)) {s with heap:=s.heap.push {cls:=.type "list",data:=.seq its.toArray},toks:=t'}:=
 I.laid (λ_ _ q=>m5 _ q) (j2 _) ⟨hz,its,0,hv,x9 _ rfl⟩
theorem Inv.fresh(I:Inv X pins σ H s):H s.heap.objs.size=none:=I.hok.fresh (j2 _)
theorem Inv.lstM(I:Inv X pins σ H s)(hH:H l=some (.lst xs)):xs.length<=sizeLine/\∃(its:List Value) (n:Nat),Vals xs its/\xs.length=its.length/\s.heap.get? l=some {cls:=.type "list",data:=.seq its.toArray n}:=by
 obtain⟨z,its,n,r,e⟩:=I.hok l _ hH;exact⟨z,its,n,r,r.length,e⟩
theorem z1Z(h:n<=sizeLine):Builtin.List.listTooLong n=false:=by
 unfold Builtin.List.listTooLong;exact C6 (by omega)
end
section
variable {X:Cx}
def z5A:V->List V->Hp->VK->Prop:=λx vs H Q=>∃l xs y,x=.ref l/\vs=[y]/\H l=some (.lst xs)/\xs.length<sizeLine/\Q .non (upd H l (.lst (xs++[y])))
theorem q6r:MtM X "list.append" z5A:=by
 intro pins s σ H x vs v us Q I rx rv h;obtain⟨l,xs,y,rfl,rfl,hH,hz,q⟩:=h;cases rx;obtain⟨u,rfl,ru⟩:=rv.one;obtain⟨z,its,n,r,hl,e⟩:=I.lstM hH;refine w34 F.slot_list_append ⟨_,e,rfl⟩ F.entry_list_append (F.args_list_append_2 _ _) (PySem.list_append l its.toArray n u (by rw[A7];omega)) ⟨e,?_⟩;refine⟨.non,_,I.lset (its':=its++[u]) hH e (by simp) (r.append (.cons ru .nil)) ?_,rfl,q⟩;rw[C5,T9];omega
def z7I:V->List V->Hp->VK->Prop:=λx vs H Q=>∃l xs,x=.ref l/\vs=[]/\H l=some (.lst xs)/\Q .non (upd H l (.lst []))
theorem z2z:MtM X "list.clear" z7I:=by
 intro pins s σ H x vs v us Q I rx rv h;obtain⟨l,xs,rfl,rfl,hH,q⟩:=h;cases rx;have hus:=Vals.zero rv;subst hus;obtain⟨z,its,n,r,hl,e⟩:=I.lstM hH;refine w34 F.slot_list_clear ⟨_,e,rfl⟩ F.entry_list_clear (F.args_list_clear_1 _) (AutoSeq1.list_clear_list_0 l its.toArray n (by rw[A7];omega)) ⟨e,?_⟩;exact⟨.non,_,I.lset (its':=[]) (ys:=[]) hH e rfl .nil (O6 _),rfl,q⟩
def rCat:R2:=λx y H Q=>∃l b xs zs,x=.ref l/\y=.ref b/\H l=some (.lst xs)/\H b=some (.lst zs)/\xs.length+zs.length<=sizeLine/\∀p,H p=none->Q (.ref p) (upd H p (.lst (xs++zs)))
theorem z9E:OpR X (binaryOp .Add) rCat:=by
 intro pins s σ H x y v u Q I rx ry h;obtain⟨l,b,xs,zs,rfl,rfl,hH,hB,hz,q⟩:=h;cases rx;cases ry;obtain⟨z,its,n,r,hl,e⟩:=I.lstM hH;obtain⟨z2,its2,n2,r2,hl2,e2⟩:=I.lstM hB;refine PySem.P.add_list e e2 ?_ (by rw[A7,A7];omega);have ea:its.toArray++its2.toArray=(its++its2).toArray:=by simp
 rw[ea];exact⟨.ref _,_,I.lnew (t':=s.toks) (r.append r2) (by rw[C5];omega),rfl,q _ I.fresh⟩
def rRep:R2:=λx y H Q=>∃l k xs,x=.ref l/\y=.int k/\H l=some (.lst xs) /\ -(2^63)<=k/\k<2^63/\xs.length*k.toNat<=sizeLine /\
 ∀p,H p=none->Q (.ref p) (upd H p (.lst (List.replicate k.toNat xs).flatten))
theorem z5X{α:Type}(xs:List α)(k:Nat):(List.replicate k xs).flatten.length=k*xs.length:=by
 induction k with
 | zero=>simp
 | succ k ih=>rw[Q0,W4,C5,ih,Nat.succ_mul,Nat.add_comm]
theorem z9r:OpR X (binaryOp .Mult) rRep:=by
 intro pins s σ H x y v u Q I rx ry h;obtain⟨l,k,xs,rfl,rfl,hH,h1,h2,hz,q⟩:=h;cases rx;obtain⟨t,rfl⟩:=ry;obtain⟨z,its,n,r,hl,e⟩:=I.lstM hH;have hlen:its.toArray.size*k.toNat<=sizeLine:=by rw[A7,←hl];exact hz
 have hcap:¬its.toArray.size*k.toNat>(2^63 - 1)/8:=by
  have:(sizeLine:Nat)<=(2^63 - 1)/8:=by decide
  omega
 have hfit:¬(!Builtin.List.listFitsIndex k)=true:=(by rw[fitsIndex_both h1 h2];exact K2);have hlong:¬Builtin.List.listTooLong (its.toArray.size*k.toNat)=true:=(by rw[z1Z hlen];exact K2);have hnew:List.foldl (λx1 x2=>x1++x2) #[] (List.replicate (if its.toArray.isEmpty=true then 0 else k.toNat) its.toArray)=(List.replicate k.toNat its).flatten.toArray:=by
  have f0:∀m:Nat,List.foldl (λx1 x2=>x1++x2) #[] (List.replicate m its.toArray)=(List.replicate m its).flatten.toArray:=λm=>by have:=q6p its m [];rw[List.nil_append]at this;exact this
  rw[f0];cases its with
  | nil=>simp
  | cons a r'=>rw[d5 (by simp)]
 refine wpAny_binaryOp_repeat_ref (T:="list") (U:="int") (by decide) ⟨_,e,rfl⟩ (λs'=>typeIs_int s' k t) noFill_list_mul F.fills_int_mul F.slot_int_rmul repeat_list F.slot_int_index.lookup
  (w34 F.slot_int_rmul (typeIs_int s k t) F.entry_int_rmul (F.args_int_rmul_2 _ _) (int___rmul___int_list k t l its.toArray n)
   ⟨e,rfl,⟨_,e,rfl⟩,w34 F.slot_list_mul ⟨_,e,rfl⟩ F.entry_list_mul (F.args_list_mul_2 _ _) (AutoListH.list___mul___list_int_3 l its.toArray n k t hfit hcap hlong) ⟨e,?_⟩⟩)
 rw[hnew];exact⟨.ref _,_,I.lnew (t':=s.toks) (r.rep k.toNat) (by rw[z5X,w3s];exact hz),rfl,q _ I.fresh⟩
end
section
variable {prog:Program} {w:World} {A:Around} {E:Value->Shared->Prop} {s:Shared}
end
section
variable {X:Cx}
end
end
end L2
namespace Att
open PySem PySem.W PySem.Calls PyProof.Rows
section
theorem q4T:∀(ns:List Int) (vs:List Value),WellAll P h vs (ns.map WData.int)->IntsAre vs ns:=by
 intro ns
 induction ns with
 | nil=>
  intro vs w;rw[List.map_nil]at w;cases w;exact .nil
 | cons n ns ih=>
  intro vs w;rw[p7]at w;cases w with
  | cons a b=>
   cases a;exact .cons _ _ (ih _ b)
theorem z0O{l:OpenLaw}{n:Nat}(hn:l.most=some n){P:Params}{h:Heap}{args:List WData}{vals:List Value}
  (hpre:l.row.toRowW.claim.pre args=true) (hwl:WellAll P h vals args) :
  ∃a vs ns,vals=[Value.ref a]/\args=[WData.list (ns.map WData.int)]/\h.get? a=some {cls:=.type "list",data:=.seq vs.toArray} /\ IntsAre vs ns/\ns.length<=n:=by
 have hsh:WShape.hasAll [] args [.list .int]=true:=(pre_splitW hpre).1;have hc:l.pre.holds [] {args:=args} = true:=(pre_splitW hpre).2;obtain⟨d,r,rfl,h1,h2⟩:=hasAllW_cons hsh;obtain rfl:=hasAllW_nil h2;obtain⟨xs,rfl,h3⟩:=hasW_list h1;obtain⟨ns,rfl⟩:=items_int h3;have hlen:ns.length<=n:=by
  unfold OpenLaw.pre at hc;have h4:(WTm.not (.lt (.lit (.int (n:Int))) (.len (.arg 0)))).holds [] {args:=[.list (ns.map .int)]} = true:=by have h4:=(holds_andW hc).1;rw[hn]at h4;exact h4
  have h5:=condW_of h4 (w_not (w_lt w_lit (w_len_list (w_arg rfl))));rw[d8]at h5;refine w3t λq=>?_;have q':(n:Int)<((ns.length:Nat):Int):=by omega
  first
   | (rw[B9 q']at h5;exact absurd h5 (by decide))
   | (simp at h5;omega)
 cases hwl with
 | cons w1 w2=>
  cases w2;cases w1 with
  | list ho hall=>exact⟨_,_,ns,rfl,rfl,ho,q4T ns _ hall,hlen⟩
theorem z0h(l:OpenLaw)(args:List WData):l.row.toRowW.claim.post args (.bool true) args=true:=
 postW_of (r:=l.row.toRowW) (X:=(true==true))
  (show WShape.has [] (.bool true) .bool=true by first | rfl | decide | simp[WShape.has,WShape.arms,WShape.armsAll])
  (show(WTm.eq .res (.lit (.bool true))).value [] {args:=args,res:=some (.bool true),after:=args} = some (.bool (true==true))from w_eq_bool (w_res rfl) w_lit) rfl
theorem attach_call{l:OpenLaw}{n:Nat}{q:Program}{loose:List Str}{XP:(Str->Option Value)->Heap->Prop}{YP:World->Heap->Prop}{d:DefRec}
  (hn:l.most=some n) (hdf:d.params.defaults=[])
  (call:∀(w:World) (s₀ s₁:Shared) (mg mb:Str->Option Value) (fa:Addr) (o:Obj) (pm cd doc:Value) (a:Addr) (vs:List Value) (ns:List Int),
   Ground q loose [] XP w s₀ mg mb s₁.heap->YP w s₁.heap ->
   s₁.heap.get? fa=some o->o.data=.func (docDef d.name d.params d.body d.scope pm cd doc)->s₁.heap.CodeRec cd d.name->mg d.name=some (.ref fa) ->
   s₁.heap.get? a=some {cls:=.type "list",data:=.seq vs.toArray} -> IntsAre vs ns->ns.length<=n->s₁.gens = #[] ->
   codeAny (model l.prog w) callerA (.call (.ref fa) ⟨[.ref a],[]⟩) (λr s'=>r=.ok (.ret (.bool true))/\OldK s₁.heap s'.heap/\s'.os=s₁.os/\AllBare s'.gens) s₁) :
  WalkO q loose XP YP l.row.toRowW d [] (λf vs=>PySem.call f vs):=by
 intro w s₀ s₁ mg mb G Y fa o pm cd doc dV kV ho hd hcd hD hmg hg args vals as hpre hlay hrd hwl hlo;obtain rfl:dV=.none:=Dflts.none hD hdf;obtain rfl:kV=.none:=Dflts.noKw hD;obtain⟨a,vs,ns,rfl,rfl,hobj,hints,hlen⟩:=z0O hn hpre hwl;refine enter_call (w3u (call w s₀ s₁ mg mb fa o pm cd doc a vs ns G Y ho (fd_plain hd) hcd hmg hobj hints hlen hg) λr s' hq=>?_);obtain⟨rfl,h2,h3,h4⟩:=hq;exact⟨.inl ⟨.bool true,.bool true,[],rfl,λ_=>rfl,.bool true,z0h l _,λ_=>⟨List.Pairwise.nil,λ_ hm=>(nomatch hm)⟩⟩,h2,h3,h4⟩
section
variable {prog:Program} {w:World} {A:Around} {E:Value->Shared->Prop} {s:Shared} {K:Frag}
def y1V(h:Heap)(L d:Addr):List (Addr×Obj):=(List.range h.objs.size).filterMap λa=>if a=L\/a=d then none else(h.get? a).map λo=>(a,o)
end
end
end Att
namespace L2
open PySem PySem.Spec PyProof.Rows
section
theorem q6h:∀{vs:List Value} {ns:List Int},IntsAre vs ns->Vals (ns.map V.int) vs
 | _,_,.nil=>.nil
 | _,_,.cons n t h=>.cons ⟨t,rfl⟩ (q6h h)
def Only(H:Hp):Prop:=∀b,H b=none\/∃o xs,H b=some (.frz o (.lst xs))
theorem z2C{P:Program}{w:World}{K:PySem.W.Frag}{mg mb:Str->Option Value}{CX:CXT}{k:Nat}{fa a:Addr}{fd:FuncData}{x:Str}{sp:Sp}{s₁:Shared}{vs:List Value}{ns:List Int}
  (KX:K.In s₁.heap) (hns:s₁.heap.Ns mainGlobals mg) (hb:s₁.heap.Ns builtinsNs mb) (hbb:∀x:Str,x ≠ "__name__" -> mb x=bootBuiltins x) (hlim:s₁.heap.NoLimit) (hg:s₁.gens = #[])
  (ha:s₁.heap.get? a=some {cls:=.type "list",data:=.seq vs.toArray}) (hi:IntsAre vs ns) (hl:ns.length<=sizeLine) (hr:Room k callerA)
  (F:∀base:Heap,K.In base->base.Ns mainGlobals mg->FnOk P w K mg base CX k fa fd [x] sp) (hbind:∀(s:Shared) (u:Value),BindsTo s fd ⟨[u],[]⟩ [(x,u)])
  (hsp:∀H:Hp,Only H->SqL K H a (ns.map V.int)->sp [.ref a] H (λv _=>v=.bl true) λ_ _ _=>False)
  (hCX:∀H e s',CX [] H s₁ (λ_ _ _=>False) e s'->False) :
  codeAny (model P w) callerA (.call (.ref fa) ⟨[.ref a],[]⟩) (λr s'=>r=.ok (.ret (.bool true))/\OldK s₁.heap s'.heap/\s'.os=s₁.os/\AllBare s'.gens) s₁:=by
 have rv:=q6h hi;have lenV:=hi.length;have core:∀H:Hp,Only H->SqL K H a (ns.map V.int)->HOk P w H s₁.heap->(∀b,H b≠none->b=a)->(H a≠none->K.lookup a=none) ->
   codeAny (model P w) callerA (.call (.ref fa) ⟨[.ref a],[]⟩) (λr s'=>r=.ok (.ret (.bool true))/\OldK s₁.heap s'.heap/\s'.os=s₁.os/\AllBare s'.gens) s₁:=by
  intro H hO hS hok hA hK;have base_of:∀{b:Addr} {o:Obj},s₁.heap.get? b=some o->H b=none->(hidT s₁.heap H).get? b=some o:=λe n=>z1J e n
  have noA:∀{b:Addr} {o:Obj} {es:Array DictEntry} {ep:Nat},s₁.heap.get? b=some o->o.data=.dict es ep->H b=none:=λ{b o es ep} e d=>by
   cases q:H b with
   | none=>rfl
   | some u=>
    have e':b=a:=hA b (by rw[q];simp);subst e';rw[ha]at e;cases e;have d':Data.seq vs.toArray _=Data.dict es ep:=d;cases d'
  have nsK:∀{b:Addr} {m:Str->Option Value},s₁.heap.Ns b m->(hidT s₁.heap H).Ns b m:=λ{b m} ⟨o,es,ep,e,d,r⟩=>⟨o,es,ep,base_of e (noA e d),d,r⟩;have hKb:K.In (hidT s₁.heap H):=λb o e=>base_of (KX b o e) (by
   cases q:H b with
   | none=>rfl
   | some u=>
    have e':b=a:=hA b (by rw[q];simp);subst e';rw[hK (by rw[q];simp)]at e;cases e)
  have hM:Mod K mg (hidT s₁.heap H):=⟨hKb,nsK hns,⟨mb,nsK hb,hbb⟩,let ⟨mc,h1,h2⟩:=hlim;⟨mc,nsK h1,h2⟩⟩;have e0:Env0 P w K mg (hidT s₁.heap H) callerA [] s₁ H:=⟨rfl,hM,λb o e=>z4V e,Nat.le_of_eq (z0n _ _),trivial,λb hb=>absurd (show b∈([]:List Addr)from hb) (by simp),hok,.of_eq hg⟩;refine w3u ((F _ hKb (nsK hns)).run callerA [] s₁ H ⟨[.ref a],[]⟩ [.ref a] [.ref a] _ _ hr e0 (hbind s₁ (.ref a)) (.cons rfl .nil) (hsp H hO hS)) λr s' h=>?_;cases r with
  | error e=>exact(hCX H e s' h).elim
  | ok fl=>
   cases fl with
   | next=>exact False.elim h
   | brk=>exact False.elim h
   | cont=>exact False.elim h
   | ret u=>
    obtain⟨v,H',os,bare,un,hok',r',q⟩:=h;have q':v=.bl true:=q;subst q';obtain rfl:u=Value.bool true:=r';refine⟨rfl,OldK.of_keep λb o e=>?_,os,bare⟩;cases q:H b with
    | none=>exact un.keep b o e q (by intro z;exact absurd (show b∈([]:List Addr)from z) (by simp)) (by simp)
    | some u=>
     rcases hO b with z | ⟨ob,xs,z⟩
     ·rw[q]at z;cases z
     ·have z2:=un.frzs b ob _ z;obtain⟨e1,_⟩:=hok b _ z;obtain⟨e2,_⟩:=hok' b _ z2;rw[e]at e1;cases e1;exact e2
 cases hk:K.lookup a with
 | some o=>
  have e:=KX a o hk;rw[ha]at e;cases e;refine core (λ_=>none) (λ_=>.inl rfl) (.inr ⟨_,vs.toArray,_,hk,rfl,rfl,rfl,by rw[A7,lenV];exact hl,by simpa using rv⟩) (λb u z=>by have z':(none:Option HO)=some u:=z;cases z') (λb z=>absurd rfl z) λz=>absurd rfl z
 | none=>
  refine core (λb=>if b=a then some (.frz {cls:=.type "list",data:=.seq vs.toArray} (.lst (ns.map V.int)))else none) (λb=>?_) (.inl (.inr ⟨{cls:=.type "list",data:=.seq vs.toArray},d4 rfl⟩)) (λb u z=>?_) (λb z=>?_) λ_=>hk
  ·by_cases hb:b=a
   ·exact .inr ⟨_,_,d4 hb⟩
   ·exact .inl (d5 hb)
  ·by_cases hb:b=a
   ·have z':=(d4 hb).symm.trans z;cases z';subst hb;exact⟨ha,by rw[d8];exact hl,vs,_,rv,ha⟩
   ·have z':=(d5 hb).symm.trans z;cases z'
  ·by_cases hb:b=a
   ·exact hb
   ·exact absurd (d5 hb) z
end
section
abbrev KOf{K:PySem.W.Frag}{h:Heap}(_:K.In h):PySem.W.Frag:=K
theorem walk_of{l:PySem.W.OpenLaw}{n k:Nat}{q:Program}{loose:List Str}{XP:(Str->Option Value)->Heap->Prop}{YP:World->Heap->Prop}{d:DefRec}{K:Params->PySem.W.Frag}{CX:World->CXT}{sp:World->Sp}{x:Str}
  (hn:l.most=some n) (hn2:n<=sizeLine) (hdf:d.params.defaults=[]) (hr:Room k callerA)
  (hY:∀(w:World) (h:Heap),YP w h->(K w.params).In h)
  (F:∀(w:World) (mg:Str->Option Value) (fa:Addr) (h:Heap),(K w.params).In h->h.Ns mainGlobals mg->mg d.name=some (.ref fa) ->
   ∃fd:FuncData,(∀(s:Shared) (u:Value),BindsTo s fd ⟨[u],[]⟩ [(x,u)]) /\
    ∀base:Heap,(K w.params).In base->base.Ns mainGlobals mg->FnOk l.prog w (K w.params) mg base (CX w) k fa fd [x] (sp w))
  (hsp:∀(w:World) (H:Hp) (a:Addr) (ns:List Int),ns.length<=n->Only H->SqL (K w.params) H a (ns.map V.int)->sp w [.ref a] H (λv _=>v=.bl true) λ_ _ _=>False)
  (hCX:∀(w:World) (H:Hp) (s:Shared) (e:Value) (s':Shared),CX w [] H s (λ_ _ _=>False) e s'->False) :
  PySem.W.WalkO q loose XP YP l.row.toRowW d [] (λf vs=>PySem.call f vs):=by
 refine Att.attach_call hn hdf λw s₀ s₁ mg mb fa o pm cd doc a vs ns G Y ho hd hcd hmg hobj hints hlen hg=>?_;have KX:=hY w _ Y;obtain⟨fd,hb,hF⟩:=F w mg fa _ KX G.T.g hmg;exact z2C KX G.T.g G.T.b G.T.builtins G.T.nolimit hg hobj hints (m6 hlen hn2) hr hF hb (λH hO hS=>hsp w H a ns hlen hO hS) λH e s'=>hCX w H s₁ e s'
end
section
abbrev CX0:CXT:=λ_ _ _ _ _ _=>False
abbrev E0:XK:=λ_ _ _=>False
structure Fun(K:PySem.W.Frag)(x qual:Str)(st:Stmt)(f:Addr)(fd:FuncData):Prop where
 ex:∃(oc:Value) (od:Option Addr) (kV doc pm:Value) (an:Option Addr) (cdv ct:Value) (osl:Array (Option Value)),
  fd=PySem.W.fnOf x qual (K7 st) (E5 st) (q9 st) .none kV doc pm an cdv ct/\K.lookup f=some ⟨oc,od,.func fd,osl⟩/\PySem.W.codeIn K cdv qual=true
 kp:PySem.W.keepIn K (.ref f)=true
section
variable {P:Program} {w:World} {K:PySem.W.Frag} {mg:Str->Option Value} {base:Heap}
end
section
variable {X:Cx}
end
theorem iteF{A B:Prop}(h:B):if false=true then A else B:=by
 rw[d5 K2];exact h
theorem iteT{A B:Prop}(h:A):if true=true then A else B:=by
 rw[d4 rfl];exact h
def Same(H H':Hp):Prop:=∀b o,H b=some o->H' b=some o
theorem Same.refl(H:Hp):Same H H:=λ_ _ h=>h
theorem Same.trans(a:Same H H1)(b:Same H1 H2):Same H H2:=λc o h=>b c o (a c o h)
theorem Same.free(e:Same H H')(h:H' l=Option.none):H l=Option.none:=by
 cases q:H l with
 | none=>rfl
 | some o=>
  rw[e l o q]at h;cases h
theorem Same.seq{K:PySem.W.Frag}{H H':Hp}{a:Addr}{xs:List V}(e:Same H H')(h:SqL K H a xs):SqL K H' a xs:=by
 rcases h with(h | ⟨o,h⟩) | h
 ·exact .inl (.inl (e _ _ h))
 ·exact .inl (.inr ⟨o,e _ _ h⟩)
 ·exact .inr h
end
section
def C2(cells:List (Str×Addr)):List (Str×NameKind)->List (Str×Addr)->List (Str×Addr)
 | [],acc=>acc
 | (n,k)::r,acc=>if(k==NameKind.free)=true then C2 cells r ((n,(cells.lookup n).getD 0)::acc)else C2 cells r acc
theorem q1W:∀(names:List (Str×NameKind)) (acc:List (Str×Addr)),(∀y∈names,y.2=NameKind.free->∃c,env.cells.lookup y.1=some c) ->
  (forIn names acc (λ(x:Str×NameKind) (cs:List (Str×Addr))=>(match x with | (name,kind)=>if(kind==NameKind.free)=true then(do let a ←cellOf env name;pure (ForInStep.yield ((name,a)::cs)))else pure (ForInStep.yield cs):Sem (ForInStep (List (Str×Addr))))):Sem (List (Str×Addr)))=pure (C2 env.cells names acc)
 | [],acc,_=>rfl
 | (n,k)::r,acc,h=>by
  have hr:∀y∈r,y.2=NameKind.free->∃c,env.cells.lookup y.1=some c:=λy hy=>h y (i6 _ hy);rw[w3M];by_cases hk:(k==NameKind.free)=true
  ·obtain⟨c,hc⟩:=h (n,k) j5 (i8.mp hk);have e1:cellOf env n=pure c:=by unfold cellOf;rw[hc]
   have e2:C2 env.cells ((n,k)::r) acc=C2 env.cells r ((n,c)::acc):=(by show(if(k==NameKind.free)=true then C2 env.cells r ((n,(env.cells.lookup n).getD 0)::acc)else C2 env.cells r acc)=_;rw[d4 hk,hc];rfl);rw[e2,←q1W r ((n,c)::acc) hr];simp only[hk,if_true,e1];rfl
  ·have e2:C2 env.cells ((n,k)::r) acc=C2 env.cells r acc:=by
    show(if(k==NameKind.free)=true then C2 env.cells r ((n,(env.cells.lookup n).getD 0)::acc)else C2 env.cells r acc)=_;rw[d5 hk]
   rw[e2,←q1W r acc hr];simp only[hk,if_false];rfl
theorem q2K(h:∀y∈scope.names,y.2=NameKind.free->∃c,env.cells.lookup y.1=some c):closureFor scope env=pure (C2 env.cells scope.names []):=by
 have q:=q1W (env:=env) scope.names [] h;unfold closureFor
 first
  | exact(congrArg (λt=>(t >>= λcs=>pure cs)) q).trans rfl
  | (simp only[q];rfl)
theorem q2m:∀{names:List (Str×NameKind)} {acc:List (Str×Addr)} {x:Str} {c:Addr},(∀y∈names,y.2=NameKind.free->∃c,cells.lookup y.1=some c) ->
  (x,c)∈C2 cells names acc->(x,c)∈acc\/(cells.lookup x=some c/\(x,NameKind.free)∈names)
 | [],acc,x,c,_,h=>.inl h
 | (n,k)::r,acc,x,c,hh,h=>by
  have hr:∀y∈r,y.2=NameKind.free->∃c,cells.lookup y.1=some c:=λy hy=>hh y (i6 _ hy);unfold C2 at h;by_cases hk:(k==NameKind.free)=true
  ·rw[d4 hk]at h;obtain⟨c',hc⟩:=hh (n,k) j5 (i8.mp hk);rcases q2m hr h with z | ⟨z1,z2⟩
   ·rcases f9.mp z with z | z
    ·cases z;exact .inr ⟨by rw[hc];rfl,by rw[←i8.mp hk];exact j5⟩
    ·exact .inl z
   ·exact .inr ⟨z1,i6 _ z2⟩
  ·rw[d5 hk]at h;rcases q2m hr h with z | ⟨z1,z2⟩
   ·exact .inl z
   ·exact .inr ⟨z1,i6 _ z2⟩
theorem q2v:∀{names:List (Str×NameKind)} {acc:List (Str×Addr)} {y:Str×Addr},y∈acc->y∈C2 cells names acc
 | [],_,_,h=>h
 | (n,k)::r,acc,y,h=>by
  unfold C2;split
  ·exact q2v (i6 _ h)
  ·exact q2v h
theorem q2x:∀{names:List (Str×NameKind)} {acc:List (Str×Addr)} {x:Str} {c:Addr},(x,NameKind.free)∈names->cells.lookup x=some c->(x,c)∈C2 cells names acc
 | (n,k)::r,acc,x,c,h,hc=>by
  unfold C2;rcases f9.mp h with z | z
  ·cases z;rw[d4 (show(NameKind.free==NameKind.free)=true from rfl),hc];exact q2v j5
  ·split
   ·exact q2x z hc
   ·exact q2x z hc
theorem q1m:∀(names:List (Str×NameKind)) (n:Nat) (acc:List (Str×Addr)),cellsFrom n names acc=cellsFrom n names []++acc
 | [],_,_=>rfl
 | (x,k)::r,n,acc=>by
  unfold cellsFrom;split
  ·rw[q1m r (n+1) ((x,n)::acc),q1m r (n+1) [(x,n)],Q3];rfl
  ·exact q1m r n acc
theorem q2r:∀{names:List (Str×NameKind)} {n:Nat} {x:Str} {c:Addr},(x,c)∈cellsFrom n names []->(x,NameKind.cell)∈names
 | [],_,_,_,h=>nomatch h
 | (y,k)::r,n,x,c,h=>by
  unfold cellsFrom at h;by_cases hk:(k==NameKind.cell)=true
  ·rw[d4 hk,q1m]at h;rcases y0.mp h with z | z
   ·exact i6 _ (q2r z)
   ·have z':(x,c)=(y,n):=by simpa using z
    cases z';rw[i8.mp hk];exact j5
  ·rw[d5 hk]at h;exact i6 _ (q2r h)
theorem q2j{α:Type}:∀{l r:List (Str×α)},(l++r).lookup x=(l.lookup x).or (r.lookup x)
 | [],r=>by simp
 | (y,v)::l,r=>by
  rw[List.cons_append,N3,N3];cases hb:x==y with
  | true=>rfl
  | false=>exact q2j
theorem q2X{α:Type}:∀{l:List (Str×α)},(∀c,(x,c)∉l)->l.lookup x=none
 | [],_=>rfl
 | (y,v)::l,h=>by
  rw[N3];cases hb:x==y with
  | true=>exact absurd (by rw[i8.mp hb];exact j5) (h v)
  | false=>exact q2X λc hc=>h c (i6 _ hc)
theorem q3b{α:Type}:∀{l:List (Str×α)} {c:α},(x,c)∈l->∃c',l.lookup x=some c'
 | (y,v)::l,c,h=>by
  rw[N3];cases hb:x==y with
  | true=>exact⟨v,rfl⟩
  | false=>
   rcases f9.mp h with z | z
   ·cases z;rw[W5]at hb;cases hb
   ·exact q3b z
theorem q0Q{α:Type}:∀{l:List (Str×α)} {c:α},(l.map (·.1)).Nodup->(x,c)∈l->l.lookup x=some c
 | (y,v)::l,c,nd,h=>by
  rw[N3];rw[p7]at nd;have nd':=O4.mp nd;rcases f9.mp h with z | z
  ·cases z;rw[W5]
  ·have:x≠y:=λe=>nd'.1 (by rw[←e];exact o7.mpr ⟨_,z,rfl⟩);rw[C4.mpr this];exact q0Q nd'.2 z
theorem q1X:(relabel scope env).names.lookup x=(scope.names.lookup x).map λk=>if(k==NameKind.free&&env.scope.kind == .function&&env.kindOf x==some .cell)=true then NameKind.cell else k:=by
 unfold relabel;show(scope.names.map _).lookup x=_;generalize scope.names=l
 induction l with
 | nil=>rfl
 | cons y r ih=>
  obtain⟨n,k⟩:=y;rw[p7];show List.lookup x ((if(k==NameKind.free&&env.scope.kind == .function&&env.kindOf n==some .cell)=true then(n,NameKind.cell)else(n,k))::_)=_;have e:(if(k==NameKind.free&&env.scope.kind == .function&&env.kindOf n==some .cell)=true then(n,NameKind.cell)else(n,k))=(n,if(k==NameKind.free&&env.scope.kind == .function&&env.kindOf n==some .cell)=true then NameKind.cell else k):=by split<;>rfl
  rw[e,N3,N3];cases hb:x==n with
  | true=>rw[i8.mp hb];rfl
  | false=>exact ih
theorem q6N
  (hQ:Q (newEnv scope s.heap.objs.size g (cellsFrom (s.heap.objs.size+1) scope.names cl) q none .none (some env) builtinsNs) {s with heap:=pushCells (s.heap.push {cls:=.type "dict",data:=.dict #[]}) scope.names}) :
  wpAny M A (newFunctionEnv scope g cl [] q none .none (some env)) Q E s:=by
 simp only[newFunctionEnv,Option.isSome_some,if_true];refine b9 (wpAny_alloc ?_);refine b9 (wpAny_layCells _ (λname kind cells=>by cases hkc:kind==NameKind.cell<;>simp[hkc]) _ _ _ _ ?_);rw[show({s with heap:=s.heap.push {cls:=.type "dict",data:=.dict #[]}}:Shared).heap.objs.size=s.heap.objs.size+1 from K4 ..];exact b9 (i4 (i4 hQ))
theorem q6z(I:Nat->Shared->Prop)
  (turn:∀n s,I n s->wpAny (model prog w) A (pyNext it) (λr s₁=>match r with
   | none=>R (.ok .next) s₁
   | some v=>wpAny (model prog w) A (letOwnedTupleGo target it v) (λ_ s₁'=>wpAny (model prog w) A (assign target env v) (λ_ s₂=>
     wpAny (model prog w) A (forIn ifs true λc r=>if r=true then do let ok ←isTrue c env (eval c env);pure (ForInStep.yield ok)else pure (ForInStep.yield r)) (λok s₃=>
      if ok=true then wpAny (model prog w) A (eval elt env) (λx s₄=>
       wpAny (model prog w) A (call (.builtin "list.append") [acc,x]) (λ_ s₅=>∃m,m<n/\I m s₅) (notedBy (model prog w) A env λe s'=>R (.error e) s') s₄) (notedBy (model prog w) A env λe s'=>R (.error e) s') s₃
      else ∃m,m<n/\I m s₃) (notedBy (model prog w) A env λe s'=>R (.error e) s') s₂) (notedBy (model prog w) A env λe s'=>R (.error e) s') s₁') (notedBy (model prog w) A env λe s'=>R (.error e) s') s₁) (notedBy (model prog w) A env λe s'=>R (.error e) s') s)
  (n:Nat) (h:I n s) :
  codeAny (model prog w) A (.compLoop (.ListComp elt [⟨target,iter,ifs,0⟩] scope pos) 0 it acc env) R s:=by
 refine codeAny_loop rfl I (λn s hI=>?_) n h;show wpAny _ A ((compTurn (.ListComp elt [⟨target,iter,ifs,0⟩] scope pos) 0 it acc env).onRaise (λx=>do noteFrame x env;theTreesLotGoes x)) _ _ s;refine wpAny_noted ?_;rw[compTurn_list];refine b9 (w3g (b9 (F8 (turn n s hI) (λr s₁ h₁=>?_) λ_ _ h'=>h')));cases r with
 | none=>exact i4 h₁
 | some v=>
  refine b9 (F8 h₁ (λ_ s₁' h₁'=>?_) λ_ _ h'=>h');refine b9 (F8 h₁' (λ_ s₂ h₂=>b9 (F8 h₂ (λok s₃ h₃=>?_) λ_ _ h'=>h')) λ_ _ h'=>h');cases ok with
  | false=>exact i4 ⟨rfl,h₃⟩
  | true=>
   exact b9 (b9 (F8 h₃ (λx s₄ h₄=>b9 (F8 h₄ (λ_ s₅ h₅=>i4 (i4 ⟨rfl,h₅⟩)) λ_ _ h'=>h')) λ_ _ h'=>h'))
theorem HOk.track(x:HOk P w H h)(hn:H a=none)(new:r6 P w (upd H a o) h a o):HOk P w (upd H a o) h:=λb u e=>by
 by_cases hb:b=a
 ·subst hb;rw[w6]at e;cases e;exact new
 ·rw[j4 hb]at e;exact(x b u e).stay (λc v _ q=>q) (λc q=>by rw[j4 (G0 q hn)];exact q) λc xs q=>by rw[j4 (G0 q hn)];exact q
theorem Un.track(u:Un fs ex H H' h h')(hn:H' a=none)(hh:h.get? a=none):Un fs ex H (upd H' a o) h h' where
 keep:=u.keep
 slot:=u.slot
 free:=λb ob q n hx=>by
  have:b≠a:=λz=>by rw[z,hh]at q;cases q
  rw[j4 this];exact u.free b ob q n hx
 there:=u.there
 tups:=λb xs q=>by have z:=u.tups b xs q;rw[j4 (G0 z hn)];exact z
 frzs:=λb ob xs q=>by have z:=u.frzs b ob xs q;rw[j4 (G0 z hn)];exact z
 tbls:=λb ps q=>by obtain⟨m,z⟩:=u.tbls b ps q;exact⟨m,by rw[j4 (G0 z hn)];exact z⟩
structure CompScope(N N':List Str)(sc osc:Scope)(fr:List (Option Nat)):Prop where
 kind:sc.kind=.function
 nd:N'.Nodup
 snd:(sc.names.map (·.1)).Nodup
 len:fr.length=N'.length
 fre:∀(j i:Nat),fr[j]? = some (some i)->∃x,N'[j]? = some x/\N[i]? = some x/\(x,NameKind.free)∈sc.names
 out:∀y∈sc.names,y.2=NameKind.free->osc.names.lookup y.1=some .cell\/osc.names.lookup y.1=some .free
def inner(fr:List (Option Nat))(σ:St):St:=fr.map λo=>o.bind λi=>(σ[i]?).join
def t9(X:Cx)(scope:Scope)(N':List Str)(C:Addr)(cells:List (Str×Addr))(s₂:Shared)(H₂:Hp)(fp:List Addr):Cx:=
 {X with N:=N',s₀:=s₂,H₀:=H₂,env:=compEnvC scope cells C X.env,outer:=X.stack,stack:=X.stack,ex:=fp,fn:=λx=>scope.names.lookup x==some .cell,pn:=[],xe:=λ_ _=>False}
section
variable {X:Cx} {pins:List (Addr×Obj)} {σ:St} {H:Hp} {s₂:Shared} {N':List Str} {scope:Scope} {fr:List (Option Nat)} {fp:List Addr}
abbrev L4:Obj:={cls:=.type "list",dict:=none,data:=.seq ([]:List Value).toArray}
abbrev q6b:Obj:={cls:=.type "dict",data:=.dict #[]}
theorem z1I(S:CompScope X.N N' scope X.env.scope fr)(I:Inv X pins σ H s₂)(f:∀b∈fp,FpOk X pins H b)(ho:∀b∈fp,@LT.lt Nat _ b s₂.heap.objs.size)(hC:C=s₂.heap.objs.size+1)(h4e:h4=pushCells ((s₂.heap.push L4).push q6b) scope.names) :
  Inv (t9 X scope N' C (cellsFrom (C+1) scope.names (C2 X.env.cells scope.names [])) s₂ H fp) [] (inner fr σ) H {s₂ with heap:=h4} /\ h4.get? s₂.heap.objs.size=some L4/\(∀b o,s₂.heap.get? b=some o->h4.get? b=some o):=by
 have hsz1:(s₂.heap.push L4).objs.size=s₂.heap.objs.size+1:=K4 ..;have hsz2:((s₂.heap.push L4).push q6b).objs.size=C+1:=by rw[K4,hsz1,hC]
 have keep:∀b o,s₂.heap.get? b=some o->h4.get? b=some o:=λb o e=>by rw[h4e];exact w3N _ _ b o (m5 _ (m5 _ e))
 have hD:h4.get? s₂.heap.objs.size=some L4:=by rw[h4e];exact w3N _ _ _ _ (m5 _ (x9 _ rfl))
 have hns:h4.Ns C λ_=>none:=by have q:=(Heap.Ns.new (s₂.heap.push L4) (.type "dict")).keeps (w3N scope.names _);rw[hsz1,←hC]at q;rw[h4e];exact q
 have ok:=cellsFrom_ok scope.names ((s₂.heap.push L4).push q6b) (C+1) [] ⟨λ_ _ hm=>(nomatch hm),List.Pairwise.nil⟩ (by rw[hsz2];exact j2 _);rw[hsz2,←h4e]at ok;have hfree:∀y∈scope.names,y.2=NameKind.free->∃c,X.env.cells.lookup y.1=some c:=λy hy hk=>I.ok.has y.1 (S.out y hy hk);generalize hcl:C2 X.env.cells scope.names []=cl;have memcl:∀{x:Str} {c:Addr},(x,c)∈cl->X.env.cells.lookup x=some c/\(x,NameKind.free)∈scope.names:=λ{x c} hm=>by
  rw[←hcl]at hm;rcases q2m hfree hm with z | z
  ·exact nomatch z
  ·exact z
 generalize hown:cellsFrom (C+1) scope.names []=own at ok;have app:cellsFrom (C+1) scope.names cl=own++cl:=by rw[q1m,hown]
 rw[app];have memown:∀{x:Str} {c:Addr},(x,c)∈own->(x,NameKind.cell)∈scope.names:=λ{x c} hm=>by rw[←hown]at hm;exact q2r hm
 have L1:∀x c,(own++cl).lookup x=some c->((x,c)∈own)\/(X.env.cells.lookup x=some c/\(x,NameKind.free)∈scope.names/\own.lookup x=none):=λx c e=>by
  rw[q2j]at e;cases q:own.lookup x with
  | some c'=>rw[q]at e;cases e;exact .inl (O0 q)
  | none=>rw[q]at e;have z:=memcl (O0 (show cl.lookup x=some c from e));exact .inr ⟨z.1,z.2,rfl⟩
 have own_ge:∀{x:Str} {c:Nat},(x,c)∈own->@LE.le Nat _ (C+1) c:=λ{x c} hm=>(ok.empty x c hm).2;have cell_lt:∀{x:Str} {c:Nat},X.env.cells.lookup x=some c->@LT.lt Nat _ c s₂.heap.objs.size:=λ{x c} e=>by obtain⟨v,z⟩:=I.cell x c e;exact z.lt
 have free_no:∀{x:Str},(x,NameKind.free)∈scope.names->own.lookup x=none:=λ{x} hm=>by refine q2X λc hc=>?_;have a:=q0Q S.snd hm;have b:=q0Q S.snd (memown hc);rw[a]at b;cases b
 have cl_get:∀{x:Str} {c:Addr},(x,NameKind.free)∈scope.names->X.env.cells.lookup x=some c->(own++cl).lookup x=some c:=λ{x c} hm hc=>by rw[q2j,free_no hm];obtain⟨c',e⟩:=q3b (l:=cl) (by rw[←hcl];exact q2x hm hc);have z:=(memcl (O0 e)).1;rw[hc]at z;cases z;exact e
 have hX:(t9 X scope N' C (own++cl) s₂ H fp).Ok:=by
  refine⟨I.ok.mod,S.kind,I.ok.glob,I.ok.blt,?_,λx y c h1 h2=>?_,λx hx=>?_,λx c hf hc=>?_,I.ok.hd,I.ok.frames,.inl rfl,λb hb=>⟨?_,λx c e=>?_⟩,I.bs,m6 I.ok.bsz I.sz,λb o e hb=>?_,λb hb hs=>?_,I.stack,I.stkFree⟩
  ·show s₂.heap.objs.size<=C;rw[hC];exact Nat.le_succ _
  ·have h1:(own++cl).lookup x=some c:=h1;have h2:(own++cl).lookup y=some c:=h2;rcases L1 x c h1 with a | ⟨a,_⟩<;>rcases L1 y c h2 with b | ⟨b,_⟩
   ·exact name_of_addr ok.apart a b
   ·exfalso;have q1:=own_ge a;have q2:=cell_lt b;omega
   ·exfalso;have q1:=own_ge b;have q2:=cell_lt a;omega
   ·exact I.ok.inj x y c a b
  ·have hx':(relabel scope X.env).names.lookup x=some .cell\/(relabel scope X.env).names.lookup x=some .free:=hx;show ∃c,(own++cl).lookup x=some c;rw[q1X]at hx';cases q:scope.names.lookup x with
   | none=>rw[q]at hx';rcases hx' with z | z<;>cases z
   | some k=>
    have km:=O0 q;by_cases k1:k=.cell
    ·subst k1;have z:=w2f scope.names (C+1) [] (.inl q);rw[hown]at z;obtain⟨c,z⟩:=w2y.mp z;exact⟨c,by rw[q2j,z];rfl⟩
    ·by_cases k2:k=.free
     ·subst k2;obtain⟨c,e⟩:=hfree _ km rfl;exact⟨c,cl_get km e⟩
     ·exfalso;rw[q]at hx';have e0:(k==NameKind.free)=false:=C4.mpr k2;simp only[Q6,e0,N4]at hx';rcases hx' with z | z
      ·exact k1 (by simpa using z)
      ·exact k2 (by simpa using z)
  ·have hf':(scope.names.lookup x==some .cell)=true:=hf;have q:scope.names.lookup x=some .cell:=by simpa using hf'
   have z:=w2f scope.names (C+1) [] (.inl q);rw[hown]at z;obtain⟨c',z⟩:=w2y.mp z;have hc':(own++cl).lookup x=some c:=hc;rw[q2j,z]at hc';have e:c'=c:=F1 hc';subst e;have:=own_ge (O0 z);show @LE.le Nat _ s₂.heap.objs.size c';omega
  ·have:=ho b hb;show @Ne Nat b C;omega
  ·rcases L1 x c e with a | ⟨a,_⟩
   ·have:=own_ge a;have:=ho b hb;show @Ne Nat c b;omega
   ·exact(f b hb).2.2.2.2.1 x c a
  ·rcases(f b hb).2.2.2.1 with z | z
   ·exact I.ok.noex b o e z
   ·exact absurd (x4 (j8 e) (m6 I.ok.bsz z)) (M5 _)
  ·rcases f9.mp (I.stkSub b hs)with z | z
   ·exact(f b hb).2.1 z
   ·exact(f b hb).2.2.1 z
 refine⟨⟨hX,rfl,I.bare,Un.kept keep,⟨_,hns,λi x v e1 e2 e3=>?_⟩,λx c e=>?_,I.hok.fresh (by show @LE.le Nat _ s₂.heap.objs.size C;omega),λx c e=>?_,λp hp=>absurd (show p∈([]:List (Addr×Obj))from hp) (by simp),I.hok.kept keep,?_⟩,hD,keep⟩
 ·have e1:N'[i]? = some x:=e1;unfold inner at e2;rw[m9]at e2;cases q:fr[i]? with
  | none=>rw[q]at e2;cases e2
  | some o=>
   rw[q]at e2;cases o with
   | none=>cases e2
   | some j=>
    have e2':(σ[j]?).join=some v:=F1 e2;have hv:σ[j]? = some (some v):=by
     cases z:σ[j]? with
     | none=>rw[z]at e2';cases e2'
     | some o=>rw[z]at e2';rw[show o=some v from e2']
    obtain⟨x',a1,a2,a3⟩:=S.fre i j q;rw[e1]at a1;cases a1;obtain⟨m,hn,hl⟩:=I.loc;have ko:=S.out _ a3 rfl;obtain⟨u,r,l⟩:=hl j x v a2 hv (ko.elim (λz=>.inr (.inl z)) λz=>.inr (.inr z));rcases l with⟨k,_⟩ | ⟨k,c,e,z⟩
    ·have k':X.env.scope.names.lookup x=some .local:=k;rcases ko with w | w<;>(rw[show X.env.scope.names.lookup x=_ from w]at k';cases k')
    ·refine⟨u,r,.inr ⟨?_,c,cl_get a3 e,z.keeps keep⟩⟩;show(relabel scope X.env).names.lookup x=some .cell\/(relabel scope X.env).names.lookup x=some .free;rw[q1X,q0Q S.snd a3];simp only[Q6];split
     ·exact .inl rfl
     ·exact .inr rfl
 ·rcases L1 x c e with a | ⟨a,_⟩
  ·exact⟨none,(ok.empty x c a).1⟩
  ·obtain⟨v,z⟩:=I.cell x c a;exact⟨v,z.keeps keep⟩
 ·rcases L1 x c e with a | ⟨a,_⟩
  ·exact I.hok.fresh (by have:=own_ge a;show @LE.le Nat _ s₂.heap.objs.size c;omega)
  ·exact I.freeC x c a
 ·show(inner fr σ).length=N'.length;unfold inner;rw[d8,S.len]
end
def PTs(X:Cx)(ifs:List Expr)(t:TT):Prop:=
 ∀(pins:List (Addr×Obj)) (s:Shared) (σ:St) (H:Hp) (Q:Bool->Hp->Prop),Inv X pins σ H s->t σ H Q ->
  wpAny (model X.prog X.w) X.A (forIn ifs true λc r=>if r=true then do let ok ←isTrue c X.env (eval c X.env);pure (ForInStep.yield ok)else pure (ForInStep.yield r)) (TP X pins σ Q) X.xe s
def tYes:TT:=λ_ H Q=>Q true H
theorem z6Y:PTs X [] tYes:=λ_ _ _ H _ I h=>wpAny_tests_nil ⟨H,I,h⟩
theorem z5g(h:PT X c t):PTs X [c] t:=λpins s σ H Q I hq=>wpAny_tests_one (h pins s σ H Q I hq)
def z5v(J:It)(g:TG)(tc:TT)(te:TE)(Fin:List V->Hp->Prop)(σ:St)(H:Hp):Prop:=
 ∃W:Nat->Nat->List V->St->Hp->Prop,(∃m,W 0 m [] σ H)/\∀i m ys σ H,W i m ys σ H ->
  (J.stop i H/\Fin ys H)\/(J.go i H/\ys.length<sizeLine/\∀x H',J.yld i H x H'->g x σ H' λσ2 H2=>tc σ2 H2 λb H3=>
   if b=true then te σ2 H3 λy H4=>∃m',m'<m/\W (i+1) m' (ys++[y]) σ2 H4 else ∃m',m'<m/\W (i+1) m' ys σ2 H3)
theorem Vals.snoc(r:Vals xs us)(q:RelV x u):Vals (xs++[x]) (us++[u]):=r.append (.cons q .nil)
theorem q7D{X:Cx}{pins:List (Addr×Obj)}{σ:St}{H:Hp}{s₂:Shared}{N':List Str}{scope:Scope}{fr:List (Option Nat)}{fp:List Addr}{iter elt tg:Expr}{ifs:List Expr}{pos:Pos}{g:TG}{te:TE}{tc:TT}{it:Addr}{tn:Nat->Heap->Prop}{J:It}
  {E:Value->Shared->Prop} {Fin:List V->Hp->Prop} {RR:Value->Addr->Result->Shared->Prop}
  (S:CompScope X.N N' scope X.env.scope fr) (hc:X.calm=true)
  (hg:∀C cells s₂ H₂ fp,PG (t9 X scope N' C cells s₂ H₂ fp) tg g) (ht:∀C cells s₂ H₂ fp,PTs (t9 X scope N' C cells s₂ H₂ fp) ifs tc) (he:∀C cells s₂ H₂ fp,PE (t9 X scope N' C cells s₂ H₂ fp) elt te)
  (I:Inv X pins σ H s₂) (T:Turn X.prog X.w X.K tg J fp it tn) (st:tn 0 s₂.heap) (f:∀b∈fp,FpOk X pins H b) (h:z5v J g tc te Fin (inner fr σ) H)
  (hRR:∀D C H' s' m ys,Inv X pins σ (upd H' D (.lst ys)) s'->H' D=none->s'.heap.Ns C m->upd H' D (.lst ys) C=none->C≠X.env.locals->X.s₀.heap.objs.size<=C->(∀x c,X.env.cells.lookup x=some c->c≠C)->(∀p∈X.pn++pins,p.1≠C)->Fin ys H'->RR (.ref D) C (.ok .next) s') :
  wpAny (model X.prog X.w) X.A (newList []) (λacc s₃=>wpAny (model X.prog X.w) X.A (newFunctionEnv scope X.env.globals (C2 X.env.cells scope.names []) [] X.env.qual none .none (some X.env)) (λcenv s₄=>
   codeAny (model X.prog X.w) X.A (.compStart (.ListComp elt [⟨tg,iter,ifs,0⟩] scope pos) 0 (.ref it) acc {cenv with scope:=relabel scope X.env}) (RR acc cenv.locals) s₄) E s₃) E s₂:=by
 have ho:∀b∈fp,b<s₂.heap.objs.size:=λb hb=>by obtain⟨o,e,_⟩:=T.obj _ _ st b hb;exact j8 e
 refine M2 (q6N ?_);have hsz1:(s₂.heap.push L4).objs.size=s₂.heap.objs.size+1:=K4 ..;obtain⟨I4,hD4,keep⟩:=z1I (C:=s₂.heap.objs.size+1) S I f ho rfl rfl;show codeAny _ _ (.compStart _ 0 (.ref it) (.ref s₂.heap.objs.size) (compEnvC scope (cellsFrom ((s₂.heap.push L4).objs.size+1) scope.names (C2 X.env.cells scope.names [])) (s₂.heap.push L4).objs.size X.env)) (RR (.ref s₂.heap.objs.size) (s₂.heap.push L4).objs.size) {s₂ with heap:=pushCells ((s₂.heap.push L4).push q6b) scope.names};rw[hsz1];generalize hDe:s₂.heap.objs.size=D at *;generalize cellsFrom (D+1+1) scope.names (C2 X.env.cells scope.names [])=cells at *;generalize pushCells ((s₂.heap.push L4).push q6b) scope.names=h4 at *;have hfp:∀{pins':List (Addr×Obj)} {H':Hp},(∀b∈fp,H' b=none)->(∀p∈pins',p.1=D)->∀b∈fp,FpOk (t9 X scope N' (D+1) cells s₂ H fp) pins' H' b:=λ{pins' H'} hn hp b hb=>
  ⟨hn b hb,(I4.ok.exf b hb).1,I4.ok.exfs b hb,.inl hb,(I4.ok.exf b hb).2,λp hp' z=>by
   have hp':p∈([]:List (Addr×Obj))++pins':=hp';rw[List.nil_append]at hp';have:=ho b hb;rw[←z,hp p hp']at this;exact M5 _ this⟩
 obtain⟨W,⟨m0,w0⟩,turn⟩:=h;have hDC:D≠(t9 X scope N' (D+1) cells s₂ H fp).env.locals:=by show D≠D+1;omega
 have hDcell:∀x c,(t9 X scope N' (D+1) cells s₂ H fp).env.cells.lookup x=some c->c≠D:=λx c e z=>by
  obtain⟨v,o,hoc,hd⟩:=I4.cell x c e;have q:h4.get? D=some o:=by rw[←z];exact hoc
  rw[hD4]at q;cases q;cases hd
 have hDfs:D∉(t9 X scope N' (D+1) cells s₂ H fp).fs:=λz=>by
  obtain⟨_,o,ho',_⟩:=I4.ok.funs.mem z
  have:=j8 ho';have e:s₂.heap.objs.size=D:=hDe;exact absurd this (by show ¬D<s₂.heap.objs.size;omega)
 have loop:codeAny (model X.prog X.w) X.A (.compLoop (.ListComp elt [⟨tg,iter,ifs,0⟩] scope pos) 0 (.ref it) (.ref D) (compEnvC scope cells (D+1) X.env)) (RR (.ref D) (D+1)) {s₂ with heap:=h4}:=by
  refine q6z (λn s'=>∃i ys its k σ' H',Inv (t9 X scope N' (D+1) cells s₂ H fp) [] σ' H' s'/\tn i s'.heap/\(∀b∈fp,H' b=none)/\H' D=none /\
   s'.heap.get? D=some {cls:=.type "list",data:=.seq (its:List Value).toArray k} /\ Vals ys its/\ys.length<=sizeLine/\W i n ys σ' H') ?_ m0
   ⟨0,[],[],_,_,H,I4,T.keep _ _ _ st λb _ o e=>keep b o e,λb hb=>(f b hb).1,I.hok.fresh (by omega),hD4,.nil,O6 _,w0⟩
  rintro n s3 ⟨i,ys,its,k,σ3,H3,I3,st3,fr3,hD3,oD3,rv,hl,w3⟩
  have I3p:Inv (t9 X scope N' (D+1) cells s₂ H fp) [(D,{cls:=.type "list",data:=.seq its.toArray k})] σ3 H3 s3:=I3.pins_of λp hp=>by
   have e:p=(D,{cls:=.type "list",data:=.seq its.toArray k}):=by simpa using hp
   subst e;exact⟨oD3,hD3,hDC,hDfs,λv z=>by cases z⟩
  have pinD:∀p∈[((D:Addr),({cls:=.type "list",data:=.seq its.toArray k}:Obj))],p.1=D:=λp hp=>by
   have e:p=(D,{cls:=.type "list",data:=.seq its.toArray k}):=by simpa using hp
   subst e;rfl
  rcases turn i n ys σ3 H3 w3 with⟨stop,fin⟩ | ⟨go,hlt,step⟩
  ·refine thn (T.done (t9 X scope N' (D+1) cells s₂ H fp) rfl rfl rfl hc i _ s3 σ3 H3 _ I3p (hfp fr3 pinD) st3 stop) λr s4 ⟨hr,I4'⟩=>?_;subst hr;have oD:=(I4'.pin (D,_) (u7 _ j5)).1;have un:Un (frs X.stack) fp H H3 s₂.heap s4.heap:=I4'.base;have hn:s₂.heap.get? D=none:=Z7 (by rw[hDe];exact j2 _);obtain⟨mC,hnC,_⟩:=I4'.loc;refine hRR D (D+1) H3 s4 mC ys (I.call' I4'.os (un.track hD3 hn) (I4'.hok.track hD3 ⟨hl,its,k,rv,oD⟩) I4'.bare λb hb=>?_) hD3 hnC ?_ ?_ ?_ (λx c e=>?_) (λp hp=>?_) fin
   ·obtain⟨_,f1,f2,f3,f4,f5⟩:=f b hb;exact⟨f3,f1,f4,f5⟩
   ·rw[j4 (show @Ne Nat (D+1) D by omega)];exact I4'.free
   ·have q:@LT.lt Nat _ X.env.locals s₂.heap.objs.size:=I.lt;show @Ne Nat (D+1) X.env.locals;omega
   ·have q:@LE.le Nat _ X.s₀.heap.objs.size s₂.heap.objs.size:=I.sz;show @LE.le Nat _ X.s₀.heap.objs.size (D+1);omega
   ·obtain⟨v,z⟩:=I.cell x c e;have q:@LT.lt Nat _ c s₂.heap.objs.size:=z.lt;show @Ne Nat c (D+1);omega
   ·have q:@LT.lt Nat _ p.1 s₂.heap.objs.size:=j8 (I.pin p hp).1;show @Ne Nat p.1 (D+1);omega
  ·refine thn (T.item (t9 X scope N' (D+1) cells s₂ H fp) rfl rfl rfl hc i _ s3 σ3 H3 _ I3p (hfp fr3 pinD) st3 go) λr s4 ⟨u,hr,h4'⟩=>?_;subst hr;refine thn h4' λ_ s5 ⟨x,H5,I5,r5,y5,st5,fr5⟩=>?_;have I5':=I5.pinned (hfp fr5 pinD) (T.obj _ _ st5);refine F8 (hg (D+1) cells s₂ H fp _ s5 σ3 H5 x u _ I5' r5 (step x H5 y5)) (λ_ s6 ⟨σ6,H6,I6,q6⟩=>?_) λ_ _ z=>z.elim;refine F8 (ht (D+1) cells s₂ H fp _ s6 σ6 H6 _ I6 q6) (λb s7 ⟨H7,I7,q7⟩=>?_) λ_ _ z=>z.elim;have fpK:∀{H':Hp} {s':Shared},Inv (t9 X scope N' (D+1) cells s₂ H fp) ([(D,{cls:=.type "list",data:=.seq its.toArray k})]++q6t fp s5.heap) σ6 H' s'->tn (i+1) s'.heap/\(∀b∈fp,H' b=none)/\s'.heap.get? D=some {cls:=.type "list",data:=.seq its.toArray k} /\ H' D=none:=λ{H' s'} J'=>by
    refine⟨T.keep _ _ _ st5 λb hb o e=>(J'.pin (b,o) (u7 _ (u7 _ (q2P hb e)))).1,λb hb=>?_,?_,?_⟩
    ·obtain⟨o,e,d⟩:=T.obj _ _ st5 b hb;exact(J'.pin (b,o) (u7 _ (u7 _ (q2P hb e)))).2.1
    ·exact(J'.pin (D,_) (u7 _ (u4 _ j5))).1
    ·exact(J'.pin (D,_) (u7 _ (u4 _ j5))).2.1
   cases b with
   | false=>
    rw[d5 K2]at q7 ⊢;obtain⟨m',hm,w7⟩:=q7;obtain⟨k1,k2,k3,k4⟩:=fpK I7;exact⟨m',hm,i+1,ys,its,k,σ6,H7,I7.pins_of (λp hp=>(nomatch hp)),k1,k2,k4,k3,rv,hl,w7⟩
   | true=>
    rw[d4 rfl]at q7 ⊢;refine F8 (he (D+1) cells s₂ H fp _ s7 σ6 H7 _ I7 q7) (λy s8 ⟨v8,H8,I8,r8,q8⟩=>?_) λ_ _ z=>z.elim
    obtain⟨m',hm,w8⟩:=q8;obtain⟨k1,k2,k3,k4⟩:=fpK I8;have hits:its.length<=sizeLine:=by rw[←rv.length];exact hl
    refine append_at k3 (λh9 hs9 hD9=>?_) (by rw[A7];exact hits);have I9:Inv (t9 X scope N' (D+1) cells s₂ H fp) [] σ6 H8 s8:=I8.pins_of λp hp=>(nomatch hp);refine⟨m',hm,i+1,ys++[v8],its++[y],k+1,σ6,H8,I9.turned (it:=D) (t':=s8.toks) (λb o hb e=>(hs9.2 b hb).trans e) k4 hDC (.inr (by show s₂.heap.objs.size<=D;omega)) hDcell (λp hp=>(nomatch hp)),?_,k2,k4,?_,rv.snoc r8,?_,w8⟩
    ·exact T.keep _ _ _ k1 λb hb o e=>(hs9.2 b (by have q:@LT.lt Nat _ b D:=ho b hb;show @Ne Nat b D;omega)).trans e
    ·rw[hD9,List.push_toArray]
    ·rw[C5,T9];omega
 exact codeAny_compStart_list loop (T.self X.A 0 _ _ _ (T.keep _ _ _ st λb _ o e=>keep b o e) loop)
def z6t(fr:List (Option Nat))(wi:TI)(g:TG)(tc:TT)(te:TE):TE:=λσ H Q=>wi σ H λJ H1=>z5v J g tc te (λys H'=>∀p,H' p=none->Q (.ref p) (upd H' p (.lst ys))) (inner fr σ) H1
theorem z6N(S:CompScope X.N N' scope X.env.scope fr)(hc:X.calm=true)(hi:PI X tg iter wi)
  (hg:∀C cells s₂ H₂ fp,PG (t9 X scope N' C cells s₂ H₂ fp) tg g) (ht:∀C cells s₂ H₂ fp,PTs (t9 X scope N' C cells s₂ H₂ fp) ifs tc) (he:∀C cells s₂ H₂ fp,PE (t9 X scope N' C cells s₂ H₂ fp) elt te)
  (hs:∀x,foldedSetIterable iter X.env x=pure x:=by intro _;rfl):PE X (.ListComp elt [⟨tg,iter,ifs,0⟩] scope pos) (z6t fr wi g tc te):=by
 intro pins s σ H Q I h;rw[eval_ListComp];have hfree:∀y∈scope.names,y.2=NameKind.free->∃c,X.env.cells.lookup y.1=some c:=λy hy hk=>I.ok.has y.1 (S.out y hy hk)
 refine w3v (use:=none) rfl hs (q2K hfree) S.kind (λx hx hl=>q0Q S.snd (by rw[←hl];exact hx)) (thn (hi pins s σ H _ I h) λv s1 h1=>thn h1 λitv s2 h2=>?_);obtain⟨it,fp,tn,J,H2,e,I2,T,st2,f2,w⟩:=h2;subst e;refine q7D (RR:=λacc C=>compPost (model X.prog X.w) X.A X.xe none (EP X pins σ Q) acc C) S hc hg ht he I2 T st2 f2 w ?_;intro D C H' s' m ys I' hD hnC hCn hCL hCs hCc hCp fin;exact⟨m,hnC,λh' hs'=>⟨.ref D,_,I'.turned (it:=C) (t':=s'.toks) (λb o hb e=>(hs'.2 b hb).trans e) hCn hCL (.inr hCs) hCc hCp,rfl,fin D hD⟩⟩
theorem q8w(S:CompScope X.N N' scope X.env.scope fr)(hc:X.calm=true)(hN:X.N.Nodup)(hiN:X.N[i]? = some y)
  (hy:X.env.scope.names.lookup y=some .local) (hi:PI X tg iter wi)
  (hg:∀C cells s₂ H₂ fp,PG (t9 X scope N' C cells s₂ H₂ fp) tg g) (ht:∀C cells s₂ H₂ fp,PTs (t9 X scope N' C cells s₂ H₂ fp) ifs tc) (he:∀C cells s₂ H₂ fp,PE (t9 X scope N' C cells s₂ H₂ fp) elt te)
  (hsw:swapsWith (.ListComp elt [⟨tg,iter,ifs,0⟩] scope pos) (some (.Name y py)) spos.line X.env=pure true:=by rfl)
  (hs:∀x,foldedSetIterable iter X.env x=pure x:=by intro _;rfl):PS X (.Assign [.Name y py] (.ListComp elt [⟨tg,iter,ifs,0⟩] scope pos) spos) (tAsg (z6t fr wi g tc te) (q8J i)):=by
 intro pins s σ H Dn I h;rw[exec_Assign_Name_used _ _ _ _ hsw];refine b9 (w3g (b9 ?_));show wpAny _ _ (do let _ ←comprehension (.ListComp elt [⟨tg,iter,ifs,0⟩] scope pos) scope X.env _ (newList []) false (eval iter X.env) (some (assign (.Name y py) X.env))) _ _ s;have hfree:∀y∈scope.names,y.2=NameKind.free->∃c,X.env.cells.lookup y.1=some c:=λy hy hk=>I.ok.has y.1 (S.out y hy hk)
 refine b9 (F8 (w3v (use:=some (assign (.Name y py) X.env)) (Q:=λ_ s'=>SP X pins Dn .next s') rfl hs (q2K hfree) S.kind (λx hx hl=>q0Q S.snd (by rw[←hl];exact hx))
  (thn (hi pins s σ H _ I h) λv s1 h1=>thn h1 λitv s2 h2=>?_)) (λ_ s' hq=>i4 (i4 hq)) λ_ _ e=>e)
 obtain⟨it,fp,tn,J,H2,e,I2,T,st2,f2,w⟩:=h2;subst e;refine q7D (RR:=λacc C=>compPost (model X.prog X.w) X.A X.xe (some (assign (.Name y py) X.env)) (λ_ s'=>SP X pins Dn .next s') acc C) S hc hg ht he I2 T st2 f2 w ?_;intro D C H' s' m ys I' hD hnC hCn hCL hCs hCc hCp fin;refine wpAny_assign_Name (q6k (v:=.ref D) I' hN hiN (Or.inl hy) rfl (λs'' I'' ⟨a,hsb,ha⟩=>⟨m,hnC.sameBut hsb ?_,λh' hs'=>⟨_,_,I''.turned (it:=C) (t':=s''.toks) (λb o hb e=>(hs'.2 b hb).trans e) hCn hCL (.inr hCs) hCc hCp,fin D hD⟩⟩) (.inr hy));rcases ha with z | z
 ·rw[z];exact hCL
 ·exact Ne.symm (hCc y a z)
end
section
theorem r6.there(x:r6 P w H h a o):∃ob,h.get? a=some ob:=by
 cases o with
 | lst xs=>obtain⟨_,_,_,_,e⟩:=x;exact⟨_,e⟩
 | tup xs=>obtain⟨_,_,_,ob,e,_⟩:=x;exact⟨_,e⟩
 | dK kvs=>obtain⟨_,_,_,_,o,_,_,e,_⟩:=x;exact⟨_,e⟩
 | dT kvs=>obtain⟨_,_,_,_,o,_,_,e,_⟩:=x;exact⟨_,e⟩
 | set S n=>obtain⟨o,_,_,_,e,_⟩:=x;exact⟨_,e⟩
 | ins C dx fs=>obtain⟨_,_,_,e,_⟩:=x;exact⟨_,e⟩
 | own y=>obtain⟨_,e⟩:=x;exact⟨_,e⟩
 | xd fs=>obtain⟨_,⟨_,_,_,e,_⟩,_⟩:=x;exact⟨_,e⟩
 | rng lo hi=>obtain⟨_,_,_,e⟩:=x;exact⟨_,e⟩
 | frz ob u=>obtain⟨e,_⟩:=x;exact⟨_,e⟩
 | tbl ps=>exact⟨_,(show h.get? a=some _ from x)⟩
 | met f y=>exact⟨_,(show h.get? a=some _ from x)⟩
 | ext φ=>obtain⟨_,⟨_,e⟩,_⟩:=x;exact⟨_,e⟩
structure Fly(P:Program)(w:World)(base:Heap)(l:List Env)(ea:Addr)(C:Value)(H:Hp)(B h:Heap):Prop where
 fly:∃a0,Heap.FlyingW B l ea C a0 h
 bas:∀b o,base.get? b=some o->B.get? b=some o
 hok:HOk P w H B
theorem Fly.stays(F:Fly P w base l ea C H B h):∀b o,B.get? b=some o->h.get? b=some o:=by
 obtain⟨a0,f⟩:=F.fly;exact f.1
theorem Fly.newE(F:Fly P w base l ea C H B h):B.get? ea=none:=by
 obtain⟨a0,f⟩:=F.fly;exact f.2.1
theorem Fly.untr(F:Fly P w base l ea C H B h):H ea=none:=by
 cases q:H ea with
 | none=>rfl
 | some o=>
  obtain⟨ob,e⟩:=(F.hok ea o q).there;rw[F.newE]at e;cases e
def CXx(P:Program)(w:World)(base:Heap):CXT:=λouter H s E e s'=>∃(ea:Addr) (C:Value) (H':Hp) (B:Heap),e=.ref ea/\s'.os=s.os/\AllBare s'.gens/\Un (frs outer) [] H H' s.heap s'.heap /\
 Fly P w base outer ea C H' B s'.heap/\(∀b o,s.heap.get? b=some o->b∉frs outer->∃o',B.get? b=some o')/\E C none H'
theorem Un.flown{fs ex:List Addr}{H H':Hp}{h0 h1 h2 B:Heap}(u:Un fs ex H H' h0 h1)(cov:∀b o,h0.get? b=some o->b∉fs->b∉ex->∃o',B.get? b=some o')(s1:∀b o,B.get? b=some o->h1.get? b=some o)(s2:∀b o,B.get? b=some o->h2.get? b=some o)
  (up:h1.UpToSlots h2) (fd:∀b∈fs,b∉ex/\H b=none/\∀o,h0.get? b=some o->∀vs,o.data ≠ .fields vs):Un fs ex H H' h0 h2:=by
 have keep:∀b o,h0.get? b=some o->H b=none->b∉fs->b∉ex->h2.get? b=some o:=λb o e n hb hx=>by have e1:=u.keep b o e n hb hx;obtain⟨o',q⟩:=cov b o e hb hx;have q1:=s1 b o' q;rw[e1]at q1;cases q1;exact s2 b o q
 have slot:∀b o,h0.get? b=some o->H b=none->b∈fs->b∉ex->∃sl,h2.get? b=some {o with slots:=sl}:=λb o e n hb hx=>by obtain⟨sl,e1⟩:=u.slot b o e n hb hx;obtain⟨sl',e2⟩:=up b _ e1 ((fd b hb).2.2 o e);exact⟨sl',e2⟩
 refine⟨keep,slot,u.free,λb o e hx=>?_,u.tups,u.frzs,u.tbls⟩;by_cases hb:b∈fs
 ·obtain⟨sl,q⟩:=slot b o e (fd b hb).2.1 hb hx;exact⟨_,q⟩
 ·obtain⟨o',q⟩:=cov b o e hb hx;exact⟨o',s2 b o' q⟩
section
variable {X:Cx} {pins:List (Addr×Obj)} {σ:St} {H:Hp} {s:Shared}
theorem Inv.frameData(I:Inv X pins σ H s):∀b∈X.fs,b∉X.ex/\X.H₀ b=none/\∀o,X.s₀.heap.get? b=some o->∀vs,o.data ≠ .fields vs:=λb hb=>by
 refine⟨λz=>I.ok.exfs b z hb,I.ok.frf b hb,λo e=>?_⟩;obtain⟨_,o',e',d⟩:=I.ok.funs.mem hb
 rw[e]at e';cases e';exact d
theorem Inv.notStk(I:Inv X pins σ H s)(e:X.s₀.heap.get? b=some o)(hb:b∉X.fs):b∉frs X.stack:=λz=>by
 rcases f9.mp (I.stkSub b z)with q | q
 ·exact absurd (x4 (j8 e) I.ok.above) (by rw[q];exact M5 _)
 ·exact hb q
theorem Inv.flown(I:Inv X pins σ H s)(F:Fly X.prog X.w X.base l ea C H B s.heap)(cov:∀b o,X.s₀.heap.get? b=some o->b∉frs X.stack->b∉X.ex->∃o',B.get? b=some o')
  (pc:∀p∈X.pn++pins,∃o',B.get? p.1=some o') (st:∀b o,B.get? b=some o->h'.get? b=some o) (up:s.heap.UpToSlots h'):Inv X pins σ H {s with heap:=h',toks:=t'}:=by
 have cellK:∀c v,s.heap.IsCell c v->h'.IsCell c v:=λc v ⟨o,ho,hd⟩=>by obtain⟨sl,q⟩:=up c o ho (λvs z=>by rw[hd]at z;cases z);exact⟨_,q,hd⟩
 refine⟨I.ok,I.os,I.bare,I.base.flown (λb o e hb hx=>cov b o e (I.notStk e hb) hx) F.stays st up I.frameData,?_,λx c e=>?_,I.free,I.freeC,λp hp=>?_,F.hok.kept st,I.len⟩
 ·obtain⟨m,hn,hl⟩:=I.loc;refine⟨m,up.ns hn,λi x v e1 e2 e3=>?_⟩;obtain⟨u,r,l⟩:=hl i x v e1 e2 e3;refine⟨u,r,?_⟩;rcases l with l | ⟨k,c,e,z⟩
  ·exact .inl l
  ·exact .inr ⟨k,c,e,cellK c _ z⟩
 ·obtain⟨v,z⟩:=I.cell x c e;exact⟨v,cellK c v z⟩
 ·obtain⟨e,n,ne,nf,d⟩:=I.pin p hp;obtain⟨o',q⟩:=pc p hp;have q1:=F.stays _ _ q;rw[e]at q1;cases q1;exact⟨st _ _ q,n,ne,nf,d⟩
end
section
variable {P:Program} {w:World} {K:PySem.W.Frag} {mg:Str->Option Value} {base:Heap} {N:List Str} {qual:Str} {scope:Scope} {f:Addr} {cd:Value} {A:Around} {outer:List Env} {s:Shared} {H:Hp} {E:XK}
abbrev cxD(P:Program)(w:World)(K:PySem.W.Frag)(mg:Str->Option Value)(base:Heap)(N:List Str)(qual:Str)(scope:Scope)(f:Addr)(cd:Value)(A:Around)(outer:List Env)(s:Shared)(H:Hp)(E:XK):Cx:=
 cxOf (CXx P w base) P w K mg base N qual scope f cd A outer s H E
theorem q7r{σ:St}(I:Inv (cxD P w K mg base N qual scope f cd A outer s H E) pins σ H1 s1)(hx:Heap.MadeExcOf s1.heap h' ea C vs)(hE:E C none H1) :
  (cxD P w K mg base N qual scope f cd A outer s H E).xe (.ref ea) {s1 with heap:=h'}:=by
 have hstk:=I.stack;have hin:∀env∈(cxD P w K mg base N qual scope f cd A outer s H E).stack,∀a,env.frame=some a->a∈frs (cxD P w K mg base N qual scope f cd A outer s H E).stack:=λenv he b hb=>O1.mpr ⟨env,he,hb⟩;have hB1:∀b o,(PySem.W.hideAll s1.heap (frs (cxD P w K mg base N qual scope f cd A outer s H E).stack)).get? b=some o->s1.heap.get? b=some o:=λb o q=>PySem.W.of_hideAll _ q;have hHid:∀b u,H1 b≠none->s1.heap.get? b=some u->(PySem.W.hideAll s1.heap (frs (cxD P w K mg base N qual scope f cd A outer s H E).stack)).get? b=some u:=λb u hb q=>w2v _ q λz=>hb (I.stkFree b z);refine wpAny_leaves_madeW (base:=PySem.W.hideAll s1.heap (frs (cxD P w K mg base N qual scope f cd A outer s H E).stack)) (h:=s1.heap) I.ok.frames rfl hB1 (PySem.W.funFrames_hide hstk hin) hx λh2 t fl tup nt up=>?_;have hcov:∀b o,s.heap.get? b=some o->b∉frs outer->∃o',(PySem.W.hideAll s1.heap (frs (cxD P w K mg base N qual scope f cd A outer s H E).stack)).get? b=some o':=λb o e hb=>by obtain⟨o1,e1⟩:=I.base.there b o e (by intro z;exact nomatch z);exact⟨o1,w2v _ e1 (I.notStk e hb)⟩
 refine⟨ea,C,H1,_,rfl,I.os,I.bare,I.base.flown (λb o e hb _=>hcov b o e hb) hB1 fl.1 ((Heap.UpToSlots.of_keeps hx.keeps).trans up) I.frameData,⟨⟨_,fl⟩,λb o e=>?_,λa o q=>?_⟩,hcov,hE⟩
 ·refine w2v _ (I.bk b o e) λz=>?_;have q:base.get? b=none:=(hstk.mem z).1;rw[q]at e;cases e
 ·refine(I.hok a o q).stay (λb u hc e=>hHid b u ?_ e) (λ_ z=>z) λ_ _ z=>z;rcases hc with z | z
  ·subst z;rw[q];intro z;cases z
  ·rw[z];intro z;cases z
theorem z2X{σ:St}(I:Inv (cxD P w K mg base N qual scope f cd A outer s H E) pins σ H1 s1)(F:Fly P w base (cxD P w K mg base N qual scope f cd A outer s H E).stack ea C H1 B s1.heap)
  (cov:∀b o,s.heap.get? b=some o->b∉frs (cxD P w K mg base N qual scope f cd A outer s H E).stack->∃o',B.get? b=some o') (hE:E C none H1):(cxD P w K mg base N qual scope f cd A outer s H E).xe (.ref ea) s1:=by
 obtain⟨a0,fl⟩:=F.fly;refine wpAny_leaves_onW I.ok.frames rfl fl λh2 fl2 up=>?_
 have hcov:∀b o,s.heap.get? b=some o->b∉frs outer->∃o',B.get? b=some o':=λb o e hb=>cov b o e (I.notStk e hb);exact⟨ea,C,H1,B,rfl,I.os,I.bare,I.base.flown (λb o e hb _=>hcov b o e hb) F.stays fl2.1 up I.frameData,⟨⟨_,fl2⟩,F.bas,F.hok⟩,hcov,hE⟩
theorem q8A:z1i (CXx P w base) (cxD P w K mg base N qual scope f cd A outer s H E) E:=by
 intro pins σ H0 s0 e s' I hcx;obtain⟨ea,C,H',B,rfl,os,bare,un,F,cov,hE⟩:=hcx;have I':Inv (cxD P w K mg base N qual scope f cd A outer s H E) pins σ H' s':=I.call' os un (F.hok.kept F.stays) bare λb hb=>nomatch hb
 refine z2X I' F (λb o e hb=>?_) hE;obtain⟨o1,e1⟩:=I.base.there b o e (by intro z;exact nomatch z);exact cov b o1 e1 hb
end
def excO(ea:Addr)(C:Value):HO:=.ext λh=>∃oe vs,h.get? ea=some oe/\oe.cls=C/\oe.data=.fields vs
theorem z6I(x:∃oe vs,h.get? ea=some oe/\oe.cls=C/\oe.data=.fields vs):r6 P w H h ea (excO ea C):=by
 refine⟨x,?_,λh1 h2 p k=>?_⟩
 ·obtain⟨oe,_,e,_⟩:=x;exact⟨oe,e⟩
 ·obtain⟨oe,vs,e,c,d⟩:=p;exact⟨oe,vs,k oe e,c,d⟩
def XP(X:Cx)(pins:List (Addr×Obj))(E:St->Value->Hp->Prop)(e:Value)(s':Shared):Prop:=∃(ea:Addr) (C:Value) (σ':St) (H':Hp) (B:Heap),e=.ref ea/\Inv X pins σ' H' s'/\Fly X.prog X.w X.base X.stack ea C H' B s'.heap /\
 (∀b o,X.s₀.heap.get? b=some o->b∉frs X.stack->b∉X.ex->∃o',B.get? b=some o')/\(∀p∈X.pn++pins,∃o',B.get? p.1=some o')/\E σ' C H'
abbrev Cx.tryIn(X:Cx)(pins:List (Addr×Obj))(E:St->Value->Hp->Prop):Cx:={X with pn:=X.pn++pins,xe:=XP X pins E}
abbrev Cx.inExc(X:Cx)(ea:Addr):Cx:={X with A:=X.A.mark (some (.ref ea)),calm:=false,xe:=λ_ _=>False}
section
variable {X:Cx} {pins pins':List (Addr×Obj)} {σ:St} {H:Hp} {s:Shared} {E:St->Value->Hp->Prop} {ea:Addr}
theorem Cx.Ok.tryIn(k:X.Ok):(X.tryIn pins E).Ok:=⟨k.mod,k.kind,k.glob,k.blt,k.above,k.inj,k.has,k.cab,k.hd,k.frames,k.stk,k.exf,k.bs,k.bsz,k.noex,k.exfs,k.funs,k.frf⟩
theorem Cx.Ok.untry(k:(X.tryIn pins E).Ok):X.Ok:=⟨k.mod,k.kind,k.glob,k.blt,k.above,k.inj,k.has,k.cab,k.hd,k.frames,k.stk,k.exf,k.bs,k.bsz,k.noex,k.exfs,k.funs,k.frf⟩
theorem Cx.Ok.inExc(k:X.Ok):(X.inExc ea).Ok:=⟨k.mod,k.kind,k.glob,k.blt,k.above,k.inj,k.has,k.cab,(λz=>(nomatch z)),k.frames,k.stk,k.exf,k.bs,k.bsz,k.noex,k.exfs,k.funs,k.frf⟩
theorem Inv.tryIn(I:Inv X (pins++pins') σ H s):Inv (X.tryIn pins E) pins' σ H s:=
 ⟨I.ok.tryIn,I.os,I.bare,I.base,I.loc,I.cell,I.free,I.freeC,λp hp=>I.pin p (by have hp:p∈(X.pn++pins)++pins':=hp;rw[Q3]at hp;exact hp),I.hok,I.len⟩
theorem Inv.untry(I:Inv (X.tryIn pins E) pins' σ H s):Inv X (pins++pins') σ H s:=
 ⟨I.ok.untry,I.os,I.bare,I.base,I.loc,I.cell,I.free,I.freeC,λp hp=>I.pin p (by show p∈(X.pn++pins)++pins';rw[Q3];exact hp),I.hok,I.len⟩
theorem Inv.inExc(I:Inv X pins σ H s):Inv (X.inExc ea) pins σ H s:=⟨I.ok.inExc,I.os,I.bare,I.base,I.loc,I.cell,I.free,I.freeC,I.pin,I.hok,I.len⟩
theorem Inv.unExc(I:Inv (X.inExc ea) pins σ H s)(k:X.Ok):Inv X pins σ H s:=⟨k,I.os,I.bare,I.base,I.loc,I.cell,I.free,I.freeC,I.pin,I.hok,I.len⟩
theorem Inv.track(I:Inv X pins σ H s)(hn:H a=none)(h0:X.s₀.heap.get? a=none)(hL:a≠X.env.locals)(hc:∀x c,X.env.cells.lookup x=some c->c≠a)(hp:∀p∈X.pn++pins,p.1≠a)(new:r6 X.prog X.w (upd H a o) s.heap a o) :
  Inv X pins σ (upd H a o) s:=
 ⟨I.ok,I.os,I.bare,I.base.track hn h0,I.loc,I.cell,by rw[j4 (Ne.symm hL)];exact I.free,λx c e=>by rw[j4 (hc x c e)];exact I.freeC x c e,λp hq=>by
  obtain⟨e,n,ne,nf,d⟩:=I.pin p hq;exact⟨e,by rw[j4 (hp p hq)];exact n,ne,nf,d⟩,I.hok.track hn new,I.len⟩
theorem q3z(I:Inv X pins σ H s)(hN:X.N.Nodup)(hi:X.N[i]? = some x)(hx:X.env.scope.names.lookup x=some .local)
  (h:∀s',Inv X pins (σ.set i none) H s'->Q () s'):wpAny M A (do bindName X.env x .none;unbindBehindTheSuite X.env x pos) Q EE s:=by
 obtain⟨m,hn,hl⟩:=id I.loc;have hcls:(X.env.scope.kind == .class||(X.env.scope.kind == .module&&X.env.locals != X.env.globals))=false:=by rw[I.ok.kind];rfl
 have hiσ:i<σ.length:=by rw[I.len];exact(w9.mp hi).1
 have cne:=I.cne;have tracked:∀{h':Heap},Heap.SameBut X.env.locals s.heap h'->HOk X.prog X.w H h':=λ{h'} hs b ob e=>by
  refine(I.hok b ob e).stay (λc w' hc q=>(hs.2 c ?_).trans q) (λ_ q=>q) λ_ _ q=>q
  rintro rfl
  rcases hc with rfl | hc
  ·rw[I.free]at e;cases e
  ·rw[I.free]at hc;cases hc
 refine wpAny_nameGoes_keeps hx hn hcls λh' v hn' hs=>?_;refine h _ ⟨I.ok,I.os,I.bare,⟨λb o e n hb hx=>?_,λb o e n hb hx=>?_,I.base.free,λb o e hx=>?_,I.base.tups,I.base.frzs,I.base.tbls⟩,⟨_,hn',λj y v' e1 e2 e3=>?_⟩,λy c e=>?_,I.free,I.freeC,λp hp=>?_,tracked hs,by simpa using I.len⟩
 ·exact(hs.2 b (B3 (x4 (j8 e) I.ok.above))).trans (I.base.keep b o e n hb hx)
 ·obtain⟨sl,e1⟩:=I.base.slot b o e n hb hx;exact⟨sl,(hs.2 b (B3 (x4 (j8 e) I.ok.above))).trans e1⟩
 ·obtain⟨o',e1⟩:=I.base.there b o e hx;exact⟨o',(hs.2 b (B3 (x4 (j8 e) I.ok.above))).trans e1⟩
 ·by_cases hj:j=i
  ·subst hj;rw[C8 hiσ]at e2;cases e2
  ·rw[d6 (Ne.symm hj)]at e2;obtain⟨u',r',q⟩:=hl j y v' e1 e2 e3;refine⟨u',r',?_⟩;rcases q with⟨k,e⟩ | ⟨k,c,e,z⟩
   ·refine .inl ⟨k,?_⟩;have:y≠x:=λe=>hj (q4i hN e1 (e▸hi));simp[this,e]
   ·exact .inr ⟨k,c,e,z.sameBut hs (cne y c e)⟩
 ·obtain⟨w',z⟩:=I.cell y c e;exact⟨w',z.sameBut hs (cne y c e)⟩
 ·obtain⟨e,n,ne,nf,d⟩:=I.pin p hp;exact⟨(hs.2 p.1 ne).trans e,n,ne,nf,d⟩
end
def q3G(CX:CXT)(X:Cx)(E:St->XK):Prop:=∀(pins:List (Addr×Obj)) (σ:St) (H:Hp) (s:Shared) (e:Value) (s':Shared),Inv X pins σ H s->CX X.stack H s (E σ) e s'->X.xe e s'
theorem z1i.s(h:z1i CX X E):q3G CX X λ_=>E:=λpins σ H s e s' I q=>h pins σ H s e s' I q
theorem q8C{X:Cx}{pins:List (Addr×Obj)}{E:St->Value->Hp->Prop}:q3G (CXx X.prog X.w X.base) (X.tryIn pins E) (λσ C _ H=>E σ C H):=by
 intro pins' σ H0 s0 e s' I hcx;obtain⟨ea,C,H',B,rfl,os,bare,un,F,cov,hE⟩:=hcx;have I':Inv (X.tryIn pins E) pins' σ H' s':=I.call' os un (F.hok.kept F.stays) bare λb hb=>nomatch hb
 have J:=I'.untry;refine⟨ea,C,σ,H',B,rfl,J.pins_of λp hp=>J.pin p (u7 _ (u4 _ hp)),F,λb o e hb hx=>?_,λp hp=>?_,hE⟩
 ·obtain⟨o1,e1⟩:=I.base.there b o e hx;exact cov b o1 e1 hb
 ·obtain⟨e,n,ne,nf,d⟩:=I.pin p (u4 _ hp);exact cov p.1 p.2 e λz=>(f9.mp (I.stkSub _ z)).elim ne nf
section
variable {X:Cx} {CX:CXT} {k:Nat} {f C:Addr} {fd:FuncData} {ps:List Str} {sp:Sp} {dvs:List V} {ds:List Value} {E:St->XK} {x m:Str} {p pos apos:Pos} {e o:Expr} {es:List Expr} {ta:TE} {t:TA}
theorem z4u{σ:St}(F:FnOk X.prog X.w X.K X.mg X.base CX k f fd ps sp)(hr:Room k X.A)(hb:J2 X.K fd ps ds)(hd:Vals dvs ds)(hx:q3G CX X E)
  (I:Inv X pins σ H s) (r:Vals vs us) (h:sp (vs++dvs) H Q (E σ)):wpAny (model X.prog X.w) X.A (call (.ref f) us) (EP X pins σ Q) X.xe s:=by
 have r2:Vals (vs++dvs) (us++ds):=r.append hd;have hl:(us++ds).length=ps.length:=by rw[←r2.length];exact F.len _ _ _ _ h
 refine wpAny_call (w3u (F.run X.A X.stack s H ⟨us,[]⟩ (us++ds) (vs++dvs) Q (E σ) hr I.env0 (hb s us I.kIn hl) r2 h) λr s' hq=>?_);cases r with
 | error e=>exact hx pins σ H s e s' I hq
 | ok fl=>
  cases fl with
  | ret u=>exact I.after hq
  | next=>exact False.elim hq
  | brk=>exact False.elim hq
  | cont=>exact False.elim hq
def z4e(sp:Sp)(dvs:List V)(E:St->XK)(t:TA):TE:=λσ H Q=>t σ H λvs H1=>sp (vs++dvs) H1 Q (E σ)
theorem q7R(F:FnOk X.prog X.w X.K X.mg X.base CX k f fd ps sp)(hr:Room k X.A)(hg:Gl X x)(hm:X.mg x=some (.ref f))(hk:PySem.W.keepIn X.K (.ref f)=true)(hb:J2 X.K fd ps ds)(hd:Vals dvs ds)(hx:q3G CX X E)
  (ha:PA X (e::es) t) (hdb:(x==("__debug__" : Str))=false:=by decide) (he:starEach (e::es) X.env=(false,eval e X.env)::starEach es X.env:=by rfl) (hpl:(backTo pos (starEach es X.env)).any (·.1)=false:=by rfl) :
  PE X (.Call (.Name x p) (e::es) [] pos) (z4e sp dvs E t):=by
 intro pins s σ H Q I h;refine w26 (q5T I hg hm ?_ hdb);refine PySem.W.callWith_K (h₀:=X.base) I.ok.mod.kin hk (thn (ha pos pins s σ H _ I h) λus s1 ⟨vs,H1,I1,r,q⟩=>⟨I1.kIn,?_⟩) he hpl;exact z4u F hr hb hd hx I1 r q
end
def tTry(K:PySem.W.Frag)(cv:Value)(i:Nat)(tb:(St->Value->Hp->Prop)->TS)(ts:TS):TS:=λD σ H=>
 tb (λσ' C H'=>PySem.W.exmOne K C cv=some true/\∀ea,H' ea=none->ts {nx:=λσ2 H2=>D.nx (σ2.set i none) H2,rt:=D.rt,bk:=λσ2 H2=>D.bk (σ2.set i none) H2,ct:=λσ2 H2=>D.ct (σ2.set i none) H2} (σ'.set i (some (.ref ea))) (upd H' ea (excO ea C))) D σ H
theorem z8y(hst:X.stack=X.env::X.outer)(hfr:X.env.frame=some X.env.locals)(hex:X.ex=[])(hgl:Gl X c)(hm:X.mg c=some cv)
  (hN:X.N.Nodup) (hi:X.N[i]? = some n) (hl:X.env.scope.names.lookup n=some .local) (hb:∀pins E,PSs (X.tryIn pins E) body (tb E)) (hs:∀ea,PSs (X.inExc ea) (b₀::suite) ts) (hd:(c==("__debug__" : Str))=false:=by decide) :
  PS X (.Try body [.ExceptHandler (some (.Name c np)) (some n) (b₀::suite) hpos] [] [] pos) (tTry X.K cv i tb ts):=by
 intro pins s σ H D I h;refine wpAny_Try_except ?_;have un:∀{σ1:St} {H1:Hp} {s1:Shared} {E:St->Value->Hp->Prop},Inv (X.tryIn pins E) [] σ1 H1 s1->Inv X pins σ1 H1 s1:=λ{σ1 H1 s1 E} J=>by have q:=J.untry;rw[M4]at q;exact q
 refine F8 (hb pins _ [] s σ H D (Inv.tryIn (pins':=[]) (by rw[M4];exact I)) h) (λf s1 q=>?_) (λe s1 q=>?_)
 ·cases f with
  | next=>obtain⟨σ1,H1,I1,q1⟩:=q;exact w2x ⟨σ1,H1,un I1,q1⟩
  | brk=>obtain⟨σ1,H1,I1,q1⟩:=q;exact⟨σ1,H1,un I1,q1⟩
  | cont=>obtain⟨σ1,H1,I1,q1⟩:=q;exact⟨σ1,H1,un I1,q1⟩
  | ret u=>obtain⟨v,σ1,H1,I1,r1,q1⟩:=q;exact⟨v,σ1,H1,un I1,r1,q1⟩
 ·obtain⟨ea,C,σ1,H1,B,rfl,I1,F,cov,pc,hE,hsuite⟩:=q;obtain⟨a0,fl⟩:=F.fly;have fl':Heap.FlyingW B (X.env::X.outer) ea C a0 s1.heap:=by rw[←hst];exact fl
  refine wpAny_looks_onW (by rw[←hst];exact I1.ok.frames) hfr fl' λh4 held up4=>?_;refine wpAny_landsW held λh5 fl5 up5=>?_;have up:=up4.trans up5;have I5:Inv X pins σ1 H1 {s1 with heap:=h5}:=I1.flown (t':=s1.toks) F cov pc fl5.1 up;have J5:Inv (X.inExc ea) pins σ1 H1 {s1 with heap:=h5}:=I5.inExc;obtain⟨oe,ws,hoe,hoec,hoed,hoe0⟩:=fl5.first
  refine wpAny_handleBy_cons (codeAny_handlers_test ?_) (by intro q;cases q);refine q5T J5 hgl hm ?_ hd;have LT:PySem.W.Looks (model X.prog X.w) h5 (typeOf (.ref ea)) C:=hoec▸(PySem.W.Looks.ld hoe).andThen .now;refine(PySem.W.exm_one (M:=model X.prog X.w) (K:=X.K) (h:=h5) J5.kIn LT hE).here ?_;show codeAny _ _ (.handlers (.ref ea) [.ExceptHandler none (some n) (b₀::suite) hpos] X.env) _ _;refine codeAny_handlers_suite_as ?_;refine lands_againW fl5 λh6 fl6 up6=>?_;have I6:Inv X pins σ1 H1 {s1 with heap:=h6}:=I1.flown (t':=s1.toks) F cov pc fl6.1 (up.trans up6);obtain⟨oe6,ws6,hoe6,hoec6,hoed6,_⟩:=fl6.first
  have hn:H1 ea=none:=F.untr;have h0:X.s₀.heap.get? ea=none:=by
   cases q:X.s₀.heap.get? ea with
   | none=>rfl
   | some o=>
    exfalso;by_cases hf:ea∈frs X.stack
    ·obtain⟨_,o',e',d⟩:=I6.stack.mem hf;have e'':h6.get? ea=some o':=e';rw[hoe6]at e'';cases e'';exact d _ hoed6
    ·obtain⟨o',z⟩:=cov ea o q hf (by rw[hex];intro z;exact nomatch z);rw[F.newE]at z;cases z
  have hL:ea≠X.env.locals:=λz=>by
   obtain⟨m,⟨o,es,ep,ho,hdd,_⟩,_⟩:=I6.loc;have ho':h6.get? ea=some o:=by rw[z];exact ho
   rw[hoe6]at ho';cases ho';rw[hoed6]at hdd;cases hdd
  have hc:∀x c,X.env.cells.lookup x=some c->c≠ea:=λx c e z=>by
   obtain⟨v,o,ho,hdd⟩:=I6.cell x c e;have ho':h6.get? ea=some o:=by rw[←z];exact ho
   rw[hoe6]at ho';cases ho';rw[hoed6]at hdd;cases hdd
  have hp:∀p∈X.pn++pins,p.1≠ea:=λp hp z=>by obtain⟨o',q⟩:=pc p hp;rw[z,F.newE]at q;cases q
  have J6:Inv (X.inExc ea) pins σ1 (upd H1 ea (excO ea C)) {s1 with heap:=h6}:=(I6.track hn h0 hL hc hp (z6I ⟨oe6,ws6,hoe6,hoec6,hoed6⟩)).inExc;refine q3v (X:=X.inExc ea) (i:=i) (v:=.ref ea) J6 hN hi (Or.inl hl) rfl (λs7 I7=>?_) (.inr hl);refine F8 (hs ea pins s7 _ _ _ I7 (hsuite ea hn)) (λf s8 q=>?_) λ_ _ z=>z.elim;cases f with
  | next=>obtain⟨σ8,H8,I8,q8⟩:=q;exact q3z (I8.unExc I.ok) hN hi hl λs9 I9=>⟨_,H8,I9,q8⟩
  | brk=>obtain⟨σ8,H8,I8,q8⟩:=q;exact q3z (I8.unExc I.ok) hN hi hl λs9 I9=>⟨_,H8,I9,q8⟩
  | cont=>obtain⟨σ8,H8,I8,q8⟩:=q;exact q3z (I8.unExc I.ok) hN hi hl λs9 I9=>⟨_,H8,I9,q8⟩
  | ret u=>obtain⟨v,σ8,H8,I8,r8,q8⟩:=q;exact q3z (I8.unExc I.ok) hN hi hl λs9 I9=>⟨v,_,H8,I9,r8,q8⟩
theorem z2V{K:PySem.W.Frag}{h₀:Heap}{mg:Str->Option Value}{x:Str}{C:Addr}{bmB:List Value}{newId:String}(X:K.In h₀)(hm:mg x=some (.ref C))(q:PySem.W.excIn K C bmB newId=true):OwnCls x C bmB newId mg h₀:=by
 refine⟨hm,?_⟩;unfold PySem.W.excIn at q;split at q
 ·rename_i dd cd sl ho;split at q
  ·rename_i C' bm k0 k1 k2 k3 n k5 hm hs;simp only[d7,i8,v9]at q;obtain⟨⟨⟨⟨⟨rfl,rfl⟩,hdel⟩,ht⟩,hok⟩,hni⟩:=q;obtain⟨nm,bs,mro,ns,qn,hd,sn,sub,ab,col,del⟩:=cd;dsimp only at hm hdel hok hni;subst hm hdel;have hsl:sl = #[k0,k1,k2,k3,some (.builtin n),k5]:=by
    obtain⟨l⟩:=sl;simp only at hs;rw[hs]
   subst hsl;exact⟨bm,ns,nm,qn,bs,hd,sn,sub,ab,col,dd,k0,k1,k2,k3,k5,_,X _ _ ho,.of_isNs (PySem.W.isNs_of_in X hok),PySem.W.nsMap_none_of_in X hok hni,PySem.W.tail_of_in X ht⟩
  ·cases q
 ·cases q
def q4q(X:Cx)(E:St->XK):Prop:=∀(pins:List (Addr×Obj)) (σ:St) (H:Hp) (s:Shared) (h':Heap) (ea:Addr) (C:Value) (vs:List Value),Inv X pins σ H s->Heap.MadeExcOf s.heap h' ea C vs->E σ C none H->X.xe (.ref ea) {s with heap:=h'}
theorem q8q{P:Program}{w:World}{K:PySem.W.Frag}{mg:Str->Option Value}{base:Heap}{N:List Str}{qual:Str}{scope:Scope}{f:Addr}{cd:Value}{A:Around}{outer:List Env}{s:Shared}{H:Hp}{E:XK} :
  q4q (cxD P w K mg base N qual scope f cd A outer s H E) λ_=>E:=λpins σ H1 s1 h' ea C vs I hx hE=>q7r I hx hE
def z8l(C:Addr)(E:St->XK)(t:TA):TS:=λ_ σ H=>t σ H λvs H1=>vs.length<=sizeLine/\E σ (.ref C) none H1
theorem z3d{X:Cx}{x:Str}{C:Addr}{bmB:List Value}{B newId initId:String}{np cpos pos:Pos}{e₀:Expr}{rest:List Expr}{t:TA}{E:St->XK}(FB:ExcBaseFacts B newId initId bmB)(hc:X.calm=true)(hg:Gl X x)(hm:X.mg x=some (.ref C))(hx:PySem.W.excIn X.K C bmB newId=true)
  (hR:q4q X E) (ha:PA X (e₀::rest) t) (hd:(x==("__debug__" : Str))=false:=by decide) (he:starEach (e₀::rest) X.env=(false,eval e₀ X.env)::starEach rest X.env:=by rfl) (hpl:(backTo cpos (starEach rest X.env)).any (·.1)=false:=by rfl) :
  PS X (.Raise (some (.Call (.Name x np) (e₀::rest) [] cpos)) none pos) (z8l C E t):=by
 intro pins s σ H D I h;obtain⟨tl,N,nm,q,bs,hdct,sn,sub,ab,col,dd,k0,k1,k2,k3,k5,mN,hC,hN,hni,T⟩:=(z2V I.mod.kin hm hx).obj;refine wpAny_Raise_call_subT (C:=C) (nm:=nm) (q:=q) (N:=N) (bs:=bs) (bm:=tl) (hdct:=hdct) (sn:=sn) (sub:=sub) (ab:=ab) (col:=col) (dd:=dd) (k0:=k0) (k1:=k1) (k2:=k2) (k3:=k3) (k5:=k5)
  FB (mN:=mN) (T.hasType FB.hasBase) (I.ok.hd hc) (by rw[he];show(false||(backTo cpos (starEach rest X.env)).any (·.1))=false;rw[hpl];rfl) hni (q5T I hg hm ⟨rfl,?_⟩ hd)
 have hq:=ha cpos pins s σ H _ I h;rw[he]at hq ⊢;exact Calls.evalArgs_plain (thn hq λvs s₂ ⟨xs,H2,I2,r2,hl,hE⟩=>⟨rfl,by show vs.length<=sizeLine;rw[←r2.length];exact hl,I2.bk _ _ hC,hN.keeps I2.bk,T.keeps I2.bk,λh' e hm'=>hR pins σ H2 s₂ h' e _ _ I2 hm' hE⟩)
end
end L2
end
noncomputable section
namespace L2
open PySem PySem.W PySem.Spec PySem.Calls PyProof.Rows PySem.Builtin PySem.Builtin.ObjectAttr PySem.Builtin.Getset_descriptor
section
def U7(x D:Addr)(h:Heap):Prop:=∃o,h.get? x=some o/\o.cls=.ref D
section
variable {prog:Program} {w:World} {K:Frag} {x D:Addr} {M:Model} {h:Heap}
theorem U7.ty(p:U7 x D h):Looks M h (typeOf (.ref x)) (.ref D):=by
 obtain⟨o,e,c⟩:=p;exact c▸(Looks.ld e).andThen .now
theorem q9Z(X:K.In h)(h1:findIn K (.ref D) n=some (some a))(h2:specialIn K a "__get__" = some (some g))(h3:takesIn K a=some true):Looks M h (find (.ref x) (.ref D) n) (.bind g a):=by
 have T:Looks M h (dataDescriptor? (some a) (some g)) (some (g,a)):=(looks_takesIn X h3).andThen .now;exact(looks_findIn X h1).andThen ((show Looks M h (getOf (some a)) (some g)from looks_specialIn X h2).andThen (T.andThen (Looks.tag .now)))
structure ClsK(K:Frag)(D:Addr):Prop where
 ga:findIn K (.ref D) "__getattribute__" = some (some (.builtin "BaseException.__getattribute__"))
 gt:findIn K (.ref D) "__getattr__" = some none
 mb:mroIn K D (.type "BaseException")=some true
 hd:hasDictIn K D=true
 fc:findIn K (.ref D) "__class__" = some (some (.builtin "object.__class__"))
 sg:specialIn K (.builtin "object.__class__") "__get__" = some (some (.builtin "getset_descriptor.__get__"))
 tk:takesIn K (.builtin "object.__class__")=some true
 mo:mroIn K D (.type "object")=some true
variable {A:Around} {E:Value->Shared->Prop} {s:Shared}
theorem z4E(X:K.In s.heap)(p:U7 x D s.heap)(hm:mroIn K D (.type "object")=some true)(q:R (.ok (.ret (.ref D))) s) :
  codeAny (model prog w) A (.call (.builtin "getset_descriptor.__get__") ⟨[.builtin "object.__class__",.ref x,tp],[]⟩) R s:=by
 obtain⟨h0,g0,d0,t0,o0⟩:=s;have T0:=p.ty (M:=model prog w);have T1:=looks_mroIn (M:=model prog w) X hm;refine codeAny_call_builtin KF.slot_gs.plain KF.entry_gs (KF.slot_gs.check _ _ _ _ _ _ _ _ KF.type_class (KF.args_gs _ _ _) ?_);unfold Builtin.«getset_descriptor.__get__»;unfold descrGet;rw[dga_obj];refine b9 (i4 ?_);unfold descrGetter;unfold descrCheckInstance;unfold descrNameAndClass;unfold isInstance;simp only[KF.owner_class]
 repeat lk
 refine⟨Code.quiet_builtin _ (by decide +kernel),codeAny_builtin KF.entry_class ?_⟩;unfold Builtin.«object.__class__»;unfold shownTypeOf
 repeat lk
 exact q
theorem z2P(C:ClsK K D)(X:K.In s.heap)(p:U7 x D s.heap)(q:Q () s):wpAny (model prog w) A (checkBuiltinCall "BaseException.__getattribute__" ⟨[.ref x,nm],[]⟩) Q E s:=by
 obtain⟨h0,g0,d0,t0,o0⟩:=s;have k1:builtinKind "BaseException.__getattribute__" = some .slot:=by decide +kernel
 have k2:splitId "BaseException.__getattribute__" = some ("BaseException","__getattribute__"):=by decide +kernel
 have T0:=p.ty (M:=model prog w);have T1:=looks_mroIn (M:=model prog w) X C.mb;have ha:=F.args_bexc_ga (.ref x) nm;simp only[checkBuiltinCall,k1,k2];refine b9 ((show Looks (model prog w) _ (isInstance (.ref x) (.type "BaseException")) true from T0.andThen T1).at ?_)
 repeat (any_goals (first | assumption | wp_step))
theorem z1A(C:ClsK K D)(X:K.In s.heap)(p:U7 x D s.heap)(q:Q (.done (.ret (.ref D))) s):wpAny (model prog w) A (Builtin.«object.__getattribute__» ⟨[.ref x,.str "__class__" tk],[]⟩) Q E s:=by
 obtain⟨h0,g0,d0,t0,o0⟩:=s;have T0:=p.ty (M:=model prog w);have T3:=q9Z (M:=model prog w) (x:=x) X C.fc C.sg C.tk;unfold Builtin.«object.__getattribute__»
 repeat (any_goals (first | assumption | with_reducible refine T0.at ?_ | with_reducible refine T3.at ?_ | wp_step))
 refine z4E X p C.mo ?_
 repeat (any_goals (first | assumption | wp_step))
theorem z2E(C:ClsK K D)(X:K.In s.heap)(p:U7 x D s.heap)(q:Q (some (.ref D)) {s with toks:=s.toks+1}):wpAny (model prog w) A (getAttr? (.ref x) "__class__") Q E s:=by
 obtain⟨h0,g0,d0,t0,o0⟩:=s;have T0:=p.ty (M:=model prog w);have T1:=looks_findIn (M:=model prog w) X C.ga;have T2:=looks_findIn (M:=model prog w) X C.gt;have f3:=F.attr_ValueError.ga.bind (.ref x);unfold getAttr?;unfold getAttrBy?;unfold getAttrBy;refine b9 (wpAny_mkText (b9 (X0 (W8 (b9 (T0.at (b9 (T1.at ?_))))))));dsimp only;have ne:(onTheHeap (Value.ref D)&&Value.builtin "BaseException.__getattribute__" == Value.builtin "object.__getattribute__")=false:=(by rw[show(Value.builtin "BaseException.__getattribute__" == Value.builtin "object.__getattribute__")=false by decide +kernel,w2W]);rw[d5 (by rw[ne];exact K2)];unfold getAttrByItsOwn;unfold hookBefore;rw[d4 (show onTheHeap (Value.ref D)=true from rfl)];refine b9 (T2.at ?_);refine b9 (X0 (W8 ?_));unfold callGetattribute;rw[d5 (by decide)]
 repeat (any_goals (first | assumption | wp_step))
 refine codeAny_call_builtin F.attr_ValueError.ga.plain F.entry_bexc_ga (z2P C X p (z1A C X p ?_));exact handed_on rfl (i4 q)
theorem z4X(C:ClsK K D):KitX K (.ref x) (.ref D) (U7 x D) where
 ty:=λ_ _ _ p=>p.ty
 it:=λM h X _=>by
  obtain⟨cd,e,_⟩:=any_some C.hd;unfold clsIn at e;split at e
  ·rename_i ho;intro A1 Q1 E1 s1 k1 q1;unfold isType;unfold loadHead;exact b9 (wpAny_loadPart (k1 _ _ (X _ _ ho)) (i4 q1))
  ·cases e
 ne:=λh tp dd its n sl X e2=>by
  obtain⟨cd,e,_⟩:=any_some C.hd;rw[Bool.eq_false_iff];intro z;have e1:D=tp:=Value.ref.inj (i8.mp z);subst e1;unfold clsIn at e;split at e
  ·rename_i ho;cases(X _ _ ho).symm.trans e2
  ·cases e
 ca:=λX p k=>z2E C X p k
theorem z5C(C:ClsK K D)(X:K.In s.heap)(p:U7 x D s.heap)(e:kitOne K (.ref D) c=some b)(q:∀tk,Q (.bool b) {s with toks:=tk}):wpAny (model prog w) A (call (.builtin "isinstance") [.ref x,c]) Q E s:=
 kia_one (z4X C) X p e (λz=>nomatch z) q
end
end
end L2
end
noncomputable section
namespace L2
open PySem PySem.Spec PyProof.Rows
section
structure Src(P:Program)(w:World)(ia la:Addr)(vs:Array Value)(S:Nat->Heap->Prop):Prop where
 keep:∀k h h',S k h->(∀o,h.get? ia=some o->h'.get? ia=some o)->(∀o,h.get? la=some o->h'.get? la=some o)->S k h'
 there:∀k h,S k h->∃o xs,h.get? ia=some o/\o.data=.fields xs
 step:∀{A:Around} {E:Value->Shared->Prop} {s:Shared} {Q:Value->Shared->Prop} (k:Nat) (x:Value),S k s.heap->vs[k]? = some x->(∀h',S (k+1) h'->Heap.SameBut ia s.heap h'->Q x {s with heap:=h'}) ->
  wpAny (model P w) A (Builtin.SmallTypes.nextOf (.ref ia)) Q E s
 stop:∀{A:Around} {E:Value->Shared->Prop} {s:Shared} {Q:Value->Shared->Prop} (k:Nat),A.handled=none->S k s.heap->vs[k]? = none ->
  (∀h' e,Heap.ExtBut ia s.heap h'->(∃o,h'.get? e=some o/\o.cls=.type "StopIteration")->E (.ref e) {s with heap:=h'})->wpAny (model P w) A (Builtin.SmallTypes.nextOf (.ref ia)) Q E s
def sL(ia la:Addr)(vs:Array Value):Nat->Heap->Prop:=λk h=>h.IsListIter ia la k/\h.IsList la vs
def sT(ia la:Addr)(vs:Array Value):Nat->Heap->Prop:=λk h=>h.IsTupleIter ia la k/\h.IsTuple la vs
theorem z2O(ne:la≠ia):Src P w ia la vs (sL ia la vs) where
 keep:=λk h h' ⟨p,q⟩ e1 e2=>⟨p.at e1,q.at e2⟩
 there:=λk h ⟨p,q⟩=>by obtain⟨o,e,_,d⟩:=p;exact⟨o,_,e,d⟩
 step:=λk x ⟨p,q⟩ hx hq=>wpAny_nextOf_list_item p q hx λh' p' sb=>hq h' ⟨p',q.extBut sb.extBut ne⟩ sb
 stop:=λk hh ⟨p,q⟩ hx hq=>wpAny_nextOf_list_end hh p q hx hq
section
variable {P:Program} {w:World} {A:Around} {E:Value->Shared->Prop} {s:Shared}
theorem z1Q(p:s.heap.IsTupleIter ja ta k)(q:s.heap.IsTuple ta vs)(hx:vs[k]? = some x)(hq:∀h',h'.IsTupleIter ja ta (k+1)->Heap.SameBut ja s.heap h'->Q x {s with heap:=h'}) :
  wpAny (model P w) A (Builtin.SmallTypes.nextOf (.ref ja)) Q E s:=by
 obtain⟨ob,e1,e2,e3⟩:=id p;obtain⟨ot,f1,_,nn,f3⟩:=q;unfold Builtin.SmallTypes.nextOf;refine b9 (T7 (name:=Str.ofString "__next__") p.typeIs w1X (Q5 w1X p.typeIs w27 ?_ (w2X _)));show wpAny _ _ (field (.ref ja) 0 >>= _) _ _ s;refine b9 (B1 e1 e3 (x:=.ref ta) rfl ?_);show wpAny _ _ (if(Value.ref ta==Value.none)=true then _ else _) _ _ s;rw[d5 (show ¬((Value.ref ta==Value.none)=true)from K2)];show wpAny _ _ (field (.ref ja) 1 >>= _) _ _ s;refine b9 (B1 e1 e3 (x:=.int k 0) rfl ?_);show wpAny _ _ (seqItems? (.ref ta) >>= _) _ _ s;refine b9 (U2 f1 f3 ?_);simp only[B8,hx];refine b9 (wpAny_setField e1 e3 (by simp) (i4 ⟨x,rfl,i4 (hq _ ?_ (Heap.SameBut.update ..))⟩));exact⟨_,w3Y _ e1 (Obj.isFreed_of_fields (Obj.data_mapFields e3 _)),(Obj.cls_mapFields ..).trans e2,by rw[Obj.data_mapFields e3];simp[rawInt]⟩
theorem z2e(hh:A.handled=none)(p:s.heap.IsTupleIter ja ta k)(q:s.heap.IsTuple ta vs)(hx:vs[k]? = none)(hE:∀h' e,Heap.ExtBut ja s.heap h'->(∃o,h'.get? e=some o/\o.cls=.type "StopIteration")->E (.ref e) {s with heap:=h'}) :
  wpAny (model P w) A (Builtin.SmallTypes.nextOf (.ref ja)) Q E s:=by
 obtain⟨ob,e1,e2,e3⟩:=id p;obtain⟨ot,f1,_,nn,f3⟩:=q;unfold Builtin.SmallTypes.nextOf;refine b9 (T7 (name:=Str.ofString "__next__") p.typeIs w1X (Q5 w1X p.typeIs w27 ?_ (w2X _)));show wpAny _ _ (field (.ref ja) 0 >>= _) _ _ s;refine b9 (B1 e1 e3 (x:=.ref ta) rfl ?_);show wpAny _ _ (if(Value.ref ta==Value.none)=true then _ else _) _ _ s;rw[d5 (show ¬((Value.ref ta==Value.none)=true)from K2)];show wpAny _ _ (field (.ref ja) 1 >>= _) _ _ s;refine b9 (B1 e1 e3 (x:=.int k 0) rfl ?_);show wpAny _ _ (seqItems? (.ref ta) >>= _) _ _ s;refine b9 (U2 f1 f3 ?_);simp only[B8,hx];refine b9 (w3n (b9 (wpAny_setField e1 e3 (by simp) ?_)));show wpAny _ _ (newExc (.type "StopIteration") [] >>= λy=>raiseNew y) _ _ _;refine b9 ?_;simp only[newExc,newTuple];refine b9 (M2 ?_ (by size_fits));refine b9 (m:=firstArgMember _ _) (wpAny_of_eq (a:=Value.none) (by first | rfl | (simp only[firstArgMember];rfl)) ?_);refine M2 ?_ (by size_fits);simp only[raiseNew];refine b9 (wpAny_handled ?_)
 first | rw[show A.in1.handled=none from hh] | rw[hh]
 refine b9 (i4 (wpAny_throw (hE _ _ (((Heap.SameBut.update ..).extBut.push _).push _) ⟨_,x9 _ rfl,rfl⟩)))
theorem z6D(ne:la≠ia):Src P w ia la vs (sT ia la vs) where
 keep:=λk h h' ⟨p,q⟩ e1 e2=>⟨by obtain⟨o,e,r⟩:=p;exact⟨o,e1 o e,r⟩,by obtain⟨o,e,r⟩:=q;exact⟨o,e2 o e,r⟩⟩
 there:=λk h ⟨p,q⟩=>by obtain⟨o,e,_,d⟩:=p;exact⟨o,_,e,d⟩
 step:=λk x ⟨p,q⟩ hx hq=>z1Q p q hx λh' p' sb=>hq h' ⟨p',q.extBut sb.extBut ne⟩ sb
 stop:=λk hh ⟨p,q⟩ hx hq=>z2e hh p q hx hq
variable {Z U W a b l1 l2:Addr} {k:Nat} {vs1 vs2:Array Value} {S1 S2:Nat->Heap->Prop} {x y c d:Value}
theorem Src.ext(R:Src P w ia la vs S)(q:S k h)(hs:Heap.ExtBut e h h')(n1:ia≠e)(n2:la≠e):S k h':=R.keep k h h' q (λo z=>hs _ _ n1 z) (λo z=>hs _ _ n2 z)
theorem z3i{Q:Value->Shared->Prop}(D:ZipApart Z U W a b l1 l2)(R1:Src P w a l1 vs1 S1)(R2:Src P w b l2 vs2 S2)(hz:IsZip s.heap Z U W .none)(hU:IsPair s.heap U (.ref a) (.ref b))(hW:IsPair s.heap W c d)(h1:S1 k s.heap)(h2:S2 k s.heap)(hx:vs1[k]? = some x)(hy:vs2[k]? = some y)
  (hQ:∀h',IsZip h' Z U W (rawInt s.heap.objs.size)->IsPair h' W x y->S1 (k+1) h'->S2 (k+1) h'->IsPair h' s.heap.objs.size x y->h'.objs.size=s.heap.objs.size+1->(∀e o,e≠Z->e≠W->e≠a->e≠b->s.heap.get? e=some o->h'.get? e=some o)->Q (.ref s.heap.objs.size) {s with heap:=h'}) :
  wpAny (model P w) A (Builtin.«zip.__next__» ⟨[.ref Z],[]⟩) (λfin s'=>∃v,fin=.done (.ret v)/\Q v s') E s:=by
 show wpAny _ _ (field (.ref Z) 2 >>= _) _ _ _;refine b9 (B1 hz rfl (x:=.bool false) rfl ?_);show wpAny _ _ (field (.ref Z) 3 >>= _) _ _ _;refine b9 (B1 hz rfl (x:=.ref U) rfl (b9 (U2 hU rfl ?_)));show wpAny _ _ (Builtin.SmallTypes.ownedTupleIsFree (.ref Z) >>= _) _ _ _;refine b9 ?_;unfold Builtin.SmallTypes.ownedTupleIsFree;refine b9 (B1 hz rfl (x:=.none) rfl (i4 ?_));simp only[if_true];refine b9 (w3n (b9 (B1 hz rfl (x:=.ref W) rfl ?_)));refine b9 (F5 hz (by simp) λg1 z1 t1=>?_)
 replace z1:IsZip g1 Z U W .ellipsis:=z1
 refine b9 ?_;simp only[List.zipIdx_cons,List.zipIdx_nil,w3M,List.forIn_nil];refine b9 (b9 (w3i ?_));show wpAny _ _ (Builtin.SmallTypes.nextOf (.ref a) >>= _) _ _ _;refine b9 (R1.step k x (R1.ext h1 t1.extBut D.i1z D.l1z) hx λg2 r2 t2=>i4 ?_);have w2:IsPair g2 W c d:=t2.extBut _ _ D.TOi1 (t1.extBut _ _ D.TOz hW);refine b9 (U2 w2 rfl (b9 (w2P w2 λg3 w3 t3=>?_)))
 replace w3:IsPair g3 W x d:=w3
 refine b9 (w2Z (i4 ?_));refine b9 (b9 (w3i ?_));show wpAny _ _ (Builtin.SmallTypes.nextOf (.ref b) >>= _) _ _ _;refine b9 (R2.step k y (R2.ext (R2.ext (R2.ext h2 t1.extBut D.i2z D.l2z) t2.extBut D.i12.symm D.l2i1) t3.extBut D.TOi2.symm D.l2TO) hy λg4 r4 t4=>i4 ?_);have w4:IsPair g4 W x d:=t4.extBut _ _ D.TOi2 w3;refine b9 (U2 w4 rfl (b9 (w2P w4 λg5 w5 t5=>?_)))
 replace w5:IsPair g5 W x y:=w5
 refine b9 (w2Z (i4 (i4 (b9 (U2 w5 rfl (b9 (w3Z ?_)))))));have sz:g5.objs.size=s.heap.objs.size:=by rw[t5.1,t4.1,t3.1,t2.1,t1.1]
 have z5:IsZip g5 Z U W .ellipsis:=t5.extBut _ _ D.TOz.symm (t4.extBut _ _ D.i2z.symm (t3.extBut _ _ D.TOz.symm (t2.extBut _ _ D.i1z.symm z1)));have kk:∀e o,e≠Z->e≠W->e≠a->e≠b->s.heap.get? e=some o->g5.get? e=some o:=λe o n1 n2 n3 n4 z=>t5.extBut _ _ n2 (t4.extBut _ _ n4 (t3.extBut _ _ n2 (t2.extBut _ _ n3 (t1.extBut _ _ n1 z))));have r15:S1 (k+1) g5:=R1.ext (R1.ext (R1.ext r2 t3.extBut D.TOi1.symm D.l1TO) t4.extBut D.i12 D.l1i2) t5.extBut D.TOi1.symm D.l1TO;have r25:S2 (k+1) g5:=R2.ext r4 t5.extBut D.TOi2.symm D.l2TO;have zlt:Z<g5.objs.size:=j8 z5;show wpAny _ _ (Builtin.SmallTypes.ownedTupleHandOut (.ref Z) (.ref g5.objs.size) >>= _) _ _ _;refine b9 ?_;unfold Builtin.SmallTypes.ownedTupleHandOut;have z6:IsZip (g5.push {cls:=.type "tuple",data:=.seq #[x,y]}) Z U W .ellipsis:=m5 _ z5;refine b9 (F5 z6 (by simp) λg7 z7 t7=>?_)
 replace z7:IsZip g7 Z U W (rawInt g5.objs.size):=z7
 refine F5 z7 (by simp) λg8 z8 t8=>?_
 replace z8:IsZip g8 Z U W (rawInt g5.objs.size):=z8
 have up:∀e o,e≠Z->g5.get? e=some o->g8.get? e=some o:=λe o n z=>t8.extBut _ _ n (t7.extBut _ _ n (m5 _ z));have T8:IsPair g8 g5.objs.size x y:=t8.extBut _ _ (Q8 zlt) (t7.extBut _ _ (Q8 zlt) (x9 _ rfl));have s8:g8.objs.size=g5.objs.size+1:=by rw[t8.1,t7.1,K4]
 rw[sz]at z8 T8 s8;refine i4 ⟨_,rfl,?_⟩;show Q (.ref g5.objs.size) _;rw[sz];exact hQ g8 z8 (up _ _ D.TOz w5) (R1.keep _ _ _ r15 (λo z=>up _ o D.i1z z) (λo z=>up _ o D.l1z z)) (R2.keep _ _ _ r25 (λo z=>up _ o D.i2z z) (λo z=>up _ o D.l2z z)) T8 s8 λe o n1 n2 n3 n4 z=>up e o n1 (kk e o n1 n2 n3 n4 z)
theorem z2h(hh:A.handled=none)(D:ZipApart Z U W a b l1 l2)(R1:Src P w a l1 vs1 S1)(R2:Src P w b l2 vs2 S2)(hz:IsZip s.heap Z U W .none)(hU:IsPair s.heap U (.ref a) (.ref b))(hW:IsPair s.heap W c d)(h1:S1 k s.heap)(h2:S2 k s.heap)(hend:vs1[k]? = none\/vs2[k]? = none)
  (hE:∀h' e,(∀f o,f≠Z->f≠W->f≠a->f≠b->s.heap.get? f=some o->h'.get? f=some o)->(∃o,h'.get? e=some o/\o.cls=.type "StopIteration")->E (.ref e) {s with heap:=h'}) :
  wpAny (model P w) A (Builtin.«zip.__next__» ⟨[.ref Z],[]⟩) Q E s:=by
 show wpAny _ _ (field (.ref Z) 2 >>= _) _ _ _;refine b9 (B1 hz rfl (x:=.bool false) rfl ?_);show wpAny _ _ (field (.ref Z) 3 >>= _) _ _ _;refine b9 (B1 hz rfl (x:=.ref U) rfl (b9 (U2 hU rfl ?_)));show wpAny _ _ (Builtin.SmallTypes.ownedTupleIsFree (.ref Z) >>= _) _ _ _;refine b9 ?_;unfold Builtin.SmallTypes.ownedTupleIsFree;refine b9 (B1 hz rfl (x:=.none) rfl (i4 ?_));simp only[if_true];refine b9 (w3n (b9 (B1 hz rfl (x:=.ref W) rfl ?_)));refine b9 (F5 hz (by simp) λg1 z1 t1=>?_)
 replace z1:IsZip g1 Z U W .ellipsis:=z1
 refine b9 ?_;simp only[List.zipIdx_cons,List.zipIdx_nil,w3M,List.forIn_nil];refine b9 (b9 (w3i ?_));show wpAny _ _ (Builtin.SmallTypes.nextOf (.ref a) >>= _) _ _ _;cases hx:vs1[k]? with
 | none=>
  refine b9 (R1.stop k hh (R1.ext h1 t1.extBut D.i1z D.l1z) hx λg2 e t2 he=>?_);obtain⟨oe,q1,q2⟩:=he;have z2:IsZip g2 Z U W .ellipsis:=t2 _ _ D.i1z.symm z1;have ez:e≠Z:=λz=>by subst z;rw[z2]at q1;cases q1;simp at q2
  exact F5 z2 (by simp) λg3 _ t3=>hE g3 e (λf o n1 _ n3 _ z=>t3.extBut _ _ n1 (t2 _ _ n3 (t1.extBut _ _ n1 z))) ⟨oe,t3.extBut _ _ ez q1,q2⟩
 | some x=>
  have hy:vs2[k]? = none:=by rcases hend with h | h;rw[hx]at h;cases h;exact h
  refine b9 (R1.step k x (R1.ext h1 t1.extBut D.i1z D.l1z) hx λg2 r2 t2=>i4 ?_);have w2:IsPair g2 W c d:=t2.extBut _ _ D.TOi1 (t1.extBut _ _ D.TOz hW);refine b9 (U2 w2 rfl (b9 (w2P w2 λg3 w3 t3=>?_)));refine b9 (w2Z (i4 ?_));refine b9 (b9 (w3i ?_));show wpAny _ _ (Builtin.SmallTypes.nextOf (.ref b) >>= _) _ _ _;refine b9 (R2.stop k hh (R2.ext (R2.ext (R2.ext h2 t1.extBut D.i2z D.l2z) t2.extBut D.i12.symm D.l2i1) t3.extBut D.TOi2.symm D.l2TO) hy λg4 e t4 he=>?_);obtain⟨oe,q1,q2⟩:=he;have z4:IsZip g4 Z U W .ellipsis:=t4 _ _ D.i2z.symm (t3.extBut _ _ D.TOz.symm (t2.extBut _ _ D.i1z.symm z1));have ez:e≠Z:=λz=>by subst z;rw[z4]at q1;cases q1;simp at q2
  exact F5 z4 (by simp) λg5 _ t5=>hE g5 e (λf o n1 n2 n3 n4 z=>t5.extBut _ _ n1 (t4 _ _ n4 (t3.extBut _ _ n2 (t2.extBut _ _ n3 (t1.extBut _ _ n1 z))))) ⟨oe,t5.extBut _ _ ez q1,q2⟩
theorem z1B(D:ZipApart Z U W a b l1 l2)(R1:Src P w a l1 vs1 S1)(R2:Src P w b l2 vs2 S2)(hz:IsZip s.heap Z U W .none)(hU:IsPair s.heap U (.ref a) (.ref b))(hW:IsPair s.heap W c d)(h1:S1 k s.heap)(h2:S2 k s.heap)(hx:vs1[k]? = some x)(hy:vs2[k]? = some y)
  (hQ:∀h',IsZip h' Z U W (rawInt s.heap.objs.size)->IsPair h' W x y->S1 (k+1) h'->S2 (k+1) h'->IsPair h' s.heap.objs.size x y->h'.objs.size=s.heap.objs.size+1->(∀e o,e≠Z->e≠W->e≠a->e≠b->s.heap.get? e=some o->h'.get? e=some o)->Q (some (.ref s.heap.objs.size)) {s with heap:=h'}) :
  wpAny (model P w) A (pyNext (.ref Z)) Q E s:=by
 have T:s.TypeIs (.ref Z) "zip":=⟨_,hz,rfl⟩;unfold pyNext;exact b9 (X0 (T7 (name:=Str.ofString "__next__") T w2Q (Q5 w2Q T F.entry_zip_next (z3i D R1 R2 hz hU hW h1 h2 hx hy λh' b1 b2 b3 b4 b5 b6 b7=>i4 (hQ h' b1 b2 b3 b4 b5 b6 b7)) (F.args_zip_next_1 _))))
theorem q9A(hh:A.handled=none)(D:ZipApart Z U W a b l1 l2)(R1:Src P w a l1 vs1 S1)(R2:Src P w b l2 vs2 S2)(hz:IsZip s.heap Z U W .none)(hU:IsPair s.heap U (.ref a) (.ref b))(hW:IsPair s.heap W c d)(h1:S1 k s.heap)(h2:S2 k s.heap)(hend:vs1[k]? = none\/vs2[k]? = none)
  (hQ:∀h',(∀f o,f≠Z->f≠W->f≠a->f≠b->s.heap.get? f=some o->h'.get? f=some o)->Q none {s with heap:=h'}):wpAny (model P w) A (pyNext (.ref Z)) Q E s:=by
 have T:s.TypeIs (.ref Z) "zip":=⟨_,hz,rfl⟩;unfold pyNext;refine b9 (X0 (T7 (name:=Str.ofString "__next__") T w2Q (Q5 w2Q T F.entry_zip_next (z2h hh D R1 R2 hz hU hW h1 h2 hend λh' e hk he=>?_) (F.args_zip_next_1 _))));obtain⟨o,q1,q2⟩:=he;exact b9 (w3w (T:="StopIteration") (b:=true) ⟨o,q1,q2⟩ w30 (i4 (hQ _ hk)))
end
def SqK(t:Bool)(h:Heap)(l:Addr)(vs:Array Value):Prop:=match t with | false=>h.IsList l vs | true=>h.IsTuple l vs
def sK(t:Bool)(ia la:Addr)(vs:Array Value):Nat->Heap->Prop:=match t with | false=>sL ia la vs | true=>sT ia la vs
theorem q8S(t:Bool)(ne:la≠ia):Src P w ia la vs (sK t ia la vs):=by
 cases t
 ·exact z2O ne
 ·exact z6D ne
def itN:Bool->String | false=>"list_iterator" | true=>"tuple_iterator"
abbrev itO(t:Bool)(l:Addr):Obj:={cls:=.type (itN t),data:=.fields #[.ref l,.int 0 0]}
abbrev zH1(h:Heap)(t1:Bool)(l1:Addr):Heap:=h.push (itO t1 l1)
abbrev zH2(h:Heap)(t1 t2:Bool)(l1 l2:Addr):Heap:=(zH1 h t1 l1).push (itO t2 l2)
abbrev zH3(h:Heap)(t1 t2:Bool)(l1 l2:Addr):Heap:=(zH2 h t1 t2 l1 l2).push {cls:=.type "tuple",data:=.seq #[.ref h.objs.size,.ref (zH1 h t1 l1).objs.size]}
abbrev zH4(h:Heap)(t1 t2:Bool)(l1 l2:Addr):Heap:=(zH3 h t1 t2 l1 l2).push {cls:=.type "tuple",data:=.seq #[.none,.none]}
abbrev zH5(h:Heap)(t1 t2:Bool)(l1 l2:Addr):Heap:=(zH4 h t1 t2 l1 l2).push {cls:=.type "zip",data:=.fields #[.none,.bool false,.bool false,.ref (zH2 h t1 t2 l1 l2).objs.size,.ref (zH3 h t1 t2 l1 l2).objs.size]}
theorem z2o(t1 t2:Bool)(l1 l2:Addr)(vs1 vs2:Array Value):Meets (Builtin.«zip.__new__» ⟨[.type "zip",.ref l1,.ref l2],[]⟩) (λ_ R s=>SqK t1 s.heap l1 vs1/\SqK t2 s.heap l2 vs2/\R (.ok (.ret (.ref (zH4 s.heap t1 t2 l1 l2).objs.size))) {s with heap:=zH5 s.heap t1 t2 l1 l2}):=
 .of_wp λP w A R s h=>by
  obtain⟨h0,g0,d0,k0,o0⟩:=s;obtain⟨q1,q2,h⟩:=h;have hsub:=sub_zip;cases t1<;>cases t2
  ·have e1:Heap.IsList (Shared.heap ⟨h0,g0,d0,k0,o0⟩) l1 vs1:=q1;have e2:Heap.IsList (Shared.heap ⟨h0.push {cls:=.type "list_iterator",data:=.fields #[.ref l1,.int 0 0]},g0,d0,k0,o0⟩) l2 vs2:=Heap.IsList.push q2 _
   wp_walk using w1Z e1,w1Z e2
   exact⟨_,rfl,h⟩
  ·have e1:Heap.IsList (Shared.heap ⟨h0,g0,d0,k0,o0⟩) l1 vs1:=q1;have e2:Heap.IsTuple (Shared.heap ⟨h0.push {cls:=.type "list_iterator",data:=.fields #[.ref l1,.int 0 0]},g0,d0,k0,o0⟩) l2 vs2:=Heap.IsTuple.push q2 _
   wp_walk using w1Z e1,Q2 e2
   exact⟨_,rfl,h⟩
  ·have e1:Heap.IsTuple (Shared.heap ⟨h0,g0,d0,k0,o0⟩) l1 vs1:=q1;have e2:Heap.IsList (Shared.heap ⟨h0.push {cls:=.type "tuple_iterator",data:=.fields #[.ref l1,.int 0 0]},g0,d0,k0,o0⟩) l2 vs2:=Heap.IsList.push q2 _
   wp_walk using Q2 e1,w1Z e2
   exact⟨_,rfl,h⟩
  ·have e1:Heap.IsTuple (Shared.heap ⟨h0,g0,d0,k0,o0⟩) l1 vs1:=q1;have e2:Heap.IsTuple (Shared.heap ⟨h0.push {cls:=.type "tuple_iterator",data:=.fields #[.ref l1,.int 0 0]},g0,d0,k0,o0⟩) l2 vs2:=Heap.IsTuple.push q2 _
   wp_walk using Q2 e1,Q2 e2
   exact⟨_,rfl,h⟩
theorem z0o(e:h'.get? ia=some (itO t la))(q:SqK t h la vs)(k:∀c o,h.get? c=some o->h'.get? c=some o):sK t ia la vs 0 h':=by
 cases t
 ·exact⟨⟨_,e,rfl,rfl⟩,Heap.IsList.at q λo z=>k _ o z⟩
 ·exact⟨⟨_,e,rfl,rfl⟩,by obtain⟨o,z,r⟩:=q;exact⟨o,k _ o z,r⟩⟩
theorem q9g{P:Program}{w:World}{A:Around}{E:Value->Shared->Prop}{s:Shared}{l1 l2:Addr}{vs1 vs2:Array Value}{Q:Value->Shared->Prop}(t1 t2:Bool)(q1:SqK t1 s.heap l1 vs1)(q2:SqK t2 s.heap l2 vs2)
  (h:∀h',IsZip h' (s.heap.objs.size+4) (s.heap.objs.size+2) (s.heap.objs.size+3) .none->IsPair h' (s.heap.objs.size+2) (.ref s.heap.objs.size) (.ref (s.heap.objs.size+1))->IsPair h' (s.heap.objs.size+3) .none .none->sK t1 s.heap.objs.size l1 vs1 0 h'->sK t2 (s.heap.objs.size+1) l2 vs2 0 h'->h'.objs.size=s.heap.objs.size+5 ->
   (∀c o,s.heap.get? c=some o->h'.get? c=some o)->Q (.ref (s.heap.objs.size+4)) {s with heap:=h'}):wpAny (model P w) A (call (.type "zip") [.ref l1,.ref l2]) Q E s:=by
 refine callType_new F.called_zip (by decide) (F.typeCall_zip_2 _ _) (F.newCall_zip_2 _ _) (λobj=>F.args_object_init_3 obj _ _) F.entry_zip_new (z2o t1 t2 l1 l2 vs1 vs2) ⟨q1,q2,?_⟩;have n1:(zH1 s.heap t1 l1).objs.size=s.heap.objs.size+1:=K4 ..;have n2:(zH2 s.heap t1 t2 l1 l2).objs.size=s.heap.objs.size+2:=by rw[K4,n1]
 have n3:(zH3 s.heap t1 t2 l1 l2).objs.size=s.heap.objs.size+3:=by rw[K4,n2]
 have n4:(zH4 s.heap t1 t2 l1 l2).objs.size=s.heap.objs.size+4:=by rw[K4,n3]
 have n5:(zH5 s.heap t1 t2 l1 l2).objs.size=s.heap.objs.size+5:=by rw[K4,n4]
 have e5:(zH5 s.heap t1 t2 l1 l2).get? (zH4 s.heap t1 t2 l1 l2).objs.size=some _:=x9 _ rfl;have e4:(zH5 s.heap t1 t2 l1 l2).get? (zH3 s.heap t1 t2 l1 l2).objs.size=some _:=m5 _ (x9 _ rfl);have e3:(zH5 s.heap t1 t2 l1 l2).get? (zH2 s.heap t1 t2 l1 l2).objs.size=some _:=m5 _ (m5 _ (x9 _ rfl));have e2:(zH5 s.heap t1 t2 l1 l2).get? (zH1 s.heap t1 l1).objs.size=some _:=m5 _ (m5 _ (m5 _ (x9 _ rfl)));have e1:(zH5 s.heap t1 t2 l1 l2).get? s.heap.objs.size=some _:=m5 _ (m5 _ (m5 _ (m5 _ (x9 _ rfl))));have kp:∀c o,s.heap.get? c=some o->(zH5 s.heap t1 t2 l1 l2).get? c=some o:=λc o z=>m5 _ (m5 _ (m5 _ (m5 _ (m5 _ z))));show _/\_;rw[n2,n3,n4]at e5;rw[n1,n2]at e3;rw[n3]at e4;rw[n1]at e2;rw[n4];exact⟨⟨_,e5,rfl⟩,h _ e5 e3 e4 (z0o e1 q1 kp) (z0o e2 q2 kp) n5 kp⟩
end
end L2
end
noncomputable section
namespace L2
open PySem
section
inductive DKey where
 | i (n:Int) | s (x:Str) | t (l:List (Sum Int Str))
 deriving DecidableEq
inductive DV where
 | non | bl (b:Bool) | int (i:Int) | str (x:Str) | tup (ds:List DV) | lst (ds:List DV) | dct (ks:List DKey) (vs:List DV)
 | exc (c:Str) | fn (x:Str)
 | scr (ns:List Int)
inductive Cl where
 | weak | top | strong | fresh | ft
 deriving DecidableEq
inductive Re where
 | ok (d:DV) (c:Cl) | ex (c:Str)
inductive Rs where
 | ok (l:List (DV×Cl)) | ex (c:Str)
inductive Rt where
 | ok (b:Bool) | ex (c:Str)
inductive Sv where
 | no | val (d:DV) | own (d:DV) | ot (d:DV)
 | o2 (d:DV)
 | od (d:DV)
def otD:DV->DV
 | .dct _ ds=>.tup ds
 | d=>d
inductive Ou where
 | v (d:DV) (fr:Bool) | x (c:Str) | t (d:DV)
inductive Out where
 | nx (δ:List Sv) | rt (d:DV) (fr:Bool) | ex (c:Str) (δ:List Sv) | rtt (d:DV)
inductive Bi where
 | len | abs | min | max | sum | any | int | list | tuple | lsti
 deriving DecidableEq
inductive Mt where
 | bitLength | index | get
 deriving DecidableEq
inductive Tg where
 | one (i:Nat) | many (is:List Nat)
inductive ME where
 | var (i:Nat) | int (i:Int) | bl (b:Bool) | str (x:Str) | non | glb (x:Str)
 | bin (op:Operator) (a b:ME) | neg (a:ME)  | not (a:ME)
 | cmp (op:CmpOp) (a b:ME) | chain (op op':CmpOp) (a b c:ME)
 | and (es:List ME) | or (es:List ME)
 | lst (es:List ME) | tup (es:List ME) | dct (i:Int) (e:ME) | dc0
 | ix (a b:ME) | sl (a lo hi:ME) | slf (a lo:ME) | slt (a hi:ME)
 | call (f:Nat) (es:List ME)   | bi (f:Bi) (es:List ME) | isi (a:ME) (ts:List Str) | isx (a:ME) (t:Str)
 | comp (elt:ME) (tg:Tg) (it:ME) (fr:List (Option Nat)) | compi (elt:ME) (tg:Tg) (it c:ME) (fr:List (Option Nat))
 | dgt (i:Nat) (k e:ME) | dix (a k:ME)
 | rng (es:List ME) | enu (a:ME) | zp (a b:ME) | itm (a:ME)
inductive MS where
 | set (i:Nat) (own:Bool) (e:ME)  | par (is:List Nat) (es:List ME)
 | app (i:Nat) (e:ME)  | seti (i:Nat) (k e:ME)
 | exp (e:ME) | ret (e:ME)  | iff (c:ME) (a b:List MS) | fo (tg:Tg) (it:ME) (body:List MS) | wh (c:ME) (body:List MS)
 | ret2 (a b:ME) | setp (i:Nat) (f:Nat) (es:List ME) | oapp (i k:Nat) (e:ME) | oclr (i k:Nat) | retp (i:Nat)
 | sed (i:Nat) | dput (i:Nat) (k e:ME) | retd (i:Nat)
 | rse (c:Str) (e:ME) | tryc (body:List MS) (c:Str) (ie ic:Nat)
 | frz (i:Nat)
structure FD where
 n:Nat
 np:Nat
 dfl:List DV:=[]
 kn:Option Str:=none
 body:List MS
def Re.thn(r:Option Re)(k:DV->Cl->Option Re):Option Re:=match r with
 | none=>none
 | some (.ex c)=>some (.ex c)
 | some (.ok d c)=>k d c
def Rs.thn(r:Option Rs)(k:List (DV×Cl)->Option Re):Option Re:=match r with
 | none=>none
 | some (.ex c)=>some (.ex c)
 | some (.ok l)=>k l
def Re.thnT(r:Option Re)(k:DV->Cl->Option Rt):Option Rt:=match r with
 | none=>none
 | some (.ex c)=>some (.ex c)
 | some (.ok d c)=>k d c
mutual
def DV.immut:DV->Bool
 | .non=>true | .bl _=>true | .int _=>true | .str _=>true | .exc _=>true | .fn _=>true | .scr _=>true
 | .tup ds=>DV.immuts ds
 | .lst _=>false
 | .dct _ vs=>DV.immuts vs
def DV.immuts:List DV->Bool
 | []=>true
 | d::r=>d.immut&&DV.immuts r
end
def stro(d:DV):Cl->Bool
 | .strong=>true | .fresh=>true | .ft=>true | _=>d.immut
def stros(l:List (DV×Cl)):Bool:=l.all λp=>stro p.1 p.2
def Cl.item:Cl->Cl
 | .weak=>.weak | _=>.strong
def Cl.anew:Cl->Cl->Cl
 | .weak,_=>.weak | _,.weak=>.weak | _,_=>.fresh
def mostLen:Nat:=1000000
mutual
def deq:DV->DV->Bool
 | .non,.non=>true
 | .bl a,.bl b=>a==b
 | .bl a,.int j=>(if a then 1 else 0)==j
 | .int i,.bl b=>i==(if b then 1 else 0)
 | .int i,.int j=>i==j
 | .str a,.str b=>decide (a=b)
 | .tup a,.tup b=>deqs a b
 | .lst a,.lst b=>deqs a b
 | _,_=>false
def deqs:List DV->List DV->Bool
 | [],[]=>true
 | a::r,b::s=>deq a b&&deqs r s
 | _,_=>false
end
mutual
def DV.plain:Nat->DV->Bool
 | _,.non=>true | _,.bl _=>true | _,.int _=>true
 | _,.str x=>x.cps.all (· < 0x110000)
 | 0,_=>false
 | n+1,.tup ds=>DV.plains n ds | n+1,.lst ds=>DV.plains n ds
 | _,_=>false
def DV.plains:Nat->List DV->Bool
 | _,[]=>true
 | n,d::r=>d.plain n&&DV.plains n r
end
def E6:DV->Option Bool
 | .non=>some false
 | .bl b=>some b
 | .int i=>some (i != 0)
 | .str x=>some (x.cps.size != 0)
 | .tup ds=>some (!ds.isEmpty)
 | .lst ds=>some (!ds.isEmpty)
 | _=>none
def F2(n:Nat)(i:Int):Option Nat:=if 0<=i then(if i<n then some i.toNat else none)else if -(n:Int)<=i then some (i+n).toNat else none
def atD(ds:List DV)(i:Int):Option DV:=(F2 ds.length i).bind λj=>ds[j]?
def G2(k:DKey):List DKey->List DV->Option DV
 | k'::ks,v::vs=>if k'=k then some v else G2 k ks vs
 | _,_=>none
def putD(k:DKey)(d:DV)(ks:List DKey)(vs:List DV):List DKey×List DV:=
 if k∈ks then(ks,(ks.zip vs).map λp=>if p.1=k then d else p.2)else(ks++[k],vs++[d])
def ixD(a b:DV):Option DV:=match a,b with
 | .scr ns,.int i=>((F2 ns.length i).bind λj=>ns[j]?).map DV.int
 | .lst ds,.int i=>atD ds i
 | .tup ds,.int i=>atD ds i
 | .str z,.int i=>(F2 z.cps.size i).bind λj=>(z.cps[j]?).map λc=>.str ⟨#[c]⟩
 | _,_=>none
def slIx(n d:Nat):Option Int->Nat
 | none=>d
 | some v=>if v<0 then(v+(n:Int)).toNat else min v.toNat n
def cutD(ds:List DV)(lo hi:Option Int):List DV:=(ds.drop (slIx ds.length 0 lo)).take (slIx ds.length ds.length hi - slIx ds.length 0 lo)
def slD(a:DV)(lo hi:Option Int):Option DV:=match a with
 | .scr ns=>some (.lst (cutD (ns.map DV.int) lo hi))
 | .lst ds=>some (.lst (cutD ds lo hi))
 | .tup ds=>if slIx ds.length 0 lo=0/\slIx ds.length ds.length hi=ds.length then none else some (.tup (cutD ds lo hi))
 | _=>none
def slCl(a:DV)(c:Cl):Cl:=match a with
 | .scr _=>.fresh
 | .lst _=>Cl.anew c c
 | _=>c.item
def E7(i j:Int):Bool:=(decide (-(2^64)<i)&&decide (i<2^64))||(decide (-(2^64)<j)&&decide (j<2^64))||(decide (i.natAbs<2^2000)&&decide (j.natAbs<2^2000))
def binD(op:Operator)(a b:DV)(ca cb:Cl):Option Re:=match op,a,b with
 | .Add,.int i,.int j=>some (.ok (.int (i+j)) .strong)
 | .Sub,.int i,.int j=>some (.ok (.int (i - j)) .strong)
 | .Mult,.int i,.int j=>if E7 i j then some (.ok (.int (i*j)) .strong)else none
 | .Mod,.int i,.int j=>if 0<j then some (.ok (.int (i%j)) .strong)else if j≠0 then some (.ok (.int (i.fmod j)) .strong)else none
 | .FloorDiv,.int i,.int j=>if 0<j/\j<2^200 then some (.ok (.int (i/j)) .strong)else none
 | .LShift,.int i,.int j=>if 0<=j/\j<=1000000/\i.natAbs<2^64 then some (.ok (.int (i*2^j.toNat)) .strong)else none
 | .RShift,.int i,.int j=>if 0<=j then some (.ok (.int (i/2^j.toNat)) .strong)else none
 | .BitAnd,.int i,.int j=>some (.ok (.int (Builtin.bitAnd i j)) .strong)
 | .BitOr,.int i,.int j=>some (.ok (.int (Builtin.bitOr i j)) .strong)
 | .Add,.lst x,.lst y=>if x.length+y.length<=mostLen then some (.ok (.lst (x++y)) (Cl.anew ca cb))else none
 | .Mult,.lst x,.int k=>if x.length*k.toNat<=mostLen /\ -(2^63)<=k/\k<2^63 then some (.ok (.lst (List.replicate k.toNat x).flatten) (Cl.anew ca ca))else none
 | _,_,_=>none
def isN:DV->Bool
 | .non=>true
 | _=>false
def cmpD(op:CmpOp)(a b:DV):Option Bool:=match op,a,b with
 | .Lt,.int i,.int j=>some (decide (i<j))
 | .LtE,.int i,.int j=>some (decide (i<=j))
 | .Gt,.int i,.int j=>some (decide (j<i))
 | .GtE,.int i,.int j=>some (decide (j<=i))
 | .Eq,a,b=>if a.plain 60&&b.plain 60 then some (deq a b)else none
 | .NotEq,a,b=>if a.plain 60&&b.plain 60 then some (!deq a b)else none
 | .Is,a,.non=>some (isN a)
 | .NotIn,a,.lst ds=>if a.plain 60&&DV.plains 60 ds then some (!ds.any λd=>deq d a)else none
 | _,_,_=>none
def ints?:List DV->Option (List Int)
 | []=>some []
 | .int i::r=>(ints? r).map (i :: ·)
 | _=>none
def bools?:List DV->Option (List Bool)
 | []=>some []
 | .bl i::r=>(bools? r).map (i :: ·)
 | _=>none
def minI:Int->List Int->Int
 | m,[]=>m
 | m,x::r=>minI (if x<m then x else m) r
def maxI:Int->List Int->Int
 | m,[]=>m
 | m,x::r=>maxI (if m<x then x else m) r
def dk(σ:List Int)(k:Int):List Int:=if k∈σ then σ else σ++[k]
def lenD:List (DV×Cl)->Option Re
 | [(.lst ds,_)]=>some (.ok (.int ds.length) .strong)
 | [(.tup ds,_)]=>some (.ok (.int ds.length) .strong)
 | [(.scr ns,_)]=>some (.ok (.int ns.length) .strong)
 | [(.str z,_)]=>some (.ok (.int z.length) .strong)
 | _=>none
def absD:List (DV×Cl)->Option Re
 | [(.int i,_)]=>some (.ok (.int (if i<0 then -i else i)) .strong)
 | _=>none
def minD:List (DV×Cl)->Option Re
 | [(.int i,_),(.int j,_)]=>some (.ok (.int (if j<i then j else i)) .strong)
 | [(.lst ds,c)]=>match ints? ds with
  | some (n::r)=>some (.ok (.int (minI n r)) .strong)
  | _=>none
 | [(.tup ds,_)]=>match ints? ds with
  | some (n::r)=>some (.ok (.int (minI n r)) .strong)
  | _=>none
 | _=>none
def maxD:List (DV×Cl)->Option Re
 | [(.int i,_),(.int j,_)]=>some (.ok (.int (if j>i then j else i)) .strong)
 | [(.lst ds,_)]=>match ints? ds with
  | some (n::r)=>some (.ok (.int (maxI n r)) .strong)
  | _=>none
 | _=>none
def sumD:List (DV×Cl)->Option Re
 | [(.lst ds,_)]=>(ints? ds).map λns=>.ok (.int ns.sum) .strong
 | _=>none
def anyD:List (DV×Cl)->Option Re
 | [(.lst ds,_)]=>(bools? ds).map λbs=>.ok (.bl (bs.any id)) .strong
 | _=>none
def intD:List (DV×Cl)->Option Re
 | [(.int i,_)]=>some (.ok (.int i) .strong)
 | [(.bl b,_)]=>some (.ok (.int (if b then 1 else 0)) .strong)
 | _=>none
def q8v:List (DV×Cl)->Option Re
 | [(.scr ns,_)]=>some (.ok (.lst (ns.map DV.int)) .fresh)
 | [(.lst ds,c)]=>some (.ok (.lst ds) (Cl.anew c c))
 | [(.tup ds,c)]=>some (.ok (.lst ds) (Cl.anew c c))
 | _=>none
def q5e:List (DV×Cl)->Option Re
 | [(.lst ds,c)]=>some (.ok (.tup ds) c.item)
 | [(.tup ds,c)]=>some (.ok (.tup ds) c)
 | _=>none
def X7:List (DV×Cl)->Option Re
 | [(.lst ds,_)]=>match ints? ds with
  | some _=>some (.ok (.lst ds) .fresh)
  | none=>none
 | _=>none
def biD(f:Bi)(l:List (DV×Cl)):Option Re:=match f with
 | .len=>lenD l
 | .abs=>absD l
 | .min=>minD l
 | .max=>maxD l
 | .int=>intD l
 | .list=>q8v l
 | .tuple=>q5e l
 | .lsti=>X7 l
 | .sum=>sumD l
 | .any=>anyD l
def biOk:Bi->Bool
 | .len=>true | .abs=>true | .min=>true | .max=>true | .int=>true | .list=>true | .tuple=>true | .lsti=>true | .sum=>true | .any=>true
structure Gs where
 dcs:List (Str×List (Str×Str)):=[]
 con:List (Str×DV)
 cls:List (Str×List Str)
 dfl:List (Nat×List DV):=[]
 kws:List (Nat×Str):=[]
 hun:Bool:=false
def N7(G:Gs)(c c':Str):Bool:=c==c'||((G.cls.lookup c).getD []).contains c'
def isxD(G:Gs)(d:DV)(t:Str):Option Bool:=match d with
 | .exc c=>if(G.cls.lookup c).isSome then some (N7 G c t)else none
 | _=>none
def tyOf:DV->List Str
 | .non=>["NoneType"]
 | .bl _=>["bool","int"]
 | .int _=>["int"]
 | .str _=>["str"]
 | .tup _=>["tuple"]
 | .lst _=>["list"]
 | .dct _ _=>["dict"]
 | _=>[]
def U8:List Str:=["int","bool","str","list","tuple","dict"]
def isiD(G:Gs)(d:DV)(ts:List Str):Option Bool:=match d with
 | .scr _=>none
 | .exc _=>none
 | .fn _=>none
 | d=>match ts with
  | [t]=>if U8.contains t then some ((tyOf d).contains t)else none
  | _=>none
def upTo(lo:Int)(n:Nat):List DV:=(List.range n).map λ(i:Nat)=>DV.int (lo+i)
def R5(i:Int):Bool:=decide (-(2^62)<=i)&&decide (i<2^62)
def rngD(l:List (DV×Cl)):Option (List DV):=match l with
 | [(.int j,_)]=>if R5 j&&decide (j<=mostLen)then some (upTo 0 j.toNat)else none
 | _=>none
def enuD:Nat->List DV->List DV
 | _,[]=>[]
 | k,d::r=>.tup [.int k,d]::enuD (k+1) r
def zpD:List DV->List DV->List DV
 | a::r,b::s=>.tup [a,b]::zpD r s
 | _,_=>[]
def Cl.meet:Cl->Cl->Cl
 | .weak,_=>.weak | _,.weak=>.weak | .top,_=>.top | _,.top=>.top | _,_=>.strong
def z2u:DV->Option (Bool×List DV)
 | .lst ds=>some (false,ds)
 | .tup ds=>some (true,ds)
 | _=>none
def X8(x:DV)(c:Cl):Option Re:=match z2u x with
 | some (_,xs)=>some (.ok (.lst (enuD 0 xs)) (Cl.meet c c))
 | _=>none
def zipD(x y:DV)(c c':Cl):Option Re:=match z2u x,z2u y with
 | some (_,xs),some (_,ys)=>some (.ok (.lst (zpD xs ys)) (Cl.meet c c'))
 | _,_=>none
def kvs?:List DKey->List DV->Option (List (Int×Int))
 | [],[]=>some []
 | .i k::ks,.int v::vs=>(kvs? ks vs).map ((k,v) :: ·)
 | _,_=>none
def kvp?:List DKey->List DV->Option (List ((Int×Int)×Int))
 | [],[]=>some []
 | .t [.inl a,.inl b]::ks,.int v::vs=>(kvp? ks vs).map (((a,b),v) :: ·)
 | _,_=>none
def itmD(x:DV)(c:Cl):Option Re:=match x with
 | .dct ks vs=>if c=.strong then(match kvs? ks vs with
  | some l=>some (.ok (.lst (l.map λp=>.tup [.int p.1,.int p.2])) .strong)
  | none=>(kvp? ks vs).map (λl=>.ok (.lst (l.map λp=>.tup [.tup [.int p.1.1,.int p.1.2],.int p.2])) .strong))else none
 | _=>none
def dixD(x y:DV):Option Re:=match x,y with
 | .dct ks vs,.int k=>(match G2 (.i k) ks vs with
  | some (.int v)=>some (.ok (.int v) .strong)
  | _=>none)
 | .dct ks vs,.tup [.int a,.int b]=>(match G2 (.t [.inl a,.inl b]) ks vs with
  | some (.int v)=>some (.ok (.int v) .strong)
  | _=>none)
 | _,_=>none
def unT:DV->DV
 | .tup [d]=>d
 | d=>d
def dgtD(x y z:DV):Option Re:=match x,y,z with
 | .dct ks vs,.int k,.int e=>(match(G2 (.i k) ks vs).getD (.int e)with
  | .int v=>some (.ok (.int v) .strong)
  | _=>none)
 | _,_,_=>none
def seqD:DV->Option (List DV)
 | .scr ns=>some (ns.map DV.int)
 | .lst ds=>some ds
 | .tup ds=>some ds
 | _=>none
def q5h(δ:List Sv):List Nat->List DV->Option (List Sv)
 | [],[]=>some δ
 | i::is,d::ds=>q5h (δ.set i (.val d)) is ds
 | _,_=>none
def Tg.bind(tg:Tg)(d:DV)(δ:List Sv):Option (List Sv):=match tg with
 | .one i=>some (δ.set i (.val d))
 | .many is=>match d with
  | .tup ds=>q5h δ is ds
  | _=>none
def Sv.plain:Sv->Sv
 | .ot _=>.no
 | .o2 _=>.no
 | s=>s
def A2(fr:List (Option Nat))(δ:List Sv):List Sv:=fr.map λo=>match o with
 | some i=>(δ.getD i .no).plain
 | none=>.no
inductive Rc where
 | skip | item (d:DV)
def A3(g:DV->Option Rc):List DV->Option (List DV)
 | []=>some []
 | d::r=>match g d with
  | none=>none
  | some .skip=>A3 g r
  | some (.item x)=>match A3 g r with
   | none=>none
   | some xs=>some (x::xs)
def M7(r:Option (List DV)):Option Re:=match r with
 | none=>none
 | some xs=>some (.ok (.lst xs) .fresh)
def Rc.of(r:Option Re):Option Rc:=match r with
 | some (.ok d c)=>if stro d c then some (.item d)else none
 | _=>none
def Rc.test(t:Option Rt)(r:Option Rc):Option Rc:=match t with
 | some (.ok true)=>r
 | some (.ok false)=>some .skip
 | _=>none
inductive Ri where
 | ok (ds:List DV) (c:Cl) | ex (c:Str)
def Ri.thn(r:Option Ri)(k:List DV->Cl->Option Re):Option Re:=match r with
 | none=>none
 | some (.ex c)=>some (.ex c)
 | some (.ok ds c)=>k ds c
def Re.thnI(r:Option Re)(k:DV->Cl->Option Ri):Option Ri:=match r with
 | none=>none
 | some (.ex c)=>some (.ex c)
 | some (.ok d c)=>k d c
def y1p(d:DV)(c:Cl):Option Ri:=(seqD d).map λds=>.ok ds c
def imL:DV->Bool
 | .lst ds=>DV.immuts ds
 | _=>false
def E2(F:Nat->List DV->Option Ou)(f:Nat)(l:List (DV×Cl)):Option Re:=match F f (l.map (·.1))with
 | none=>none
 | some (.x c)=>some (.ex c)
 | some (.t (.dct _ ds))=>some (.ok (.tup ds) .strong)
 | some (.t d)=>some (.ok d (if l.all λp=>p.2 == .strong||p.2 == .fresh then(match d with | .lst _=>.fresh | _=>.ft)else .weak))
 | some (.v d fr)=>some (.ok d (if l.all λp=>p.2 == .strong||p.2 == .fresh then(if fr then .fresh else .strong)else if fr&&imL d then .fresh else .weak))
def andD(x:DV)(c:Cl)(r:Option Re):Option Re:=match E6 x with
 | none=>none
 | some true=>r
 | some false=>some (.ok x c)
def orD(x:DV)(c:Cl)(r:Option Re):Option Re:=match E6 x with
 | none=>none
 | some true=>some (.ok x c)
 | some false=>r
def tstD(r:Option Re):Option Rt:=Re.thnT r λx _=>(E6 x).map Rt.ok
def o5(r:Option Re):Option Ri:=Re.thnI r λx c=>y1p x c
mutual
def evE(G:Gs)(F:Nat->List DV->Option Ou):ME->List Sv->Option Re
 | .var i,δ=>match δ[i]? with
  | some (.val d)=>some (.ok d .strong)
  | some (.own d)=>some (.ok d .top)
  | some (.ot d)=>some (.ok (otD d) .weak)
  | some (.o2 d)=>some (.ok d .weak)
  | _=>none
 | .int i,_=>some (.ok (.int i) .strong)
 | .bl i,_=>some (.ok (.bl i) .strong)
 | .str i,_=>some (.ok (.str i) .strong)
 | .non,_=>some (.ok .non .strong)
 | .glb x,_=>(G.con.lookup x).map λd=>.ok d .strong
 | .bin op a b,δ=>Re.thn (evE G F a δ) λx cx=>Re.thn (evE G F b δ) λy cy=>binD op x y cx cy
 | .neg a,δ=>Re.thn (evE G F a δ) λx _=>match x with | .int i=>some (.ok (.int (-i)) .strong) | _=>none
 | .not a,δ=>Re.thn (evE G F a δ) λx _=>(E6 x).map λk=>.ok (.bl (!k)) .strong
 | .cmp op a b,δ=>Re.thn (evE G F a δ) λx _=>Re.thn (evE G F b δ) λy _=>(cmpD op x y).map λk=>.ok (.bl k) .strong
 | .chain op op' a b c,δ=>Re.thn (evE G F a δ) λx _=>Re.thn (evE G F b δ) λy _=>match cmpD op x y with
  | none=>none
  | some false=>some (.ok (.bl false) .strong)
  | some true=>Re.thn (evE G F c δ) λz _=>(cmpD op' y z).map λk=>.ok (.bl k) .strong
 | .and es,δ=>M8 G F es δ
 | .or es,δ=>evOr G F es δ
 | .lst es,δ=>Rs.thn (evEs G F es δ) λl=>if l.length<=mostLen then some (.ok (.lst (l.map (·.1))) (if stros l then .fresh else .weak))else none
 | .tup es,δ=>Rs.thn (evEs G F es δ) λl=>if l.length<=mostLen then some (.ok (.tup (l.map (·.1))) (if stros l then .strong else .weak))else none
 | .dct i a,δ=>Re.thn (evE G F a δ) λd c=>if stro d c then some (.ok (.dct [.i i] [d]) .strong)else none
 | .dc0,_=>some (.ok (.dct [] []) .strong)
 | .ix a b,δ=>Re.thn (evE G F a δ) λx cx=>Re.thn (evE G F b δ) λy _=>(ixD x y).map λd=>.ok d cx.item
 | .sl a lo hi,δ=>Re.thn (evE G F a δ) λx cx=>Re.thn (evE G F lo δ) λl _=>match l with
  | .int l=>Re.thn (evE G F hi δ) λh _=>(match h with
   | .int h=>(slD x (some l) (some h)).map λd=>.ok d (slCl x cx)
   | _=>none)
  | _=>none
 | .slf a lo,δ=>Re.thn (evE G F a δ) λx cx=>Re.thn (evE G F lo δ) λl _=>match l with
  | .int l=>(slD x (some l) none).map λd=>.ok d (slCl x cx)
  | _=>none
 | .slt a hi,δ=>Re.thn (evE G F a δ) λx cx=>Re.thn (evE G F hi δ) λh _=>match h with
  | .int h=>(slD x none (some h)).map λd=>.ok d (slCl x cx)
  | _=>none
 | .call f es,δ=>Rs.thn (evEs G F es δ) λl=>E2 F f l
 | .bi f es,δ=>if biOk f then Rs.thn (evEs G F es δ) λl=>biD f l else none
 | .isi a ts,δ=>Re.thn (evE G F a δ) λx _=>(isiD G x ts).map λk=>.ok (.bl k) .strong
 | .isx a t,δ=>Re.thn (evE G F a δ) λx _=>(isxD G x t).map λk=>.ok (.bl k) .strong
 | .comp elt tg it fr,δ=>Ri.thn (o5 (evE G F it δ)) λds c=>if c=.weak\/mostLen<ds.length then none else M7 (A3 (λd=>(tg.bind d (A2 fr δ)).bind λδ'=>Rc.of (evE G F elt δ')) ds)
 | .compi elt tg it cd fr,δ=>Ri.thn (o5 (evE G F it δ)) λds c=>if c=.weak\/mostLen<ds.length then none else M7 (A3 (λd=>(tg.bind d (A2 fr δ)).bind λδ'=>Rc.test (tstD (evE G F cd δ')) (Rc.of (evE G F elt δ'))) ds)
 | .rng es,δ=>Rs.thn (evEs G F es δ) λl=>(rngD l).map λds=>.ok (.lst ds) .fresh
 | .zp a b,δ=>Re.thn (evE G F a δ) λx c=>Re.thn (evE G F b δ) λy c'=>zipD x y c c'
 | .enu a,δ=>Re.thn (evE G F a δ) λx c=>X8 x c
 | .itm a,δ=>Re.thn (evE G F a δ) λx c=>itmD x c
 | .dix a k,δ=>Re.thn (evE G F a δ) λx _=>Re.thn (evE G F k δ) λy _=>dixD x y
 | .dgt i k e,δ=>match δ[i]? with
  | some (.od x)=>Re.thn (evE G F k δ) λy _=>Re.thn (evE G F e δ) λz _=>dgtD x y z
  | _=>none
def evEs(G:Gs)(F:Nat->List DV->Option Ou):List ME->List Sv->Option Rs
 | [],_=>some (.ok [])
 | e::es,δ=>match evE G F e δ with
  | none=>none
  | some (.ex c)=>some (.ex c)
  | some (.ok d c)=>match evEs G F es δ with
   | none=>none
   | some (.ex c)=>some (.ex c)
   | some (.ok l)=>some (.ok ((d,c)::l))
def M8(G:Gs)(F:Nat->List DV->Option Ou):List ME->List Sv->Option Re
 | [],_=>none
 | e::es,δ=>if es.isEmpty then evE G F e δ else Re.thn (evE G F e δ) λx c=>andD x c (M8 G F es δ)
def evOr(G:Gs)(F:Nat->List DV->Option Ou):List ME->List Sv->Option Re
 | [],_=>none
 | e::es,δ=>if es.isEmpty then evE G F e δ else Re.thn (evE G F e δ) λx c=>orD x c (evOr G F es δ)
end
def R6:Nat:=1000
def Re.thnS(δ:List Sv)(r:Option Re)(k:DV->Cl->Option Out):Option Out:=match r with
 | none=>none
 | some (.ex c)=>some (.ex c δ)
 | some (.ok d c)=>k d c
def Rs.thnS(δ:List Sv)(r:Option Rs)(k:List (DV×Cl)->Option Out):Option Out:=match r with
 | none=>none
 | some (.ex c)=>some (.ex c δ)
 | some (.ok l)=>k l
def Rt.thnS(δ:List Sv)(r:Option Rt)(k:Bool->Option Out):Option Out:=match r with
 | none=>none
 | some (.ex c)=>some (.ex c δ)
 | some (.ok b)=>k b
def Ri.thnS(δ:List Sv)(r:Option Ri)(k:List DV->Cl->Option Out):Option Out:=match r with
 | none=>none
 | some (.ex c)=>some (.ex c δ)
 | some (.ok ds c)=>k ds c
def p6(tg:Tg)(body:List Sv->Option Out):List DV->List Sv->Option Out
 | [],δ=>some (.nx δ)
 | d::r,δ=>match tg.bind d δ with
  | none=>none
  | some δ1=>match body δ1 with
   | some (.nx δ2)=>p6 tg body r δ2
   | o=>o
def J3(test:List Sv->Option Rt)(body:List Sv->Option Out):Nat->List Sv->Option Out
 | 0,_=>none
 | n+1,δ=>match test δ with
  | none=>none
  | some (.ex c)=>some (.ex c δ)
  | some (.ok false)=>some (.nx δ)
  | some (.ok true)=>match body δ with
   | some (.nx δ2)=>J3 test body n δ2
   | o=>o
def frD:DV->Cl->Bool
 | .lst _,.fresh=>true | .lst _,.top=>true
 | _,_=>false
def noOt(i:Nat)(δ:List Sv):Bool:=(List.range δ.length).all λj=>j==i||(match δ[j]? with | some (.ot _)=>false | some (.o2 _)=>false | some (.od _)=>false | _=>true)
def noO2(i:Nat)(δ:List Sv):Bool:=(List.range δ.length).all λj=>j==i||(match δ[j]? with | some (.o2 _)=>false | _=>true)
def X9(i:Nat)(δ:List Sv)(d:DV)(c:Cl):Option Out:=match c with
 | .fresh=>some (.nx (δ.set i (.own d)))
 | .ft=>if noOt i δ then some (.nx (δ.set i (.ot d)))else none
 | _=>none
def retD(d:DV)(c:Cl):Out:=match c with
 | .ft=>.rtt d
 | _=>.rt d (frD d c)
def parD(δ:List Sv)(is:List Nat)(l:List (DV×Cl)):Option Out:=match is,l with
 | [i,j],[(x,cx),(y,cy)]=>if i≠j/\stro x cx=true/\stro y cy=true then some (.nx ((δ.set i (.val x)).set j (.val y)))else none
 | _,_=>none
def newI(d:DV)(c:Cl):Bool:=match d,c with
 | .lst ds,.fresh=>(ints? ds).isSome
 | _,_=>false
def M9(d:DV)(c:Cl):Bool:=match d with
 | .int _=>true
 | _=>newI d c
def tryD(G:Gs)(c:Str)(ie ic:Nat)(r:Option Out):Option Out:=match r with
 | some (.ex c' δ')=>if(G.cls.lookup c').isSome/\N7 G c' c/\ie<δ'.length/\ie≠ic then some (.nx ((δ'.set ic (.val (.exc c'))).set ie .no))else none
 | o=>o
mutual
def evS(G:Gs)(F:Nat->List DV->Option Ou)(fu:Nat):MS->List Sv->Option Out
 | .set i own e,δ=>Re.thnS δ (evE G F e δ) λd c=>if own then X9 i δ d c else(if stro d c then some (.nx (δ.set i (.val d)))else none)
 | .par is es,δ=>Rs.thnS δ (evEs G F es δ) λl=>parD δ is l
 | .app i e,δ=>match δ[i]? with
  | some (.own (.lst ds))=>Re.thnS δ (evE G F e δ) λd c=>if stro d c/\ds.length<mostLen then some (.nx (δ.set i (.own (.lst (ds++[d])))))else none
  | _=>none
 | .seti i k e,δ=>match δ[i]? with
  | some (.own (.lst ds))=>Re.thnS δ (evE G F e δ) λd c=>Re.thnS δ (evE G F k δ) λk _=>(match k with
   | .int k=>(match F2 ds.length k with
    | some j=>if stro d c then some (.nx (δ.set i (.own (.lst (ds.set j d)))))else none
    | none=>none)
   | _=>none)
  | _=>none
 | .exp e,δ=>Re.thnS δ (evE G F e δ) λ_ _=>some (.nx δ)
 | .ret e,δ=>Re.thnS δ (evE G F e δ) λd c=>some (retD d c)
 | .iff c a b,δ=>Rt.thnS δ (tstD (evE G F c δ)) λk=>if k then evSs G F fu a δ else evSs G F fu b δ
 | .fo tg it body,δ=>Ri.thnS δ (o5 (evE G F it δ)) λds c=>if c=.strong\/c=.fresh then p6 tg (λδ'=>evSs G F fu body δ') ds δ else none
 | .wh c body,δ=>J3 (λδ'=>tstD (evE G F c δ')) (λδ'=>evSs G F fu body δ') fu δ
 | .ret2 a b,δ=>match evE G F a δ,evE G F b δ with
  | some (.ok d c),some (.ok d' c')=>if M9 d c=true/\M9 d' c'=true then some (.rtt (.dct [] [d,d']))else none
  | _,_=>none
 | .setp i f es,δ=>match evEs G F es δ with
  | some (.ok l)=>if noO2 i δ=true then(match F f (l.map (·.1))with
   | some (.t (.dct ks ds))=>some (.nx (δ.set i (.ot (.dct ks ds))))
   | _=>none)else none
  | _=>none
 | .oapp i k e,δ=>match δ[i]? with
  | some (.ot (.dct ks ds))=>match ds[k]?,evE G F e δ with
   | some (.lst xs),some (.ok (.int z) _)=>if xs.length<mostLen then some (.nx (δ.set i (.ot (.dct ks (ds.set k (.lst (xs++[.int z])))))))else none
   | _,_=>none
  | _=>none
 | .oclr i k,δ=>match δ[i]? with
  | some (.ot (.dct ks ds))=>match ds[k]? with
   | some (.lst _)=>some (.nx (δ.set i (.ot (.dct ks (ds.set k (.lst []))))))
   | _=>none
  | _=>none
 | .retp i,δ=>match δ[i]? with
  | some (.ot (.dct ks ds))=>some (.rtt (.dct ks ds))
  | _=>none
 | .sed i,δ=>if noOt i δ then some (.nx (δ.set i (.od (.dct [] []))))else none
 | .retd i,δ=>match δ[i]? with
  | some (.od d)=>some (.rt (unT d) false)
  | _=>none
 | .dput i k e,δ=>match δ[i]? with
  | some (.od (.dct ks vs))=>Re.thnS δ (evE G F e δ) λd _=>Re.thnS δ (evE G F k δ) λk _=>(match k,d with
   | .int k,.int z=>if ks.length<mostLen then some (.nx (δ.set i (.od (.dct (putD (.i k) (.int z) ks vs).1 (putD (.i k) (.int z) ks vs).2))))else none
   | _,_=>none)
  | _=>none
 | .rse c e,δ=>if(G.cls.lookup c).isSome then Re.thnS δ (evE G F e δ) λ_ _=>some (.ex c δ)else none
 | .tryc body c ie ic,δ=>tryD G c ie ic (evSs G F fu body δ)
 | .frz i,δ=>match δ[i]? with
  | some (.own d)=>some (.nx (δ.set i (.val d)))
  | _=>some (.nx δ)
def evSs(G:Gs)(F:Nat->List DV->Option Ou)(fu:Nat):List MS->List Sv->Option Out
 | [],δ=>some (.nx δ)
 | s::r,δ=>match evS G F fu s δ with
  | some (.nx δ')=>evSs G F fu r δ'
  | o=>o
end
def o8(n:Nat)(ds:List DV):List Sv:=ds.map Sv.val++List.replicate (n - ds.length) .no
def Ou.of(o:Option Out):Option Ou:=match o with
 | some (.nx _)=>some (.v .non false)
 | some (.rt d fr)=>some (.v d fr)
 | some (.rtt d)=>some (.t d)
 | some (.ex c _)=>some (.x c)
 | none=>none
def Y0:Nat->DV->List DV->Option (DV×List DV)
 | 0,_,_=>none
 | k+1,d,l=>match d with
  | .tup [.str s,x]=>if decide (s = "end")&&d.plain 60&&DV.plains 59 l then(match l with
   | []=>some (d,[])
   | y::l'=>some (y,l'))else none
  | .tup [.str s,a,b,c,e]=>if decide (s ≠ "end")&&(s.cps.all (· < 0x110000))then(match Y0 k c l with
   | none=>none
   | some (n,l1)=>match Y0 k e l1 with
    | none=>none
    | some (y,l2)=>some (.tup [.str "ask",a,b,n,y],l2))else none
  | _=>none
def q8U(k:Nat)(f:Nat)(ds:List DV):Option Ou:=match ds with
 | [d,.lst l]=>if f=R6 then(Y0 k d l).map (λr=>.v r.1 false)else none
 | _=>none
def run(G:Gs)(T:List FD)(fu:Nat):Nat->Nat->List DV->Option Ou
 | 0,_,_=>none
 | k+1,f,ds=>match T[f]? with
  | none=>q8U (k+1) f ds
  | some fd=>if ds.length=fd.np then Ou.of (evSs G (run G T fu k) fu fd.body (o8 fd.n ds))else none
end
section
section
variable {G:Gs} {F:Nat->List DV->Option Ou} {fu:Nat} {δ:List Sv}
theorem y9:Re.thn (some (.ok d c)) k=k d c:=rfl
theorem q3P:Rs.thn (some (.ok l)) k=k l:=rfl
theorem q5D:Ri.thn (some (.ok ds c)) k=k ds c:=rfl
theorem q5v:Re.thnS δ (some (.ok d c)) k=k d c:=rfl
theorem z8g(h:evS G F fu m δ=some (.nx δ')):evSs G F fu (m::r) δ=evSs G F fu r δ':=by
 rw[show evSs G F fu (m::r) δ=(match evS G F fu m δ with | some (.nx δ')=>evSs G F fu r δ' | o=>o)from rfl,h]
theorem z9c(h:evS G F fu m δ=some (.rt d fr)):evSs G F fu (m::r) δ=some (.rt d fr):=by
 rw[show evSs G F fu (m::r) δ=(match evS G F fu m δ with | some (.nx δ')=>evSs G F fu r δ' | o=>o)from rfl,h]
theorem y7(h:T[f]? = some fd)(hl:ds.length=fd.np):run G T fu (k+1) f ds=Ou.of (evSs G (run G T fu k) fu fd.body (o8 fd.n ds)):=by
 show(match T[f]? with | none=>q8U (k+1) f ds | some fd=>if ds.length=fd.np then Ou.of (evSs G (run G T fu k) fu fd.body (o8 fd.n ds))else none)=_;rw[h];exact d4 hl
end
end
section
theorem q3r{I:List Sv->Prop}{tg:Tg}{body:List Sv->Option Out}:∀{ds:List DV} {δ:List Sv},(∀d∈ds,∀δ,I δ->∃δ1 δ2,tg.bind d δ=some δ1/\body δ1=some (.nx δ2)/\I δ2)->I δ->∃δ',p6 tg body ds δ=some (.nx δ')/\I δ'
 | [],δ,_,i=>⟨δ,rfl,i⟩
 | d::r,δ,h,i=>by obtain⟨δ1,δ2,e1,e2,i2⟩:=h d (j5 ..) δ i;obtain⟨δ',e3,i3⟩:=q3r (ds:=r) (λd hd=>h d (i6 _ hd)) i2;refine⟨δ',?_,i3⟩;show(match tg.bind d δ with | none=>none | some δ1=>(match body δ1 with | some (.nx δ2)=>p6 tg body r δ2 | o=>o))=_;rw[e1];show(match body δ1 with | some (.nx δ2)=>p6 tg body r δ2 | o=>o)=_;rw[e2];exact e3
theorem q3K:∀{ds:List DV},(∀d∈ds,g d=some (.item (f d)))->A3 g ds=some (ds.map f)
 | [],_=>rfl
 | d::r,h=>by have h0:=h d (j5 ..);have ih:=q3K (ds:=r) (λd hd=>h d (i6 _ hd));unfold A3;rw[h0];show(match A3 g r with | none=>none | some xs=>some (f d::xs))=_;rw[ih];rfl
theorem z1S(h:d∈upTo lo n):∃j:Nat,j<n/\d=.int (lo+j):=by
 unfold upTo at h;rw[o7]at h;obtain⟨j,hj,rfl⟩:=h;exact⟨j,p0.mp hj,rfl⟩
end
section
section
variable {G:Gs} {F:Nat->List DV->Option Ou} {fu:Nat} {δ δ':List Sv} {m:MS} {r a b body:List MS} {o:Option Out} {c it:ME} {d:DV} {fr:Bool} {tg:Tg} {ds:List DV} {cl:Cl}
theorem C3(h:evSs G F fu r δ=some (.rt d fr)):Ou.of (evSs G F fu r δ)=some (.v d fr):=by rw[h];rfl
theorem y0H(h:evSs G F fu r δ=some (.nx δ')):Ou.of (evSs G F fu r δ)=some (.v .non false):=by rw[h];rfl
theorem f8(h:evS G F fu m δ=some (.nx δ'))(h2:evSs G F fu r δ'=o):evSs G F fu (m::r) δ=o:=(z8g h).trans h2
theorem B4(h:evS G F fu m δ=some (.rt d fr)):evSs G F fu (m::r) δ=some (.rt d fr):=z9c h
theorem q8z(hc:tstD (evE G F c δ)=some (.ok bb)):evS G F fu (.iff c a b) δ=if bb then evSs G F fu a δ else evSs G F fu b δ:=by
 show Rt.thnS δ (tstD (evE G F c δ)) (λk=>if k then evSs G F fu a δ else evSs G F fu b δ)=_;rw[hc];rfl
theorem q5b(hc:tstD (evE G F c δ)=some (.ok true))(h:evSs G F fu a δ=some (.nx δ'))(h2:evSs G F fu r δ'=o):evSs G F fu (.iff c a b::r) δ=o:=f8 ((q8z hc).trans h) h2
theorem z7O(hc:tstD (evE G F c δ)=some (.ok false))(h:evSs G F fu b δ=some (.nx δ'))(h2:evSs G F fu r δ'=o):evSs G F fu (.iff c a b::r) δ=o:=f8 ((q8z hc).trans h) h2
theorem z7y(hc:tstD (evE G F c δ)=some (.ok true))(h:evSs G F fu a δ=some (.rt d fr)):evSs G F fu (.iff c a b::r) δ=some (.rt d fr):=B4 ((q8z hc).trans h)
theorem B5(hc:tstD (evE G F c δ)=some (.ok false))(h2:evSs G F fu r δ=o):evSs G F fu (.iff c a []::r) δ=o:=z7O hc rfl h2
theorem K8(hw:o5 (evE G F it δ)=some (.ok ds cl))(hc:cl=.strong\/cl=.fresh)(h:p6 tg (λδ'=>evSs G F fu body δ') ds δ=some (.nx δ'))(h2:evSs G F fu r δ'=o):evSs G F fu (.fo tg it body::r) δ=o:=by
 refine f8 ?_ h2;show Ri.thnS δ (o5 (evE G F it δ)) (λds c=>if c=.strong\/c=.fresh then p6 tg (λδ'=>evSs G F fu body δ') ds δ else none)=_;rw[hw];show(if cl=.strong\/cl=.fresh then p6 tg (λδ'=>evSs G F fu body δ') ds δ else none)=_;rw[d4 hc];exact h
theorem m7(h:evE G F e δ=some (.ok d cl))(hs:stro d cl=true):evS G F fu (.set i false e) δ=some (.nx (δ.set i (.val d))):=by
 show Re.thnS δ (evE G F e δ) (λd c=>if false then X9 i δ d c else(if stro d c then some (.nx (δ.set i (.val d)))else none))=_;rw[h];show(if stro d cl then some (Out.nx (δ.set i (.val d)))else none)=_;rw[d4 hs]
theorem Y1(h:evE G F e δ=some (.ok d .fresh)):evS G F fu (.set i true e) δ=some (.nx (δ.set i (.own d))):=by
 show Re.thnS δ (evE G F e δ) (λd c=>if true then X9 i δ d c else(if stro d c then some (.nx (δ.set i (.val d)))else none))=_;rw[h];rfl
theorem F3(h:evE G F e δ=some (.ok d cl))(hc:cl ≠ .ft:=by first | decide | (intro z;cases z)):evS G F fu (.ret e) δ=some (.rt d (frD d cl)):=by
 show Re.thnS δ (evE G F e δ) (λd c=>some (retD d c))=_;rw[h];show some (retD d cl)=_;cases cl<;>first | rfl | exact absurd rfl hc
theorem z9s(h:evE G F e δ=some (.ok d cl)):evS G F fu (.exp e) δ=some (.nx δ):=by
 show Re.thnS δ (evE G F e δ) (λ_ _=>some (.nx δ))=_;rw[h];rfl
theorem x5(ha:evEs G F es δ=some (.ok l))(hs:(l.all λp=>p.2 == .strong||p.2 == .fresh)=true)(h:F f (l.map (·.1))=some (.v d fr)):evE G F (.call f es) δ=some (.ok d (if fr then .fresh else .strong)):=by
 show Rs.thn (evEs G F es δ) (λl=>E2 F f l)=_;rw[ha];show E2 F f l=_;unfold E2;rw[h,hs];rfl
theorem q4p(ha:evEs G F es δ=some (.ok l))(hs:(l.all λp=>p.2 == .strong||p.2 == .fresh)=false)(h:F f (l.map (·.1))=some (.v d fr))(hf:(fr&&imL d)=false:=by rfl):evE G F (.call f es) δ=some (.ok d .weak):=by
 show Rs.thn (evEs G F es δ) (λl=>E2 F f l)=_;rw[ha];show E2 F f l=_;unfold E2;rw[h,hs];show some (Re.ok d (if fr&&imL d then .fresh else .weak))=_;rw[hf];rfl
theorem z3m(ha:evEs G F es δ=some (.ok l))(h:F f (l.map (·.1))=some (.v (.lst ds) true))(hf:DV.immuts ds=true):evE G F (.call f es) δ=some (.ok (.lst ds) .fresh):=by
 show Rs.thn (evEs G F es δ) (λl=>E2 F f l)=_;rw[ha];show E2 F f l=_;unfold E2;rw[h];show some (Re.ok (.lst ds) (if(l.all λp=>p.2 == .strong||p.2 == .fresh)then .fresh else if DV.immuts ds then .fresh else .weak))=_;rw[hf];cases(l.all λp=>p.2 == .strong||p.2 == .fresh)<;>rfl
theorem o9(h:evE G F e δ=some (.ok (.bl x) cl)):tstD (evE G F e δ)=some (.ok x):=by rw[h];rfl
theorem L5(h:evE G F e δ=some (.ok (.bl x) cl)):evE G F (.not e) δ=some (.ok (.bl (!x)) .strong):=by
 show Re.thn (evE G F e δ) (λx _=>(E6 x).map λk=>.ok (.bl (!k)) .strong)=_;rw[h];rfl
end
end
section
section
variable {G:Gs} {F:Nat->List DV->Option Ou} {fu:Nat} {δ δ':List Sv} {a b:ME} {x y:DV} {cx cy:Cl}
theorem L6(ha:evE G F a δ=some (.ok x cx))(hb:evE G F b δ=some (.ok y cy))(h:binD op x y cx cy=r):evE G F (.bin op a b) δ=r:=by
 show Re.thn (evE G F a δ) (λx cx=>Re.thn (evE G F b δ) λy cy=>binD op x y cx cy)=_;rw[ha,y9,hb,y9,h]
theorem E8(ha:evE G F a δ=some (.ok x cx))(hb:evE G F b δ=some (.ok y cy))(h:cmpD op x y=some t):evE G F (.cmp op a b) δ=some (.ok (.bl t) .strong):=by
 show Re.thn (evE G F a δ) (λx _=>Re.thn (evE G F b δ) λy _=>(cmpD op x y).map λk=>.ok (.bl k) .strong)=_;rw[ha,y9,hb,y9,h];rfl
theorem o6(ha:evE G F a δ=some (.ok x cx))(hb:evE G F b δ=some (.ok y cy))(h:ixD x y=some d):evE G F (.ix a b) δ=some (.ok d cx.item):=by
 show Re.thn (evE G F a δ) (λx cx=>Re.thn (evE G F b δ) λy _=>(ixD x y).map λd=>.ok d cx.item)=_;rw[ha,y9,hb,y9,h];rfl
theorem q7M{t:Bool}(ha:evE G F a δ=some (.ok (.bl false) cx)):evE G F (.and [a,b]) δ=some (.ok (.bl false) cx):=by
 show Re.thn (evE G F a δ) (λx c=>andD x c (evE G F b δ))=_;rw[ha];rfl
theorem q7P(ha:evE G F a δ=some (.ok (.bl true) cx))(hb:evE G F b δ=o):evE G F (.and [a,b]) δ=o:=by
 show Re.thn (evE G F a δ) (λx c=>andD x c (evE G F b δ))=_;rw[ha];exact hb
theorem q3N(ha:evE G F a δ=some (.ok (.bl false) cx))(hb:evE G F b δ=o):evE G F (.or [a,b]) δ=o:=by
 show Re.thn (evE G F a δ) (λx c=>orD x c (evE G F b δ))=_;rw[ha];exact hb
theorem z6w(ha:evE G F a δ=some (.ok (.bl true) cx)):evE G F (.or [a,b]) δ=some (.ok (.bl true) cx):=by
 show Re.thn (evE G F a δ) (λx c=>orD x c (evE G F b δ))=_;rw[ha];rfl
theorem j1:evEs G F [] δ=some (.ok []):=rfl
theorem d9(ha:evE G F a δ=some (.ok x cx))(h:evEs G F es δ=some (.ok l)):evEs G F (a::es) δ=some (.ok ((x,cx)::l)):=by
 unfold evEs;rw[ha,h]
end
end
section
section
variable {G:Gs} {F:Nat->List DV->Option Ou} {fu:Nat} {δ δ':List Sv} {a b c e:ME} {x y d:DV} {cx cy cl:Cl} {i:Nat} {ds:List DV}
theorem z0N(h0:δ[i]? = some (.own (.lst ds)))(h:evE G F e δ=some (.ok d cl))(hs:stro d cl=true)(hl:ds.length<mostLen):evS G F fu (.app i e) δ=some (.nx (δ.set i (.own (.lst (ds++[d]))))):=by
 unfold evS;rw[h0];show Re.thnS δ (evE G F e δ) (λd c=>if stro d c/\ds.length<mostLen then some (.nx (δ.set i (.own (.lst (ds++[d])))))else none)=_;rw[h];exact d4 ⟨hs,hl⟩
theorem z0P(h0:δ[i]? = some (.own (.lst ds)))(h:evE G F e δ=some (.ok d cl))(hk:evE G F k δ=some (.ok (.int n) cx))(hs:stro d cl=true)(hj:F2 ds.length n=some j):evS G F fu (.seti i k e) δ=some (.nx (δ.set i (.own (.lst (ds.set j d))))):=by
 unfold evS;rw[h0];show Re.thnS δ (evE G F e δ) (λd c=>Re.thnS δ (evE G F k δ) λk _=>(match k with | .int k=>(match F2 ds.length k with | some j=>if stro d c then some (.nx (δ.set i (.own (.lst (ds.set j d)))))else none | none=>none) | _=>none))=_;rw[h,q5v,hk,q5v];show(match F2 ds.length n with | some j=>if stro d cl then some (Out.nx (δ.set i (.own (.lst (ds.set j d)))))else none | none=>none)=_;rw[hj];exact d4 hs
theorem q4r(h:test δ=some (.ok false)):J3 test body (n+1) δ=some (.nx δ):=by
 unfold J3;rw[h]
theorem U9(h:test δ=some (.ok true))(hb:body δ=some (.nx δ'))(hr:J3 test body n δ'=o):J3 test body (n+1) δ=o:=by
 unfold J3;rw[h,hb];exact hr
theorem z1N(h:J3 (λδ'=>tstD (evE G F c δ')) (λδ'=>evSs G F fu body δ') fu δ=some (.nx δ'))(h2:evSs G F fu r δ'=o):evSs G F fu (.wh c body::r) δ=o:=f8 h h2
end
end
section
section
variable {G:Gs} {F:Nat->List DV->Option Ou} {fu:Nat} {δ δ':List Sv} {a b c e:ME} {x y d:DV} {cx cy cl:Cl} {i:Nat} {ds:List DV}
theorem q3y{I:Nat->List Sv->Prop}{body:List Sv->Option Out}:∀(n:Nat) (lo:Int) {δ:List Sv},(∀j<n,∀δ,I j δ->∃δ2,body (δ.set i (.val (.int (lo+j))))=some (.nx δ2)/\I (j+1) δ2)->I 0 δ->∃δ',p6 (.one i) body (upTo lo n) δ=some (.nx δ')/\I n δ'
 | 0,_,δ,_,i0=>⟨δ,rfl,i0⟩
 | n+1,lo,δ,h,i0=>by
  have e:upTo lo (n+1)=.int lo::upTo (lo+1) n:=by
   unfold upTo;rw[Z5,p7,j9]
   congr 1
   ·congr 1;omega
   ·apply C9;intro a _;show DV.int _=DV.int _
    congr 1
    push_cast
    omega
  obtain⟨δ2,h0,i1⟩:=h 0 (by omega) δ i0;rw[show lo+((0:Nat):Int)=lo by omega]at h0;obtain⟨δ',h1,i2⟩:=q3y (I:=λj=>I (j+1)) n (lo+1) (δ:=δ2) (λj hj δ q=>by
   obtain⟨δ3,q1,q2⟩:=h (j+1) (by omega) δ q;refine⟨δ3,?_,q2⟩;rw[show lo+1+((j:Nat):Int)=lo+((j+1:Nat):Int) by push_cast;omega];exact q1) i1
  refine⟨δ',?_,i2⟩;rw[e];show(match body (δ.set i (.val (.int lo)))with | some (.nx δ2)=>p6 (.one i) body (upTo (lo+1) n) δ2 | o=>o)=_;rw[h0];exact h1
theorem q9M(hw:o5 (evE G F it δ)=some (.ok ds cl))(hc:cl ≠ .weak)(hl:ds.length<=mostLen)
  (h:∀d∈ds,∃δ',tg.bind d (A2 fr δ)=some δ'/\evE G F elt δ'=some (.ok (f d) .strong)):evE G F (.comp elt tg it fr) δ=some (.ok (.lst (ds.map f)) .fresh):=by
 show Ri.thn (o5 (evE G F it δ)) (λds c=>if c=.weak\/mostLen<ds.length then none else M7 (A3 (λd=>(tg.bind d (A2 fr δ)).bind λδ'=>Rc.of (evE G F elt δ')) ds))=_;rw[hw,q5D,d5 (by rintro(z | z);exact hc z;omega),q3K (f:=f) (λd hd=>?_)]
 ·rfl
 ·obtain⟨δ',e1,e2⟩:=h d hd;rw[e1,O3,e2];rfl
theorem z8b{l:List Int}{j:Nat}(h:j<l.length):ixD (.lst (l.map DV.int)) (.int j)=some (.int l[j]):=by
 have hh:(j:Int)<((l.map DV.int).length:Int):=by rw[d8];exact_mod_cast h
 simp only[ixD,atD,F2,d4 (K3 j),d4 hh,O3,B8,m9,j3 h,Q6]
theorem z3X{l:List Int}{i:Int}(h0:0<=i)(h:i<l.length):∃v,ixD (.lst (l.map DV.int)) (.int i)=some (.int v):=by
 obtain⟨j,rfl⟩:=Int.eq_ofNat_of_zero_le h0;exact⟨_,z8b (by omega)⟩
end
end
section
section
variable {G:Gs} {F:Nat->List DV->Option Ou} {fu:Nat} {δ δ':List Sv} {r body:List MS} {it:ME} {cl:Cl} {ds:List DV} {tg:Tg} {o:Option Out}
end
end
section
section
variable {G:Gs} {F:Nat->List DV->Option Ou} {fu:Nat} {δ δ':List Sv} {a b:ME} {i j:Int} {cx cy:Cl}
theorem f7:evE G F (.int i) δ=some (.ok (.int i) .strong):=rfl
theorem b8(h:δ[n]? = some (.val d)):evE G F (.var n) δ=some (.ok d .strong):=by unfold evE;rw[h]
theorem P1(h:δ[n]? = some (.own d)):evE G F (.var n) δ=some (.ok d .top):=by unfold evE;rw[h]
theorem L7(ha:evE G F a δ=some (.ok (.int i) cx))(hb:evE G F b δ=some (.ok (.int j) cy)):evE G F (.bin .Add a b) δ=some (.ok (.int (i+j)) .strong):=L6 ha hb rfl
theorem z2W(ha:evE G F a δ=some (.ok (.int i) cx))(hb:evE G F b δ=some (.ok (.int j) cy)):evE G F (.bin .Sub a b) δ=some (.ok (.int (i - j)) .strong):=L6 ha hb rfl
theorem L8(ha:evE G F a δ=some (.ok (.int i) cx))(hb:evE G F b δ=some (.ok (.int j) cy))(h:E7 i j=true):evE G F (.bin .Mult a b) δ=some (.ok (.int (i*j)) .strong):=L6 ha hb (d4 h)
theorem G6(ha:evE G F a δ=some (.ok (.int i) cx))(hb:evE G F b δ=some (.ok (.int j) cy))(h:0<j):evE G F (.bin .Mod a b) δ=some (.ok (.int (i%j)) .strong):=L6 ha hb (d4 h)
theorem y1C(ha:evE G F a δ=some (.ok (.int i) cx))(hb:evE G F b δ=some (.ok (.int j) cy))(h:0<j/\j<1073741824):evE G F (.bin .FloorDiv a b) δ=some (.ok (.int (i/j)) .strong):=L6 ha hb (d4 ⟨h.1,Int.lt_trans h.2 (by decide)⟩)
theorem b_eq(ha:evE G F a δ=some (.ok (.int i) cx))(hb:evE G F b δ=some (.ok (.int j) cy)):evE G F (.cmp .Eq a b) δ=some (.ok (.bl (i==j)) .strong):=E8 ha hb rfl
theorem b_lt(ha:evE G F a δ=some (.ok (.int i) cx))(hb:evE G F b δ=some (.ok (.int j) cy)):evE G F (.cmp .Lt a b) δ=some (.ok (.bl (decide (i<j))) .strong):=E8 ha hb rfl
theorem b_gt(ha:evE G F a δ=some (.ok (.int i) cx))(hb:evE G F b δ=some (.ok (.int j) cy)):evE G F (.cmp .Gt a b) δ=some (.ok (.bl (decide (j<i))) .strong):=E8 ha hb rfl
end
end
section
section
variable {G:Gs} {F:Nat->List DV->Option Ou} {fu:Nat} {δ δ':List Sv} {es:List ME} {l:List (DV×Cl)}
theorem q7H(h:evEs G F es δ=some (.ok l))(hl:l.length<=mostLen)(hs:stros l=true):evE G F (.tup es) δ=some (.ok (.tup (l.map (·.1))) .strong):=by
 show Rs.thn (evEs G F es δ) (λl=>if l.length<=mostLen then some (.ok (.tup (l.map (·.1))) (if stros l then .strong else .weak))else none)=_;rw[h,q3P,d4 hl,hs];rfl
end
end
section
theorem q3T:∀{ds es:List DV} {δ δ':List Sv},p6 tg body ds δ=some (.nx δ')->p6 tg body (ds++es) δ=p6 tg body es δ'
 | [],es,δ,δ',h=>by cases h;rfl
 | d::r,es,δ,δ',h=>by
  show(match tg.bind d δ with | none=>none | some δ1=>(match body δ1 with | some (.nx δ2)=>p6 tg body (r++es) δ2 | o=>o))=_;have h':(match tg.bind d δ with | none=>none | some δ1=>(match body δ1 with | some (.nx δ2)=>p6 tg body r δ2 | o=>o))=some (.nx δ'):=h;cases e1:tg.bind d δ with
  | none=>rw[e1]at h';cases h'
  | some δ1=>
   rw[e1]at h';have h'':(match body δ1 with | some (.nx δ2)=>p6 tg body r δ2 | o=>o)=some (.nx δ'):=h';show(match body δ1 with | some (.nx δ2)=>p6 tg body (r++es) δ2 | o=>o)=_;cases e2:body δ1 with
   | none=>rw[e2]at h'';cases h''
   | some o=>
    rw[e2]at h'';cases o with
    | nx δ2=>exact q3T h''
    | rt d fr=>cases h''
    | ex c δ2=>cases h''
    | rtt d=>cases h''
end
section
theorem q8V(h1:tg.bind d δ=some δ1)(h2:body δ1=some (.nx δ2)):p6 tg body [d] δ=some (.nx δ2):=by
 unfold p6;rw[h1];simp only[h2];rfl
end
section
def Rise(xs:Array Nat):Prop:=∀(i k x y:Nat),i<k->xs[i]? = some x->xs[k]? = some y->x<y
structure Tab(t:SetTable)(b:Bool):Prop where
 rise:Rise t.place
 dum:t.dummies = #[]
 led:t.led=b
end
end L2
end
noncomputable section
namespace L2
open PySem PySem.Spec PyProof.Rows
section
section
variable {prog:Program} {w:World} {A:Around} {E:Value->Shared->Prop} {s:Shared}
theorem z5w{l:List Int}{i:Nat}(h:i<l.length):l.getD i 0∈l:=by
 rw[i7,j3 h];exact F6 h
theorem minL(hh:A.handled=none)(hl:s.heap.IsList l vs.toArray)(hi:IntsAre vs ns)(hz:ns≠[])
  (h:∀h' M (t:Tok) tk,(∀b o,s.heap.get? b=some o->h'.get? b=some o)->M∈ns->(∀a∈ns,M<=a)->Q (.int M t) {s with heap:=h',toks:=tk}):wpAny (model prog w) A (call (.builtin "min") [.ref l]) Q E s:=by
 obtain⟨ys,e⟩:=hi.allInts.items;have en:ns=ys.toList.map (·.1):=by rw[←hi.numsOf,←w3j,←e]
 have zy:0<ys.size:=by
  have q:0<ns.length:=w2U.mpr hz
  rwa [en,d8,K1]at q
 rw[e]at hl;refine min_intList hh hl zy λv h1 tk q k=>?_
 obtain⟨t,ev⟩:=w3U q;subst ev;obtain⟨g1,g2⟩:=argBest_lt (numAt ys) (ys.size - 1);refine h h1 _ t tk k ?_ λa ha=>?_
 ·rw[en,w3x];exact z5w (by rw[d8,K1];omega)
 ·rw[en]at ha;obtain⟨j,hj,ej⟩:=mem_getD ha;subst ej;rw[d8,K1]at hj;rw[←w3x];exact g2 j (by omega)
theorem maxL(hh:A.handled=none)(hl:s.heap.IsList l vs.toArray)(hi:IntsAre vs ns)(hz:ns≠[])
  (h:∀h' M (t:Tok) tk,(∀b o,s.heap.get? b=some o->h'.get? b=some o)->M∈ns->(∀a∈ns,a<=M)->Q (.int M t) {s with heap:=h',toks:=tk}):wpAny (model prog w) A (call (.builtin "max") [.ref l]) Q E s:=by
 obtain⟨ys,e⟩:=hi.allInts.items;have en:ns=ys.toList.map (·.1):=by rw[←hi.numsOf,←w3j,←e]
 have zy:0<ys.size:=by
  have q:0<ns.length:=w2U.mpr hz
  rwa [en,d8,K1]at q
 rw[e]at hl;refine max_intList hh hl zy λv h1 tk q k=>?_
 obtain⟨t,ev⟩:=w3U q;subst ev;obtain⟨g1,g2⟩:=argBest_gt (numAt ys) (ys.size - 1);refine h h1 _ t tk k ?_ λa ha=>?_
 ·rw[en,w3x];exact z5w (by rw[d8,K1];omega)
 ·rw[en]at ha;obtain⟨j,hj,ej⟩:=mem_getD ha;subst ej;rw[d8,K1]at hj;rw[←w3x];exact g2 j (by omega)
end
section
variable {X:Cx} {pos:Pos}
theorem z0F:∀{ns:List Int} {us:List Value},Vals (ns.map V.int) us->IntsAre us ns
 | [],us,h=>by cases h;exact .nil
 | n::ns,us,h=>by
  cases h with
  | cons r t=>
   obtain⟨tk,rfl⟩:=r;exact .cons n tk (z0F t)
theorem z0E(hc:X.calm=true):y6 X (.builtin "min") (λxs H Q=>∃(a:Addr) (ns:List Int),xs=[.ref a]/\SqL X.K H a (ns.map V.int)/\ns≠[]/\∀M,M∈ns->(∀x∈ns,M<=x)->Q (.int M) H):=by
 intro pins s σ H xs us Q I r h;obtain⟨a,ns,rfl,hq,hz,q⟩:=h;obtain⟨u,rfl,r1⟩:=M6 r;cases r1;obtain⟨its,rv,pl,_⟩:=I.list hq;exact minL (I.ok.hd hc) pl.isList (z0F rv) hz λh' M t tk k m1 m2=>⟨.int M,H,I.kept k,⟨t,rfl⟩,q M m1 m2⟩
theorem z0v(hc:X.calm=true):y6 X (.builtin "max") (λxs H Q=>∃(a:Addr) (ns:List Int),xs=[.ref a]/\SqL X.K H a (ns.map V.int)/\ns≠[]/\∀M,M∈ns->(∀x∈ns,x<=M)->Q (.int M) H):=by
 intro pins s σ H xs us Q I r h;obtain⟨a,ns,rfl,hq,hz,q⟩:=h;obtain⟨u,rfl,r1⟩:=M6 r;cases r1;obtain⟨its,rv,pl,_⟩:=I.list hq;exact maxL (I.ok.hd hc) pl.isList (z0F rv) hz λh' M t tk k m1 m2=>⟨.int M,H,I.kept k,⟨t,rfl⟩,q M m1 m2⟩
end
end
end L2
end
noncomputable section
namespace L2
open PySem PySem.Spec PySem.Calls PyProof.Rows PySem.W
section
section
variable {prog:Program} {w:World} {A:Around} {E:Value->Shared->Prop} {s:Shared}
theorem q6l(hh:A.handled=none)(ht:s.heap.IsTuple t (intItems xs))(hne:0<xs.size)
  (h:∀v h' tk,(intItems xs)[argBest (λi j=>decide (numAt xs i<numAt xs j)) (xs.size - 1)]? = some v->(∀b o,s.heap.get? b=some o->h'.get? b=some o)->Q v {s with heap:=h',toks:=tk}) :
  wpAny (model prog w) A (call (.builtin "min") [.ref t]) Q E s:=by
 obtain⟨o,ho,hc,n,hd⟩:=id ht;have hlt:t<s.heap.objs.size:=j8 ho;refine call_min_walk (Q2 ht ?_);refine⟨_,_,_,_,_,_,_,rfl,Walks.tuple (A:=A.in1) hh _ t (B3 hlt) (intItems xs),⟨⟨_,x9 _ rfl,rfl,rfl⟩,ht.push _⟩,λb hb=>?_,by simpa[intItems]using hne,CmpOf.ints_lt (numAt xs) (λ_ _=>w3U),λv h' tk hP hk=>?_⟩
 ·show b<(s.heap.push _).objs.size;rw[K4];rcases f9.mp hb with rfl | hb
  ·exact w3y _
  ·rcases f9.mp hb with rfl | hb
   ·exact Nat.lt_succ_of_lt hlt
   ·cases hb
 ·refine h v h' tk (by simpa[intItems]using hP) λb o e=>hk b o (λhm=>?_) (m5 _ e);rcases f9.mp hm with e1 | hm
  ·exact absurd (e1▸j8 e) (M5 _)
  ·cases hm
end
section
variable {prog:Program} {w:World} {A:Around} {E:Value->Shared->Prop} {s:Shared}
end
end
end L2
end
noncomputable section
namespace L2
open PySem PySem.Spec PyProof.Rows
section
section
variable {prog:Program} {w:World} {A:Around} {E:Value->Shared->Prop} {s:Shared}
theorem minT(hh:A.handled=none)(hl:s.heap.IsTuple l vs.toArray)(hi:IntsAre vs ns)(hz:ns≠[])
  (h:∀h' M (t:Tok) tk,(∀b o,s.heap.get? b=some o->h'.get? b=some o)->M∈ns->(∀a∈ns,M<=a)->Q (.int M t) {s with heap:=h',toks:=tk}):wpAny (model prog w) A (call (.builtin "min") [.ref l]) Q E s:=by
 obtain⟨ys,e⟩:=hi.allInts.items;have en:ns=ys.toList.map (·.1):=by rw[←hi.numsOf,←w3j,←e]
 have zy:0<ys.size:=by
  have q:0<ns.length:=w2U.mpr hz
  rwa [en,d8,K1]at q
 rw[e]at hl;refine q6l hh hl zy λv h1 tk q k=>?_
 obtain⟨t,ev⟩:=w3U q;subst ev;obtain⟨g1,g2⟩:=argBest_lt (numAt ys) (ys.size - 1);refine h h1 _ t tk k ?_ λa ha=>?_
 ·rw[en,w3x];exact z5w (by rw[d8,K1];omega)
 ·rw[en]at ha;obtain⟨j,hj,ej⟩:=mem_getD ha;subst ej;rw[d8,K1]at hj;rw[←w3x];exact g2 j (by omega)
end
section
variable {X:Cx}
theorem z1E(hc:X.calm=true):y6 X (.builtin "min") (λxs H Q=>∃(a:Addr) (ns:List Int),xs=[.ref a]/\SqT X.K H a (ns.map V.int)/\ns≠[]/\∀M,M∈ns->(∀x∈ns,M<=x)->Q (.int M) H):=by
 intro pins s σ H xs us Q I r h;obtain⟨a,ns,rfl,hq,hz,q⟩:=h;obtain⟨u,rfl,r1⟩:=M6 r;cases r1;obtain⟨its,rv,pl,_⟩:=I.tuple hq;exact minT (I.ok.hd hc) pl (z0F rv) hz λh' M t tk k m1 m2=>⟨.int M,H,I.kept k,⟨t,rfl⟩,q M m1 m2⟩
end
end
section
section
variable {prog:Program} {w:World} {A:Around} {E:Value->Shared->Prop} {s:Shared}
theorem z2t{items:Array Value}{bs:List Bool}(e:items.toList=bs.map Value.bool):TruthOf prog w A (λi v=>items[i]? = some v) (λi=>bs.getD i false):=by
 intro i v s Q E hP hQ;have h1:(bs.map Value.bool)[i]? = some v:=by rw[←e,w2M];exact hP
 rw[m9]at h1;obtain⟨b,h2,rfl⟩:=x8.mp h1;have hQ':Q (bs.getD i false) s:=hQ;rw[i7,h2]at hQ';exact PySem.wpAny_truthy_bool hQ'
theorem z0K(bs:List Bool):(List.range bs.length).any (λi=>bs.getD i false)=bs.any id:=by
 rw[w3O,w13,w13];constructor
 ·rintro⟨i,hi,h⟩
  have hi:=p0.mp hi;rw[i7,j3 hi]at h;exact⟨_,F6 hi,h⟩
 ·rintro⟨x,hx,h⟩
  obtain⟨i,hi,rfl⟩:=W3 hx;refine⟨i,p0.mpr hi,?_⟩;rw[i7,j3 hi];exact h
theorem anyL{l:Addr}{items:Array Value}{bs:List Bool}{Q:Value->Shared->Prop}(hh:A.handled=none)(hl:s.heap.IsList l items)(e:items.toList=bs.map Value.bool)
  (h:∀h' tk,(∀b o,s.heap.get? b=some o->h'.get? b=some o)->Q (.bool (bs.any id)) {s with heap:=h',toks:=tk}):wpAny (model prog w) A (call (.builtin "any") [.ref l]) Q E s:=by
 have hlt:l<s.heap.objs.size:=by obtain⟨_,e,_⟩:=hl;exact j8 e
 have hn:items.size=bs.length:=by rw[←K1,e,d8]
 refine call_any_walk (w1Z hl ⟨_,_,_,_,_,_,λi=>bs.getD i false,rfl,Walks.list (A:=A.in1) hh s.heap.objs.size l (B3 hlt) items,⟨⟨_,x9 _ rfl,rfl,rfl⟩,hl.push _⟩,z2t e,λh' tk hk=>?_⟩);rw[hn,z0K];exact h h' tk λb o eb=>hk b o (by simp;exact B3 (j8 eb)) (m5 _ eb)
theorem sumL(hh:A.handled=none)(hl:s.heap.IsList l vs.toArray)(hi:IntsAre vs ns)
  (h:∀h' tk t,(∀b o,s.heap.get? b=some o->h'.get? b=some o)->Q (.int ns.sum t) {s with heap:=h',toks:=tk}):wpAny (model prog w) A (call (.builtin "sum") [.ref l]) Q E s:=by
 obtain⟨ys,e⟩:=hi.allInts.items;have en:ns=ys.toList.map (·.1):=by rw[←hi.numsOf,←w3j,←e]
 rw[e]at hl;refine sum_intListG hh hl λh' tk t' hk=>?_
 have:=h h' tk t' hk;rw[preSum_eq,w2G (by simp)];rw[en]at this;exact this
end
section
variable {X:Cx}
theorem z7A:∀{bs:List Bool} {us:List Value},Vals (bs.map V.bl) us->us=bs.map Value.bool
 | [],_,h=>by cases h;rfl
 | b::bs,_,h=>by
  cases h with
  | cons r t=>
   rw[z7A t];cases(show _=Value.bool b from r);rfl
theorem q9K(hc:X.calm=true):y6 X (.builtin "any") (λxs H Q=>∃(a:Addr) (bs:List Bool),xs=[.ref a]/\SqL X.K H a (bs.map V.bl)/\Q (.bl (bs.any id)) H):=by
 intro pins s σ H xs us Q I r h;obtain⟨a,bs,rfl,hq,q⟩:=h;obtain⟨u,rfl,r1⟩:=M6 r;cases r1;obtain⟨its,rv,pl,_⟩:=I.list hq;exact anyL (I.ok.hd hc) pl.isList (by simpa using z7A rv) λh' tk k=>⟨.bl _,H,I.kept k,rfl,q⟩
theorem z1n(hc:X.calm=true):y6 X (.builtin "sum") (λxs H Q=>∃(a:Addr) (ns:List Int),xs=[.ref a]/\SqL X.K H a (ns.map V.int)/\Q (.int ns.sum) H):=by
 intro pins s σ H xs us Q I r h;obtain⟨a,ns,rfl,hq,q⟩:=h;obtain⟨u,rfl,r1⟩:=M6 r;cases r1;obtain⟨its,rv,pl,_⟩:=I.list hq;exact sumL (I.ok.hd hc) pl.isList (z0F rv) λh' tk t k=>⟨.int _,H,I.kept k,⟨t,rfl⟩,q⟩
end
end
end L2
end
noncomputable section
namespace L2
open PySem
section
structure Sg where
 N:List Str
 sc:List (Str×NameKind)
 fn:List Str
 bl:List Str
 cl:List Str
 top:Bool
 lp:Bool
def z1k:List Str:=["ValueError"]
def u5:Expr->Option Str | .Name x _=>some x | _=>none
def P2:Expr->Option Const | .Constant c _ _=>some c | _=>none
def z6U:Expr->Option (Expr×Operator×Expr) | .BinOp a o b _=>some (a,o,b) | _=>none
def asUn:Expr->Option (UnaryOp×Expr) | .UnaryOp o a _=>some (o,a) | _=>none
def z2r:Expr->Option (Expr×List CmpOp×List Expr) | .Compare a o b _=>some (a,o,b) | _=>none
def q7C:Expr->Option (BoolOp×List Expr) | .BoolOp o es _=>some (o,es) | _=>none
def z0t:Expr->Option (List Expr) | .List es _=>some es | _=>none
def F4:Expr->Option (List Expr) | .Tuple es _ _=>some es | _=>none
def N8:Expr->Option (Expr×Expr) | .Subscript a b _=>some (a,b) | _=>none
def q4X:Expr->Option (Option Expr×Option Expr×Option Expr) | .Slice a b c _=>some (a,b,c) | _=>none
def G3:Expr->Option (Expr×List Expr×List Keyword×Pos) | .Call f as ks p=>some (f,as,ks,p) | _=>none
def V0:Expr->Option (Expr×Str×Pos) | .Attribute a n p=>some (a,n,p) | _=>none
def q9S:Expr->Option (Expr×List Comprehension×Scope) | .ListComp e gs sc _=>some (e,gs,sc) | _=>none
def z7f:Expr->Option (Expr×Expr) | .Dict [some k] [v] _=>some (k,v) | _=>none
def j6:Expr->Bool | .Starred _ _=>true | _=>false
def V1:Expr->Bool | .Slice _ _ _ _=>true | _=>false
def G7:Expr->Bool | .Set _ _ _=>true | _=>false
def V2:Expr->Bool | .ListComp _ _ _ _=>true | .SetComp _ _ _ _=>true | .DictComp _ _ _ _ _=>true | _=>false
theorem A4(h:u5 e=some x):∃p,e=.Name x p:=by
 cases e<;>simp[u5]at h;subst h;exact⟨_,rfl⟩
theorem q2h(h:P2 e=some x):∃k p,e=.Constant x k p:=by
 cases e<;>simp[P2]at h;subst h;exact⟨_,_,rfl⟩
theorem q7Z(h:z6U e=some (a,o,b)):∃p,e=.BinOp a o b p:=by
 cases e<;>simp[z6U]at h;obtain⟨rfl,rfl,rfl⟩:=h;exact⟨_,rfl⟩
theorem q5F(h:asUn e=some (o,a)):∃p,e=.UnaryOp o a p:=by
 cases e<;>simp[asUn]at h;obtain⟨rfl,rfl⟩:=h;exact⟨_,rfl⟩
theorem q4j{e a:Expr}{os:List CmpOp}{bs:List Expr}(h:z2r e=some (a,os,bs)):∃p,e=.Compare a os bs p:=by
 cases e<;>simp[z2r]at h;obtain⟨rfl,rfl,rfl⟩:=h;exact⟨_,rfl⟩
theorem q3p(h:q7C e=some (o,es)):∃p,e=.BoolOp o es p:=by
 cases e<;>simp[q7C]at h;obtain⟨rfl,rfl⟩:=h;exact⟨_,rfl⟩
theorem q6u(h:z0t e=some es):∃p,e=.List es p:=by
 cases e<;>simp[z0t]at h;subst h;exact⟨_,rfl⟩
theorem R7(h:F4 e=some es):∃k p,e=.Tuple es k p:=by
 cases e<;>simp[F4]at h;subst h;exact⟨_,_,rfl⟩
theorem q7V(h:z7f e=some (a,b)):∃p,e=.Dict [some a] [b] p:=by
 unfold z7f at h;split at h
 ·cases h;exact⟨_,rfl⟩
 ·cases h
theorem K9(h:N8 e=some (a,b)):∃p,e=.Subscript a b p:=by
 cases e<;>simp[N8]at h;obtain⟨rfl,rfl⟩:=h;exact⟨_,rfl⟩
theorem q3I(h:q4X e=some (a,b,c)):∃p,e=.Slice a b c p:=by
 cases e<;>simp[q4X]at h;obtain⟨rfl,rfl,rfl⟩:=h;exact⟨_,rfl⟩
theorem E9(h:G3 e=some (f,as,ks,p)):e=.Call f as ks p:=by
 cases e<;>simp[G3]at h;obtain⟨rfl,rfl,rfl,rfl⟩:=h;rfl
theorem q2H(h:V0 e=some (a,n,p)):e=.Attribute a n p:=by
 cases e<;>simp[V0]at h;obtain⟨rfl,rfl,rfl⟩:=h;rfl
theorem z0m(h:q9S e=some (x,gs,sc)):∃p,e=.ListComp x gs sc p:=by
 cases e<;>simp[q9S]at h;obtain⟨rfl,rfl,rfl⟩:=h;exact⟨_,rfl⟩
def visB(sg:Sg)(x:Str):Bool:=sg.sc.lookup x==some .local||sg.sc.lookup x==some .cell||sg.sc.lookup x==some .free
def gloB(sg:Sg)(x:Str):Bool:=sg.sc.lookup x==some .globalImplicit
def locB(sg:Sg)(x:Str):Bool:=sg.sc.lookup x==some .local||sg.sc.lookup x==some .cell
def L9(sg:Sg)(i:Nat)(x:Str):Bool:=sg.N[i]? == some x&&visB sg x&&x != "__debug__" && x != "__classdict__"
def bltB(sg:Sg)(x:Str)(f:Expr):Bool:=u5 f==some x&&gloB sg x&&sg.bl.contains x
def z9B:Bi->Str
 | .len=>"len" | .abs=>"abs" | .min=>"min" | .max=>"max" | .sum=>"sum" | .any=>"any" | .int=>"int" | .list=>"list" | .tuple=>"tuple" | .lsti=>"list"
structure CParts where
 elt:Expr
 tg:Expr
 it:Expr
 ifs:List Expr
 sc:Scope
def q5m(e:Expr):Option CParts:=match q9S e with
 | some (elt,[⟨tg,it,ifs,a⟩],sc)=>if a=0 then some ⟨elt,tg,it,ifs,sc⟩else none
 | _=>none
theorem q4A(h:q5m e=some c):∃p,e=.ListComp c.elt [⟨c.tg,c.it,c.ifs,0⟩] c.sc p:=by
 unfold q5m at h;split at h
 ·rename_i elt tg it ifs a sc q;split at h
  ·rename_i ha;cases h;subst ha;exact z0m q
  ·cases h
 ·cases h
def G8(sg:Sg)(tn:List Str)(fr:List (Option Nat)):List Str:=tn++(fr.drop tn.length).map λo=>match o with | some i=>sg.N.getD i "" | none=>""
def z1l:Tg->Expr->Option (List Str)
 | .one _,e=>(u5 e).map λx=>[x]
 | .many is,e=>match F4 e with
  | some es=>if es.length=is.length then es.mapM u5 else none
  | none=>none
def tgOk(sg:Sg):Tg->Expr->Bool
 | .one i,e=>match u5 e with
  | some x=>sg.N[i]? == some x&&locB sg x
  | none=>false
 | .many is,e=>match F4 e with
  | some es=>es.length==is.length&&2<=es.length&&(is.zip es).all λp=>match u5 p.2 with
   | some x=>sg.N[p.1]? == some x&&locB sg x
   | none=>false
  | none=>false
def Y2:List Str->Bool
 | []=>true
 | x::r=>!r.contains x&&Y2 r
def Y3:Tg->List Nat
 | .one i=>[i]
 | .many is=>is
def Y4(sg:Sg)(N':List Str)(fr:List (Option Nat))(sc:Scope)(tg:Tg):Bool:=(Y3 tg).all (λi=>fr[i]? == some none) &&
 sc.kind == .function&&Y2 N'&&Y2 (sc.names.map (·.1))&&fr.length==N'.length &&
 (fr.zip N').all (λp=>match p.1 with | some i=>sg.N[i]? == some p.2&&sc.names.contains (p.2,.free) | none=>true) &&
 sc.names.all λy=>if y.2 == .free then sg.sc.lookup y.1==some .cell||sg.sc.lookup y.1==some .free else true
def q9p:ME->Bool
 | .comp _ _ _ _=>true
 | .compi _ _ _ _ _=>true
 | _=>false
def isZp:ME->Bool
 | .zp _ _=>true
 | .enu _=>true
 | .itm _=>true
 | _=>false
mutual
def corE(sg:Sg)(w:Bool):ME->Expr->Bool
 | .var i,e=>match u5 e with | some x=>L9 sg i x | none=>false
 | .int i,e=>P2 e==some (.int i)
 | .bl i,e=>P2 e==some (.bool i)
 | .str x,e=>P2 e==some (.str x)&&decide (x.length<=1000)
 | .non,e=>P2 e==some .none
 | .glb x,e=>u5 e==some x&&gloB sg x&&x != "__debug__"
 | .bin op a b,e=>match z6U e with | some (ea,o,eb)=>o==op&&corE sg false a ea&&corE sg false b eb | none=>false
 | .neg a,e=>match asUn e with | some (o,ea)=>o == .USub&&corE sg false a ea | none=>false
 | .not a,e=>match asUn e with | some (o,ea)=>o == .Not&&corE sg false a ea | none=>false
 | .cmp op a b,e=>match z2r e with | some (ea,[o],[eb])=>o==op&&corE sg false a ea&&corE sg false b eb && !G7 eb | _=>false
 | .chain op op' a b c,e=>match z2r e with | some (ea,[o,o'],[eb,ec])=>o==op&&o'==op'&&corE sg false a ea&&corE sg false b eb&&corE sg false c ec && !G7 ec | _=>false
 | .and ms,e=>match q7C e with | some (o,es)=>o == .And&&u8 sg ms es | none=>false
 | .or ms,e=>match q7C e with | some (o,es)=>o == .Or&&u8 sg ms es | none=>false
 | .lst ms,e=>match z0t e with | some es=>u8 sg ms es | none=>false
 | .tup ms,e=>match F4 e with | some es=>u8 sg ms es | none=>false
 | .dc0,e=>match e with | .Dict [] [] _=>true | _=>false
 | .dct i a,e=>match z7f e with
  | some (ek,ev)=>P2 ek==some (.int i)&&corE sg false a ev
  | none=>false
 | .ix a b,e=>match N8 e with | some (ea,eb)=>corE sg false a ea&&corE sg false b eb && !V1 eb | none=>false
 | .sl a lo hi,e=>match N8 e with
  | some (ea,es)=>(match q4X es with | some (some el,some eh,none)=>corE sg false a ea&&corE sg false lo el&&corE sg false hi eh | _=>false)
  | none=>false
 | .slf a lo,e=>match N8 e with
  | some (ea,es)=>(match q4X es with | some (some el,none,none)=>corE sg false a ea&&corE sg false lo el | _=>false)
  | none=>false
 | .slt a hi,e=>match N8 e with
  | some (ea,es)=>(match q4X es with | some (none,some eh,none)=>corE sg false a ea&&corE sg false hi eh | _=>false)
  | none=>false
 | .call f ms,e=>match G3 e with
  | some (ef,es,[],_)=>(match u5 ef with | some x=>sg.fn[f]? == some x&&gloB sg x&&x != "__debug__" | none=>false) && !es.isEmpty&&u8 sg ms es
  | _=>false
 | .bi f ms,e=>match G3 e with
  | some (ef,es,[],_)=>bltB sg (z9B f) ef && !es.isEmpty&&(match f with
   | _=>u8 sg ms es)
  | _=>false
 | .isi a ts,e=>match G3 e with
  | some (ef,[ea,et],[],_)=>bltB sg "isinstance" ef&&corE sg false a ea && !j6 ea && !j6 et&&(match ts with
   | [t]=>u5 et==some t&&gloB sg t&&sg.bl.contains t&&U8.contains t
   | _=>false)
  | _=>false
 | .isx a t,e=>match G3 e with
  | some (ef,[ea,et],[],_)=>bltB sg "isinstance" ef&&corE sg false a ea && !j6 ea && !j6 et&&u5 et==some t&&gloB sg t&&((sg.cl.contains t&&t != "__debug__")||(sg.bl.contains t&&z1k.contains t))
  | _=>false
 | .comp elt tg it fr,e=>match q5m e with
  | some c=>c.ifs.isEmpty&&(corE sg true it c.it&&(!isZp it||(F4 c.tg).isSome)) && !G7 c.it&&(match z1l tg c.tg with
   | some tn=>Y4 sg (G8 sg tn fr) fr c.sc tg&&tgOk ⟨G8 sg tn fr,c.sc.names,sg.fn,sg.bl,sg.cl,false,true⟩ tg c.tg&&corE ⟨G8 sg tn fr,c.sc.names,sg.fn,sg.bl,sg.cl,false,true⟩ false elt c.elt
   | none=>false)
  | none=>false
 | .compi elt tg it cd fr,e=>match q5m e with
  | some c=>(corE sg true it c.it&&(!isZp it||(F4 c.tg).isSome)) && !G7 c.it&&(match z1l tg c.tg,c.ifs with
   | some tn,[ec]=>Y4 sg (G8 sg tn fr) fr c.sc tg&&tgOk ⟨G8 sg tn fr,c.sc.names,sg.fn,sg.bl,sg.cl,false,true⟩ tg c.tg&&corE ⟨G8 sg tn fr,c.sc.names,sg.fn,sg.bl,sg.cl,false,true⟩ false elt c.elt&&corE ⟨G8 sg tn fr,c.sc.names,sg.fn,sg.bl,sg.cl,false,true⟩ false cd ec
   | _,_=>false)
  | none=>false
 | .rng ms,e=>w&&(match G3 e with
  | some (ef,es,[],_)=>bltB sg "range" ef&&u8 sg ms es&&decide (es.length<=1)
  | _=>false)
 | .zp a b,e=>w&&(match G3 e with
  | some (ef,[ea,eb],[],_)=>bltB sg "zip" ef&&corE sg false a ea&&corE sg false b eb && !j6 ea && !j6 eb
  | _=>false)
 | .enu a,e=>w&&(match G3 e with
  | some (ef,[ea],[],_)=>bltB sg "enumerate" ef&&corE sg false a ea && !j6 ea
  | _=>false)
 | .itm a,e=>w&&(match G3 e with
  | some (ef,[],[],pos)=>(match V0 ef with
   | some (o,n,apos)=>n == "items" && corE sg false a o&&apos.endLine==pos.line&&(u5 o).isSome
   | none=>false)
  | _=>false)
 | .dix a k,e=>match N8 e with | some (ea,eb)=>corE sg false a ea&&corE sg false k eb && !V1 eb | none=>false
 | .dgt i k d,e=>match G3 e with
  | some (ef,[ek,ed],[],pos)=>(match V0 ef with
   | some (o,n,apos)=>n == "get" && (match u5 o with | some x=>L9 sg i x | none=>false)&&corE sg false k ek&&corE sg false d ed && !j6 ek && !j6 ed&&apos.endLine==pos.line
   | none=>false)
  | _=>false
def u8(sg:Sg):List ME->List Expr->Bool
 | [],[]=>true
 | m::ms,e::es=>corE sg false m e && !j6 e&&u8 sg ms es
 | _,_=>false
end
def q6x:ExceptHandler->Option (Option Expr×Option Str×List Stmt) | .ExceptHandler t n b _=>some (t,n,b)
def parB(sg:Sg)(i j:Nat)(a b x y:Expr):Bool:=match u5 x,u5 y with
 | some x',some y'=>i != j&&sg.N[i]? == some x'&&sg.N[j]? == some y'&&sg.sc.lookup x'==some .local&&sg.sc.lookup y'==some .local&&y.pos.line==x.pos.line && !j6 a && !j6 b && ![a,b].all (foldedForSure 8) && ![a,b].all (constantsAlone 8)
 | _,_=>false
def J4:Str:="_law_hung"
def hunB(sg:Sg)(i:Nat)(v:Expr):Option Expr:=match G3 v with
 | some (ef,[ea,eo],[],_)=>(match u5 ef,u5 eo with
  | some f,some x=>if f==J4&&gloB sg f&&L9 sg i x && !j6 ea then some ea else none
  | _,_=>none)
 | _=>none
mutual
def corS(sg:Sg):MS->Stmt->Bool
 | .set i _ e,s=>match s with
  | .Assign [t] v pos=>(match t with
   | .Name x pt=>sg.N[i]? == some x&&locB sg x&&corE sg false e v&&(!V2 v||q9p e)
   | _=>false)
  | _=>false
 | .par is es,s=>match s with
  | .Assign [t] v _=>(match F4 t,F4 v,is with
   | some [x,y],some [a,b],[i,j]=>parB sg i j a b x y&&u8 sg es [a,b]
   | _,_,_=>false)
  | _=>false
 | .app i e,s=>match s with
  | .Expr v _=>(match G3 v with
   | some (ef,[ea],[],pos)=>(match V0 ef with
    | some (o,n,apos)=>n == "append" && (match u5 o with | some x=>L9 sg i x | none=>false)&&corE sg false e ea && !j6 ea&&apos.endLine==pos.line
    | none=>false)
   | _=>false)
  | _=>false
 | .seti i k e,s=>match s with
  | .Assign [t] v _=>(match N8 t with
   | some (o,ek)=>(match u5 o with | some x=>L9 sg i x | none=>false)&&corE sg false k ek && !V1 ek&&corE sg false e v
   | none=>false)
  | _=>false
 | .exp e,s=>match s with
  | .Expr v _=>corE sg false e v && !V2 v
  | _=>false
 | .ret e,s=>match s with
  | .Return (some v) _=>corE sg false e v
  | _=>false
 | .ret2 a b,s=>match s with
  | .Return (some v) _=>(match F4 v with | some [ea,eb]=>corE sg false a ea&&corE sg false b eb && !j6 ea && !j6 eb | _=>false)
  | _=>false
 | .setp i f es,s=>match s with
  | .Assign [t] v _=>(match t with
   | .Name x _=>sg.N[i]? == some x&&locB sg x&&corE sg false (.call f es) v
   | _=>false)
  | _=>false
 | .oapp i k e,s=>match s with
  | .Expr v _=>(match G3 v with
   | some (ef,[ea],[],pos)=>(match V0 ef with
    | some (o,n,apos)=>n == "append" && (match N8 o with
     | some (ob,oi)=>(match u5 ob with | some x=>L9 sg i x | none=>false)&&P2 oi==some (.int k)
     | none=>false)&&corE sg false e ea && !j6 ea&&apos.endLine==pos.line
    | none=>false)
   | _=>false)
  | _=>false
 | .oclr i k,s=>match s with
  | .Expr v _=>(match G3 v with
   | some (ef,[],[],pos)=>(match V0 ef with
    | some (o,n,apos)=>n == "clear" && (match N8 o with
     | some (ob,oi)=>(match u5 ob with | some x=>L9 sg i x | none=>false)&&P2 oi==some (.int k)
     | none=>false)&&apos.endLine==pos.line
    | none=>false)
   | _=>false)
  | _=>false
 | .retp i,s=>match s with
  | .Return (some v) _=>(match u5 v with | some x=>L9 sg i x | none=>false)
  | _=>false
 | .iff c a b,s=>match s with
  | .If ec ea eb _=>corE sg false c ec&&G9 sg a ea&&G9 sg b eb
  | _=>false
 | .fo tg it body,s=>match s with
  | .For t i b [] _=>sg.lp&&tgOk sg tg t&&(corE sg true it i&&(!isZp it||(F4 t).isSome)) && !G7 i&&G9 sg body b
  | _=>false
 | .wh c body,s=>match s with
  | .While t b [] _=>sg.lp&&corE sg false c t&&G9 sg body b
  | _=>false
 | .sed i,s=>match s with
  | .Assign [t] v _=>(match u5 t with
   | some x=>(match v with | .Dict [] [] _=>sg.N[i]? == some x&&locB sg x | _=>false)
   | none=>false)
  | _=>false
 | .dput i k e,s=>match s with
  | .Assign [t] v _=>(match N8 t with
   | some (o,ek)=>(match u5 o with | some x=>L9 sg i x | none=>false)&&corE sg false k ek && !V1 ek&&corE sg false e v && !V2 v
   | none=>false)
  | _=>false
 | .retd i,s=>match s with
  | .Return (some v) _=>(match u5 v with | some x=>L9 sg i x | none=>false)
  | _=>false
 | .rse c e,s=>match s with
  | .Raise (some v) none _=>(match G3 v with
   | some (ef,[ea],[],_)=>sg.top&&u5 ef==some c&&gloB sg c&&c != "__debug__" && corE sg false e ea && !j6 ea
   | _=>false)
  | _=>false
 | .tryc body c ie ic,s=>match s with
  | .Try b [h] [] [] _=>sg.top&&G9 ⟨sg.N,sg.sc,sg.fn,sg.bl,sg.cl,false,false⟩ body b&&(match q6x h with
   | some (some t,some n,[.Assign [t2] v2 _])=>u5 t==some c&&gloB sg c&&c != "__debug__" && sg.cl.contains c&&sg.N[ie]? == some n&&sg.sc.lookup n==some .local&&n != "__debug__" && n != "__classdict__" &&
     u5 v2==some n&&(match u5 t2 with | some x=>sg.N[ic]? == some x&&locB sg x | none=>false)&&ie != ic
   | _=>false)
  | _=>false
 | .frz _,_=>false
def G9(sg:Sg):List MS->List Stmt->Bool
 | [],[]=>true
 | .frz _::ms,ss=>G9 sg ms ss
 | m::ms,s::ss=>corS sg m s&&G9 sg ms ss
 | _,_=>false
end
end
end L2
end
noncomputable section
namespace L2
open PySem PySem.Spec PyProof.Rows
section
structure Dm where
 K:PySem.W.Frag
 mg:Str->Option Value
abbrev Cx.D(X:Cx):Dm:=⟨X.K,X.mg⟩
def SqS(K:PySem.W.Frag)(H:Hp)(a:Addr)(xs:List V):Prop:=(∃o,H a=some (.frz o (.lst xs))) \/
 ∃(o:Obj) (its:Array Value) (n:Nat),K.lookup a=some o/\o.cls=.type "list" /\ o.dict=none/\o.data=.seq its n/\its.size<=sizeLine/\Vals xs its.toList
theorem SqS.sq{K:PySem.W.Frag}{H:Hp}{a:Addr}{xs:List V}(h:SqS K H a xs):SqL K H a xs:=by
 rcases h with h | h
 ·exact .inl (.inr h)
 ·exact .inr h
theorem SqS.of{K:PySem.W.Frag}{H:Hp}{a:Addr}{xs:List V}(hO:Only H)(h:SqL K H a xs):SqS K H a xs:=by
 rcases h with(h | h) | h
 ·rcases hO a with z | ⟨o,ys,z⟩
  ·rw[h]at z;cases z
  ·rw[h]at z;cases z
 ·exact .inl h
 ·exact .inr h
theorem Same.sqs{K:PySem.W.Frag}{H H':Hp}{a:Addr}{xs:List V}(e:Same H H')(h:SqS K H a xs):SqS K H' a xs:=by
 rcases h with⟨o,h⟩ | h
 ·exact .inl ⟨o,e _ _ h⟩
 ·exact .inr h
def dKey:Key->DKey
 | .inl i=>.i i
 | .inr x=>.s x
def mutO:HO->Bool
 | .lst _=>true
 | .dK _=>true
 | .dT _=>true
 | _=>false
mutual
def Rep(D:Dm)(H:Hp):DV->V->Prop
 | .non,v=>v=.non
 | .bl b,v=>v=.bl b
 | .int i,v=>v=.int i
 | .str x,v=>v=.str x/\x.length<=sizeLine
 | .tup ds,v=>∃a xs,v=.ref a/\SqT D.K H a xs/\RepL D H ds xs
 | .lst ds,v=>∃a xs,v=.ref a/\H a=some (.lst xs)/\RepL D H ds xs
 | .dct ks vs,v=>(∃a o kvs,v=.ref a/\H a=some (.frz o (.dK kvs))/\kvs.map (λp=>dKey p.1)=ks/\RepL D H vs (kvs.map (·.2)))\/∃a o kvs,v=.ref a/\H a=some (.frz o (.dT kvs))/\kvs.map (λp=>DKey.t p.1)=ks/\RepL D H vs (kvs.map (·.2))
 | .exc c,v=>∃a C,v=.ref a/\D.mg c=some C/\H a=some (excO a C)
 | .fn x,v=>∃f,v=.ref f/\D.mg x=some (.ref f)
 | .scr ns,v=>∃a,v=.ref a/\SqS D.K H a (ns.map V.int)
def RepL(D:Dm)(H:Hp):List DV->List V->Prop
 | [],xs=>xs=[]
 | d::ds,xs=>∃v vs,xs=v::vs/\Rep D H d v/\RepL D H ds vs
end
theorem Same.tseq{K:PySem.W.Frag}{H H':Hp}{a:Addr}{xs:List V}(e:Same H H')(h:SqT K H a xs):SqT K H' a xs:=by
 rcases h with(h | ⟨o,h⟩) | h
 ·exact .inl (.inl (e _ _ h))
 ·exact .inl (.inr ⟨o,e _ _ h⟩)
 ·exact .inr h
mutual
theorem Rep.mono(e:Same H H'):∀{d:DV} {v:V},Rep D H d v->Rep D H' d v
 | .non,_,h=>by unfold Rep at h ⊢;exact h
 | .bl _,_,h=>by unfold Rep at h ⊢;exact h
 | .int _,_,h=>by unfold Rep at h ⊢;exact h
 | .str _,_,h=>by unfold Rep at h ⊢;exact h
 | .tup ds,_,h=>by unfold Rep at h ⊢;obtain⟨a,xs,e1,e2,e3⟩:=h;exact⟨a,xs,e1,e.tseq e2,RepL.mono e e3⟩
 | .lst ds,_,h=>by unfold Rep at h ⊢;obtain⟨a,xs,e1,e2,e3⟩:=h;exact⟨a,xs,e1,e _ _ e2,RepL.mono e e3⟩
 | .dct _ _,_,h=>by
  unfold Rep at h ⊢;rcases h with⟨a,o,kvs,e1,e2,e3,e4⟩ | ⟨a,o,kvs,e1,e2,e3,e4⟩
  ·exact .inl ⟨a,o,kvs,e1,e _ _ e2,e3,RepL.mono e e4⟩
  ·exact .inr ⟨a,o,kvs,e1,e _ _ e2,e3,RepL.mono e e4⟩
 | .exc C,_,h=>by unfold Rep at h ⊢;obtain⟨a,C,e1,e2,e3⟩:=h;exact⟨a,C,e1,e2,e _ _ e3⟩
 | .fn _,_,h=>by unfold Rep at h ⊢;exact h
 | .scr _,_,h=>by unfold Rep at h ⊢;obtain⟨a,e1,e2⟩:=h;exact⟨a,e1,e.sqs e2⟩
theorem RepL.mono(e:Same H H'):∀{ds:List DV} {xs:List V},RepL D H ds xs->RepL D H' ds xs
 | [],_,h=>by unfold RepL at h ⊢;exact h
 | d::ds,_,h=>by unfold RepL at h ⊢;obtain⟨v,vs,e1,e2,e3⟩:=h;exact⟨v,vs,e1,Rep.mono e e2,RepL.mono e e3⟩
end
section
variable {D:Dm} {H H':Hp} {v:V} {xs ys:List V} {ds es:List DV} {d:DV}
theorem u9:Rep D H (.int i) v↔v=.int i:=by unfold Rep;exact N6
theorem V3:Rep D H (.bl i) v↔v=.bl i:=by unfold Rep;exact N6
theorem V4:Rep D H (.str i) v↔(v=.str i/\i.length<=sizeLine):=by unfold Rep;exact N6
theorem q3E:Rep D H .non v↔v=.non:=by unfold Rep;exact N6
theorem A9:Rep D H (.tup ds) v↔∃a xs,v=.ref a/\SqT D.K H a xs/\RepL D H ds xs:=by unfold Rep;exact N6
theorem B6:Rep D H (.lst ds) v↔∃a xs,v=.ref a/\H a=some (.lst xs)/\RepL D H ds xs:=by unfold Rep;exact N6
theorem q7n:Rep D H (.exc c) v↔∃a C,v=.ref a/\D.mg c=some C/\H a=some (excO a C):=by unfold Rep;exact N6
theorem z7C:Rep D H (.fn x) v↔∃f,v=.ref f/\D.mg x=some (.ref f):=by unfold Rep;exact N6
theorem P3:Rep D H (.scr ns) v↔∃a,v=.ref a/\SqS D.K H a (ns.map V.int):=by unfold Rep;exact N6
theorem M0:Rep D H (.dct ks vs) v↔((∃a o kvs,v=.ref a/\H a=some (.frz o (.dK kvs))/\kvs.map (λp=>dKey p.1)=ks/\RepL D H vs (kvs.map (·.2)))\/∃a o kvs,v=.ref a/\H a=some (.frz o (.dT kvs))/\kvs.map (λp=>DKey.t p.1)=ks/\RepL D H vs (kvs.map (·.2))):=by unfold Rep;exact N6
theorem B2:RepL D H [] xs↔xs=[]:=by unfold RepL;exact N6
theorem p8:RepL D H (d::ds) xs↔∃v vs,xs=v::vs/\Rep D H d v/\RepL D H ds vs:=by
 constructor
 ·intro h;unfold RepL at h;exact h
 ·intro h;unfold RepL;exact h
end
theorem RepL.length:∀{ds:List DV} {xs:List V},RepL D H ds xs->xs.length=ds.length
 | [],_,h=>by rw[B2.mp h];rfl
 | d::ds,_,h=>by obtain⟨v,vs,e1,_,e3⟩:=p8.mp h;rw[e1,m4,m4,RepL.length e3]
theorem RepL.get:∀{ds:List DV} {xs:List V} {i:Nat} {d:DV},RepL D H ds xs->ds[i]? = some d->∃v,xs[i]? = some v/\Rep D H d v
 | [],_,_,_,_,e=>by simp at e
 | d::ds,_,i,d',h,e=>by
  obtain⟨v,vs,e1,e2,e3⟩:=p8.mp h;subst e1;cases i with
  | zero=>simp at e;subst e;exact⟨v,rfl,e2⟩
  | succ i=>simpa using RepL.get (i:=i) e3 (by simpa using e)
theorem RepL.append:∀{ds es:List DV} {xs ys:List V},RepL D H ds xs->RepL D H es ys->RepL D H (ds++es) (xs++ys)
 | [],_,_,_,h,h'=>by rw[B2.mp h];exact h'
 | d::ds,_,_,_,h,h'=>by obtain⟨v,vs,e1,e2,e3⟩:=p8.mp h;subst e1;exact p8.mpr ⟨v,_,rfl,e2,RepL.append e3 h'⟩
theorem RepL.one(h:Rep D H d v):RepL D H [d] [v]:=p8.mpr ⟨v,[],rfl,h,B2.mpr rfl⟩
theorem RepL.take:∀{ds:List DV} {xs:List V} (n:Nat),RepL D H ds xs->RepL D H (ds.take n) (xs.take n)
 | _,_,0,_=>B2.mpr rfl
 | [],_,n+1,h=>by rw[B2.mp h];exact B2.mpr rfl
 | d::ds,_,n+1,h=>by obtain⟨v,vs,e1,e2,e3⟩:=p8.mp h;subst e1;exact p8.mpr ⟨v,_,rfl,e2,RepL.take n e3⟩
theorem RepL.drop:∀{ds:List DV} {xs:List V} (n:Nat),RepL D H ds xs->RepL D H (ds.drop n) (xs.drop n)
 | _,_,0,h=>h
 | [],_,n+1,h=>by rw[B2.mp h];exact B2.mpr rfl
 | d::ds,_,n+1,h=>by obtain⟨v,vs,e1,e2,e3⟩:=p8.mp h;subst e1;exact RepL.drop n e3
theorem RepL.set(q:Rep D H d v):∀{ds:List DV} {xs:List V} (n:Nat),RepL D H ds xs->RepL D H (ds.set n d) (xs.set n v)
 | [],_,n,h=>by rw[B2.mp h];exact B2.mpr rfl
 | _::ds,_,0,h=>by obtain⟨v,vs,e1,e2,e3⟩:=p8.mp h;subst e1;exact p8.mpr ⟨_,_,rfl,q,e3⟩
 | _::ds,_,n+1,h=>by obtain⟨v,vs,e1,e2,e3⟩:=p8.mp h;subst e1;exact p8.mpr ⟨_,_,rfl,e2,RepL.set q n e3⟩
theorem RepL.rep(h:RepL D H ds xs):∀k:Nat,RepL D H (List.replicate k ds).flatten (List.replicate k xs).flatten
 | 0=>B2.mpr rfl
 | k+1=>by rw[Q0,Q0,W4,W4];exact h.append (RepL.rep h k)
theorem V5:∀(ns:List Int),RepL D H (ns.map DV.int) (ns.map V.int)
 | []=>B2.mpr rfl
 | n::ns=>p8.mpr ⟨_,_,rfl,u9.mpr rfl,V5 ns⟩
def wo(O:List Addr)(H:Hp):Hp:=λb=>if b∈O then none else H b
theorem z7D(h:b∈O):wo O H b=none:=d4 h
theorem j7(h:b∉O):wo O H b=H b:=d5 h
theorem B7(h:wo O H b=some o):b∉O/\H b=some o:=by
 by_cases hb:b∈O
 ·rw[z7D hb]at h;cases h
 ·rw[j7 hb]at h;exact⟨hb,h⟩
theorem Same.wo(e:Same H H'):Same (wo O H) (wo O H'):=λb o h=>by
 obtain⟨hb,h⟩:=B7 h;rw[j7 hb];exact e b o h
theorem n9:Same (L2.wo O H) H:=λb o h=>(B7 h).2
theorem x6(h:∀b∈O',b∈O):Same (L2.wo O H) (L2.wo O' H):=λb o e=>by
 obtain⟨hb,e⟩:=B7 e;rw[j7 λz=>hb (h b z)];exact e
theorem u6(h:H p=none):Same H (upd H p o):=λb u q=>by rw[j4 (G0 q h)];exact q
structure Hid(O W:List Addr)(H0 H:Hp):Prop where
 ot:∀a∈O++W,H0 a≠none
 same:Same H0 H
 wl:∀a∈W,∃o,H0 a=some o/\mutO o=true
 dj:∀a∈W,a∉O
 om:∀a∈O,∃o,H0 a=some o/\mutO o=true
def Hdn(O:List Addr)(H:Hp):Prop:=∀a∈O,∃o,H a=some o/\mutO o=true
theorem Hdn.ne(h:Hdn O H):∀a∈O,H a≠none:=λa ha q=>by obtain⟨o,e,_⟩:=h a ha;rw[q]at e;cases e
theorem Hid.omS(h:Hid O W H0 H)(e:Same H0 H'):Hdn O H':=λa ha=>by obtain⟨o,q,m⟩:=h.om a ha;exact⟨o,e _ _ q,m⟩
theorem Hid.omW(h:Hid O W H0 H)(hp:p∈W):Hdn O (upd H0 p x):=λa ha=>by
 obtain⟨o,q,m⟩:=h.om a ha;exact⟨o,by rw[j4 λz=>h.dj p hp (by rw[←z];exact ha)];exact q,m⟩
theorem Hid.hdO(h:Hid O W H0 H):Hdn O H:=h.omS h.same
theorem Hid.hdA(h:Hid O W H0 H):Hdn (O++W) H:=λa ha=>by
 rcases y0.mp ha with z | z
 ·exact h.hdO a z
 ·obtain⟨o,q,m⟩:=h.wl a z;exact⟨o,h.same _ _ q,m⟩
theorem Hid.mono(h:Hid O W H0 H)(e:Same H H'):Hid O W H0 H':=⟨h.ot,h.same.trans e,h.wl,h.dj,h.om⟩
theorem Hid.newOut(h:Hid O W H0 H)(hp:H p=none):p∉O++W:=λz=>h.ot p z (h.same.free hp)
mutual
theorem Rep.immut(hw:∀a∈W,∃o,H a=some o/\mutO o=true):∀{d:DV} {v:V},d.immut=true->Rep D (L2.wo O H) d v->Rep D (L2.wo (O++W) H) d v
 | .non,_,_,h=>by unfold Rep at h ⊢;exact h
 | .bl _,_,_,h=>by unfold Rep at h ⊢;exact h
 | .int _,_,_,h=>by unfold Rep at h ⊢;exact h
 | .str _,_,_,h=>by unfold Rep at h ⊢;exact h
 | .tup ds,_,m,h=>by
  unfold Rep at h ⊢;obtain⟨a,xs,e1,e2,e3⟩:=h;have m':DV.immuts ds=true:=by unfold DV.immut at m;exact m
  refine⟨a,xs,e1,?_,RepL.immut hw m' e3⟩;rcases e2 with(h | ⟨o,h⟩) | h
  ·obtain⟨ha,h⟩:=B7 h;refine .inl (.inl ?_);rw[j7 λz=>?_]
   ·exact h
   ·rcases y0.mp z with z | z
    ·exact ha z
    ·obtain⟨ys,q,m⟩:=hw a z;rw[h]at q;cases q;cases m
  ·obtain⟨ha,h⟩:=B7 h;refine .inl (.inr ⟨o,?_⟩);rw[j7 λz=>?_]
   ·exact h
   ·rcases y0.mp z with z | z
    ·exact ha z
    ·obtain⟨ys,q,m⟩:=hw a z;rw[h]at q;cases q;cases m
  ·exact .inr h
 | .lst ds,_,m,_=>by unfold DV.immut at m;cases m
 | .dct ks vs,_,m,h=>by
  have m':DV.immuts vs=true:=by unfold DV.immut at m;exact m
  have ou:∀{a:Addr} {o:Obj} {u:HO},L2.wo O H a=some (.frz o u)->L2.wo (O++W) H a=some (.frz o u):=λ{a o u} e=>by
   obtain⟨ha,h⟩:=B7 e;rw[j7 λz=>?_]
   ·exact h
   ·rcases y0.mp z with z | z
    ·exact ha z
    ·obtain⟨ys,q,m⟩:=hw a z;rw[h]at q;cases q;cases m
  rcases M0.mp h with⟨a,o,kvs,e1,e2,e3,e4⟩ | ⟨a,o,kvs,e1,e2,e3,e4⟩
  ·exact M0.mpr (.inl ⟨a,o,kvs,e1,ou e2,e3,RepL.immut hw m' e4⟩)
  ·exact M0.mpr (.inr ⟨a,o,kvs,e1,ou e2,e3,RepL.immut hw m' e4⟩)
 | .exc C,_,_,h=>by
  unfold Rep at h ⊢;obtain⟨a,C,e1,e2,e3⟩:=h;obtain⟨ha,h⟩:=B7 e3;refine⟨a,C,e1,e2,?_⟩;rw[j7 λz=>?_]
  ·exact h
  ·rcases y0.mp z with z | z
   ·exact ha z
   ·obtain⟨ys,q,m⟩:=hw a z;rw[h]at q;cases q;cases m
 | .fn _,_,_,h=>by unfold Rep at h ⊢;exact h
 | .scr ns,_,_,h=>by
  unfold Rep at h ⊢;obtain⟨a,e1,e2⟩:=h;refine⟨a,e1,?_⟩;rcases e2 with⟨o,h⟩ | h
  ·obtain⟨ha,h⟩:=B7 h;refine .inl ⟨o,?_⟩;rw[j7 λz=>?_]
   ·exact h
   ·rcases y0.mp z with z | z
    ·exact ha z
    ·obtain⟨ys,q,m⟩:=hw a z;rw[h]at q;cases q;cases m
  ·exact .inr h
theorem RepL.immut(hw:∀a∈W,∃o,H a=some o/\mutO o=true):∀{ds:List DV} {xs:List V},DV.immuts ds=true->RepL D (L2.wo O H) ds xs->RepL D (L2.wo (O++W) H) ds xs
 | [],_,_,h=>by unfold RepL at h ⊢;exact h
 | d::ds,_,m,h=>by unfold RepL at h ⊢;obtain⟨v,vs,e1,e2,e3⟩:=h;unfold DV.immuts at m;rw[d7]at m;exact⟨v,vs,e1,Rep.immut hw m.1 e2,RepL.immut hw m.2 e3⟩
end
def RepT(D:Dm)(W:List Addr)(Ht H:Hp)(d:DV)(v:V):Prop:=match d with
 | .lst ds=>∃a xs,v=.ref a/\a∈W/\Ht a=some (.lst xs)/\RepL D H ds xs
 | d=>Rep D H d v
theorem RepT.mono(et:Same Ht Ht')(e:Same H H')(h:RepT D W Ht H d v):RepT D W Ht' H' d v:=by
 cases d with
 | lst ds=>obtain⟨a,xs,e1,e0,e2,e3⟩:=h;exact⟨a,xs,e1,e0,et _ _ e2,e3.mono e⟩
 | non=>exact Rep.mono (D:=D) (d:=.non) (v:=v) e h
 | bl b=>exact Rep.mono (D:=D) (d:=.bl b) (v:=v) e h
 | int b=>exact Rep.mono (D:=D) (d:=.int b) (v:=v) e h
 | str b=>exact Rep.mono (D:=D) (d:=.str b) (v:=v) e h
 | tup b=>exact Rep.mono (D:=D) (d:=.tup b) (v:=v) e h
 | dct b c=>exact Rep.mono (D:=D) (d:=.dct b c) (v:=v) e h
 | exc b=>exact Rep.mono (D:=D) (d:=.exc b) (v:=v) e h
 | fn b=>exact Rep.mono (D:=D) (d:=.fn b) (v:=v) e h
 | scr b=>exact Rep.mono (D:=D) (d:=.scr b) (v:=v) e h
theorem RepT.rep(e:Same H Ht)(h:RepT D W Ht H d v):Rep D Ht d v:=by
 cases d with
 | lst ds=>obtain⟨a,xs,e1,e0,e2,e3⟩:=h;exact B6.mpr ⟨a,xs,e1,e2,e3.mono e⟩
 | non=>exact Rep.mono (D:=D) (d:=.non) (v:=v) e h
 | bl b=>exact Rep.mono (D:=D) (d:=.bl b) (v:=v) e h
 | int b=>exact Rep.mono (D:=D) (d:=.int b) (v:=v) e h
 | str b=>exact Rep.mono (D:=D) (d:=.str b) (v:=v) e h
 | tup b=>exact Rep.mono (D:=D) (d:=.tup b) (v:=v) e h
 | dct b c=>exact Rep.mono (D:=D) (d:=.dct b c) (v:=v) e h
 | exc b=>exact Rep.mono (D:=D) (d:=.exc b) (v:=v) e h
 | fn b=>exact Rep.mono (D:=D) (d:=.fn b) (v:=v) e h
 | scr b=>exact Rep.mono (D:=D) (d:=.scr b) (v:=v) e h
def Got(D:Dm)(O W:List Addr)(H0 H:Hp)(d:DV)(c:Cl)(v:V):Prop:=match c with
 | .weak=>Rep D (L2.wo O H) d v
 | .top=>RepT D W (L2.wo O H) (L2.wo (O++W) H) d v
 | .strong=>Rep D (L2.wo (O++W) H) d v
 | .fresh=>∃p xs ds,v=.ref p/\d=.lst ds/\H0 p=none/\H p=some (.lst xs)/\RepL D (L2.wo (p::(O++W)) H) ds xs
 | .ft=>∃t ts p xs ds es,v=.ref t/\d=.tup (.lst ds::es)/\SqT D.K (L2.wo (O++W) H) t (.ref p::ts)/\H0 p=none/\H p=some (.lst xs)/\RepL D (L2.wo (p::(O++W)) H) ds xs/\RepL D (L2.wo (p::(O++W)) H) es ts
section
variable {D:Dm} {O W:List Addr} {H0 H H':Hp} {d:DV} {ds:List DV} {c:Cl} {v:V}
theorem R8:∀b∈O,b∈O++W:=λ_ h=>u4 _ h
theorem Got.mono(h:Got D O W H0 H d c v)(e:Same H H'):Got D O W H0 H' d c v:=by
 cases c with
 | weak=>exact Rep.mono e.wo h
 | top=>exact RepT.mono e.wo e.wo h
 | strong=>exact Rep.mono e.wo h
 | fresh=>
  obtain⟨p,xs,ds,e1,e2,e3,e4,e5⟩:=h;exact⟨p,xs,ds,e1,e2,e3,e _ _ e4,e5.mono e.wo⟩
 | ft=>
  obtain⟨t,ts,p,xs,ds,es,e1,e2,e0,e3,e4,e5,e6⟩:=h;exact⟨t,ts,p,xs,ds,es,e1,e2,e.wo.tseq e0,e3,e _ _ e4,e5.mono e.wo,e6.mono e.wo⟩
theorem Got.since(h:Got D O W H1 H d c v)(e:Same H0 H1):Got D O W H0 H d c v:=by
 cases c with
 | weak=>exact h
 | top=>exact h
 | strong=>exact h
 | fresh=>
  obtain⟨p,xs,ds,e1,e2,e3,e4,e5⟩:=h;exact⟨p,xs,ds,e1,e2,e.free e3,e4,e5⟩
 | ft=>
  obtain⟨t,ts,p,xs,ds,es,e1,e2,e0,e3,e4,e5,e6⟩:=h;exact⟨t,ts,p,xs,ds,es,e1,e2,e0,e.free e3,e4,e5,e6⟩
theorem Got.ft(h:Got D O W H0 H d .ft v)(hd:Hid O W H0 H):Rep D (L2.wo (O++W) H) d v:=by
 obtain⟨t,ts,p,xs,ds,es,e1,e2,e0,e3,e4,e5,e6⟩:=h;have hp:p∉O++W:=λz=>hd.ot p z e3
 have up:Same (L2.wo (p::(O++W)) H) (L2.wo (O++W) H):=x6 λb hb=>i6 _ hb;rw[e2];exact A9.mpr ⟨t,_,e1,e0,p8.mpr ⟨_,_,rfl,B6.mpr ⟨p,xs,rfl,by rw[j7 hp];exact e4,e5.mono up⟩,e6.mono up⟩⟩
theorem Got.strong(h:Got D O W H0 H d .fresh v)(hd:Hid O W H0 H):Rep D (L2.wo (O++W) H) d v:=by
 obtain⟨p,xs,ds,e1,e2,e3,e4,e5⟩:=h;have hp:p∉O++W:=λz=>hd.ot p z e3
 rw[e2];exact B6.mpr ⟨p,xs,e1,by rw[j7 hp];exact e4,e5.mono (x6 λb hb=>i6 _ hb)⟩
theorem Got.weak(h:Got D O W H0 H d c v)(hd:Hid O W H0 H):Rep D (L2.wo O H) d v:=by
 cases c with
 | weak=>exact h
 | top=>exact RepT.rep (x6 R8) h
 | strong=>exact Rep.mono (x6 R8) h
 | fresh=>exact Rep.mono (x6 R8) (h.strong hd)
 | ft=>exact Rep.mono (x6 R8) (h.ft hd)
theorem Got.all(h:Got D O W H0 H d c v)(hd:Hid O W H0 H):Rep D H d v:=Rep.mono n9 (h.weak hd)
theorem Got.stro(h:Got D O W H0 H d c v)(hd:Hid O W H0 H)(hs:L2.stro d c=true):Rep D (L2.wo (O++W) H) d v:=by
 cases c with
 | strong=>exact h
 | fresh=>exact h.strong hd
 | ft=>exact h.ft hd
 | weak=>exact Rep.immut (λa ha=>by obtain⟨xs,e,m⟩:=hd.wl a ha;exact⟨xs,hd.same _ _ e,m⟩) hs (h.weak hd)
 | top=>exact Rep.immut (λa ha=>by obtain⟨xs,e,m⟩:=hd.wl a ha;exact⟨xs,hd.same _ _ e,m⟩) hs (h.weak hd)
theorem Got.items(h:Got D O W H0 H (.lst ds) c v)(hd:Hid O W H0 H)(hc:c ≠ .weak):∃a xs,v=.ref a/\H a=some (.lst xs)/\RepL D (L2.wo (O++W) H) ds xs:=by
 cases c with
 | weak=>exact absurd rfl hc
 | top=>
  obtain⟨a,xs,e1,e0,e2,e3⟩:=h;exact⟨a,xs,e1,n9 _ _ e2,e3⟩
 | strong=>
  obtain⟨a,xs,e1,e2,e3⟩:=B6.mp h;exact⟨a,xs,e1,n9 _ _ e2,e3⟩
 | fresh=>
  obtain⟨a,xs,e1,e2,e3⟩:=B6.mp (h.strong hd);exact⟨a,xs,e1,n9 _ _ e2,e3⟩
 | ft=>
  obtain⟨a,xs,e1,e2,e3⟩:=B6.mp (h.ft hd);exact⟨a,xs,e1,n9 _ _ e2,e3⟩
theorem Got.itemsT(h:Got D O W H0 H (.tup ds) c v)(hd:Hid O W H0 H)(hc:c ≠ .weak):∃a xs,v=.ref a/\SqT D.K H a xs/\RepL D (L2.wo (O++W) H) ds xs:=by
 cases c with
 | weak=>exact absurd rfl hc
 | top=>
  obtain⟨a,xs,e1,e2,e3⟩:=A9.mp (show Rep D (L2.wo (O++W) H) (.tup ds) v from h);exact⟨a,xs,e1,n9.tseq e2,e3⟩
 | strong=>
  obtain⟨a,xs,e1,e2,e3⟩:=A9.mp h;exact⟨a,xs,e1,n9.tseq e2,e3⟩
 | fresh=>
  obtain⟨p,xs,ds,e1,e2,e3,e4,e5⟩:=h;cases e2
 | ft=>
  obtain⟨a,xs,e1,e2,e3⟩:=A9.mp (h.ft hd);exact⟨a,xs,e1,n9.tseq e2,e3⟩
theorem Got.lst(h:Got D O W H0 H (.lst ds) c v)(hd:Hid O W H0 H):∃a xs,v=.ref a/\H a=some (.lst xs)/\RepL D (L2.wo O H) ds xs:=by
 obtain⟨a,xs,e1,e2,e3⟩:=B6.mp (h.weak hd);exact⟨a,xs,e1,n9 _ _ e2,e3⟩
theorem Got.tup(h:Got D O W H0 H (.tup ds) c v)(hd:Hid O W H0 H):∃a xs,v=.ref a/\SqT D.K H a xs/\RepL D (L2.wo O H) ds xs:=by
 obtain⟨a,xs,e1,e2,e3⟩:=A9.mp (h.weak hd);exact⟨a,xs,e1,n9.tseq e2,e3⟩
def J7(O W:List Addr):Cl->List Addr
 | .weak=>O
 | _=>O++W
theorem Got.lstC(h:Got D O W H0 H (.lst ds) c v)(hd:Hid O W H0 H):∃a xs,v=.ref a/\H a=some (.lst xs)/\RepL D (L2.wo (J7 O W c) H) ds xs:=by
 cases c with
 | weak=>exact h.lst hd
 | top=>exact h.items hd (by intro z;cases z)
 | strong=>exact h.items hd (by intro z;cases z)
 | fresh=>exact h.items hd (by intro z;cases z)
 | ft=>exact h.items hd (by intro z;cases z)
theorem Got.tupC(h:Got D O W H0 H (.tup ds) c v)(hd:Hid O W H0 H):∃a xs,v=.ref a/\SqT D.K H a xs/\RepL D (L2.wo (J7 O W c) H) ds xs:=by
 cases c with
 | weak=>exact h.tup hd
 | top=>exact h.itemsT hd (by intro z;cases z)
 | strong=>exact h.itemsT hd (by intro z;cases z)
 | fresh=>exact h.itemsT hd (by intro z;cases z)
 | ft=>exact h.itemsT hd (by intro z;cases z)
theorem Got.item(h:Rep D (L2.wo (J7 O W c) H) d v):Got D O W H0 H d c.item v:=by
 cases c<;>exact h
theorem y8(hc:c ≠ .fresh:=by intro z;cases z)(hc':c ≠ .ft:=by intro z;cases z):Got D O W H0 H (.int i) c (.int i):=by
 have q:∀H,Rep D H (.int i) (.int i):=λH=>u9.mpr rfl;cases c with
 | fresh=>exact absurd rfl hc
 | ft=>exact absurd rfl hc'
 | weak=>exact q (L2.wo O H)
 | strong=>exact q (L2.wo (O++W) H)
 | top=>exact q (L2.wo (O++W) H)
theorem R9:Got D O W H0 H (.bl i) .strong (.bl i):=(V3.mpr rfl:Rep D (L2.wo (O++W) H) (.bl i) (.bl i))
theorem z4P:Got D O W H0 H .non .strong .non:=(q3E.mpr rfl:Rep D (L2.wo (O++W) H) .non .non)
theorem Got.int(h:Got D O W H0 H (.int i) c v)(hd:Hid O W H0 H):v=.int i:=u9.mp (h.weak hd)
theorem Got.bl(h:Got D O W H0 H (.bl i) c v)(hd:Hid O W H0 H):v=.bl i:=V3.mp (h.weak hd)
theorem Got.str(h:Got D O W H0 H (.str x) c v)(hd:Hid O W H0 H):v=.str x/\x.length<=sizeLine:=V4.mp (h.weak hd)
theorem P4(hd:Hid O W H0 H)(hp:H p=none)(r:RepL D (L2.wo (O++W) H) ds xs):Got D O W H0 (upd H p (.lst xs)) (.lst ds) .fresh (.ref p):=by
 refine⟨p,xs,ds,rfl,rfl,hd.same.free hp,w6,r.mono λb o e=>?_⟩;obtain⟨hb,e⟩:=B7 e;have hbp:b≠p:=G0 e hp;rw[j7 (by intro z;rcases f9.mp z with z | z;exact hbp z;exact hb z),j4 hbp];exact e
theorem q5Q(hd:Hid O W H0 H)(hp:H p=none)(r:RepL D (L2.wo O H) ds xs):Got D O W H0 (upd H p (.lst xs)) (.lst ds) .weak (.ref p):=by
 have hpo:p∉O:=λz=>hd.newOut hp (u4 _ z);exact B6.mpr ⟨p,xs,rfl,by rw[j7 hpo];exact w6,r.mono (u6 hp).wo⟩
theorem q4n(hd:Hid O W H0 H)(hp:H p=none)(r:RepL D (L2.wo (J7 O W c) H) ds xs):Got D O W H0 (upd H p (.lst xs)) (.lst ds) (Cl.anew c c) (.ref p):=by
 cases c with
 | weak=>exact q5Q hd hp r
 | top=>exact P4 hd hp r
 | strong=>exact P4 hd hp r
 | fresh=>exact P4 hd hp r
 | ft=>exact P4 hd hp r
theorem q4G(hd:Hid O W H0 H)(hp:H p=none)(r:RepL D (L2.wo (O++W) H) ds xs):Got D O W H0 (upd H p (.tup xs)) (.tup ds) .strong (.ref p):=
 A9.mpr ⟨p,xs,rfl,SqT.of (by rw[j7 (hd.newOut hp)];exact w6),r.mono (u6 hp).wo⟩
theorem q7x(hd:Hid O W H0 H)(hp:H p=none)(r:RepL D (L2.wo O H) ds xs):Got D O W H0 (upd H p (.tup xs)) (.tup ds) .weak (.ref p):=
 A9.mpr ⟨p,xs,rfl,SqT.of (by rw[j7 λz=>hd.newOut hp (u4 _ z)];exact w6),r.mono (u6 hp).wo⟩
theorem q7T(hd:Hid O W H0 H)(hp:H p=none)(r:RepL D (L2.wo (J7 O W c) H) ds xs):Got D O W H0 (upd H p (.tup xs)) (.tup ds) c.item (.ref p):=by
 cases c with
 | weak=>exact q7x hd hp r
 | top=>exact q4G hd hp r
 | strong=>exact q4G hd hp r
 | fresh=>exact q4G hd hp r
 | ft=>exact q4G hd hp r
end
inductive GotL (D:Dm) (O W:List Addr) (H0 H:Hp):List (DV×Cl)->List V->Prop where
 | nil:GotL D O W H0 H [] []
 | cons {d:DV} {c:Cl} {v:V} {l:List (DV×Cl)} {vs:List V}:Got D O W H0 H d c v->GotL D O W H0 H l vs->GotL D O W H0 H ((d,c)::l) (v::vs)
section
variable {D:Dm} {O W:List Addr} {H0 H H':Hp}
theorem GotL.repL(h:GotL D O W H0 H l vs)(hd:Hid O W H0 H):RepL D (L2.wo O H) (l.map (·.1)) vs:=by
 induction h with
 | nil=>exact B2.mpr rfl
 | cons h _ ih=>exact p8.mpr ⟨_,_,rfl,h.weak hd,ih⟩
theorem GotL.stros(h:GotL D O W H0 H l vs)(hd:Hid O W H0 H)(hs:L2.stros l=true):RepL D (L2.wo (O++W) H) (l.map (·.1)) vs:=by
 induction h with
 | nil=>exact B2.mpr rfl
 | cons h _ ih=>
  unfold L2.stros at hs;rw[List.all_cons,d7]at hs;exact p8.mpr ⟨_,_,rfl,h.stro hd hs.1,ih hs.2⟩
theorem GotL.length(h:GotL D O W H0 H l vs):vs.length=l.length:=by
 induction h with
 | nil=>rfl
 | cons _ _ ih=>rw[m4,m4,ih]
theorem GotL.strong(h:GotL D O W H0 H l vs)(hd:Hid O W H0 H)(hs:(l.all λp=>p.2 == .strong||p.2 == .fresh)=true):RepL D (L2.wo (O++W) H) (l.map (·.1)) vs:=by
 refine h.stros hd ?_;unfold L2.stros;rw[D6]at hs ⊢;intro p hp;have:=hs p hp;unfold L2.stro;cases e:p.2<;>rw[e]at this<;>first | rfl | cases this
theorem GotL.one(h:GotL D O W H0 H [(d,c)] vs):∃v,vs=[v]/\Got D O W H0 H d c v:=by
 cases h with
 | cons h t=>cases t;exact⟨_,rfl,h⟩
theorem GotL.two(h:GotL D O W H0 H [(d,c),(d',c')] vs):∃v v',vs=[v,v']/\Got D O W H0 H d c v/\Got D O W H0 H d' c' v':=by
 cases h with
 | cons h t=>obtain⟨v',e,h'⟩:=t.one;subst e;exact⟨_,_,rfl,h,h'⟩
end
def O2At(H:Hp)(W:List Addr)(p:Addr)(L:List (Addr×List Int)):Prop:=p∈W/\H p=some (.lst (L.map λq=>.ref q.1))/\(∀q∈L,q.1∈W/\H q.1=some (.lst (q.2.map V.int)))/\(p::L.map (·.1)).Nodup
def o2D(L:List (Addr×List Int)):DV:=.lst (L.map λq=>.lst (q.2.map DV.int))
theorem O2At.mono(h:O2At H W p L)(e:Same H H'):O2At H' W p L:=⟨h.1,e _ _ h.2.1,λq hq=>⟨(h.2.2.1 q hq).1,e _ _ (h.2.2.1 q hq).2⟩,h.2.2.2⟩
theorem O2At.sub(h:O2At H W p L)(e:∀a∈p::L.map (·.1),a∈W->a∈W'):O2At H W' p L:=
 ⟨e _ (j5 ..) h.1,h.2.1,λq hq=>⟨e _ (i6 _ (o7.mpr ⟨q,hq,rfl⟩)) (h.2.2.1 q hq).1,(h.2.2.1 q hq).2⟩,h.2.2.2⟩
theorem O2At.dom(h:O2At H W p L)(ha:a∈p::L.map (·.1)):a∈W/\∃xs,H a=some (.lst xs):=by
 rcases f9.mp ha with z | z
 ·rw[z];exact⟨h.1,_,h.2.1⟩
 ·obtain⟨q,hq,rfl⟩:=o7.mp z;exact⟨(h.2.2.1 q hq).1,_,(h.2.2.1 q hq).2⟩
theorem O2At.write(h:O2At H W p L)(ha:a∉p::L.map (·.1)):O2At (upd H a o) W p L:=
 ⟨h.1,by rw[j4 λz=>ha (by rw[←z];exact j5 ..)];exact h.2.1,λq hq=>⟨(h.2.2.1 q hq).1,by rw[j4 λz=>ha (by rw[←z];exact i6 _ (o7.mpr ⟨q,hq,rfl⟩))];exact(h.2.2.1 q hq).2⟩,h.2.2.2⟩
def odD(L:List (Int×Int)):DV:=.dct (L.map λp=>.i p.1) (L.map λp=>.int p.2)
def odK(L:List (Int×Int)):List (Key×V):=L.map λp=>(.inl p.1,.int p.2)
def oeD(L:List ((Int×Int)×Int)):DV:=.dct (L.map λp=>.t [.inl p.1.1,.inl p.1.2]) (L.map λp=>.int p.2)
def oeK(L:List ((Int×Int)×Int)):List (List Key×V):=L.map λp=>([.inl p.1.1,.inl p.1.2],.int p.2)
def dicO:HO->Bool
 | .dK _=>true
 | .dT _=>true
 | _=>false
def OdOk(d:DV)(o:HO):Prop:=(∃L,d=odD L/\o=.dK (odK L))\/∃L,d=.tup [oeD L]/\o=.dT (oeK L)
theorem OdOk.dic(h:OdOk d o):dicO o=true:=by rcases h with⟨L,_,e⟩ | ⟨L,_,e⟩<;>rw[e]<;>rfl
theorem OdOk.mut(h:OdOk d o):mutO o=true:=by rcases h with⟨L,_,e⟩ | ⟨L,_,e⟩<;>rw[e]<;>rfl
def OdAt(H:Hp)(σ:St)(δ:List Sv)(W:List Addr):Prop:=∀(i:Nat) d,δ[i]? = some (.od d)->(∃a o,OdOk d o/\σ[i]? = some (some (.ref a))/\a∈W/\H a=some o)/\∀(j:Nat) d',δ[j]? = some (.od d')->j=i
theorem OdAt.step(h:OdAt H σ δ W)(hδ:∀(j:Nat) d,δ'[j]? = some (.od d)->δ[j]? = some (.od d)/\σ'[j]? = σ[j]?)(hW:∀a∈W,(∃o,H a=some o/\dicO o=true)->a∈W')(hH:∀a o,a∈W->H a=some o->dicO o=true->H' a=some o):OdAt H' σ' δ' W':=λi d q=>by
 obtain⟨q1,q2⟩:=hδ i d q;obtain⟨⟨a,L,e0,e1,e2,e3⟩,u⟩:=h i d q1;exact⟨⟨a,L,e0,by rw[q2];exact e1,hW a e2 ⟨_,e3,e0.dic⟩,hH a _ e2 e3 e0.dic⟩,λj d' z=>u j d' (hδ j d' z).1⟩
theorem q5c{σ:St}{δ:List Sv}{i:Nat}{X:Sv}(x:Option V)(hX:∀d,X ≠ .od d):∀(j:Nat) d,(δ.set i X)[j]? = some (.od d)->δ[j]? = some (.od d)/\(σ.set i x)[j]? = σ[j]?:=λj d h=>by
 have hj:j≠i:=λz=>by
  subst z;have hl:j<δ.length:=by have:=(w9.mp h).1;rw[u0]at this;exact this
  rw[C8 hl]at h;exact hX d (F1 h)
 rw[d6 (Ne.symm hj)]at h ⊢;exact⟨h,rfl⟩
theorem z1q{σ:St}{δ:List Sv}{i:Nat}{X:Sv}(hX:∀d,X ≠ .od d):∀(j:Nat) d,(δ.set i X)[j]? = some (.od d)->δ[j]? = some (.od d)/\σ[j]? = σ[j]?:=λj d h=>⟨(q5c (σ:=σ) none hX j d h).1,rfl⟩
def itD:Option Addr×List Int->DV
 | (none,ns)=>.int (ns.headD 0)
 | (some _,ns)=>.lst (ns.map DV.int)
def itV:Option Addr×List Int->V
 | (none,ns)=>.int (ns.headD 0)
 | (some p,_)=>.ref p
def ItAt(H:Hp)(M:List (Option Addr×List Int)):Prop:=∀p ns,(some p,ns)∈M->H p=some (.lst (ns.map V.int))
def OtV(D:Dm)(Hs H:Hp)(d:DV)(ts:List V)(L:List Addr):Prop:=(∃p xs ds es us,d=.tup (.lst ds::es)/\ts=.ref p::us/\L=[p]/\H p=some (.lst xs)/\RepL D Hs ds xs/\RepL D Hs es us)\/∃M,d=.dct [] (M.map itD)/\ts=M.map itV/\L=M.filterMap (·.1)/\L.Nodup/\ItAt H M
def OtL(σ:St)(δ:List Sv)(H:Hp)(W L:List Addr):Prop:=∀p∈L,p∈W/\(∃xs,H p=some (.lst xs))/\∀(j:Nat) d',δ[j]? = some (.own d')->σ[j]? ≠ some (some (.ref p))
theorem OtV.mono(h:OtV D Hs H d ts L)(e:Same Hs Hs')(f:∀p∈L,∀xs,H p=some (.lst xs)->H' p=some (.lst xs)):OtV D Hs' H' d ts L:=by
 rcases h with⟨p,xs,ds,es,us,e0,e1,e2,e3,e4,e5⟩ | ⟨M,e0,e1,e2,e3,e4⟩
 ·exact .inl ⟨p,xs,ds,es,us,e0,e1,e2,f p (by rw[e2];exact D0.mpr rfl) _ e3,e4.mono e,e5.mono e⟩
 ·exact .inr ⟨M,e0,e1,e2,e3,λp ns hm=>f p (by rw[e2];exact O1.mpr ⟨_,hm,rfl⟩) _ (e4 p ns hm)⟩
structure RSt(D:Dm)(H:Hp)(σ:St)(δ:List Sv)(O W:List Addr):Prop where
 val:∀(i:Nat) d,δ[i]? = some (.val d)->∃v,σ[i]? = some (some v)/\Rep D (L2.wo (O++W) H) d v
 own:∀(i:Nat) d,δ[i]? = some (.own d)->∃a xs ds,d=.lst ds/\σ[i]? = some (some (.ref a))/\a∈W/\H a=some (.lst xs)/\RepL D (L2.wo (O++W) H) ds xs
 inj:∀(i j:Nat) a d d',δ[i]? = some (.own d)->δ[j]? = some (.own d')->σ[i]? = some (some (.ref a))->σ[j]? = some (some (.ref a))->i=j
 ot:∃P:Nat->List Addr,(∀(i:Nat) d,δ[i]? = some (.ot d)->∃t ts,σ[i]? = some (some (.ref t))/\SqT D.K (L2.wo (O++W) H) t ts/\OtV D (L2.wo (O++W) H) H d ts (P i)/\OtL σ δ H W (P i))/\∀(i j:Nat) d d',δ[i]? = some (.ot d)->δ[j]? = some (.ot d')->i≠j->∀p∈P i,p∉P j
 o2:∀(i:Nat) d,δ[i]? = some (.o2 d)->(∃p L,d=o2D L/\σ[i]? = some (some (.ref p))/\O2At H W p L/\∀(j:Nat) d' a,δ[j]? = some (.own d')->σ[j]? = some (some (.ref a))->a∉p::L.map (·.1))/\(∀(j:Nat) d',δ[j]? = some (.o2 d')->j=i)/\∀(j:Nat) d',δ[j]? ≠ some (.ot d')
 od:OdAt H σ δ W
 len:σ.length=δ.length
 hid:Hid O W H H
theorem RSt.noot(h:∀(i:Nat) d,δ[i]? ≠ some (.ot d)):∃P:Nat->List Addr,(∀(i:Nat) d,δ[i]? = some (.ot d)->∃t ts,σ[i]? = some (some (.ref t))/\SqT D.K (L2.wo (O++W) H) t ts/\OtV D (L2.wo (O++W) H) H d ts (P i)/\OtL σ δ H W (P i))/\∀(i j:Nat) d d',δ[i]? = some (.ot d)->δ[j]? = some (.ot d')->i≠j->∀p∈P i,p∉P j:=⟨λ_=>[],λi d q=>absurd q (h i d),λi j d d' q=>absurd q (h i d)⟩
theorem Hid.later(h:Hid O W H H)(e:Same H H'):Hid O W H' H':=⟨λa ha q=>h.ot a ha (e.free q),Same.refl _,λa ha=>by obtain⟨xs,q,m⟩:=h.wl a ha;exact⟨xs,e _ _ q,m⟩,h.dj,h.omS e⟩
theorem RSt.mono(R:RSt D H σ δ O W)(e:Same H H'):RSt D H' σ δ O W where
 val:=λi d h=>by obtain⟨v,e1,e2⟩:=R.val i d h;exact⟨v,e1,e2.mono e.wo⟩
 own:=λi ds h=>by obtain⟨a,xs,ds,e0,e1,e2,e3,e4⟩:=R.own i ds h;exact⟨a,xs,ds,e0,e1,e2,e _ _ e3,e4.mono e.wo⟩
 inj:=R.inj
 ot:=by obtain⟨P,f,u⟩:=R.ot;refine⟨P,λi d h=>?_,u⟩;obtain⟨t,ts,e1,e2,e3,e4⟩:=f i d h;exact⟨t,ts,e1,e.wo.tseq e2,e3.mono e.wo λp _ xs q=>e _ _ q,λp hp=>⟨(e4 p hp).1,(e4 p hp).2.1.imp λxs q=>e _ _ q,(e4 p hp).2.2⟩⟩
 o2:=λi d h=>by obtain⟨⟨p,L,e0,e1,e2,e3⟩,u,n⟩:=R.o2 i d h;exact⟨⟨p,L,e0,e1,e2.mono e,e3⟩,u,n⟩
 od:=R.od.step (λj d h=>⟨h,rfl⟩) (λ_ h _=>h) (λa kvs _ h _=>e _ _ h)
 len:=R.len
 hid:=R.hid.later e
def Post(D:Dm)(E:St->XK)(σ:St)(O W:List Addr)(H0 H:Hp)(Q:VK):Re->Prop
 | .ok d c=>∀v H',Same H H'->Got D O W H0 H' d c v->Q v H'
 | .ex c=>∀H' C,D.mg c=some C->Same H H'->E σ C none H'
def dE(D:Dm)(E:St->XK)(δ:List Sv)(r:Re):TE:=λσ H Q=>∃O W,RSt D H σ δ O W/\Post D E σ O W H H Q r
def y0Z(D:Dm)(E:St->XK)(σ:St)(O W:List Addr)(H0 H:Hp)(Q:List V->Hp->Prop):Rs->Prop
 | .ok l=>∀vs H',Same H H'->GotL D O W H0 H' l vs->Q vs H'
 | .ex c=>∀H' C,D.mg c=some C->Same H H'->E σ C none H'
def dA(D:Dm)(E:St->XK)(δ:List Sv)(r:Rs):TA:=λσ H Q=>∃O W,RSt D H σ δ O W/\y0Z D E σ O W H H Q r
def z2y(D:Dm)(E:St->XK)(σ:St)(H:Hp)(Q:Bool->Hp->Prop):Rt->Prop
 | .ok b=>∀H',Same H H'->Q b H'
 | .ex c=>∀H' C,D.mg c=some C->Same H H'->E σ C none H'
def dT(D:Dm)(E:St->XK)(δ:List Sv)(r:Rt):TT:=λσ H Q=>∃O W,RSt D H σ δ O W/\z2y D E σ H Q r
theorem Post.step(h:Post D E σ O W H0 H Q r)(e:Same H H1):Post D E σ O W H0 H1 Q r:=by
 cases r with
 | ok d c=>exact λv H' s g=>h v H' (e.trans s) g
 | ex c=>exact λH' C m s=>h H' C m (e.trans s)
theorem Post.later(h:Post D E σ O W H0 H Q r)(e:Same H H1)(e0:Same H0 H1):Post D E σ O W H1 H1 Q r:=by
 cases r with
 | ok d c=>exact λv H' s g=>h v H' (e.trans s) (g.since e0)
 | ex c=>exact λH' C m s=>h H' C m (e.trans s)
theorem GotL.since(h:GotL D O W H1 H l vs)(e:Same H0 H1):GotL D O W H0 H l vs:=by
 induction h with
 | nil=>exact .nil
 | cons g _ ih=>exact .cons (g.since e) ih
theorem z2y.later(h:z2y D E σ H Q r)(e:Same H H1):z2y D E σ H1 Q r:=by
 cases r with
 | ok b=>exact λH' s=>h H' (e.trans s)
 | ex c=>exact λH' C m s=>h H' C m (e.trans s)
theorem PE.weak(h:PE X e t)(k:∀σ H Q,t' σ H Q->t σ H Q):PE X e t':=λpins s σ H Q I q=>h pins s σ H Q I (k σ H Q q)
theorem PT.weak(h:PT X e t)(k:∀σ H Q,t' σ H Q->t σ H Q):PT X e t':=λpins s σ H Q I q=>h pins s σ H Q I (k σ H Q q)
theorem PW.weak(h:PW X e t)(k:∀σ H Q,t' σ H Q->t σ H Q):PW X e t':=λwhole pins s σ H Q I q=>h whole pins s σ H Q I (k σ H Q q)
theorem PA.weak(h:PA X e t)(k:∀σ H Q,t' σ H Q->t σ H Q):PA X e t':=λpos pins s σ H Q I q=>h pos pins s σ H Q I (k σ H Q q)
theorem PS.weak(h:PS X e t)(k:∀D σ H,t' D σ H->t D σ H):PS X e t':=λpins s σ H D I q=>h pins s σ H D I (k D σ H q)
theorem PSs.weak(h:PSs X e t)(k:∀D σ H,t' D σ H->t D σ H):PSs X e t':=λpins s σ H D I q=>h pins s σ H D I (k D σ H q)
theorem q5X:PW X e (λ_ _ _=>False):=λ_ _ _ _ _ _ _ h=>h.elim
theorem L0:PE X e (λ_ _ _=>False):=λ_ _ _ _ _ _ h=>h.elim
theorem z6X:PA X e (λ_ _ _=>False):=λ_ _ _ _ _ _ _ h=>h.elim
end
section
theorem Y5(h:n<=mostLen):n<=sizeLine:=m6 h (by decide)
section
variable {X:Cx} {E:St->XK} {δ:List Sv} {a b c e:Expr} {es:List Expr}
theorem z3x(hop:∀ta,PE X a ta->PE X e (tUn r ta))(ha:∀q,ra=some q->PE X a (dE X.D E δ q))(h:Re.thn ra k=some re)
  (hr:∀O W H0 H x Q dx cx σ,k dx cx=some re->Hid O W H0 H->Got X.D O W H0 H dx cx x->Post X.D E σ O W H0 H Q re->r x H Q):PE X e (dE X.D E δ re):=by
 cases hra:ra with
 | none=>rw[hra]at h;cases h
 | some q=>
  rw[hra]at h;have A:=ha q hra;cases q with
  | ex c=>
   cases h;exact(hop _ A).weak λσ H Q ⟨O,W,R,p⟩=>⟨O,W,R,p⟩
  | ok dx cx=>
   have h':k dx cx=some re:=h;exact(hop _ A).weak λσ H Q ⟨O,W,R,p⟩=>⟨O,W,R,λx H1 s1 g1=>hr O W H H1 x Q dx cx σ h' (R.hid.mono s1) g1 (p.step s1)⟩
theorem q7J{r:R2}{k:DV->Cl->DV->Cl->Option Re}{ra rb:Option Re}{re:Re}(ha:∀q,ra=some q->PE X a (dE X.D E δ q))(hb:∀q,rb=some q->PE X b (dE X.D E δ q))
  (h:(Re.thn ra λx cx=>Re.thn rb λy cy=>k x cx y cy)=some re)
  (hr:∀O W H0 H x y Q dx cx dy cy σ,k dx cx dy cy=some re->Hid O W H0 H->Got X.D O W H0 H dx cx x->Got X.D O W H0 H dy cy y->Post X.D E σ O W H0 H Q re->r x y H Q) :
  ∃ta tb,PE X a ta/\PE X b tb/\∀σ H Q,dE X.D E δ re σ H Q->tOp r ta tb σ H Q:=by
 cases hra:ra with
 | none=>rw[hra]at h;cases h
 | some q=>
  rw[hra]at h;have A:=ha q hra;cases q with
  | ex c=>
   cases h;exact⟨_,_,A,L0,λσ H Q ⟨O,W,R,p⟩=>⟨O,W,R,p⟩⟩
  | ok dx cx=>
   have h':(Re.thn rb λy cy=>k dx cx y cy)=some re:=h;cases hrb:rb with
   | none=>rw[hrb]at h';cases h'
   | some q=>
    rw[hrb]at h';have B:=hb q hrb;cases q with
    | ex c=>
     cases h';exact⟨_,_,A,B,λσ H Q ⟨O,W,R,p⟩=>⟨O,W,R,λx H1 s1 g1=>⟨O,W,R.mono s1,λH' C m s=>p H' C m (s1.trans s)⟩⟩⟩
    | ok dy cy=>
     have h2:k dx cx dy cy=some re:=h';exact⟨_,_,A,B,λσ H Q ⟨O,W,R,p⟩=>⟨O,W,R,λx H1 s1 g1=>⟨O,W,R.mono s1,λy H2 s2 g2=>
      hr O W H H2 x y Q dx cx dy cy σ h2 ((R.hid.mono s1).mono s2) (g1.mono s2) (g2.since s1) (p.step (s1.trans s2))⟩⟩⟩
theorem q9q{r:R2}{k:DV->Cl->DV->Cl->Option Re}{ra rb:Option Re}{re:Re}(hop:∀ta tb,PE X a ta->PE X b tb->PE X e (tOp r ta tb))(ha:∀q,ra=some q->PE X a (dE X.D E δ q))(hb:∀q,rb=some q->PE X b (dE X.D E δ q))
  (h:(Re.thn ra λx cx=>Re.thn rb λy cy=>k x cx y cy)=some re)
  (hr:∀O W H0 H x y Q dx cx dy cy σ,k dx cx dy cy=some re->Hid O W H0 H->Got X.D O W H0 H dx cx x->Got X.D O W H0 H dy cy y->Post X.D E σ O W H0 H Q re->r x y H Q):PE X e (dE X.D E δ re):=by
 obtain⟨ta,tb,A,B,q⟩:=q7J ha hb h hr;exact(hop _ _ A B).weak q
theorem q4h(hop:∀t,PA X es t->PE X e (tCB r t))(ha:∀q,ra=some q->PA X es (dA X.D E δ q))(h:Rs.thn ra k=some re)
  (hr:∀O W H0 H vs Q l σ,k l=some re->Hid O W H0 H->GotL X.D O W H0 H l vs->Post X.D E σ O W H0 H Q re->r vs H Q):PE X e (dE X.D E δ re):=by
 cases hra:ra with
 | none=>rw[hra]at h;cases h
 | some q=>
  rw[hra]at h;have A:=ha q hra;cases q with
  | ex c=>
   cases h;exact(hop _ A).weak λσ H Q ⟨O,W,R,p⟩=>⟨O,W,R,p⟩
  | ok l=>
   have h':k l=some re:=h;exact(hop _ A).weak λσ H Q ⟨O,W,R,p⟩=>⟨O,W,R,λvs H1 s1 g1=>hr O W H H1 vs Q l σ h' (R.hid.mono s1) g1 (p.step s1)⟩
end
theorem q7m:∀{L:List (Addr×List Int)},(∀q∈L,H q.1=some (.lst (q.2.map V.int)))->RepL D H (L.map λq=>.lst (q.2.map DV.int)) (L.map λq=>.ref q.1)
 | [],_=>B2.mpr rfl
 | q::L,h=>p8.mpr ⟨_,_,rfl,B6.mpr ⟨q.1,_,rfl,h q (j5 ..),V5 _⟩,q7m λq' hq=>h q' (i6 _ hq)⟩
theorem q5K:∀{M:List (Option Addr×List Int)},ItAt H M->RepL D H (M.map itD) (M.map itV)
 | [],_=>B2.mpr rfl
 | (none,ns)::M,h=>p8.mpr ⟨_,_,rfl,u9.mpr rfl,q5K λp ns hm=>h p ns (i6 _ hm)⟩
 | (some q,ns)::M,h=>p8.mpr ⟨_,_,rfl,B6.mpr ⟨q,_,rfl,h q ns (j5 ..),V5 _⟩,q5K λp ns hm=>h p ns (i6 _ hm)⟩
section
variable {X:Cx} {E:St->XK} {δ:List Sv} {pos:Pos}
theorem z7h{i:Nat}{x:Str}{r:Re}(hN:X.N[i]? = some x)(hv:Vis X.env.scope x)(hd:(x==("__debug__" : Str))=false)(hcd:(x==("__classdict__" : Str))=false)
  (h:(match δ[i]? with | some (.val d)=>some (Re.ok d .strong) | some (.own d)=>some (.ok d .top) | some (.ot d)=>some (.ok (otD d) .weak) | some (.o2 d)=>some (.ok d .weak) | _=>none)=some r):PE X (.Name x pos) (dE X.D E δ r):=
 (O7 hN hv hd hcd).weak λσ H Q ⟨O,W,R,p⟩=>by
  split at h
  ·rename_i d q;cases h;obtain⟨v,e1,e2⟩:=R.val i d q;exact⟨v,e1,p v H (Same.refl H) e2⟩
  ·rename_i d q;cases h;obtain⟨a,xs,ds,e0,e1,e2,e3,e4⟩:=R.own i d q;subst e0;refine⟨.ref a,e1,p _ H (Same.refl H) ⟨a,xs,rfl,e2,?_,e4⟩⟩;rw[j7 (R.hid.dj a e2)];exact e3
  ·rename_i d q;cases h;obtain⟨P,f,_⟩:=R.ot;obtain⟨t,ts,e1,e2,e3,e4⟩:=f i d q;have up:Same (L2.wo (O++W) H) (L2.wo O H):=x6 R8;refine⟨.ref t,e1,p _ H (Same.refl H) ?_⟩;rcases e3 with⟨p1,xs,ds,es,us,f0,f1,f2,f3,f4,f5⟩ | ⟨M,f0,f1,f2,f3,f4⟩
   ·rw[f2]at e4;subst f0 f1;exact(A9.mpr ⟨t,_,rfl,up.tseq e2,p8.mpr ⟨_,_,rfl,B6.mpr ⟨p1,xs,rfl,by rw[j7 (R.hid.dj p1 (e4 p1 (D0.mpr rfl)).1)];exact f3,f4.mono up⟩,f5.mono up⟩⟩:Rep X.D (L2.wo O H) (.tup (.lst ds::es)) (.ref t))
   ·rw[f2]at e4;subst f0 f1;exact(A9.mpr ⟨t,_,rfl,up.tseq e2,q5K λp ns hm=>by rw[j7 (R.hid.dj p (e4 p (O1.mpr ⟨_,hm,rfl⟩)).1)];exact f4 p ns hm⟩:Rep X.D (L2.wo O H) (.tup (M.map itD)) (.ref t))
  ·rename_i d q;cases h;obtain⟨⟨a,L,e0,e1,e2,_⟩,_,_⟩:=R.o2 i d q;subst e0;refine⟨.ref a,e1,p _ H (Same.refl H) (B6.mpr ⟨a,_,rfl,by rw[j7 (R.hid.dj a e2.1)];exact e2.2.1,?_⟩:Rep X.D (L2.wo O H) (o2D L) (.ref a))⟩;exact q7m λq hq=>by rw[j7 (R.hid.dj q.1 (e2.2.2.1 q hq).1)];exact(e2.2.2.1 q hq).2
  ·cases h
theorem z6c:PE X (.Constant (.int i) j pos) (dE X.D E δ (.ok (.int i) .strong)):=q7y.weak λσ H Q ⟨O,W,R,p⟩=>p _ H (Same.refl H) y8
theorem z8r:PE X (.Constant (.bool i) j pos) (dE X.D E δ (.ok (.bl i) .strong)):=y1I.weak λσ H Q ⟨O,W,R,p⟩=>p _ H (Same.refl H) R9
theorem z6O(h:i.length<=sizeLine):PE X (.Constant (.str i) j pos) (dE X.D E δ (.ok (.str i) .strong)):=z9F.weak λσ H Q ⟨O,W,R,p⟩=>p _ H (Same.refl H) (V4.mpr ⟨rfl,h⟩:Rep X.D (L2.wo (O++W) H) (.str i) (.str i))
theorem z5P:PE X (.Constant .none j pos) (dE X.D E δ (.ok .non .strong)):=z7Z.weak λσ H Q ⟨O,W,R,p⟩=>p _ H (Same.refl H) z4P
end
section
variable {X:Cx} {E:St->XK} {δ:List Sv} {a b c e:Expr} {pos:Pos} {ra rb:Option Re} {re:Re}
theorem q8D(hd:Hid O W H0 H)(gx:Got D O W H0 H (.int i) ca x)(gy:Got D O W H0 H (.int j) cb y)(hc:C i j)(q:Q (g i j) H):rI C g x y H Q:=
 ⟨i,j,gx.int hd,gy.int hd,hc,q⟩
theorem q8k(hd:Hid O W H0 H)(gx:Got D O W H0 H (.int i) ca x)(gy:Got D O W H0 H (.int j) cb y)(q:Q (g i j) H):rI0 g x y H Q:=
 ⟨i,j,gx.int hd,gy.int hd,q⟩
theorem z4v(h:ca ≠ .weak)(h':cb ≠ .weak):Cl.anew ca cb=.fresh:=by
 cases ca<;>cases cb<;>first | rfl | exact absurd rfl h | exact absurd rfl h'
def z2M(i j:Int):Prop:=CMul i j\/(i.natAbs<2^2000/\j.natAbs<2^2000)
theorem q9f(h:i.natAbs<2^n):Builtin.Int.intBits i<=n:=by
 unfold Builtin.Int.intBits;by_cases hi:i=0
 ·subst hi;exact O6 n
 ·rw[d5 (by simpa using hi)];have:i.natAbs≠0:=λz=>hi (Int.natAbs_eq_zero.mp z)
  exact(Nat.log2_lt this).mpr h
theorem z2M.ok(h:z2M i j):IntMulOk i j:=by
 rcases h with h | ⟨h1,h2⟩
 ·exact h.ok
 ·unfold IntMulOk;have b1:=q9f h1;have b2:=q9f h2;have:Builtin.Int.intTooBig ((Builtin.Int.intBits i:Int)+(Builtin.Int.intBits j:Int))=false:=by
   unfold Builtin.Int.intTooBig;rw[C6];have:((bitsLine:Nat):Int)=134217728:=by decide
   omega
  rw[this,w2W];exact K2
theorem z4A:OpR X (binaryOp .Mult) (rI z2M λi j=>.int (i*j)):=opI λ_ _ _ _ _ _ _ hc q=>mul_int q hc.ok
theorem z2g:OpR X (binaryOp .FloorDiv) (rI (λ_ j=>0<j/\j<2^200) λi j=>.int (i/j)):=opI λi j _ _ _ _ _ hc q=>by
 have h1:(0:Int)<j:=hc.1;have h2:j.natAbs<2^200:=by have:=hc.2;omega
 refine floordiv_int (by omega) (by rw[w3h i (by omega)];exact q) (.inl (PyProof.noPylong_of_log2 ?_));exact x4 ((Nat.log2_lt (by omega)).mpr h2) (by decide)
def binR(X:Cx):Operator->R2
 | .Add=>λx y H Q=>rI0 (λi j=>.int (i+j)) x y H Q\/rCat x y H Q
 | .Sub=>rI0 λi j=>.int (i - j)
 | .Mult=>λx y H Q=>rI z2M (λi j=>.int (i*j)) x y H Q\/rRep x y H Q
 | .Mod=>λx y H Q=>rI (λ_ j=>0<j) (λi j=>.int (i%j)) x y H Q\/rI (λ_ j=>j≠0) (λi j=>.int (i.fmod j)) x y H Q
 | .FloorDiv=>rI (λ_ j=>0<j/\j<2^200) λi j=>.int (i/j)
 | .LShift=>rI CPow λi j=>.int (i*2^j.toNat)
 | .RShift=>rI (λ_ j=>0<=j) λi j=>.int (i/2^j.toNat)
 | .BitAnd=>rI0 λi j=>.int (Builtin.bitAnd i j)
 | .BitOr=>rI0 λi j=>.int (Builtin.bitOr i j)
 | _=>λ_ _ _ _=>False
theorem z9x:OpR X (binaryOp op) (binR X op):=by
 cases op with
 | Add=>exact z8Z.or z9E
 | Sub=>exact z9t
 | Mult=>exact z4A.or z9r
 | Mod=>exact z9Y.or z4O
 | FloorDiv=>exact z2g
 | LShift=>exact z8Y
 | RShift=>exact z8o
 | BitAnd=>exact z8h
 | BitOr=>exact y1G
 | BitXor=>exact λ_ _ _ _ _ _ _ _ _ _ _ _ h=>h.elim
 | MatMult=>exact λ_ _ _ _ _ _ _ _ _ _ _ _ h=>h.elim
 | Div=>exact λ_ _ _ _ _ _ _ _ _ _ _ _ h=>h.elim
 | Pow=>exact λ_ _ _ _ _ _ _ _ _ _ _ _ h=>h.elim
theorem y0g(h:binD op dx dy cx cy=some re)(hd:Hid O W H0 H)(gx:Got X.D O W H0 H dx cx x)(gy:Got X.D O W H0 H dy cy y)
  (p:Post X.D E σ O W H0 H Q re):binR X op x y H Q:=by
 unfold binD at h;split at h
 ·cases h;exact .inl (q8k hd gx gy (p _ H (Same.refl H) y8))
 ·cases h;exact q8k hd gx gy (p _ H (Same.refl H) y8)
 ·split at h
  ·rename_i m;cases h;refine .inl (q8D hd gx gy ?_ (p _ H (Same.refl H) y8));unfold E7 at m;simp only[J0,d7,L3]at m;exact m
  ·cases h
 ·split at h
  ·rename_i m;cases h;exact .inl (q8D hd gx gy m (p _ H (Same.refl H) y8))
  ·split at h
   ·rename_i m;cases h;exact .inr (q8D hd gx gy m (p _ H (Same.refl H) y8))
   ·cases h
 ·split at h
  ·rename_i m;cases h;exact q8D hd gx gy m (p _ H (Same.refl H) y8)
  ·cases h
 ·split at h
  ·rename_i m;cases h;exact q8D hd gx gy m (p _ H (Same.refl H) y8)
  ·cases h
 ·split at h
  ·rename_i m;cases h;exact q8D hd gx gy m (p _ H (Same.refl H) y8)
  ·cases h
 ·cases h;exact q8k hd gx gy (p _ H (Same.refl H) y8)
 ·cases h;exact q8k hd gx gy (p _ H (Same.refl H) y8)
 ·rename_i xs ys;split at h
  ·rename_i m;cases h;by_cases hw:cx ≠ .weak/\cy ≠ .weak
   ·obtain⟨l1,v1,e1,k1,r1⟩:=gx.items hd hw.1;obtain⟨l2,v2,e2,k2,r2⟩:=gy.items hd hw.2;refine .inr (⟨l1,l2,v1,v2,e1,e2,k1,k2,by rw[r1.length,r2.length];exact Y5 m,λq hq=>p _ _ (u6 hq) ?_⟩);rw[z4v hw.1 hw.2];exact P4 hd hq (r1.append r2)
   ·obtain⟨l1,v1,e1,k1,r1⟩:=gx.lst hd;obtain⟨l2,v2,e2,k2,r2⟩:=gy.lst hd;refine .inr (⟨l1,l2,v1,v2,e1,e2,k1,k2,by rw[r1.length,r2.length];exact Y5 m,λq hq=>p _ _ (u6 hq) ?_⟩);have:Cl.anew cx cy=.weak:=(by cases cx<;>cases cy<;>first | rfl | exact absurd ⟨(by intro z;cases z),(by intro z;cases z)⟩ hw);rw[this];exact q5Q hd hq (r1.append r2)
  ·cases h
 ·rename_i xs k;split at h
  ·rename_i m;cases h;obtain⟨l1,v1,e1,k1,r1⟩:=gx.lstC hd;refine .inr ⟨l1,k,v1,e1,gy.int hd,k1,m.2.1,m.2.2,by rw[r1.length];exact Y5 m.1,λq hq=>p _ _ (u6 hq) (q4n hd hq (r1.rep _))⟩
  ·cases h
 ·cases h
theorem z7c(ha:∀q,ra=some q->PE X a (dE X.D E δ q))(hb:∀q,rb=some q->PE X b (dE X.D E δ q))(h:(Re.thn ra λx cx=>Re.thn rb λy cy=>binD op x y cx cy)=some re):PE X (.BinOp a op b pos) (dE X.D E δ re):=
 q9q (λ_ _=>y0o z9x) ha hb h λO W H0 H x y Q dx cx dy cy σ k hd gx gy p=>y0g k hd gx gy p
theorem z5U(ha:∀q,ra=some q->PE X a (dE X.D E δ q))(h:(Re.thn ra λx _=>match x with | .int i=>some (.ok (.int (-i)) .strong) | _=>none)=some re):PE X (.UnaryOp .USub a pos) (dE X.D E δ re):=
 z3x (λ_=>y1y z7M) ha h λO W H0 H x Q dx cx σ k hd gx p=>by
  split at k
  ·cases k;exact⟨_,gx.int hd,p _ H (Same.refl H) y8⟩
  ·cases k
theorem z8x:atD ds i=L2.atI ds i:=rfl
theorem RepL.atI(h:RepL D H ds xs)(e:atD ds i=some d):∃v,L2.atI xs i=some v/\Rep D H d v:=by
 rw[z8x]at e;unfold L2.atI at e ⊢;rw[h.length];cases q:ixN ds.length i with
 | none=>rw[q]at e;cases e
 | some j=>
  rw[q]at e;exact h.get e
theorem y1w(h:((ixD dx dy).map λd=>Re.ok d cx.item)=some re)(hd:Hid O W H0 H)(gx:Got X.D O W H0 H dx cx x)(gy:Got X.D O W H0 H dy cy y)
  (p:Post X.D E σ O W H0 H Q re):rIx X.K x y H Q:=by
 obtain⟨d,h1,h2⟩:=x8.mp h;cases h2;unfold ixD at h1;split at h1
 ·rename_i ns i;obtain⟨a,e1,e2⟩:=P3.mp (gx.all hd);obtain⟨n,h3,h4⟩:=x8.mp h1;cases h4;have q:L2.atI (ns.map V.int) i=some (.int n):=by
   unfold L2.atI;rw[d8];have h3':((ixN ns.length i).bind λj=>ns[j]?)=some n:=h3;cases z:ixN ns.length i with
   | none=>rw[z]at h3';cases h3'
   | some j=>
    rw[z]at h3';have h5:ns[j]? = some n:=h3';show(ns.map V.int)[j]? = _;rw[m9,h5];rfl
  refine .inl ⟨a,_,i,_,e1,gy.int hd,e2.sq,q,p _ H (Same.refl H) ?_⟩;cases cx<;>exact y8
 ·obtain⟨a,xs,e1,e2,e3⟩:=gx.lstC hd;obtain⟨v,q1,q2⟩:=e3.atI h1;exact .inl ⟨a,xs,_,v,e1,gy.int hd,SqL.of e2,q1,p _ H (Same.refl H) (Got.item q2)⟩
 ·obtain⟨a,xs,e1,e2,e3⟩:=gx.tupC hd;obtain⟨v,q1,q2⟩:=e3.atI h1;exact .inr (.inl ⟨a,xs,_,v,e1,gy.int hd,e2,q1,p _ H (Same.refl H) (Got.item q2)⟩)
 ·rename_i z i;obtain⟨e1,e2⟩:=gx.str hd;cases q:F2 z.cps.size i with
  | none=>rw[q]at h1;cases h1
  | some j=>
   rw[q]at h1;obtain⟨ch,h3,h4⟩:=x8.mp (show((z.cps[j]?).map λc=>DV.str ⟨#[c]⟩)=some d from h1);cases h4;refine .inr (.inr ⟨z,i,ch,e1,gy.int hd,e2,?_,p _ H (Same.refl H) ?_⟩)
   ·unfold L2.atI;have:ixN z.cps.toList.length i=some j:=by rw[K1];exact q
    rw[this];show z.cps.toList[j]? = some ch;rw[w2M];exact h3
   ·have one:Rep X.D (L2.wo (O++W) H) (.str ⟨#[ch]⟩) (.str ⟨#[ch]⟩):=V4.mpr ⟨rfl,by show(1:Nat)<=sizeLine;decide⟩;have one':Rep X.D (L2.wo O H) (.str ⟨#[ch]⟩) (.str ⟨#[ch]⟩):=V4.mpr ⟨rfl,by show(1:Nat)<=sizeLine;decide⟩;cases cx<;>first | exact one | exact one'
 ·cases h1
theorem z8a(ha:∀q,ra=some q->PE X a (dE X.D E δ q))(hb:∀q,rb=some q->PE X b (dE X.D E δ q))(hs:V1 b=false)(h:(Re.thn ra λx cx=>Re.thn rb λy _=>(ixD x y).map λd=>.ok d cx.item)=some re):PE X (.Subscript a b pos) (dE X.D E δ re):=
 q9q (λ_ _ h1 h2=>z6h z9A h1 h2 (by cases b<;>first | (intro _ _;rfl) | cases hs)) ha hb h λO W H0 H x y Q dx cx dy cy σ k hd gx gy p=>y1w k hd gx gy p
theorem q5C(n d:Nat)(o:Option Int):slIx n d o=HT.sIx n d o:=by cases o<;>rfl
theorem RepL.cut(h:RepL D H ds xs)(lo hi:Option Int):RepL D H (cutD ds lo hi) (cutV xs lo hi):=by
 unfold cutD cutV;rw[q5C,q5C,←h.length];exact(h.drop _).take _
theorem z4L{O W:List Addr}{H0 H:Hp}{x:V}{dx:DV}{cx:Cl}{Q:VK}{σ:St}{lo hi:Option Int}(h:((slD dx lo hi).map λd=>Re.ok d (slCl dx cx))=some re)(hd:Hid O W H0 H)(gx:Got X.D O W H0 H dx cx x)
  (p:Post X.D E σ O W H0 H Q re):rSlL X.K x lo hi H Q\/rSlT X.K x lo hi H Q:=by
 obtain⟨d,h1,h2⟩:=x8.mp h;cases h2;unfold slD at h1;split at h1
 ·rename_i ns;cases h1;obtain⟨a,e1,e2⟩:=P3.mp (gx.all hd);exact .inl ⟨a,_,e1,e2.sq,λq hq=>p _ _ (u6 hq) (P4 hd hq ((V5 ns).cut lo hi))⟩
 ·cases h1;obtain⟨a,xs,e1,e2,e3⟩:=gx.lstC hd;exact .inl ⟨a,xs,e1,SqL.of e2,λq hq=>p _ _ (u6 hq) (q4n hd hq (e3.cut lo hi))⟩
 ·rename_i ds;split at h1
  ·cases h1
  ·rename_i m;cases h1;obtain⟨a,xs,e1,e2,e3⟩:=gx.tupC hd;refine .inr ⟨a,xs,e1,e2,?_,λq hq=>p _ _ (u6 hq) (q7T hd hq (e3.cut lo hi))⟩;rw[q5C,q5C,←e3.length]at m;exact m
 ·cases h1
theorem P5:SlR X (λx lo hi H Q=>rSlL X.K x lo hi H Q\/rSlT X.K x lo hi H Q):=z5u.or z7z
theorem q6A(h:PE X b (dE X.D E δ (.ok (.int i) cl))):PO X (some b) (λσ H Q=>∃O W,RSt X.D H σ δ O W/\∀H',Same H H'->Q (some i) H'):=λpins s σ H Q I ⟨O,W,R,p⟩=>
 q9n h pins s σ H Q I ⟨O,W,R,λv H' s1 g=>⟨i,g.int (R.hid.mono s1),p H' s1⟩⟩
theorem z3s{c:Str}(h:PE X b (dE X.D E δ (.ex c))):PO X (some b) (λσ H Q=>∃O W,RSt X.D H σ δ O W/\Post X.D E σ O W H H (λ_ _=>False) (.ex c)):=λpins s σ H Q I ⟨O,W,R,p⟩=>
 q9n h pins s σ H Q I ⟨O,W,R,p⟩
theorem q3s:PO X o (λ_ _ _=>False):=λ_ _ _ _ _ _ h=>h.elim
theorem z5o(ha:∀q,ra=some q->PE X a (dE X.D E δ q))(hb:∀q,rb=some q->PE X b (dE X.D E δ q))(h:(Re.thn ra λx cx=>Re.thn rb λl _=>match l with
  | .int l=>(slD x (some l) none).map λd=>.ok d (slCl x cx) | _=>none)=some re):PE X (.Subscript a (.Slice (some b) none none p2) pos) (dE X.D E δ re):=by
 cases hra:ra with
 | none=>rw[hra]at h;cases h
 | some q=>
  rw[hra]at h;have A:=ha q hra;cases q with
  | ex c=>cases h;exact(O9 P5 A q3s q3O).weak λσ H Q ⟨O,W,R,p⟩=>⟨O,W,R,p⟩
  | ok dx cx=>
   cases hrb:rb with
   | none=>rw[hrb]at h;cases h
   | some q=>
    rw[hrb]at h;have B:=hb q hrb;cases q with
    | ex c=>cases h;exact(O9 P5 A (z3s B) q3O).weak λσ H Q ⟨O,W,R,p⟩=>⟨O,W,R,λx H1 s1 g1=>⟨O,W,R.mono s1,λH' C m s=>p H' C m (s1.trans s)⟩⟩
    | ok dy cy=>
     have h':(match(generalizing:=false) dy with | .int l=>(slD dx (some l) none).map λd=>Re.ok d (slCl dx cx) | _=>none)=some re:=h;split at h'
     ·rename_i l;exact(O9 P5 A (q6A B) q3O).weak λσ H Q ⟨O,W,R,p⟩=>⟨O,W,R,λx H1 s1 g1=>⟨O,W,R.mono s1,λH2 s2=>z4L h' ((R.hid.mono s1).mono s2) (g1.mono s2) (p.step (s1.trans s2))⟩⟩
     ·cases h'
theorem z5t(ha:∀q,ra=some q->PE X a (dE X.D E δ q))(hb:∀q,rb=some q->PE X b (dE X.D E δ q))(h:(Re.thn ra λx cx=>Re.thn rb λl _=>match l with
  | .int l=>(slD x none (some l)).map λd=>.ok d (slCl x cx) | _=>none)=some re):PE X (.Subscript a (.Slice none (some b) none p2) pos) (dE X.D E δ re):=by
 cases hra:ra with
 | none=>rw[hra]at h;cases h
 | some q=>
  rw[hra]at h;have A:=ha q hra;cases q with
  | ex c=>cases h;exact(O9 P5 A q3O q3s).weak λσ H Q ⟨O,W,R,p⟩=>⟨O,W,R,p⟩
  | ok dx cx=>
   cases hrb:rb with
   | none=>rw[hrb]at h;cases h
   | some q=>
    rw[hrb]at h;have B:=hb q hrb;cases q with
    | ex c=>cases h;exact(O9 P5 A q3O (z3s B)).weak λσ H Q ⟨O,W,R,p⟩=>⟨O,W,R,λx H1 s1 g1=>⟨O,W,R.mono s1,λH' C m s=>p H' C m (s1.trans s)⟩⟩
    | ok dy cy=>
     have h':(match(generalizing:=false) dy with | .int l=>(slD dx none (some l)).map λd=>Re.ok d (slCl dx cx) | _=>none)=some re:=h;split at h'
     ·rename_i l;exact(O9 P5 A q3O (q6A B)).weak λσ H Q ⟨O,W,R,p⟩=>⟨O,W,R,λx H1 s1 g1=>⟨O,W,R.mono s1,λH2 s2=>z4L h' ((R.hid.mono s1).mono s2) (g1.mono s2) (p.step (s1.trans s2))⟩⟩
     ·cases h'
theorem z7X(ha:∀q,ra=some q->PE X a (dE X.D E δ q))(hb:∀q,rb=some q->PE X b (dE X.D E δ q))(hc:∀q,rc=some q->PE X c (dE X.D E δ q))(h:(Re.thn ra λx cx=>Re.thn rb λl _=>match l with
  | .int l=>Re.thn rc λu _=>(match u with
   | .int u=>(slD x (some l) (some u)).map λd=>.ok d (slCl x cx) | _=>none) | _=>none)=some re):PE X (.Subscript a (.Slice (some b) (some c) none p2) pos) (dE X.D E δ re):=by
 cases hra:ra with
 | none=>rw[hra]at h;cases h
 | some q=>
  rw[hra]at h;have A:=ha q hra;cases q with
  | ex c=>cases h;exact(O9 P5 A q3s q3s).weak λσ H Q ⟨O,W,R,p⟩=>⟨O,W,R,p⟩
  | ok dx cx=>
   cases hrb:rb with
   | none=>rw[hrb]at h;cases h
   | some q=>
    rw[hrb]at h;have B:=hb q hrb;cases q with
    | ex c=>cases h;exact(O9 P5 A (z3s B) q3s).weak λσ H Q ⟨O,W,R,p⟩=>⟨O,W,R,λx H1 s1 g1=>⟨O,W,R.mono s1,λH' C m s=>p H' C m (s1.trans s)⟩⟩
    | ok dy cy=>
     have h':(match(generalizing:=false) dy with | .int l=>Re.thn rc λu _=>(match u with | .int u=>(slD dx (some l) (some u)).map λd=>Re.ok d (slCl dx cx) | _=>none) | _=>none)=some re:=h;split at h'
     ·rename_i l;cases hrc:rc with
      | none=>rw[hrc]at h';cases h'
      | some q=>
       rw[hrc]at h';have C:=hc q hrc;cases q with
       | ex c'=>
        cases h';exact(O9 P5 A (q6A B) (z3s C)).weak λσ H Q ⟨O,W,R,p⟩=>⟨O,W,R,λx H1 s1 g1=>⟨O,W,R.mono s1,λH2 s2=>⟨O,W,(R.mono s1).mono s2,λH' C m s=>p H' C m (s1.trans (s2.trans s))⟩⟩⟩
       | ok dz cz=>
        have h2:(match(generalizing:=false) dz with | .int u=>(slD dx (some l) (some u)).map λd=>Re.ok d (slCl dx cx) | _=>none)=some re:=h';split at h2
        ·rename_i u;exact(O9 P5 A (q6A B) (q6A C)).weak λσ H Q ⟨O,W,R,p⟩=>⟨O,W,R,λx H1 s1 g1=>⟨O,W,R.mono s1,λH2 s2=>⟨O,W,(R.mono s1).mono s2,λH3 s3=>z4L h2 (((R.hid.mono s1).mono s2).mono s3) ((g1.mono s2).mono s3) (p.step (s1.trans (s2.trans s3)))⟩⟩⟩
        ·cases h2
     ·cases h'
end
end
section
mutual
def toP:DV->PyData
 | .non=>.none | .bl b=>.bool b | .int i=>.int i | .str x=>.str x
 | .tup ds=>.tuple (toPs ds) | .lst ds=>.list (toPs ds)
 | _=>.none
def toPs:List DV->List PyData
 | []=>[]
 | d::r=>toP d::toPs r
end
mutual
theorem q5S:∀(n m:Nat) (d e:DV),d.plain n=true->e.plain m=true->PyData.eqv (toP d) (toP e)=deq d e
 | n,m,.non,e,_,h=>by cases e<;>first | (cases m<;>simp[DV.plain]at h;done) | (simp only[toP,PyData.eqv,deq])
 | n,m,.bl _,e,_,h=>by cases e<;>first | (cases m<;>simp[DV.plain]at h;done) | (simp only[toP,PyData.eqv,deq])
 | n,m,.int _,e,_,h=>by cases e<;>first | (cases m<;>simp[DV.plain]at h;done) | (simp only[toP,PyData.eqv,deq])
 | n,m,.str x,e,_,h=>by
  cases e with
  | str y=>simp only[toP,PyData.eqv,deq];rfl
  | non=>simp only[toP,PyData.eqv,deq]
  | bl _=>simp only[toP,PyData.eqv,deq]
  | int _=>simp only[toP,PyData.eqv,deq]
  | tup _=>simp only[toP,PyData.eqv,deq]
  | lst _=>simp only[toP,PyData.eqv,deq]
  | dct _ _=>cases m<;>simp[DV.plain]at h
  | exc _=>cases m<;>simp[DV.plain]at h
  | fn _=>cases m<;>simp[DV.plain]at h
  | scr _=>cases m<;>simp[DV.plain]at h
 | 0,_,.tup _,_,h,_=>by simp[DV.plain]at h
 | 0,_,.lst _,_,h,_=>by simp[DV.plain]at h
 | n+1,m,.tup ds,e,h,h'=>by
  cases e with
  | tup es=>
   cases m with
   | zero=>simp[DV.plain]at h'
   | succ m=>
    simp only[toP,PyData.eqv,deq];exact q5O n m ds es (by simpa[DV.plain]using h) (by simpa[DV.plain]using h')
  | non=>simp only[toP,PyData.eqv,deq]
  | bl _=>simp only[toP,PyData.eqv,deq]
  | int _=>simp only[toP,PyData.eqv,deq]
  | str _=>simp only[toP,PyData.eqv,deq]
  | lst _=>simp only[toP,PyData.eqv,deq]
  | dct _ _=>cases m<;>simp[DV.plain]at h'
  | exc _=>cases m<;>simp[DV.plain]at h'
  | fn _=>cases m<;>simp[DV.plain]at h'
  | scr _=>cases m<;>simp[DV.plain]at h'
 | n+1,m,.lst ds,e,h,h'=>by
  cases e with
  | lst es=>
   cases m with
   | zero=>simp[DV.plain]at h'
   | succ m=>
    simp only[toP,PyData.eqv,deq];exact q5O n m ds es (by simpa[DV.plain]using h) (by simpa[DV.plain]using h')
  | non=>simp only[toP,PyData.eqv,deq]
  | bl _=>simp only[toP,PyData.eqv,deq]
  | int _=>simp only[toP,PyData.eqv,deq]
  | str _=>simp only[toP,PyData.eqv,deq]
  | tup _=>simp only[toP,PyData.eqv,deq]
  | dct _ _=>cases m<;>simp[DV.plain]at h'
  | exc _=>cases m<;>simp[DV.plain]at h'
  | fn _=>cases m<;>simp[DV.plain]at h'
  | scr _=>cases m<;>simp[DV.plain]at h'
 | n,_,.dct _ _,_,h,_=>by cases n<;>simp[DV.plain]at h
 | n,_,.exc _,_,h,_=>by cases n<;>simp[DV.plain]at h
 | n,_,.fn _,_,h,_=>by cases n<;>simp[DV.plain]at h
 | n,_,.scr _,_,h,_=>by cases n<;>simp[DV.plain]at h
theorem q5O:∀(n m:Nat) (ds es:List DV),DV.plains n ds=true->DV.plains m es=true->PyData.eqvAll (toPs ds) (toPs es)=deqs ds es
 | _,_,[],[],_,_=>by simp only[toPs,PyData.eqvAll,deqs]
 | _,_,[],_::_,_,_=>by simp only[toPs,PyData.eqvAll,deqs]
 | _,_,_::_,[],_,_=>by simp only[toPs,PyData.eqvAll,deqs]
 | n,m,d::ds,e::es,h,h'=>by simp only[DV.plains,d7]at h h';simp only[toPs,PyData.eqvAll,deqs,q5S n m d e h.1 h'.1,q5O n m ds es h.2 h'.2]
end
mutual
theorem q6W:∀(n:Nat) (d:DV),d.plain n=true->(toP d).canLay0=true/\(toP d).depth<=n
 | n,.non,_=>by simp[toP,PyData.canLay0,PyData.depth]
 | n,.bl _,_=>by simp[toP,PyData.canLay0,PyData.depth]
 | n,.int _,_=>by simp[toP,PyData.canLay0,PyData.depth]
 | n,.str x,h=>by
  have h':(x.cps.all (· < 0x110000))=true:=by cases n<;>simpa[DV.plain]using h
  simp only[toP,PyData.canLay0,PyData.depth];exact⟨h',O6 _⟩
 | 0,.tup _,h=>by simp[DV.plain]at h
 | 0,.lst _,h=>by simp[DV.plain]at h
 | n+1,.tup ds,h=>by have q:=q4l n ds (by simpa[DV.plain]using h);simp only[toP,PyData.canLay0,PyData.depth,q.1,true_and];have:=q.2;omega
 | n+1,.lst ds,h=>by have q:=q4l n ds (by simpa[DV.plain]using h);simp only[toP,PyData.canLay0,PyData.depth,q.1,true_and];have:=q.2;omega
 | n,.dct _ _,h=>by cases n<;>simp[DV.plain]at h
 | n,.exc _,h=>by cases n<;>simp[DV.plain]at h
 | n,.fn _,h=>by cases n<;>simp[DV.plain]at h
 | n,.scr _,h=>by cases n<;>simp[DV.plain]at h
theorem q4l:∀(n:Nat) (ds:List DV),DV.plains n ds=true->PyData.canLayAll0 (toPs ds)=true/\PyData.depthAll (toPs ds)<=n
 | _,[],_=>by simp[toPs,PyData.canLayAll0,PyData.depthAll]
 | n,d::ds,h=>by simp only[DV.plains,d7]at h;have q:=q6W n d h.1;have q':=q4l n ds h.2;simp only[toPs,PyData.canLayAll0,PyData.depthAll,q.1,q'.1,w3k,true_and];have a:=q.2;have b:=q'.2;omega
end
section
variable {X:Cx} {pins:List (Addr×Obj)} {σ:St} {H:Hp} {s:Shared}
mutual
theorem Y6(I:Inv X pins σ H s):∀(n:Nat) {d:DV} {v:V} {u:Value},d.plain n=true->Rep X.D H d v->RelV v u->∃as,Reads s.heap u (toP d) as
 | _,.non,_,_,_,h,r=>by rw[q3E.mp h]at r;cases r;exact⟨_,Reads.none⟩
 | _,.bl b,_,_,_,h,r=>by rw[V3.mp h]at r;cases r;exact⟨_,Reads.bool b⟩
 | _,.int i,_,_,_,h,r=>by rw[u9.mp h]at r;obtain⟨t,rfl⟩:=r;exact⟨_,Reads.int i t⟩
 | _,.str x,_,_,_,h,r=>by rw[(V4.mp h).1]at r;obtain⟨t,rfl⟩:=r;exact⟨_,Reads.str x t⟩
 | 0,.tup _,_,_,p,_,_=>by simp[DV.plain]at p
 | 0,.lst _,_,_,p,_,_=>by simp[DV.plain]at p
 | n+1,.tup ds,_,_,p,h,r=>by obtain⟨a,xs,e1,e2,e3⟩:=A9.mp h;rw[e1]at r;cases r;obtain⟨its,rv,⟨o,h1,h2,k,h3⟩,_⟩:=I.tuple e2;obtain⟨as,q⟩:=q4P I n (by simpa[DV.plain]using p) e3 rv;rw[toP];exact⟨as,Reads.tuple h1 h2 h3 (by simpa using q)⟩
 | n+1,.lst ds,_,_,p,h,r=>by obtain⟨a,xs,e1,e2,e3⟩:=B6.mp h;rw[e1]at r;cases r;obtain⟨_,its,k,rv,_,h1⟩:=I.lstM e2;obtain⟨as,q⟩:=q4P I n (by simpa[DV.plain]using p) e3 rv;rw[toP];exact⟨_,Reads.list h1 rfl rfl (by simpa using q)⟩
 | n,.dct _ _,_,_,h,_,_=>by cases n<;>simp[DV.plain]at h
 | n,.exc _,_,_,h,_,_=>by cases n<;>simp[DV.plain]at h
 | n,.fn _,_,_,h,_,_=>by cases n<;>simp[DV.plain]at h
 | n,.scr _,_,_,h,_,_=>by cases n<;>simp[DV.plain]at h
theorem q4P(I:Inv X pins σ H s):∀(n:Nat) {ds:List DV} {vs:List V} {us:List Value},DV.plains n ds=true->RepL X.D H ds vs->Vals vs us->∃as,ReadsAll s.heap us (toPs ds) as
 | _,[],_,_,_,h,r=>by rw[B2.mp h]at r;cases r;exact⟨_,ReadsAll.nil⟩
 | n,d::ds,_,_,p,h,r=>by
  simp only[DV.plains,d7]at p;obtain⟨v,vs,e1,e2,e3⟩:=p8.mp h;subst e1;cases r with
  | cons r1 r2=>
   obtain⟨as,q⟩:=Y6 I n p.1 e2 r1;obtain⟨bs,q'⟩:=q4P I n p.2 e3 r2;rw[toPs];exact⟨_,ReadsAll.cons q q'⟩
end
theorem q3B(h:d.plain 60=true):SeqAt.shaped (toP d)=true:=by
 have q:=q6W 60 d h;unfold SeqAt.shaped;rw[q.1,w2r];exact B9 (m6 q.2 (by decide))
theorem z1e(h:d.plain 60=true):∀(ds:List DV),DV.plains 60 ds=true->((toPs ds).any λy=>PyData.eqv y (toP d))=ds.any λx=>deq x d
 | [],_=>rfl
 | e::ds,p=>by simp only[DV.plains,d7]at p;rw[toPs,J1,J1,q5S 60 60 e d p.1 h,z1e h ds p.2]
end
section
variable {X:Cx} {E:St->XK} {δ:List Sv} {a b c e:Expr} {pos:Pos} {ra rb rc:Option Re} {re:Re}
def cmpR(X:Cx)(op:CmpOp):R2:=λx y H Q=>∃dx dy k,cmpD op dx dy=some k/\Rep X.D H dx x/\Rep X.D H dy y/\Q (.bl k) H
theorem z7Y(r:Rep D H d v):decide (v=.non)=isN d:=by
 cases d with
 | non=>rw[q3E.mp r];rfl
 | bl _=>rw[V3.mp r];rfl
 | int _=>rw[u9.mp r];rfl
 | str _=>rw[(V4.mp r).1];rfl
 | tup _=>obtain⟨a,xs,e,_⟩:=A9.mp r;rw[e];rfl
 | lst _=>obtain⟨a,xs,e,_⟩:=B6.mp r;rw[e];rfl
 | exc _=>obtain⟨a,C,e,_⟩:=q7n.mp r;rw[e];rfl
 | fn _=>obtain⟨a,e,_⟩:=z7C.mp r;rw[e];rfl
 | scr _=>obtain⟨a,e,_⟩:=P3.mp r;rw[e];rfl
 | dct _ _=>rcases M0.mp r with⟨a,o,kvs,e,_⟩ | ⟨a,o,kvs,e,_⟩<;>rw[e]<;>rfl
theorem q5l(hu:X.A.units+64<cLine):OpR X (compareOp op) (cmpR X op):=by
 intro pins s σ H x y v u Q I rx ry h;obtain⟨dx,dy,k,hk,r1,r2,q⟩:=h;have fin:∀{k':Bool},k'=k->EP X pins σ Q (.bool k') s:=λ{k'} e=>⟨.bl k',H,I,rfl,by rw[e];exact q⟩
 unfold cmpD at hk;split at hk
 ·cases hk;exact y0n pins s σ H x y v u Q I rx ry ⟨_,_,u9.mp r1,u9.mp r2,q⟩
 ·cases hk;exact y0q pins s σ H x y v u Q I rx ry ⟨_,_,u9.mp r1,u9.mp r2,q⟩
 ·cases hk;exact y1S pins s σ H x y v u Q I rx ry ⟨_,_,u9.mp r1,u9.mp r2,q⟩
 ·cases hk;exact y0u pins s σ H x y v u Q I rx ry ⟨_,_,u9.mp r1,u9.mp r2,q⟩
 ·split at hk
  ·rename_i p;rw[d7]at p;cases hk;obtain⟨as,q1⟩:=Y6 I 60 p.1 r1 rx;obtain⟨bs,q2⟩:=Y6 I 60 p.2 r2 ry;exact eq_dataH q1 q2 (q3B p.1) (q3B p.2) hu (fin (q5S 60 60 _ _ p.1 p.2))
  ·cases hk
 ·split at hk
  ·rename_i p;rw[d7]at p;cases hk;obtain⟨as,q1⟩:=Y6 I 60 p.1 r1 rx;obtain⟨bs,q2⟩:=Y6 I 60 p.2 r2 ry;exact ne_dataH q1 q2 (q3B p.1) (q3B p.2) hu (fin (by rw[q5S 60 60 _ _ p.1 p.2]))
  ·cases hk
 ·cases hk;exact z8p pins s σ H x y v u Q I rx ry ⟨q3E.mp r2,by rw[z7Y r1];exact q⟩
 ·rename_i ds;split at hk
  ·rename_i p;rw[d7]at p;cases hk;obtain⟨as,q1⟩:=Y6 I 60 p.1 r1 rx;obtain⟨bs,q2⟩:=Y6 I 61 (d:=.lst ds) (by simpa[DV.plain]using p.2) r2 ry;rw[toP]at q2;have l1:=q6W 60 _ p.1;have l2:=q4l 60 ds p.2;have l3:=l1.2;exact SeqAt.notIn_list_reads q2 q1 l2.1 l1.1 (by omega) (fin (by rw[z1e p.1 ds p.2]))
  ·cases hk
 ·cases hk
theorem q4M(h:G7 b=false):behindInMarks op b=false:=by
 cases b<;>first | rfl | cases h
theorem z5L(hu:X.A.units+64<cLine)(ha:∀q,ra=some q->PE X a (dE X.D E δ q))(hb:∀q,rb=some q->PE X b (dE X.D E δ q))(hs:G7 b=false)
  (h:(Re.thn ra λx _=>Re.thn rb λy _=>(cmpD op x y).map λk=>.ok (.bl k) .strong)=some re):PE X (.Compare a [op] [b] pos) (dE X.D E δ re):=
 q9q (λ_ _ h1 h2=>z4Z (q5l hu) h1 h2 (q4M hs)) ha hb h λO W H0 H x y Q dx cx dy cy σ k hd gx gy p=>by obtain⟨k',e1,e2⟩:=x8.mp k;cases e2;exact⟨dx,dy,k',e1,gx.all hd,gy.all hd,p _ H (Same.refl H) R9⟩
theorem q9c(ha:∀q,ra=some q->PE X a (dE X.D E δ q))(hb:∀q,rb=some q->PE X b (dE X.D E δ q))
  (h:(Re.thn ra λx _=>Re.thn rb λy _=>(cmpD op x y).map λk=>.ok (.bl k) .strong)=some re):∃ta tb,PE X a ta/\PE X b tb/\∀σ H Q,dE X.D E δ re σ H Q->tOp (cmpR X op) ta tb σ H Q:=
 q7J ha hb h λO W H0 H x y Q dx cx dy cy σ k hd gx gy p=>by obtain⟨k',e1,e2⟩:=x8.mp k;cases e2;exact⟨dx,dy,k',e1,gx.all hd,gy.all hd,p _ H (Same.refl H) R9⟩
theorem z4q(hb:∀d c,re=.ok d c->∃k,d=.bl k)(h:tstD (some re)=some r)(q:dT X.D E δ r σ H Q):dE X.D E δ re σ H (λx H'=>∃k,x=.bl k/\Q k H'):=by
 obtain⟨O,W,R,p⟩:=q;cases re with
 | ex c=>cases h;exact⟨O,W,R,p⟩
 | ok d c=>
  obtain⟨k,rfl⟩:=hb d c rfl;cases h;exact⟨O,W,R,λv H' s g=>⟨k,g.bl (R.hid.mono s),p H' s⟩⟩
theorem z8K(h:(Re.thn ra λx _=>Re.thn rb λy _=>(cmpD op x y).map λk=>.ok (.bl k) .strong)=some re):∀d c,re=.ok d c->∃k,d=.bl k:=by
 intro d c e;subst e;cases ra with
 | none=>cases h
 | some q=>
  cases q with
  | ex c=>cases h
  | ok d c=>
   cases rb with
   | none=>cases h
   | some q=>
    cases q with
    | ex c=>cases h
    | ok d' c'=>
     obtain⟨k,_,e⟩:=x8.mp (show((cmpD op d d').map λk=>Re.ok (.bl k) .strong)=_ from h);cases e;exact⟨k,rfl⟩
theorem z1P(hu:X.A.units+64<cLine)(ha:∀q,ra=some q->PE X a (dE X.D E δ q))(hb:∀q,rb=some q->PE X b (dE X.D E δ q))(hs:G7 b=false)
  (h:tstD (Re.thn ra λx _=>Re.thn rb λy _=>(cmpD op x y).map λk=>.ok (.bl k) .strong)=some r):PT X (.Compare a [op] [b] pos) (dT X.D E δ r):=by
 cases q:(Re.thn ra λx _=>Re.thn rb λy _=>(cmpD op x y).map λk=>Re.ok (.bl k) .strong)with
 | none=>rw[q]at h;cases h
 | some re=>
  rw[q]at h;obtain⟨ta,tb,A,B,w⟩:=q9c ha hb q;exact(z5Z (q5l hu) A B (q4M hs)).weak λσ H Q z=>w σ H _ (z4q (z8K q) h z)
theorem q3V(h:G7 c=false):lastMarks [op,op'] [b,c]=false:=by
 show behindInMarks op' c=false;exact q4M h
theorem q4u(ha:∀q,ra=some q->PE X a (dE X.D E δ q))(hb:∀q,rb=some q->PE X b (dE X.D E δ q))(hc:∀q,rc=some q->PE X c (dE X.D E δ q))
  (h:(Re.thn ra λx _=>Re.thn rb λy _=>match cmpD op x y with
   | none=>none
   | some false=>some (.ok (.bl false) .strong)
   | some true=>Re.thn rc λz _=>(cmpD op' y z).map λk=>.ok (.bl k) .strong)=some re):∃ta tb tc,PE X a ta/\PE X b tb/\PE X c tc/\(∀σ H Q,dE X.D E δ re σ H Q->z0Y (cmpR X op) (cmpR X op') ta tb tc σ H Q)/\∀d cl,re=.ok d cl->∃k,d=.bl k:=by
 cases hra:ra with
 | none=>rw[hra]at h;cases h
 | some q=>
  rw[hra]at h;have A:=ha q hra;cases q with
  | ex c=>cases h;exact⟨_,_,_,A,L0,L0,λσ H Q ⟨O,W,R,p⟩=>⟨O,W,R,p⟩,λd cl z=>nomatch z⟩
  | ok dx cx=>
   cases hrb:rb with
   | none=>rw[hrb]at h;cases h
   | some q=>
    rw[hrb]at h;have B:=hb q hrb;cases q with
    | ex c=>cases h;exact⟨_,_,_,A,B,L0,λσ H Q ⟨O,W,R,p⟩=>⟨O,W,R,λx H1 s1 g1=>⟨O,W,R.mono s1,λH' C m s=>p H' C m (s1.trans s)⟩⟩,λd cl z=>nomatch z⟩
    | ok dy cy=>
     have h':(match(generalizing:=false) cmpD op dx dy with
      | none=>none
      | some false=>some (Re.ok (.bl false) .strong)
      | some true=>Re.thn rc λz _=>(cmpD op' dy z).map λk=>.ok (.bl k) .strong)=some re:=h
     split at h'
     ·cases h'
     ·rename_i e1;cases h';exact⟨_,_,_,A,B,L0,λσ H Q ⟨O,W,R,p⟩=>⟨O,W,R,λx H1 s1 g1=>⟨O,W,R.mono s1,λy H2 s2 g2=>
       ⟨dx,dy,false,e1,(g1.mono s2).all ((R.hid.mono s1).mono s2),g2.all ((R.mono s1).hid.mono s2),false,rfl,by rw[d5 K2];exact p _ _ (s1.trans s2) R9⟩⟩⟩,λd cl z=>by cases z;exact⟨_,rfl⟩⟩
     ·rename_i e1;cases hrc:rc with
      | none=>rw[hrc]at h';cases h'
      | some q=>
       rw[hrc]at h';have C:=hc q hrc;cases q with
       | ex c'=>
        cases h';exact⟨_,_,_,A,B,C,λσ H Q ⟨O,W,R,p⟩=>⟨O,W,R,λx H1 s1 g1=>⟨O,W,R.mono s1,λy H2 s2 g2=>
         ⟨dx,dy,true,e1,(g1.mono s2).all ((R.hid.mono s1).mono s2),g2.all ((R.mono s1).hid.mono s2),true,rfl,by rw[d4 rfl];exact⟨O,W,(R.mono s1).mono s2,λH' C m s=>p H' C m (s1.trans (s2.trans s))⟩⟩⟩⟩,λd cl z=>nomatch z⟩
       | ok dz cz=>
        obtain⟨k,e2,e3⟩:=x8.mp (show((cmpD op' dy dz).map λk=>Re.ok (.bl k) .strong)=some re from h');cases e3;exact⟨_,_,_,A,B,C,λσ H Q ⟨O,W,R,p⟩=>⟨O,W,R,λx H1 s1 g1=>⟨O,W,R.mono s1,λy H2 s2 g2=>
         ⟨dx,dy,true,e1,(g1.mono s2).all ((R.hid.mono s1).mono s2),g2.all ((R.mono s1).hid.mono s2),true,rfl,by
          rw[d4 rfl];exact⟨O,W,(R.mono s1).mono s2,λz H3 s3 g3=>⟨dy,dz,k,e2,(g2.mono s3).all (((R.mono s1).hid.mono s2).mono s3),g3.all (((R.mono s1).mono s2).hid.mono s3),p _ _ (s1.trans (s2.trans s3)) R9⟩⟩⟩⟩⟩,λd cl z=>by cases z;exact⟨_,rfl⟩⟩
theorem q9G(hu:X.A.units+64<cLine)(ha:∀q,ra=some q->PE X a (dE X.D E δ q))(hb:∀q,rb=some q->PE X b (dE X.D E δ q))(hc:∀q,rc=some q->PE X c (dE X.D E δ q))(hs:G7 c=false)
  (h:(Re.thn ra λx _=>Re.thn rb λy _=>match cmpD op x y with
   | none=>none
   | some false=>some (.ok (.bl false) .strong)
   | some true=>Re.thn rc λz _=>(cmpD op' y z).map λk=>.ok (.bl k) .strong)=some re):PE X (.Compare a [op,op'] [b,c] pos) (dE X.D E δ re):=by
 obtain⟨ta,tb,tc,A,B,C,w,_⟩:=q4u ha hb hc h;exact(z3q (q5l hu) (q5l hu) A B C (q3V hs)).weak w
theorem q8I(hu:X.A.units+64<cLine)(ha:∀q,ra=some q->PE X a (dE X.D E δ q))(hb:∀q,rb=some q->PE X b (dE X.D E δ q))(hc:∀q,rc=some q->PE X c (dE X.D E δ q))(hs:G7 c=false)
  (h:tstD (Re.thn ra λx _=>Re.thn rb λy _=>match cmpD op x y with
   | none=>none
   | some false=>some (.ok (.bl false) .strong)
   | some true=>Re.thn rc λz _=>(cmpD op' y z).map λk=>.ok (.bl k) .strong)=some r):PT X (.Compare a [op,op'] [b,c] pos) (dT X.D E δ r):=by
 cases q:(Re.thn ra λx _=>Re.thn rb λy _=>match cmpD op x y with
   | none=>none
   | some false=>some (Re.ok (.bl false) .strong)
   | some true=>Re.thn rc λz _=>(cmpD op' y z).map λk=>.ok (.bl k) .strong)with
 | none=>rw[q]at h;cases h
 | some re=>
  rw[q]at h;obtain⟨ta,tb,tc,A,B,C,w,hbl⟩:=q4u ha hb hc q;exact(z2R (q5l hu) (q5l hu) A B C (q3V hs)).weak λσ H Q z=>w σ H _ (z4q hbl h z)
end
section
variable {X:Cx} {E:St->XK} {δ:List Sv} {a b c e:Expr} {es:List Expr} {pos:Pos} {ra:Option Re} {rt ru:Option Rt} {r:Rt} {re:Re}
theorem q5s(h:E6 d=some k)(r:Rep D H d v):TruV D.K v H k:=by
 cases d with
 | non=>cases h;rw[q3E.mp r];rfl
 | bl b=>cases h;rw[V3.mp r];rfl
 | int i=>cases h;rw[u9.mp r];rfl
 | str x=>
  cases h;obtain⟨e1,e2⟩:=V4.mp r;rw[e1];refine⟨e2,?_⟩;show(x.cps.size != 0)=(((x.cps.size:Nat):Int) != 0);cases x.cps.size with
  | zero=>rfl
  | succ n=>simp only[bne,Nat.add_eq_zero_iff];rw[w3O];simp;omega
 | tup ds=>
  cases h;obtain⟨a,xs,e1,e2,e3⟩:=A9.mp r;rw[e1];refine .inr (.inl ⟨xs,e2,?_⟩);have:=e3.length;cases xs<;>cases ds<;>first | rfl | cases this
 | lst ds=>
  cases h;obtain⟨a,xs,e1,e2,e3⟩:=B6.mp r;rw[e1];refine .inl ⟨xs,SqL.of e2,?_⟩;have:=e3.length;cases xs<;>cases ds<;>first | rfl | cases this
 | dct _ _=>cases h
 | exc _=>cases h
 | fn _=>cases h
 | scr _=>cases h
theorem z0a(ha:∀q,ra=some q->PE X e (dE X.D E δ q))(he:∀whole,isTrue e X.env whole=(do let v ←whole;standAt e.pos;holding [v] (truthy v)))(h:tstD ra=some r):PT X e (dT X.D E δ r):=by
 cases hra:ra with
 | none=>rw[hra]at h;cases h
 | some q=>
  rw[hra]at h;have A:=ha q hra;cases q with
  | ex c=>cases h;exact(q8j A he).weak λσ H Q ⟨O,W,R,p⟩=>⟨O,W,R,p⟩
  | ok d cl=>
   obtain⟨k,e1,e2⟩:=x8.mp (show(E6 d).map Rt.ok=some r from h);cases e2;exact(q8j A he).weak λσ H Q ⟨O,W,R,p⟩=>⟨O,W,R,λx H1 s1 g1=>⟨k,q5s e1 (g1.all (R.hid.mono s1)),p H1 s1⟩⟩
theorem z5J(ha:PE X a ta):PE X (.UnaryOp .Not a pos) (tUn (λx H Q=>∃k,TruV X.K x H k/\Q (.bl (!k)) H) ta):=by
 intro pins s σ H Q I h;refine UnaryOp_ (thn (ha pins s σ H _ I h) λv s1 ⟨x,H1,I1,r1,q1⟩=>?_);obtain⟨k,t,q1⟩:=q1;exact not_of (thn (q7X pins s1 σ H1 x v (λb H'=>b=k/\H'=H1) I1 r1 ⟨k,t,rfl,rfl⟩) λb s2 ⟨H2,I2,e1,e2⟩=>by
  subst e1 e2;exact⟨.bl (!b),H2,I2,rfl,q1⟩)
theorem z6x(ha:∀q,ra=some q->PE X a (dE X.D E δ q))(h:(Re.thn ra λx _=>(E6 x).map λk=>.ok (.bl (!k)) .strong)=some re):PE X (.UnaryOp .Not a pos) (dE X.D E δ re):=
 z3x (λ_=>z5J) ha h λO W H0 H x Q dx cx σ k hd gx p=>by obtain⟨b,e1,e2⟩:=x8.mp k;cases e2;exact⟨b,q5s e1 (gx.all hd),p _ H (Same.refl H) R9⟩
theorem q6V(ha:PE X a ta)(hb:PE X (.BoolOp .And (b::es) pos) tb):PE X (.BoolOp .And (a::b::es) pos) (λσ H Q=>ta σ H λx H1=>∃k,TruV X.K x H1 k/\if k=true then tb σ H1 Q else Q x H1):=by
 intro pins s σ H Q I h;refine BoolOp_and (thn (ha pins s σ H _ I h) λv s1 ⟨x,H1,I1,r1,q1⟩=>?_);obtain⟨k,t,q1⟩:=q1;refine thn (q7X pins s1 σ H1 x v (λb H'=>b=k/\H'=H1) I1 r1 ⟨k,t,rfl,rfl⟩) λc s2 ⟨H2,I2,e1,e2⟩=>?_
 subst e1 e2;cases c with
 | true=>exact hb pins s2 σ H2 Q I2 q1
 | false=>exact⟨x,H2,I2,r1,q1⟩
theorem z0U(ha:PE X a ta)(hb:PE X (.BoolOp .Or (b::es) pos) tb):PE X (.BoolOp .Or (a::b::es) pos) (λσ H Q=>ta σ H λx H1=>∃k,TruV X.K x H1 k/\if k=true then Q x H1 else tb σ H1 Q):=by
 intro pins s σ H Q I h;refine BoolOp_or (thn (ha pins s σ H _ I h) λv s1 ⟨x,H1,I1,r1,q1⟩=>?_);obtain⟨k,t,q1⟩:=q1;refine thn (q7X pins s1 σ H1 x v (λb H'=>b=k/\H'=H1) I1 r1 ⟨k,t,rfl,rfl⟩) λc s2 ⟨H2,I2,e1,e2⟩=>?_
 subst e1 e2;cases c with
 | false=>exact hb pins s2 σ H2 Q I2 q1
 | true=>exact⟨x,H2,I2,r1,q1⟩
theorem z5l(ha:∀q,ra=some q->PE X a (dE X.D E δ q))(hb:∀q,rb=some q->PE X (.BoolOp .And (b::es) pos) (dE X.D E δ q))(h:(Re.thn ra λx c=>andD x c rb)=some re):PE X (.BoolOp .And (a::b::es) pos) (dE X.D E δ re):=by
 cases hra:ra with
 | none=>rw[hra]at h;cases h
 | some q=>
  rw[hra]at h;have A:=ha q hra;cases q with
  | ex c=>cases h;exact(q6V A L0).weak λσ H Q ⟨O,W,R,p⟩=>⟨O,W,R,p⟩
  | ok d cl=>
   have h':andD d cl rb=some re:=h;unfold andD at h';split at h'
   ·cases h'
   ·rename_i t;exact(q6V A (hb re h')).weak λσ H Q ⟨O,W,R,p⟩=>⟨O,W,R,λx H1 s1 g1=>⟨true,q5s t (g1.all (R.hid.mono s1)),iteT ⟨O,W,R.mono s1,p.later s1 s1⟩⟩⟩
   ·rename_i t;cases h';exact(q6V A L0).weak λσ H Q ⟨O,W,R,p⟩=>⟨O,W,R,λx H1 s1 g1=>⟨false,q5s t (g1.all (R.hid.mono s1)),iteF (p _ H1 s1 g1)⟩⟩
theorem z9R(ha:∀q,ra=some q->PE X a (dE X.D E δ q))(hb:∀q,rb=some q->PE X (.BoolOp .Or (b::es) pos) (dE X.D E δ q))(h:(Re.thn ra λx c=>orD x c rb)=some re):PE X (.BoolOp .Or (a::b::es) pos) (dE X.D E δ re):=by
 cases hra:ra with
 | none=>rw[hra]at h;cases h
 | some q=>
  rw[hra]at h;have A:=ha q hra;cases q with
  | ex c=>cases h;exact(z0U A L0).weak λσ H Q ⟨O,W,R,p⟩=>⟨O,W,R,p⟩
  | ok d cl=>
   have h':orD d cl rb=some re:=h;unfold orD at h';split at h'
   ·cases h'
   ·rename_i t;cases h';exact(z0U A L0).weak λσ H Q ⟨O,W,R,p⟩=>⟨O,W,R,λx H1 s1 g1=>⟨true,q5s t (g1.all (R.hid.mono s1)),iteT (p _ H1 s1 g1)⟩⟩
   ·rename_i t;exact(z0U A (hb re h')).weak λσ H Q ⟨O,W,R,p⟩=>⟨O,W,R,λx H1 s1 g1=>⟨false,q5s t (g1.all (R.hid.mono s1)),iteF ⟨O,W,R.mono s1,p.later s1 s1⟩⟩⟩
theorem q7g(h:tstD (Re.thn ra k)=some r):(ra=none/\False)\/(∃c,ra=some (.ex c)/\r=.ex c)\/∃d c,ra=some (.ok d c)/\tstD (k d c)=some r:=by
 cases hra:ra with
 | none=>rw[hra]at h;cases h
 | some q=>
  rw[hra]at h;cases q with
  | ex c=>cases h;exact .inr (.inl ⟨c,rfl,rfl⟩)
  | ok d c=>exact .inr (.inr ⟨d,c,rfl,h⟩)
theorem z4l{d:DV}{c:Cl}{r:Rt}(h:tstD (some (.ok d c))=some r):∃k,E6 d=some k/\r=.ok k:=by
 obtain⟨k,e1,e2⟩:=x8.mp (show(E6 d).map Rt.ok=some r from h);exact⟨k,e1,e2.symm⟩
theorem z1V(ha:∀q,tstD ra=some q->PT X a (dT X.D E δ q))(h:tstD (Re.thn ra λx _=>(E6 x).map λk=>.ok (.bl (!k)) .strong)=some r):PT X (.UnaryOp .Not a pos) (dT X.D E δ r):=by
 rcases q7g h with⟨_,z⟩ | ⟨c,e1,e2⟩ | ⟨d,c,e1,e2⟩
 ·exact z.elim
 ·subst e1 e2;exact(z3F (ha (.ex c) rfl)).weak λσ H Q ⟨O,W,R,p⟩=>⟨O,W,R,p⟩
 ·cases t:E6 d with
  | none=>rw[t]at e2;cases e2
  | some k=>
   rw[t]at e2;cases e2;have A:=ha (.ok k) (by rw[e1];show(E6 d).map Rt.ok=_;rw[t];rfl);exact(z3F A).weak λσ H Q ⟨O,W,R,p⟩=>⟨O,W,R,λH1 s1=>p H1 s1⟩
theorem z2x(ha:∀q,tstD ra=some q->PT X a (dT X.D E δ q))(hb:∀q,tstD rb=some q->PW X (.BoolOp .And (b::es) pos) (dT X.D E δ q))(h:tstD (Re.thn ra λx c=>andD x c rb)=some r):PW X (.BoolOp .And (a::b::es) pos) (dT X.D E δ r):=by
 rcases q7g h with⟨_,z⟩ | ⟨c,e1,e2⟩ | ⟨d,c,e1,e2⟩
 ·exact z.elim
 ·subst e1 e2;exact(z0g (ha (.ex c) rfl) q5X).weak λσ H Q ⟨O,W,R,p⟩=>⟨O,W,R,p⟩
 ·unfold andD at e2;cases t:E6 d with
  | none=>rw[t]at e2;cases e2
  | some k=>
   rw[t]at e2;have A:=ha (.ok k) (by rw[e1];show(E6 d).map Rt.ok=_;rw[t];rfl);cases k with
   | true=>exact(z0g A (hb r e2)).weak λσ H Q ⟨O,W,R,p⟩=>⟨O,W,R,λH1 s1=>iteT ⟨O,W,R.mono s1,p.later s1⟩⟩
   | false=>
    obtain⟨k,t',rfl⟩:=z4l e2;rw[t]at t';cases t';exact(z0g A q5X).weak λσ H Q ⟨O,W,R,p⟩=>⟨O,W,R,λH1 s1=>iteF (p H1 s1)⟩
theorem z4F(ha:∀q,tstD ra=some q->PT X a (dT X.D E δ q))(hb:∀q,tstD rb=some q->PW X (.BoolOp .Or (b::es) pos) (dT X.D E δ q))(h:tstD (Re.thn ra λx c=>orD x c rb)=some r):PW X (.BoolOp .Or (a::b::es) pos) (dT X.D E δ r):=by
 rcases q7g h with⟨_,z⟩ | ⟨c,e1,e2⟩ | ⟨d,c,e1,e2⟩
 ·exact z.elim
 ·subst e1 e2;exact(z6l (ha (.ex c) rfl) q5X).weak λσ H Q ⟨O,W,R,p⟩=>⟨O,W,R,p⟩
 ·unfold orD at e2;cases t:E6 d with
  | none=>rw[t]at e2;cases e2
  | some k=>
   rw[t]at e2;have A:=ha (.ok k) (by rw[e1];show(E6 d).map Rt.ok=_;rw[t];rfl);cases k with
   | false=>exact(z6l A (hb r e2)).weak λσ H Q ⟨O,W,R,p⟩=>⟨O,W,R,λH1 s1=>iteF ⟨O,W,R.mono s1,p.later s1⟩⟩
   | true=>
    obtain⟨k,t',rfl⟩:=z4l e2;rw[t]at t';cases t';exact(z6l A q5X).weak λσ H Q ⟨O,W,R,p⟩=>⟨O,W,R,λH1 s1=>iteT (p H1 s1)⟩
theorem u3(h:j6 e=false):starEach (e::es) env=(false,eval e env)::starEach es env:=by
 cases e<;>first | rfl | cases h
theorem z2m:PA X [] (dA X.D E δ (.ok [])):=O8.weak λσ H Q ⟨O,W,R,p⟩=>p [] H (Same.refl H) .nil
theorem z1t(hs:j6 e=false)(ha:∀q,ra=some q->PE X e (dE X.D E δ q))(hb:∀q,rs=some q->PA X es (dA X.D E δ q))
  (h:(match(generalizing:=false) ra with | none=>none | some (.ex c)=>some (Rs.ex c) | some (.ok d c)=>(match(generalizing:=false) rs with | none=>none | some (.ex c)=>some (.ex c) | some (.ok l)=>some (.ok ((d,c)::l))))=some q):PA X (e::es) (dA X.D E δ q):=by
 cases hra:ra with
 | none=>rw[hra]at h;cases h
 | some z=>
  rw[hra]at h;have A:=ha z hra;cases z with
  | ex c=>cases h;exact(G1 A z6X (u3 hs)).weak λσ H Q ⟨O,W,R,p⟩=>⟨O,W,R,p⟩
  | ok d cl=>
   cases hrs:rs with
   | none=>rw[hrs]at h;cases h
   | some y=>
    rw[hrs]at h;have B:=hb y hrs;cases y with
    | ex c=>cases h;exact(G1 A B (u3 hs)).weak λσ H Q ⟨O,W,R,p⟩=>⟨O,W,R,λx H1 s1 g1=>⟨O,W,R.mono s1,λH' C m s=>p H' C m (s1.trans s)⟩⟩
    | ok l=>
     cases h;exact(G1 A B (u3 hs)).weak λσ H Q ⟨O,W,R,p⟩=>⟨O,W,R,λx H1 s1 g1=>⟨O,W,R.mono s1,λvs H2 s2 g2=>p _ H2 (s1.trans s2) (.cons (g1.mono s2) (g2.since s1))⟩⟩
theorem z6a(ha:∀q,rs=some q->PA X es (dA X.D E δ q))(h:(Rs.thn rs λl=>if l.length<=mostLen then some (.ok (.lst (l.map (·.1))) (if stros l then .fresh else .weak))else none)=some re):PE X (.List es pos) (dE X.D E δ re):=
 q4h (r:=λvs H Q=>vs.length<=sizeLine/\∀p,H p=none->Q (.ref p) (upd H p (.lst vs))) (λ_=>z9g) ha h λO W H0 H vs Q l σ k hd g p=>by
  split at k
  ·rename_i m;cases k;refine⟨by rw[g.length];exact Y5 m,λq hq=>p _ _ (u6 hq) ?_⟩;by_cases z:stros l=true
   ·rw[d4 z];exact P4 hd hq (g.stros hd z)
   ·rw[d5 z];exact q5Q hd hq (g.repL hd)
  ·cases k
theorem z5x(ha:∀q,rs=some q->PA X es (dA X.D E δ q))(h:(Rs.thn rs λl=>if l.length<=mostLen then some (.ok (.tup (l.map (·.1))) (if stros l then .strong else .weak))else none)=some re):PE X (.Tuple es x1 pos) (dE X.D E δ re):=
 q4h (r:=λvs H Q=>vs.length<=sizeLine/\∀p,H p=none->Q (.ref p) (upd H p (.tup vs))) (λ_=>z3A) ha h λO W H0 H vs Q l σ k hd g p=>by
  split at k
  ·rename_i m;cases k;refine⟨by rw[g.length];exact Y5 m,λq hq=>p _ _ (u6 hq) ?_⟩;by_cases z:stros l=true
   ·rw[d4 z];exact q4G hd hq (g.stros hd z)
   ·rw[d5 z];exact q7x hd hq (g.repL hd)
  ·cases k
end
end
section
def GotR(D:Dm)(O:List Addr)(H0 H:Hp)(d:DV)(fr:Bool)(v:V):Prop:=match fr with
 | false=>Rep D (L2.wo O H) d v
 | true=>∃p xs ds,v=.ref p/\d=.lst ds/\H0 p=none/\H p=some (.lst xs)/\RepL D (L2.wo (p::O) H) ds xs
def GotF(H H':Hp)(xs:List DV)(v:V):Prop:=∃(p:Addr) (L:List (Addr×List Int)),v=.ref p/\xs=L.map (λq=>.lst (q.2.map DV.int))/\H p=none/\H' p=some (.lst (L.map λq=>.ref q.1))/\(∀q∈L,H q.1=none/\H' q.1=some (.lst (q.2.map V.int)))/\(p::L.map (·.1)).Nodup
theorem GotF.since(g:GotF H1 H xs v)(f:∀a,H1 a=none->H0 a=none):GotF H0 H xs v:=by
 obtain⟨p,L,e1,e2,e3,e4,e5,e6⟩:=g;exact⟨p,L,e1,e2,f _ e3,e4,λq hq=>⟨f _ (e5 q hq).1,(e5 q hq).2⟩,e6⟩
theorem GotF.items(g:GotF H0 H xs v)(hz:∀a∈Z,H0 a≠none):∃p vs,v=.ref p/\H0 p=none/\H p=some (.lst vs)/\RepL D (L2.wo (p::Z) H) xs vs:=by
 obtain⟨p,L,e1,e2,e3,e4,e5,e6⟩:=g;refine⟨p,_,e1,e3,e4,?_⟩;rw[e2];refine q7m λq hq=>?_
 rw[j7 λz=>?_]
 ·exact(e5 q hq).2
 ·rcases f9.mp z with z | z
  ·exact(O4.mp e6).1 (o7.mpr ⟨q,hq,z⟩)
  ·exact hz _ z (e5 q hq).1
theorem GotF.fresh(g:GotF H0 H xs v)(hd:Hid O W H0 H1):Got D O W H0 H (.lst xs) .fresh v:=by
 obtain⟨p,vs,e1,e2,e3,e4⟩:=g.items (D:=D) (Z:=O++W) hd.ot;exact⟨p,vs,xs,e1,rfl,e2,e3,e4⟩
theorem SqT.immut{K:PySem.W.Frag}{O W:List Addr}{H:Hp}{t:Addr}{ts:List V}(hw:∀a∈W,∃o,H a=some o/\mutO o=true)(h:SqT K (L2.wo O H) t ts):SqT K (L2.wo (O++W) H) t ts:=by
 have ou:∀{u:HO},mutO u=false->L2.wo O H t=some u->L2.wo (O++W) H t=some u:=λ{u} hu e=>by
  obtain⟨ha,h⟩:=B7 e;rw[j7 λz=>?_]
  ·exact h
  ·rcases y0.mp z with z | z
   ·exact ha z
   ·obtain⟨ys,q,m⟩:=hw t z;rw[h]at q;cases q;rw[hu]at m;cases m
 rcases h with(h | ⟨o,h⟩) | h
 ·exact .inl (.inl (ou rfl h))
 ·exact .inl (.inr ⟨o,ou rfl h⟩)
 ·exact .inr h
def GotP(D:Dm)(O:List Addr)(H0 H:Hp)(d:DV)(v:V):Prop:=∃t M,v=.ref t/\d=.dct [] (M.map itD)/\SqT D.K (L2.wo O H) t (M.map itV)/\(M.filterMap (·.1)).Nodup/\(∀p∈M.filterMap (·.1),H0 p=none)/\ItAt H M
theorem GotP.since(g:GotP D O H0 H d v)(f:∀a,H0 a=none->H1 a=none):GotP D O H1 H d v:=by
 obtain⟨t,M,e1,e2,e3,e4,e5,e6⟩:=g;exact⟨t,M,e1,e2,e3,e4,λp hp=>f _ (e5 p hp),e6⟩
theorem GotP.rep(g:GotP D O H0 H (.dct ks ds) v)(hw:∀a∈W,∃o,H a=some o/\mutO o=true)(hz:∀a∈O++W,H0 a≠none):Rep D (L2.wo (O++W) H) (.tup ds) v:=by
 obtain⟨t,M,e1,e2,e3,e4,e5,e6⟩:=g;cases e2;exact A9.mpr ⟨t,_,e1,e3.immut hw,q5K λp ns hm=>by rw[j7 λz=>hz p z (e5 p (O1.mpr ⟨_,hm,rfl⟩))];exact e6 p ns hm⟩
def GotT(D:Dm)(O:List Addr)(H0 H:Hp)(d:DV)(v:V):Prop:=(∃t ts p xs ds es,v=.ref t/\d=.tup (.lst ds::es)/\SqT D.K (L2.wo O H) t (.ref p::ts)/\H0 p=none/\H p=some (.lst xs)/\RepL D (L2.wo (p::O) H) ds xs/\RepL D (L2.wo (p::O) H) es ts)\/(∃xs,d=.lst xs/\GotF H0 H xs v)\/GotP D O H0 H d v
theorem z3J(g:GotT D O H0 H (.dct ks ds) v):GotP D O H0 H (.dct ks ds) v:=by
 rcases g with⟨_,_,_,_,_,_,_,e,_⟩ | ⟨_,e,_⟩ | g
 ·cases e
 ·cases e
 ·exact g
def spF(D:Dm)(n:Nat)(f:List DV->Option Ou):Sp:=λvs H Q E=>∃O ds o,Hdn O H/\ds.length=n/\RepL D (L2.wo O H) ds vs/\f ds=some o /\
 (match o with | .v d fr=>∀v H',Same H H'->GotR D O H H' d fr v->Q v H' | .t d=>∀v H',Same H H'->GotT D O H H' d v->Q v H' | .x c=>∀H' C,D.mg c=some C->Same H H'->E C none H')
def spH(D:Dm)(f:DV->List DV->Option (DV×List DV)):Sp:=λvs H Q _=>∃O p v d ds xs r,vs=[v,.ref p]/\Hdn O H/\p∉O/\H p=some (.lst xs)/\Rep D (L2.wo (O++[p]) H) d v/\RepL D (L2.wo (O++[p]) H) ds xs/\f d ds=some r /\
 ∀v' H' xs',Same (L2.wo [p] H) H'->H' p=some (.lst xs')->Rep D (L2.wo (O++[p]) H') r.1 v'->RepL D (L2.wo (O++[p]) H') r.2 xs'->Q v' H'
section
variable {X:Cx} {E:St->XK} {δ:List Sv} {e:Expr} {es:List Expr} {pos p:Pos} {re:Re} {rs:Option Rs} {k:Nat} {fa:Addr} {fd:FuncData} {ps:List Str} {x:Str}
theorem q9T{F:Nat->List DV->Option Ou}{f:Nat}{e0:Expr}{Pre:St->Hp->Prop}(hn:∀ds o,F f ds=some o->ds.length=ps.length)(C:∀t,PA X (e::es) t->PE X e0 (λσ H Q=>Pre σ H/\z4e (spF X.D ps.length (F f)) [] E t σ H Q))(pre:∀σ H O W,RSt X.D H σ δ O W->Pre σ H)(ha:∀q,rs=some q->PA X (e::es) (dA X.D E δ q))
  (h:(Rs.thn rs λl=>E2 F f l)=some re):PE X e0 (dE X.D E δ re):=by
 cases hrs:rs with
 | none=>rw[hrs]at h;cases h
 | some q=>
  rw[hrs]at h;have A:=ha q hrs;cases q with
  | ex c=>cases h;exact(C _ A).weak λσ H Q ⟨O,W,R,p⟩=>⟨pre _ _ _ _ R,O,W,R,p⟩
  | ok l=>
   have h':E2 F f l=some re:=h;unfold E2 at h';split at h'
   ·cases h'
   ·rename_i c e1;cases h';refine(C _ A).weak λσ H Q ⟨O,W,R,p⟩=>⟨pre _ _ _ _ R,O,W,R,λvs H1 s1 g1=>?_⟩
    have hd:=R.hid.mono s1;show spF X.D ps.length (F f) (vs++[]) H1 Q (E σ);rw[M4];exact⟨O,_,_,hd.hdO,hn _ _ e1,g1.repL hd,e1,λH' C m s=>p H' C m (s1.trans s)⟩
   ·rename_i ks ds e1;cases h';refine(C _ A).weak λσ H Q ⟨O,W,R,p⟩=>⟨pre _ _ _ _ R,O,W,R,λvs H1 s1 g1=>?_⟩
    have hd:=R.hid.mono s1;show spF X.D ps.length (F f) (vs++[]) H1 Q (E σ);rw[M4];refine⟨O,_,_,hd.hdO,hn _ _ e1,g1.repL hd,e1,λv H' s g=>p v H' (s1.trans s) ?_⟩;exact(z3J g).rep (λa ha=>by obtain⟨o,e,m⟩:=hd.wl a ha;exact⟨o,s _ _ (hd.same _ _ e),m⟩) λa ha q=>hd.ot a ha (s1.free q)
   ·rename_i d hne e1;cases h';refine(C _ A).weak λσ H Q ⟨O,W,R,p⟩=>⟨pre _ _ _ _ R,O,W,R,λvs H1 s1 g1=>?_⟩
    have hd:=R.hid.mono s1;show spF X.D ps.length (F f) (vs++[]) H1 Q (E σ);rw[M4];by_cases z:(l.all λp=>p.2 == .strong||p.2 == .fresh)=true
    ·rw[d4 z]at p;refine⟨O++W,_,_,hd.hdA,hn _ _ e1,g1.strong hd z,e1,λv H' s g=>p v H' (s1.trans s) ?_⟩;rcases g with⟨t,ts,q,xs,ds,es,f1,f2,f0,f3,f4,f5,f6⟩ | ⟨xs,f1,f2⟩ | ⟨_,_,_,f2,_⟩
     ·subst f2;exact⟨t,ts,q,xs,ds,es,f1,rfl,f0,s1.free f3,f4,f5,f6⟩
     ·subst f1;exact(f2.since λa ha=>s1.free ha).fresh hd
     ·exact absurd f2 (hne _ _)
    ·rw[d5 z]at p;refine⟨O,_,_,hd.hdO,hn _ _ e1,g1.repL hd,e1,λv H' s g=>p v H' (s1.trans s) ?_⟩;rcases g with⟨t,ts,q,xs,ds,es,f1,f2,f0,f3,f4,f5,f6⟩ | ⟨xs,f1,f2⟩ | ⟨_,_,_,f2,_⟩
     ·have hq:q∉O:=λz=>hd.ot q (u4 _ z) (s1.free f3);have up:Same (L2.wo (q::O) H') (L2.wo O H'):=x6 λb hb=>i6 _ hb;rw[f2];exact A9.mpr ⟨t,_,f1,f0,p8.mpr ⟨_,_,rfl,B6.mpr ⟨q,xs,rfl,by rw[j7 hq];exact f4,f5.mono up⟩,f6.mono up⟩⟩
     ·subst f1;have hO:∀a∈O,H1 a≠none:=λa ha q=>hd.ot a (u4 _ ha) (s1.free q)
      obtain⟨q,vs,g1',g2',g3',g4'⟩:=f2.items (D:=X.D) hO;have hq:q∉O:=λz=>hO q z g2'
      exact B6.mpr ⟨q,vs,g1',by rw[j7 hq];exact g3',g4'.mono (x6 λb hb=>i6 _ hb)⟩
     ·exact absurd f2 (hne _ _)
   ·rename_i d fr e1;cases h';refine(C _ A).weak λσ H Q ⟨O,W,R,p⟩=>⟨pre _ _ _ _ R,O,W,R,λvs H1 s1 g1=>?_⟩
    have hd:=R.hid.mono s1;show spF X.D ps.length (F f) (vs++[]) H1 Q (E σ);rw[M4];by_cases z:(l.all λp=>p.2 == .strong||p.2 == .fresh)=true
    ·rw[d4 z]at p;refine⟨O++W,_,_,hd.hdA,hn _ _ e1,g1.strong hd z,e1,λv H' s g=>p v H' (s1.trans s) ?_⟩;cases fr with
     | false=>exact g
     | true=>
      obtain⟨q,xs,ds,e1,e2,e3,e4,e5⟩:=g;exact⟨q,xs,ds,e1,e2,s1.free e3,e4,e5⟩
    ·rw[d5 z]at p;refine⟨O,_,_,hd.hdO,hn _ _ e1,g1.repL hd,e1,λv H' s g=>p v H' (s1.trans s) ?_⟩;cases fr with
     | false=>exact g
     | true=>
      obtain⟨q,xs,ds,u1,e2,e3,e4,e5⟩:=g;subst e2;rw[w2r];cases y:imL (.lst ds)with
      | true=>exact⟨q,xs,ds,u1,rfl,s1.free e3,e4,RepL.immut (O:=q::O) (λa ha=>by obtain⟨o,e,m⟩:=hd.wl a ha;exact⟨o,s _ _ (hd.same _ _ e),m⟩) y e5⟩
      | false=>
       have hq:q∉O:=λz=>hd.ot q (u4 _ z) (s1.free e3);exact B6.mpr ⟨q,xs,u1,by rw[j7 hq];exact e4,e5.mono (x6 λb hb=>i6 _ hb)⟩
theorem z3r(fo:FnOk X.prog X.w X.K X.mg X.base (CXx X.prog X.w X.base) k fa fd ps (spF X.D ps.length (F f)))(hn:∀ds o,F f ds=some o->ds.length=ps.length)(hr:Room k X.A)(hg:Gl X x)(hm:X.mg x=some (.ref fa))(hk:PySem.W.keepIn X.K (.ref fa)=true)
  (hb:J2 X.K fd ps []) (hx:q3G (CXx X.prog X.w X.base) X E) (ha:∀q,rs=some q->PA X (e::es) (dA X.D E δ q)) (hdb:(x==("__debug__" : Str))=false) (hs:j6 e=false) (hss:es.any j6=false)
  (h:(Rs.thn rs λl=>E2 F f l)=some re):PE X (.Call (.Name x p) (e::es) [] pos) (dE X.D E δ re):=by
 have plain:∀(es:List Expr),es.any j6=false->(backTo pos (starEach es X.env)).any (·.1)=false:=by
  intro es
  induction es with
  | nil=>intro _;rfl
  | cons y ys ih=>
   intro q;rw[J1,Z8]at q;rw[u3 q.1];show(false||(backTo pos (starEach ys X.env)).any (·.1))=false;rw[ih q.2];rfl
 exact q9T (Pre:=λ_ _=>True) hn (λt hA=>(q7R (p:=p) (pos:=pos) fo hr hg hm hk hb .nil hx hA hdb (u3 hs) (plain es hss)).weak λσ H Q h=>h.2) (λ_ _ _ _ _=>trivial) ha h
end
section
variable {X:Cx} {E:St->XK} {δ:List Sv} {e:Expr} {es:List Expr} {pos p:Pos} {re:Re} {rs:Option Rs}
theorem q1I:∀(es:List Expr),es.any j6=false->(backTo pos (starEach es env)).any (·.1)=false
 | [],_=>rfl
 | y::ys,q=>by rw[J1,Z8]at q;rw[u3 q.1];show(false||(backTo pos (starEach ys env)).any (·.1))=false;rw[q1I ys q.2];rfl
def biR(X:Cx)(k:List (DV×Cl)->Option Re):List V->Hp->VK->Prop:=λvs H Q=>∃l re O W H0,k l=some re/\Hid O W H0 H/\GotL X.D O W H0 H l vs/\∃d c,re=.ok d c/\∀v H',Same H H'->Got X.D O W H0 H' d c v->Q v H'
theorem q5d{k:List (DV×Cl)->Option Re}{x:Str}{id:String}(hc:y6 X (.builtin id) (biR X k))(hk:∀l re,k l=some re->∃d c,re=.ok d c)(hg:Gl X x)(hm:X.mg x=none)(hv:bootBuiltins x=some (.builtin id))(hn:x ≠ "__name__")(hdb:(x==("__debug__" : Str))=false)
  (ha:∀q,rs=some q->PA X (e::es) (dA X.D E δ q)) (hs:j6 e=false) (hss:es.any j6=false) (h:Rs.thn rs k=some re):PE X (.Call (.Name x p) (e::es) [] pos) (dE X.D E δ re):=
 q4h (λ_ hA=>q5I hc hg hm hv hA hn hdb (u3 hs) (q1I es hss)) ha h λO W H0 H vs Q l σ hl hd g p=>by obtain⟨d,c,rfl⟩:=hk l re hl;exact⟨l,_,O,W,H0,hl,hd,g,d,c,rfl,p⟩
theorem q5B(hc:y6 X (.type T) (biR X k))(hk:∀l re,k l=some re->∃d c,re=.ok d c)(hg:Gl X x)(hm:X.mg x=none)(hv:bootBuiltins x=some (.type T))(hn:x ≠ "__name__")(hdb:(x==("__debug__" : Str))=false)
  (ha:∀q,rs=some q->PA X (e::es) (dA X.D E δ q)) (hs:j6 e=false) (hss:es.any j6=false) (h:Rs.thn rs k=some re):PE X (.Call (.Name x p) (e::es) [] pos) (dE X.D E δ re):=
 q4h (λ_ hA=>q9s hc hg hm hv hA hn hdb (u3 hs) (q1I es hss)) ha h λO W H0 H vs Q l σ hl hd g p=>by obtain⟨d,c,rfl⟩:=hk l re hl;exact⟨l,_,O,W,H0,hl,hd,g,d,c,rfl,p⟩
theorem z6E:∀l re,lenD l=some re->∃d c,re=.ok d c:=λl re h=>by unfold lenD at h;split at h<;>cases h<;>exact⟨_,_,rfl⟩
theorem z6z:∀l re,absD l=some re->∃d c,re=.ok d c:=λl re h=>by unfold absD at h;split at h<;>cases h<;>exact⟨_,_,rfl⟩
theorem z4x:∀l re,minD l=some re->∃d c,re=.ok d c:=λl re h=>by
 unfold minD at h;split at h
 ·cases h;exact⟨_,_,rfl⟩
 ·split at h
  ·cases h;exact⟨_,_,rfl⟩
  ·cases h
 ·split at h
  ·cases h;exact⟨_,_,rfl⟩
  ·cases h
 ·cases h
theorem z6Q:∀l re,maxD l=some re->∃d c,re=.ok d c:=λl re h=>by
 unfold maxD at h;split at h
 ·cases h;exact⟨_,_,rfl⟩
 ·split at h
  ·cases h;exact⟨_,_,rfl⟩
  ·cases h
 ·cases h
theorem q2Q:∀{ds:List DV} {ns:List Int} {xs:List V},ints? ds=some ns->RepL D H ds xs->xs=ns.map V.int
 | [],ns,xs,h,r=>by cases h;exact B2.mp r
 | .int i::ds,ns,xs,h,r=>by have h':(ints? ds).map (i :: ·)=some ns:=h;obtain⟨ms,e1,e2⟩:=x8.mp h';obtain⟨v,vs,e3,e4,e5⟩:=p8.mp r;have q:=q2Q e1 e5;rw[←e2,e3,p7,u9.mp e4,q]
 | .non::ds,ns,xs,h,_=>by cases h
 | .bl _::ds,ns,xs,h,_=>by cases h
 | .str _::ds,ns,xs,h,_=>by cases h
 | .tup _::ds,ns,xs,h,_=>by cases h
 | .lst _::ds,ns,xs,h,_=>by cases h
 | .dct _ _::ds,ns,xs,h,_=>by cases h
 | .exc _::ds,ns,xs,h,_=>by cases h
 | .fn _::ds,ns,xs,h,_=>by cases h
 | .scr _::ds,ns,xs,h,_=>by cases h
theorem q8h:∀(r:List Int) (m:Int),(minI m r=m\/minI m r∈r)/\minI m r<=m/\∀x∈r,minI m r<=x
 | [],m=>⟨.inl rfl,w20 _,λx h=>by cases h⟩
 | y::r,m=>by
  obtain⟨h0,h1,h2⟩:=q8h r (if y<m then y else m);unfold minI;by_cases q:y<m
  ·rw[d4 q]at h0 h1 h2 ⊢;refine⟨.inr ?_,by omega,λx hx=>?_⟩
   ·rcases h0 with z | z
    ·rw[z];exact j5 ..
    ·exact i6 _ z
   ·rcases f9.mp hx with z | z
    ·rw[z];exact h1
    ·exact h2 x z
  ·rw[d5 q]at h0 h1 h2 ⊢;refine⟨h0.imp id (i6 _),h1,λx hx=>?_⟩;rcases f9.mp hx with z | z
   ·rw[z];omega
   ·exact h2 x z
theorem q6f:∀(r:List Int) (m:Int),(maxI m r=m\/maxI m r∈r)/\m<=maxI m r/\∀x∈r,x<=maxI m r
 | [],m=>⟨.inl rfl,w20 _,λx h=>by cases h⟩
 | y::r,m=>by
  obtain⟨h0,h1,h2⟩:=q6f r (if m<y then y else m);unfold maxI;by_cases q:m<y
  ·rw[d4 q]at h0 h1 h2 ⊢;refine⟨.inr ?_,by omega,λx hx=>?_⟩
   ·rcases h0 with z | z
    ·rw[z];exact j5 ..
    ·exact i6 _ z
   ·rcases f9.mp hx with z | z
    ·rw[z];exact h1
    ·exact h2 x z
  ·rw[d5 q]at h0 h1 h2 ⊢;refine⟨h0.imp id (i6 _),h1,λx hx=>?_⟩;rcases f9.mp hx with z | z
   ·rw[z];omega
   ·exact h2 x z
theorem q8l(h1:M∈n::r)(h2:∀x∈n::r,M<=x):M=minI n r:=by
 obtain⟨a,b,c⟩:=q8h r n;have d:minI n r∈n::r:=a.elim (λz=>by rw[z];exact j5 ..) (i6 _);have e:=h2 _ d;have f:minI n r<=M:=by
  rcases f9.mp h1 with z | z
  ·rw[z];exact b
  ·exact c M z
 omega
theorem z1T(h1:M∈n::r)(h2:∀x∈n::r,x<=M):M=maxI n r:=by
 obtain⟨a,b,c⟩:=q6f r n;have d:maxI n r∈n::r:=a.elim (λz=>by rw[z];exact j5 ..) (i6 _);have e:=h2 _ d;have f:M<=maxI n r:=by
  rcases f9.mp h1 with z | z
  ·rw[z];exact b
  ·exact c M z
 omega
theorem z6e:∀l re,intD l=some re->∃d c,re=.ok d c:=λl re h=>by unfold intD at h;split at h<;>cases h<;>exact⟨_,_,rfl⟩
theorem z2f:∀l re,q8v l=some re->∃d c,re=.ok d c:=λl re h=>by unfold q8v at h;split at h<;>cases h<;>exact⟨_,_,rfl⟩
theorem q9P:∀l re,q5e l=some re->∃d c,re=.ok d c:=λl re h=>by unfold q5e at h;split at h<;>cases h<;>exact⟨_,_,rfl⟩
theorem z9I:y6 X (.builtin "len") (biR X lenD):=by
 intro pins s σ H xs us Q I r h;obtain⟨l,re,O,W,H0,hb,hd,g,d,c,rfl,p⟩:=h;unfold lenD at hb;split at hb
 ·cases hb;obtain⟨v,rfl,gv⟩:=g.one;obtain⟨a,ys,e1,e2,e3⟩:=gv.lst hd;exact q2E pins s σ H _ us Q I r ⟨a,ys,by rw[e1],.inl (SqL.of e2),by rw[e3.length];exact p _ H (Same.refl H) y8⟩
 ·cases hb;obtain⟨v,rfl,gv⟩:=g.one;obtain⟨a,ys,e1,e2,e3⟩:=gv.tup hd;exact q2E pins s σ H _ us Q I r ⟨a,ys,by rw[e1],.inr e2,by rw[e3.length];exact p _ H (Same.refl H) y8⟩
 ·cases hb;obtain⟨v,rfl,gv⟩:=g.one;obtain⟨a,e1,e2⟩:=P3.mp (gv.all hd);exact q2E pins s σ H _ us Q I r ⟨a,_,by rw[e1],.inl e2.sq,by rw[d8];exact p _ H (Same.refl H) y8⟩
 ·cases hb;obtain⟨v,rfl,gv⟩:=g.one;obtain⟨e1,e2⟩:=gv.str hd;exact q5Z pins s σ H _ us Q I r ⟨_,by rw[e1],e2,p _ H (Same.refl H) y8⟩
 ·cases hb
theorem z9u:y6 X (.builtin "abs") (biR X absD):=by
 intro pins s σ H xs us Q I r h;obtain⟨l,re,O,W,H0,hb,hd,g,d,c,rfl,p⟩:=h;unfold absD at hb;split at hb
 ·cases hb;obtain⟨v,rfl,gv⟩:=g.one;exact z3f pins s σ H _ us Q I r ⟨_,by rw[gv.int hd],p _ H (Same.refl H) y8⟩
 ·cases hb
theorem z8s(hc:X.calm=true)(hu:X.A.units+1<cLine):y6 X (.builtin "min") (biR X minD):=by
 intro pins s σ H xs us Q I r h;obtain⟨l,re,O,W,H0,hb,hd,g,d,c,rfl,p⟩:=h;unfold minD at hb;split at hb
 ·cases hb;obtain⟨v,v',rfl,gv,gv'⟩:=g.two;exact z0C hc pins s σ H _ us Q I r ⟨_,_,by rw[gv.int hd,gv'.int hd],p _ H (Same.refl H) y8⟩
 ·split at hb
  ·rename_i n r' hq;cases hb;obtain⟨v,rfl,gv⟩:=g.one;obtain⟨a,ys,e1,e2,e3⟩:=gv.lst hd;have e4:=q2Q hq e3;subst e4;exact z0E hc pins s σ H _ us Q I r ⟨a,n::r',by rw[e1],SqL.of e2,by simp,λM m1 m2=>by rw[q8l m1 m2];exact p _ H (Same.refl H) y8⟩
  ·cases hb
 ·split at hb
  ·rename_i n r' hq;cases hb;obtain⟨v,rfl,gv⟩:=g.one;obtain⟨a,ys,e1,e2,e3⟩:=gv.tup hd;have e4:=q2Q hq e3;subst e4;exact z1E hc pins s σ H _ us Q I r ⟨a,n::r',by rw[e1],e2,by simp,λM m1 m2=>by rw[q8l m1 m2];exact p _ H (Same.refl H) y8⟩
  ·cases hb
 ·cases hb
theorem z9Q(hc:X.calm=true):y6 X (.builtin "max") (biR X maxD):=by
 intro pins s σ H xs us Q I r h;obtain⟨l,re,O,W,H0,hb,hd,g,d,c,rfl,p⟩:=h;unfold maxD at hb;split at hb
 ·cases hb;obtain⟨v,v',rfl,gv,gv'⟩:=g.two;exact z1v hc pins s σ H _ us Q I r ⟨_,_,by rw[gv.int hd,gv'.int hd],p _ H (Same.refl H) y8⟩
 ·split at hb
  ·rename_i n r' hq;cases hb;obtain⟨v,rfl,gv⟩:=g.one;obtain⟨a,ys,e1,e2,e3⟩:=gv.lst hd;have e4:=q2Q hq e3;subst e4;exact z0v hc pins s σ H _ us Q I r ⟨a,n::r',by rw[e1],SqL.of e2,by simp,λM m1 m2=>by rw[z1T m1 m2];exact p _ H (Same.refl H) y8⟩
  ·cases hb
 ·cases hb
theorem q6g:∀{ds:List DV} {bs:List Bool} {xs:List V},bools? ds=some bs->RepL D H ds xs->xs=bs.map V.bl
 | [],bs,xs,h,r=>by cases h;exact B2.mp r
 | .bl i::ds,bs,xs,h,r=>by have h':(bools? ds).map (i :: ·)=some bs:=h;obtain⟨ms,e1,e2⟩:=x8.mp h';obtain⟨v,vs,e3,e4,e5⟩:=p8.mp r;have q:=q6g e1 e5;subst e2 e3 q;rw[V3.mp e4];rfl
 | .non::_,_,_,h,_=>by cases h
 | .int _::_,_,_,h,_=>by cases h
 | .str _::_,_,_,h,_=>by cases h
 | .tup _::_,_,_,h,_=>by cases h
 | .lst _::_,_,_,h,_=>by cases h
 | .exc _::_,_,_,h,_=>by cases h
 | .fn _::_,_,_,h,_=>by cases h
 | .scr _::_,_,_,h,_=>by cases h
 | .dct _ _::_,_,_,h,_=>by cases h
theorem z7q(hc:X.calm=true):y6 X (.builtin "sum") (biR X sumD):=by
 intro pins s σ H xs us Q I r h;obtain⟨l,re,O,W,H0,hb,hd,g,d,c,rfl,p⟩:=h;unfold sumD at hb;split at hb
 ·obtain⟨ns,hq,e⟩:=x8.mp hb;cases e;obtain⟨v,rfl,gv⟩:=g.one;obtain⟨a,ys,e1,e2,e3⟩:=gv.lst hd;have e4:=q2Q hq e3;subst e4;exact z1n hc pins s σ H _ us Q I r ⟨a,ns,by rw[e1],SqL.of e2,p _ H (Same.refl H) y8⟩
 ·cases hb
theorem z8G(hc:X.calm=true):y6 X (.builtin "any") (biR X anyD):=by
 intro pins s σ H xs us Q I r h;obtain⟨l,re,O,W,H0,hb,hd,g,d,c,rfl,p⟩:=h;unfold anyD at hb;split at hb
 ·obtain⟨bs,hq,e⟩:=x8.mp hb;cases e;obtain⟨v,rfl,gv⟩:=g.one;obtain⟨a,ys,e1,e2,e3⟩:=gv.lst hd;have e4:=q6g hq e3;subst e4;exact q9K hc pins s σ H _ us Q I r ⟨a,bs,by rw[e1],SqL.of e2,p _ H (Same.refl H) R9⟩
 ·cases hb
theorem q9r:bootBuiltins "sum" = some (.builtin "sum"):=by decide +kernel
theorem z0d:bootBuiltins "any" = some (.builtin "any"):=by decide +kernel
theorem z5d:∀l re,sumD l=some re->∃d c,re=.ok d c:=by
 intro l re h;unfold sumD at h;split at h
 ·obtain⟨_,_,e⟩:=x8.mp h;cases e;exact⟨_,_,rfl⟩
 ·cases h
theorem z6y:∀l re,anyD l=some re->∃d c,re=.ok d c:=by
 intro l re h;unfold anyD at h;split at h
 ·obtain⟨_,_,e⟩:=x8.mp h;cases e;exact⟨_,_,rfl⟩
 ·cases h
theorem z9v:y6 X (.type "int") (biR X intD):=by
 intro pins s σ H xs us Q I r h;obtain⟨l,re,O,W,H0,hb,hd,g,d,c,rfl,p⟩:=h;unfold intD at hb;split at hb
 ·cases hb;obtain⟨v,rfl,gv⟩:=g.one;exact q6y pins s σ H _ us Q I r (.inl ⟨_,by rw[gv.int hd],p _ H (Same.refl H) y8⟩)
 ·cases hb;obtain⟨v,rfl,gv⟩:=g.one;exact q6y pins s σ H _ us Q I r (.inr ⟨_,by rw[gv.bl hd],p _ H (Same.refl H) y8⟩)
 ·cases hb
theorem z4D:y6 X (.type "list") (biR X q8v):=by
 intro pins s σ H xs us Q I r h;obtain⟨l,re,O,W,H0,hb,hd,g,d,c,rfl,p⟩:=h;unfold q8v at hb;split at hb
 ·cases hb;obtain⟨v,rfl,gv⟩:=g.one;obtain⟨a,e1,e2⟩:=P3.mp (gv.all hd);exact q1S pins s σ H _ us Q I r ⟨a,_,by rw[e1],.inl e2.sq,λq hq=>p _ _ (u6 hq) (P4 hd hq (V5 _))⟩
 ·cases hb;obtain⟨v,rfl,gv⟩:=g.one;obtain⟨a,ys,e1,e2,e3⟩:=gv.lstC hd;exact q1S pins s σ H _ us Q I r ⟨a,ys,by rw[e1],.inl (SqL.of e2),λq hq=>p _ _ (u6 hq) (q4n hd hq e3)⟩
 ·cases hb;obtain⟨v,rfl,gv⟩:=g.one;obtain⟨a,ys,e1,e2,e3⟩:=gv.tupC hd;exact q1S pins s σ H _ us Q I r ⟨a,ys,by rw[e1],.inr e2,λq hq=>p _ _ (u6 hq) (q4n hd hq e3)⟩
 ·cases hb
theorem q5A:∀{ds:List DV} {ns:List Int},ints? ds=some ns->ds=ns.map DV.int
 | [],ns,h=>by cases h;rfl
 | .int i::ds,ns,h=>by have h':(ints? ds).map (i :: ·)=some ns:=h;obtain⟨ms,e1,e2⟩:=x8.mp h';rw[←e2,p7,q5A e1]
 | .non::_,_,h=>by cases h
 | .bl _::_,_,h=>by cases h
 | .str _::_,_,h=>by cases h
 | .tup _::_,_,h=>by cases h
 | .lst _::_,_,h=>by cases h
 | .dct _ _::_,_,h=>by cases h
 | .exc _::_,_,h=>by cases h
 | .fn _::_,_,h=>by cases h
 | .scr _::_,_,h=>by cases h
theorem z1M:∀l re,X7 l=some re->∃d c,re=.ok d c:=λl re h=>by
 unfold X7 at h;split at h
 ·split at h
  ·cases h;exact⟨_,_,rfl⟩
  ·cases h
 ·cases h
theorem z4W:y6 X (.type "list") (biR X X7):=by
 intro pins s σ H xs us Q I r h;obtain⟨l,re,O,W,H0,hb,hd,g,d,c,rfl,p⟩:=h;unfold X7 at hb;split at hb
 ·split at hb
  ·rename_i ns hq;cases hb;obtain⟨v,rfl,gv⟩:=g.one;obtain⟨a,ys,e1,e2,e3⟩:=gv.lst hd;have e4:=q2Q hq e3;subst e4;have e5:=q5A hq;subst e5;exact q1S pins s σ H _ us Q I r ⟨a,_,by rw[e1],.inl (SqL.of e2),λq hq=>p _ _ (u6 hq) (P4 hd hq (V5 _))⟩
  ·cases hb
 ·cases hb
theorem z1K:y6 X (.type "tuple") (biR X q5e):=by
 intro pins s σ H xs us Q I r h;obtain⟨l,re,O,W,H0,hb,hd,g,d,c,rfl,p⟩:=h;unfold q5e at hb;split at hb
 ·cases hb;obtain⟨v,rfl,gv⟩:=g.one;obtain⟨a,ys,e1,e2,e3⟩:=gv.lstC hd;exact q3q pins s σ H _ us Q I r ⟨a,ys,by rw[e1],.inl ⟨SqL.of e2,λq hq=>p _ _ (u6 hq) (q7T hd hq e3)⟩⟩
 ·cases hb;obtain⟨v,rfl,gv⟩:=g.one;obtain⟨a,ys,e1,e2,e3⟩:=gv.tupC hd;exact q3q pins s σ H _ us Q I r ⟨a,ys,by rw[e1],.inr ⟨e2,p _ _ (Same.refl H) (by rw[←e1];exact gv)⟩⟩
 ·cases hb
end
def tyS:DV->Option String
 | .non=>some "NoneType" | .bl _=>some "bool" | .int _=>some "int" | .str _=>some "str" | .tup _=>some "tuple" | .lst _=>some "list" | .dct _ _=>some "dict"
 | _=>none
def z8q(T t:String):Option Bool:=if(Value.type T==Value.type t)=true then some true else if PySem.W.kitMeta t=true then(fastBuiltinMro T).map (·.contains (.type t))else none
theorem q9Y:(["NoneType","bool","int","str","tuple","list","dict"]:List String).all (λT=>(["int","bool","str","list","tuple","dict"]:List String).all λt=>z8q T t==some (T==t||(T == "bool" && t == "int")))=true:=by decide +kernel
theorem V6{K:PySem.W.Frag}(T t:String)(h1:T∈["NoneType","bool","int","str","tuple","list","dict"])(h2:t∈["int","bool","str","list","tuple","dict"]) :
  PySem.W.kitOne K (.type T) (.type t)=some (T==t||(T == "bool" && t == "int")):=by
 have q:=D6.mp (D6.mp q9Y T h1) t h2;exact(show z8q T t=_ from by simpa using q)
section
variable {X:Cx} {E:St->XK} {δ:List Sv} {e e':Expr} {pos p p':Pos} {re:Re} {ra:Option Re}
theorem z9C{σ:St}(I:Inv X pins σ H s)(r:Rep X.D H d v)(rv:RelV v u)(hT:tyS d=some T)(ht:t∈["int","bool","str","list","tuple","dict"])
  (h:∀tk,Q (.bool (T==t||(T == "bool" && t == "int"))) {s with toks:=tk}):wpAny (model X.prog X.w) X.A (call (.builtin "isinstance") [u,.type t]) Q EE s:=by
 cases d with
 | non=>cases hT;rw[q3E.mp r]at rv;cases rv;exact U1 PySem.W.kitx_none I.kIn True.intro (V6 _ _ (by simp) ht) (λz=>nomatch z) h
 | bl b=>cases hT;rw[V3.mp r]at rv;cases rv;exact U1 PySem.W.kitx_bool I.kIn True.intro (V6 _ _ (by simp) ht) (λz=>nomatch z) h
 | int b=>cases hT;rw[u9.mp r]at rv;obtain⟨tk,rfl⟩:=rv;exact U1 PySem.W.kitx_int I.kIn True.intro (V6 _ _ (by simp) ht) (λz=>nomatch z) h
 | str b=>cases hT;rw[(V4.mp r).1]at rv;obtain⟨tk,rfl⟩:=rv;exact U1 PySem.W.kitx_str I.kIn True.intro (V6 _ _ (by simp) ht) (λz=>nomatch z) h
 | tup ds=>
  cases hT;obtain⟨a,xs,e1,e2,e3⟩:=A9.mp r;rw[e1]at rv;cases rv;obtain⟨its,_,⟨o,h1,h2,_⟩,_⟩:=I.tuple e2;exact U1 PySem.W.kitx_tuple I.kIn ⟨o,h1,h2⟩ (V6 _ _ (by simp) ht) (λz=>nomatch z) h
 | lst ds=>
  cases hT;obtain⟨a,xs,e1,e2,e3⟩:=B6.mp r;rw[e1]at rv;cases rv;obtain⟨_,its,n,_,_,h1⟩:=I.lstM e2;exact U1 PySem.W.kitx_list I.kIn ⟨_,h1,rfl⟩ (V6 _ _ (by simp) ht) (λz=>nomatch z) h
 | dct ks vs=>
  cases hT;rcases M0.mp r with⟨a,ob,kvs,e1,e2,_⟩ | ⟨a,ob,kvs,e1,e2,_⟩
  ·rw[e1]at rv;cases rv;obtain⟨_,_,_,_,_,⟨o,_,_,h1,h2,_⟩⟩:=(show r6 X.prog X.w H s.heap a (.frz ob (.dK kvs))from I.hok a _ e2);exact U1 PySem.W.kitx_dict I.kIn ⟨o,h1,h2.1⟩ (V6 _ _ (by simp) ht) (λz=>nomatch z) h
  ·rw[e1]at rv;cases rv;obtain⟨_,_,_,_,_,o,_,_,h1,h2,_⟩:=(show r6 X.prog X.w H s.heap a (.frz ob (.dT kvs))from I.hok a _ e2);exact U1 PySem.W.kitx_dict I.kIn ⟨o,h1,h2.1⟩ (V6 _ _ (by simp) ht) (λz=>nomatch z) h
 | exc _=>cases hT
 | fn _=>cases hT
 | scr _=>cases hT
def rIsi(X:Cx):List V->Hp->VK->Prop:=λxs H Q=>∃d T t x,xs=[x,.ty t]/\Rep X.D H d x/\tyS d=some T/\t∈["int","bool","str","list","tuple","dict"]/\Q (.bl (T==t||(T == "bool" && t == "int"))) H
theorem z3n:y6 X (.builtin "isinstance") (rIsi X):=by
 intro pins s σ H xs us Q I r h;obtain⟨d,T,t,x,rfl,r1,hT,ht,q⟩:=h;obtain⟨u,w',rfl,ru,rw'⟩:=z1C r;cases rw';exact z9C I r1 ru hT ht λtk=>⟨.bl _,H,I.tok tk,rfl,q⟩
def q5q:Str->Option String:=λx=>(["int","bool","str","list","tuple","dict"]:List String).find? λt=>Str.ofString t==x
theorem q9F(h:q5q x=some t):bootBuiltins x=some (.type t)/\t∈["int","bool","str","list","tuple","dict"]/\Str.ofString t=x:=by
 unfold q5q at h;have h1:=List.find?_some h;have h2:=w3o h;have h3:Str.ofString t=x:=by simpa using h1
 refine⟨?_,h2,h3⟩;subst h3;simp only[f9,F7,K6]at h2;rcases h2 with rfl | rfl | rfl | rfl | rfl | rfl
 ·exact boot_int
 ·exact boot_bool
 ·exact boot_str
 ·exact boot_list
 ·exact boot_tuple
 ·exact boot_dict
def q9C:String->List Str
 | "NoneType"=>["NoneType"] | "bool"=>["bool","int"] | "int"=>["int"] | "str"=>["str"] | "tuple"=>["tuple"] | "list"=>["list"] | "dict"=>["dict"]
 | _=>[]
theorem q7d:(["NoneType","bool","int","str","tuple","list","dict"]:List String).all (λT=>(["int","bool","str","list","tuple","dict"]:List String).all λt=>(q9C T).contains (Str.ofString t)==(T==t||(T == "bool" && t == "int")))=true:=by decide +kernel
theorem y0e(h:q5q x=some t)(hT:tyS d=some T):(tyOf d).contains x=(T==t||(T == "bool" && t == "int")):=by
 obtain⟨_,h2,h3⟩:=q9F h;subst h3;have key:∀T∈(["NoneType","bool","int","str","tuple","list","dict"]:List String),(q9C T).contains (Str.ofString t)=(T==t||(T == "bool" && t == "int")):=λT hT=>by have q:=D6.mp (D6.mp q7d T hT) t h2;simpa using q
 cases d<;>cases hT
 ·exact key "NoneType" (by simp)
 ·exact key "bool" (by simp)
 ·exact key "int" (by simp)
 ·exact key "str" (by simp)
 ·exact key "tuple" (by simp)
 ·exact key "list" (by simp)
 ·exact key "dict" (by simp)
theorem z5r(ht:q5q x=some t)(hg:Gl X "isinstance")(hm:X.mg "isinstance" = none)(hgx:Gl X x)(hmx:X.mg x=none)(hnx:x ≠ "__name__")(hdx:(x==("__debug__" : Str))=false)
  (ha:∀q,ra=some q->PE X e (dE X.D E δ q)) (hs:j6 e=false) (h:(Re.thn ra λy _=>(isiD G y [x]).map λk=>.ok (.bl k) .strong)=some re):PE X (.Call (.Name "isinstance" p) [e,.Name x p'] [] pos) (dE X.D E δ re):=by
 obtain⟨b1,b2,b3⟩:=q9F ht;have T:PE X (.Name x p') (tC (.ty t)):=z0p hgx hmx b1 rfl hnx hdx;have C:=λta (hA:PE X e ta)=>q5I (p:=p) (pos:=pos) z3n hg hm boot_isinstance (G1 hA (G1 T O8) (u3 hs)) (by decide) (by decide) (u3 hs)
 cases hra:ra with
 | none=>rw[hra]at h;cases h
 | some q=>
  rw[hra]at h;have A:=ha q hra;cases q with
  | ex c=>cases h;exact(C _ A).weak λσ H Q ⟨O,W,R,p⟩=>⟨O,W,R,p⟩
  | ok d cl=>
   obtain⟨k,e1,e2⟩:=x8.mp (show((isiD G d [x]).map λk=>Re.ok (.bl k) .strong)=some re from h);cases e2;have key:∃T,tyS d=some T/\k=(tyOf d).contains x:=by
    unfold isiD at e1;have px:U8.contains x=true:=by
     rw[←b3];simp only[f9,F7,K6]at b2;rcases b2 with rfl | rfl | rfl | rfl | rfl | rfl<;>decide +kernel
    cases d<;>first
     | (simp only[px,if_true]at e1;cases e1;exact⟨_,rfl,rfl⟩)
     | cases e1
   obtain⟨T,hT,hk⟩:=key;exact(C _ A).weak λσ H Q ⟨O,W,R,p⟩=>⟨O,W,R,λv H1 s1 g1=>⟨d,T,t,v,rfl,g1.all (R.hid.mono s1),hT,b2,by rw[←y0e ht hT,←hk];exact p _ H1 s1 R9⟩⟩
end
end
section
def y1O(i:Int)(te:TE):TE:=λσ H Q=>∀a,H a=none->te σ (upd H a (.dK [])) λx H1=>H1 a=some (.dK [])/\∀o,Q (.ref a) (upd H1 a (.frz o (.dK [(.inl i,x)])))
section
variable {X:Cx} {E:St->XK} {δ:List Sv} {v:Expr} {te:TE} {pos kpos:Pos} {i:Int} {j:Nat}
theorem Inv.notSys{σ:St}(I:Inv X pins σ H s){a:Addr}(h:s.heap.objs.size<=a):(a==sysModules)=false:=by
 have h1:mainGlobals<X.base.objs.size:=I.mod.glob.lt;have h2:=m6 I.ok.bsz I.sz;have:(1:Nat)<a:=x4 (G4 (by decide:(1:Nat)<=mainGlobals) h1) (m6 h2 h);exact C4.mpr (Q8 this)
theorem z4Y(hv:PE X v te):PE X (.Dict [some (.Constant (.int i) j kpos)] [v] pos) (y1O i te):=by
 intro pins s σ H Q I h;have hf:H s.heap.objs.size=none:=I.hok.fresh (j2 _);have ns:=I.notSys (j2 _);have I0:Inv X pins σ (upd H s.heap.objs.size (.dK [])) {s with heap:=s.heap.push {cls:=.type "dict",data:=.dict #[]}}:=
  I.laid (t':=s.toks) (λb u e=>m5 _ e) (j2 _) ⟨O6 _,ns,[],.nil,w3P _⟩
 refine wpAny_Dict_walk (knd:=C7 X.prog X.w) rfl rfl (by simp) (show(1:Nat)<=15 by decide) ?_;refine pairTrees_cons_walk (thn (q7y (i:=i) (j:=j) (pos:=kpos) pins _ σ _ (λx H1=>x=.int i/\te σ H1 λy H2=>H2 s.heap.objs.size=some (.dK [])/\∀o,Q (.ref s.heap.objs.size) (upd H2 s.heap.objs.size (.frz o (.dK [(.inl i,y)])))) I0 ⟨rfl,h _ hf⟩) λku s1 ⟨kx,H1,I1,rk,e,q⟩=>?_);subst e;obtain⟨tk,rfl⟩:=rk;refine thn (hv pins s1 σ H1 _ I1 q) λvu s2 ⟨vx,H2,I2,rv,hd,q2⟩=>pairTrees_nil_walk ?_;obtain⟨z,ns',vs',kv,dd⟩:=(show r6 X.prog X.w H2 s2.heap s.heap.objs.size (.dK [])from I2.hok _ _ hd);cases kv;refine⟨[(.inl i,vu)],⟨show Value.isInt i (.int i tk)=true by simp[Value.isInt],rfl,trivial⟩,dd,λh' hd' sb=>?_⟩;obtain⟨o,es,ep,e,r'⟩:=id hd';refine⟨.ref s.heap.objs.size,upd H2 s.heap.objs.size (.frz o (.dK [(.inl i,vx)])),?_,rfl,q2 o⟩;exact I2.write (x:=s.heap.objs.size) (e:=s.heap.objs.size) (by rw[hd];trivial) (.inl rfl) (λb u hb e=>sb.extBut b u hb e) ⟨o,e⟩ ⟨e,show(1:Nat)<=sizeLine by decide,ns,[(.inl i,vu)],.cons ⟨rfl,rv⟩ .nil,hd'⟩
theorem Y7(hp:H p=some (.dK []))(h:L2.wo O H b=some u)(hu:u ≠ .dK []):L2.wo O (upd H p o) b=some u:=by
 obtain⟨hb,e⟩:=B7 h;rw[j7 hb,j4 (λz=>by rw[z,hp]at e;cases e;exact hu rfl)];exact e
mutual
theorem z1y(hp:H p=some (.dK [])):∀{d:DV} {v:V},Rep D (L2.wo O H) d v->Rep D (L2.wo O (upd H p o)) d v
 | .non,_,h=>by unfold Rep at h ⊢;exact h
 | .bl _,_,h=>by unfold Rep at h ⊢;exact h
 | .int _,_,h=>by unfold Rep at h ⊢;exact h
 | .str _,_,h=>by unfold Rep at h ⊢;exact h
 | .tup ds,_,h=>by
  unfold Rep at h ⊢;obtain⟨a,xs,e1,e2,e3⟩:=h;refine⟨a,xs,e1,?_,q3x hp e3⟩;rcases e2 with(h | ⟨o,h⟩) | h
  ·exact .inl (.inl (Y7 hp h (by intro z;cases z)))
  ·exact .inl (.inr ⟨o,Y7 hp h (by intro z;cases z)⟩)
  ·exact .inr h
 | .lst ds,_,h=>by unfold Rep at h ⊢;obtain⟨a,xs,e1,e2,e3⟩:=h;exact⟨a,xs,e1,Y7 hp e2 (by intro z;cases z),q3x hp e3⟩
 | .dct _ _,_,h=>by
  unfold Rep at h ⊢;rcases h with⟨a,ob,kvs,e1,e2,e3,e4⟩ | ⟨a,ob,kvs,e1,e2,e3,e4⟩
  ·exact .inl ⟨a,ob,kvs,e1,Y7 hp e2 (by intro z;cases z),e3,q3x hp e4⟩
  ·exact .inr ⟨a,ob,kvs,e1,Y7 hp e2 (by intro z;cases z),e3,q3x hp e4⟩
 | .exc C,_,h=>by unfold Rep at h ⊢;obtain⟨a,C,e1,e2,e3⟩:=h;exact⟨a,C,e1,e2,Y7 hp e3 (by intro z;cases z)⟩
 | .fn _,_,h=>by unfold Rep at h ⊢;exact h
 | .scr _,_,h=>by
  unfold Rep at h ⊢;obtain⟨a,e1,e2⟩:=h;refine⟨a,e1,?_⟩;rcases e2 with⟨o,h⟩ | h
  ·exact .inl ⟨o,Y7 hp h (by intro z;cases z)⟩
  ·exact .inr h
theorem q3x(hp:H p=some (.dK [])):∀{ds:List DV} {xs:List V},RepL D (L2.wo O H) ds xs->RepL D (L2.wo O (upd H p o)) ds xs
 | [],_,h=>by unfold RepL at h ⊢;exact h
 | d::ds,_,h=>by unfold RepL at h ⊢;obtain⟨v,vs,e1,e2,e3⟩:=h;exact⟨v,vs,e1,z1y hp e2,q3x hp e3⟩
end
theorem z6i(ha:∀q,ra=some q->PE X v (dE X.D E δ q))(h:(Re.thn ra λd c=>if stro d c then some (.ok (.dct [.i i] [d]) .strong)else none)=some re) :
  PE X (.Dict [some (.Constant (.int i) j kpos)] [v] pos) (dE X.D E δ re):=by
 cases hra:ra with
 | none=>rw[hra]at h;cases h
 | some q=>
  rw[hra]at h;have A:=z4Y (i:=i) (j:=j) (kpos:=kpos) (pos:=pos) (ha q hra);cases q with
  | ex c=>
   cases h;exact A.weak λσ H Q ⟨O,W,R,p⟩ a ha=>⟨O,W,R.mono (u6 ha),λH' C m s=>p H' C m ((u6 ha).trans s)⟩
  | ok d c=>
   have h':(if stro d c then some (Re.ok (.dct [.i i] [d]) .strong)else none)=some re:=h;split at h'
   ·cases h';refine A.weak λσ H Q ⟨O,W,R,p⟩ a ha=>⟨O,W,R.mono (u6 ha),λx H1 s1 g=>⟨s1 _ _ w6,λob=>?_⟩⟩
    have hao:a∉O++W:=λz=>R.hid.ot a z ha;have sm:Same H (upd H1 a (.frz ob (.dK [(.inl i,x)]))):=λb u e=>by have hb:b≠a:=G0 e ha;rw[j4 hb];exact s1 _ _ (by rw[j4 hb];exact e)
    have hid1:Hid O W (upd H a (.dK [])) H1:=((R.mono (u6 ha)).hid).mono s1;have hx:=g.stro hid1 (by assumption);have hx2:=z1y (p:=a) (o:=.frz ob (.dK [(.inl i,x)])) (s1 _ _ w6) hx;exact p _ _ sm (M0.mpr (.inl ⟨a,ob,_,rfl,by rw[j7 hao];exact w6,rfl,RepL.one hx2⟩):Rep X.D (L2.wo (O++W) _) (.dct [.i i] [d]) _)
   ·cases h'
theorem z6A:PE X (.Dict [] [] pos) (λσ H Q=>∀a o,H a=none->Q (.ref a) (upd H a (.frz o (.dK [])))):=λpins s σ H Q I h=>
 wpAny_Dict_empty ⟨.ref s.heap.objs.size,_,I.laid (a:=s.heap.objs.size) (o:=.frz {cls:=.type "dict",data:=.dict #[]} (.dK [])) (t':=s.toks) (λ_ _ q=>m5 _ q) (j2 _) ⟨x9 _ rfl,O6 _,I.notSys (j2 _),[],.nil,w3P _⟩,rfl,h _ _ (I.hok.fresh (j2 _))⟩
theorem z7l:PE X (.Dict [] [] pos) (dE X.D E δ (.ok (.dct [] []) .strong)):=
 z6A.weak λσ H Q ⟨O,W,R,p⟩ a ob ha=>p _ _ (u6 ha) (M0.mpr (.inl ⟨a,ob,_,rfl,by rw[j7 λz=>R.hid.ot a z ha];exact w6,rfl,B2.mpr rfl⟩):Rep X.D (L2.wo (O++W) _) (.dct [] []) _)
end
end
section
structure Wk(D:Dm)(J:It)(ds:List DV)(Oc Oi:List Addr)(H1:Hp):Prop where
 go:∀i H,Same (L2.wo Oc H1) (L2.wo Oc H)->i<ds.length->J.go i H
 same:∀i H x H',J.yld i H x H'->Same H H'
 yld:∀i H x H' d O2,Same (L2.wo Oc H1) (L2.wo Oc H)->Same (L2.wo Oi H1) (L2.wo Oi H)->J.yld i H x H'->ds[i]? = some d->(∀a∈O2,H a≠none/\(a∈Oi\/H1 a=none))->Rep D (L2.wo O2 H') d x
 stop:∀H,Same (L2.wo Oc H1) (L2.wo Oc H)->J.stop ds.length H
def hidW(O W:List Addr):Cl->List Addr
 | .top=>O
 | .weak=>O
 | _=>O++W
def y1M(D:Dm)(E:St->XK)(σ:St)(O W:List Addr)(H:Hp)(R:It->Hp->Prop):Ri->Prop
 | .ok ds c=>∀J H',Same H H'->Wk D J ds (hidW O W c) (J7 O W c) H'->R J H'
 | .ex c=>∀H' C,D.mg c=some C->Same H H'->E σ C none H'
def dI(D:Dm)(E:St->XK)(δ:List Sv)(r:Ri):TI:=λσ H R=>∃O W,RSt D H σ δ O W/\y1M D E σ O W H R r
theorem PI.weak(h:PI X tg iter t)(k:∀σ H R,t' σ H R->t σ H R):PI X tg iter t':=λpins s σ H R I q=>h pins s σ H R I (k σ H R q)
theorem q7u(s:Same (L2.wo O H1) (L2.wo O H))(h:∀a∈O2,H a≠none/\(a∈O\/H1 a=none)):Same (L2.wo O H1) (L2.wo O2 H):=λb o e=>by
 have q:=s b o e;obtain⟨hb,e⟩:=B7 e;obtain⟨_,q⟩:=B7 q;rw[j7 λz=>?_]
 ·exact q
 ·rcases(h b z).2 with w | w
  ·exact hb w
  ·rw[w]at e;cases e
theorem Wk.list(h:SqL D.K (L2.wo Oc H1) a xs)(r:RepL D (L2.wo Oi H1) ds xs):Wk D (Itl D.K a) ds Oc Oi H1 where
 go:=λi H s hi=>⟨xs,xs[i]'(by rw[r.length];exact hi),n9.seq (s.seq h),j3 _⟩
 same:=λi H x H' y=>by rw[y.1];exact Same.refl _
 yld:=λi H x H' d O2 s s' y e ho=>by obtain⟨e1,y⟩:=y;subst e1;obtain⟨v,q1,q2⟩:=r.get e;have:=y xs (n9.seq (s.seq h));rw[q1]at this;cases this;exact q2.mono (q7u s' ho)
 stop:=λH s=>⟨xs,n9.seq (s.seq h),by rw[r.length];exact j2 _⟩
theorem Wk.tup(h:SqT D.K (L2.wo Oc H1) a xs)(r:RepL D (L2.wo Oi H1) ds xs):Wk D (Itt D.K a) ds Oc Oi H1 where
 go:=λi H s hi=>⟨xs,xs[i]'(by rw[r.length];exact hi),n9.tseq (s.tseq h),j3 _⟩
 same:=λi H x H' y=>by rw[y.1];exact Same.refl _
 yld:=λi H x H' d O2 s s' y e ho=>by obtain⟨e1,y⟩:=y;subst e1;obtain⟨v,q1,q2⟩:=r.get e;have:=y xs (n9.tseq (s.tseq h));rw[q1]at this;cases this;exact q2.mono (q7u s' ho)
 stop:=λH s=>⟨xs,n9.tseq (s.tseq h),by rw[r.length];exact j2 _⟩
theorem q3c(lo:Int)(n:Nat):(upTo lo n).length=n:=by unfold upTo;rw[d8,A8]
theorem z2a{lo:Int}{n i:Nat}{d:DV}(h:(upTo lo n)[i]? = some d):i<n/\d=.int (lo+i):=by
 have hl:i<n:=by have:=(w9.mp h).1;rw[q3c]at this;exact this
 unfold upTo at h;rw[m9,w1N hl]at h;cases h;exact⟨hl,rfl⟩
theorem Wk.range(lo:Int)(n:Nat):Wk D (Itr lo n) (upTo lo n) Oc Oi H1 where
 go:=λi H s hi=>by rw[q3c]at hi;exact hi
 same:=λi H x H' y=>by rw[y.1];exact Same.refl _
 yld:=λi H x H' d O2 s s' y e ho=>by obtain⟨e1,y⟩:=y;subst e1;obtain⟨_,e2⟩:=z2a e;subst e2;exact u9.mpr y
 stop:=λH s=>by rw[q3c];exact j2 _
section
variable {X:Cx} {E:St->XK} {δ:List Sv} {tg e e':Expr} {es:List Expr} {pos p:Pos} {ra rb:Option Re} {rs:Option Rs} {ri:Ri}
theorem Got.walkL(g:Got D O W H0 H (.lst ds) c v)(hd:Hid O W H0 H):∃a xs,v=.ref a/\SqL D.K (L2.wo (hidW O W c) H) a xs/\RepL D (L2.wo (J7 O W c) H) ds xs:=by
 cases c with
 | weak=>obtain⟨a,xs,e1,e2,e3⟩:=B6.mp g;exact⟨a,xs,e1,SqL.of e2,e3⟩
 | top=>obtain⟨a,xs,e1,e0,e2,e3⟩:=g;exact⟨a,xs,e1,SqL.of e2,e3⟩
 | strong=>obtain⟨a,xs,e1,e2,e3⟩:=B6.mp g;exact⟨a,xs,e1,SqL.of e2,e3⟩
 | fresh=>obtain⟨a,xs,e1,e2,e3⟩:=B6.mp (g.strong hd);exact⟨a,xs,e1,SqL.of e2,e3⟩
 | ft=>obtain⟨a,xs,e1,e2,e3⟩:=B6.mp (g.ft hd);exact⟨a,xs,e1,SqL.of e2,e3⟩
theorem Got.walkT(g:Got D O W H0 H (.tup ds) c v)(hd:Hid O W H0 H):∃a xs,v=.ref a/\SqT D.K (L2.wo (hidW O W c) H) a xs/\RepL D (L2.wo (J7 O W c) H) ds xs:=by
 cases c with
 | weak=>exact A9.mp g
 | top=>
  obtain⟨a,xs,e1,e2,e3⟩:=A9.mp (show Rep D (L2.wo (O++W) H) (.tup ds) v from g);exact⟨a,xs,e1,(x6 R8).tseq e2,e3⟩
 | strong=>exact A9.mp g
 | fresh=>obtain⟨_,_,_,_,q,_⟩:=g;cases q
 | ft=>exact A9.mp (g.ft hd)
theorem Got.walkS(g:Got D O W H0 H (.scr ns) c v)(hd:Hid O W H0 H):∃a,v=.ref a/\SqL D.K (L2.wo (hidW O W c) H) a (ns.map V.int):=by
 cases c with
 | weak=>obtain⟨a,e1,e2⟩:=P3.mp g;exact⟨a,e1,e2.sq⟩
 | top=>obtain⟨a,e1,e2⟩:=P3.mp (show Rep D (L2.wo (O++W) H) (.scr ns) v from g);exact⟨a,e1,(x6 R8).seq e2.sq⟩
 | strong=>obtain⟨a,e1,e2⟩:=P3.mp g;exact⟨a,e1,e2.sq⟩
 | fresh=>obtain⟨_,_,_,_,q,_⟩:=g;cases q
 | ft=>obtain⟨a,e1,e2⟩:=P3.mp (g.ft hd);exact⟨a,e1,e2.sq⟩
theorem q8m(ha:∀q,ra=some q->PE X e (dE X.D E δ q))(h:o5 ra=some ri):PI X tg e (dI X.D E δ ri):=by
 cases hra:ra with
 | none=>rw[hra]at h;cases h
 | some q=>
  rw[hra]at h;have A:=ha q hra;cases q with
  | ex c=>cases h;exact(q7b A).weak λσ H R' ⟨O,W,R,p⟩=>⟨O,W,R,p⟩
  | ok d c=>
   obtain⟨ds,e1,e2⟩:=x8.mp (show((seqD d).map λds=>Ri.ok ds c)=some ri from h);cases e2;unfold seqD at e1;split at e1
   ·cases e1;exact(q7b A).weak λσ H R' ⟨O,W,R,p⟩=>⟨O,W,R,λv H1 s1 g1=>by
     obtain⟨a,e1,e2⟩:=g1.walkS (R.hid.mono s1);exact⟨a,e1,⟨_,n9.seq e2⟩,p _ H1 s1 (.list e2 (V5 _))⟩⟩
   ·cases e1;exact(q7b A).weak λσ H R' ⟨O,W,R,p⟩=>⟨O,W,R,λv H1 s1 g1=>by
     obtain⟨a,xs,e1,e2,e3⟩:=g1.walkL (R.hid.mono s1);exact⟨a,e1,⟨xs,n9.seq e2⟩,p _ H1 s1 (.list e2 e3)⟩⟩
   ·cases e1;exact(z7E A).weak λσ H R' ⟨O,W,R,p⟩=>⟨O,W,R,λv H1 s1 g1=>by
     obtain⟨a,xs,e1,e2,e3⟩:=g1.walkT (R.hid.mono s1);exact⟨a,e1,⟨xs,n9.tseq e2⟩,p _ H1 s1 (.tup e2 e3)⟩⟩
   ·cases e1
theorem q8F(h:R5 i=true) : -(2^62)<=i/\i<2^62:=by
 unfold R5 at h;simpa[d7]using h
theorem z3k(h:o5 (o.map λds=>Re.ok (.lst ds) .fresh)=some ri):∃ds,o=some ds/\ri=.ok ds .fresh:=by
 cases o with
 | none=>cases h
 | some ds=>cases h;exact⟨ds,rfl,rfl⟩
theorem q8Z(hg:Gl X "range")(hm:X.mg "range" = none)(ha:∀q,rs=some q->PA X [e] (dA X.D E δ q))(hs:j6 e=false)(h:o5 (Rs.thn rs λl=>(rngD l).map λds=>Re.ok (.lst ds) .fresh)=some ri)(hl:∀l,rs=some (.ok l)->l.length=1) :
  PI X tg (.Call (.Name "range" p) [e] [] pos) (dI X.D E δ ri):=by
 have C:=λt (hA:PA X [e] t)=>q9X (tg:=tg) (p:=p) (pos:=pos) hg hm hA (u3 hs);cases hrs:rs with
 | none=>rw[hrs]at h;cases h
 | some q=>
  rw[hrs]at h;have A:=ha q hrs;cases q with
  | ex c=>cases h;exact(C _ A).weak λσ H R' ⟨O,W,R,p⟩=>⟨O,W,R,p⟩
  | ok l=>
   have l1:=hl l hrs;obtain⟨ds,e1,e2⟩:=z3k (show o5 ((rngD l).map λds=>Re.ok (.lst ds) .fresh)=some ri from h);cases e2;unfold rngD at e1;split at e1
   ·rename_i j c;split at e1
    ·rename_i m;cases e1;rw[d7]at m;have q:=q8F m.1;exact(C _ A).weak λσ H R' ⟨O,W,R,p⟩=>⟨O,W,R,λvs H1 s1 g1=>by
      obtain⟨v,rfl,gv⟩:=g1.one;exact⟨j,by rw[gv.int (R.hid.mono s1)],q.1,q.2,p _ H1 s1 (.range _ _)⟩⟩
    ·cases e1
   ·cases e1
end
def q7w:List Nat->TGs
 | []=>gNil
 | i::is=>z8t (q8J i) (q7w is)
def gT(K:PySem.W.Frag):Tg->TG
 | .one i=>q8J i
 | .many is=>gTup K is.length (q7w is)
theorem RSt.setVal(R:RSt D H σ δ O W)(r:Rep D (L2.wo (O++W) H) d v)(i:Nat):RSt D H (σ.set i (some v)) (δ.set i (.val d)) O W where
 val:=λj d' h=>by
  by_cases hj:j=i
  ·subst hj;have hl:j<δ.length:=by
    have:=(w9.mp h).1;rw[u0]at this;exact this
   rw[C8 hl]at h;cases h;exact⟨v,C8 (by rw[R.len];exact hl),r⟩
  ·rw[d6 (Ne.symm hj)]at h ⊢;exact R.val j d' h
 own:=λj ds' h=>by
  by_cases hj:j=i
  ·subst hj;have hl:j<δ.length:=by
    have:=(w9.mp h).1;rw[u0]at this;exact this
   rw[C8 hl]at h;cases h
  ·rw[d6 (Ne.symm hj)]at h ⊢;exact R.own j ds' h
 inj:=λj k a d1 d2 h1 h2 e1 e2=>by
  have ne:∀{j:Nat} {d1:DV},(δ.set i (.val d))[j]? = some (.own d1)->j≠i:=λ{j d1} h1 z=>by
   subst z;have hl:j<δ.length:=by have:=(w9.mp h1).1;rw[u0]at this;exact this
   rw[C8 hl]at h1;cases h1
  have n1:=ne h1;have n2:=ne h2;rw[d6 (Ne.symm n1)]at h1 e1;rw[d6 (Ne.symm n2)]at h2 e2;exact R.inj j k a d1 d2 h1 h2 e1 e2
 ot:=by
  have ne:∀{j:Nat} {s:Sv},(∀d,s ≠ .val d)->(δ.set i (.val d))[j]? = some s->j≠i:=λ{j s} hs h1 z=>by
   subst z;have hl:j<δ.length:=by have:=(w9.mp h1).1;rw[u0]at this;exact this
   rw[C8 hl]at h1;cases h1;exact hs _ rfl
  obtain⟨P,f,u⟩:=R.ot;refine⟨P,λj d' h=>?_,λj k d1 d2 h1 h2=>?_⟩
  ·have nj:=ne (by intro d z;cases z) h;rw[d6 (Ne.symm nj)]at h ⊢;obtain⟨t,ts,e1,e2,e3,e4⟩:=f j d' h;refine⟨t,ts,e1,e2,e3,λp hp=>⟨(e4 p hp).1,(e4 p hp).2.1,λk d2 q=>?_⟩⟩;have nk:=ne (by intro d z;cases z) q;rw[d6 (Ne.symm nk)]at q ⊢;exact(e4 p hp).2.2 k d2 q
  ·rw[d6 (Ne.symm (ne (by intro d z;cases z) h1))]at h1;rw[d6 (Ne.symm (ne (by intro d z;cases z) h2))]at h2;exact u j k d1 d2 h1 h2
 o2:=λj d' h=>by
  have ne:∀{j:Nat} {s:Sv},(∀d,s ≠ .val d)->(δ.set i (.val d))[j]? = some s->j≠i:=λ{j s} hs h1 z=>by
   subst z;have hl:j<δ.length:=by have:=(w9.mp h1).1;rw[u0]at this;exact this
   rw[C8 hl]at h1;cases h1;exact hs _ rfl
  have nj:=ne (by intro d z;cases z) h;rw[d6 (Ne.symm nj)]at h ⊢;obtain⟨⟨p,L,e0,e1,e2,e3⟩,u,n⟩:=R.o2 j d' h;refine⟨⟨p,L,e0,e1,e2,λk d2 a q q2=>?_⟩,λk d2 q=>?_,λk d2 q=>?_⟩
  ·have nk:=ne (by intro d z;cases z) q;rw[d6 (Ne.symm nk)]at q q2;exact e3 k d2 a q q2
  ·have nk:=ne (by intro d z;cases z) q;rw[d6 (Ne.symm nk)]at q;exact u k d2 q
  ·have nk:=ne (by intro d z;cases z) q;rw[d6 (Ne.symm nk)]at q;exact n k d2 q
 od:=R.od.step (q5c _ (by intro d z;cases z)) (λ_ h _=>h) (λ_ _ _ h _=>h)
 len:=by rw[u0,u0];exact R.len
 hid:=R.hid
theorem q6J:∀{is:List Nat} {ds:List DV} {xs:List V} {σ:St} {δ δ':List Sv},RSt D H σ δ O W->RepL D (L2.wo (O++W) H) ds xs->q5h δ is ds=some δ'->(∀σ',RSt D H σ' δ' O W->Q σ' H)->q7w is xs σ H Q
 | [],[],xs,σ,δ,δ',R,r,h,q=>by cases h;exact⟨B2.mp r,q σ R⟩
 | i::is,d::ds,xs,σ,δ,δ',R,r,h,q=>by obtain⟨v,vs,e1,e2,e3⟩:=p8.mp r;exact⟨v,vs,e1,q6J (R.setVal e2 i) e3 h q⟩
 | [],_::_,_,_,_,_,_,_,h,_=>by cases h
 | _::_,[],_,_,_,_,_,_,h,_=>by cases h
theorem q2s:∀{is:List Nat} {ds:List DV} {δ δ':List Sv},q5h δ is ds=some δ'->is.length=ds.length/\δ'.length=δ.length
 | [],[],_,_,h=>by cases h;exact⟨rfl,rfl⟩
 | i::is,d::ds,δ,δ',h=>by obtain⟨a,b⟩:=q2s (is:=is) h;exact⟨by rw[m4,m4,a],by rw[b,u0]⟩
 | [],_::_,_,_,h=>by cases h
 | _::_,[],_,_,h=>by cases h
theorem q7k(R:RSt D H σ δ O W)(r:Rep D (L2.wo (O++W) H) d x)(h:tg.bind d δ=some δ')(q:∀σ',RSt D H σ' δ' O W->Q σ' H):gT D.K tg x σ H Q:=by
 cases tg with
 | one i=>cases h;exact q _ (R.setVal r i)
 | many is=>
  unfold Tg.bind at h;dsimp only at h;split at h
  ·rename_i ds;obtain⟨a,xs,e1,e2,e3⟩:=A9.mp r;exact⟨a,xs,e1,n9.tseq e2,by rw[e3.length,(q2s h).1],q6J R e3 h q⟩
  ·cases h
theorem RSt.less(R:RSt D H σ δ' O W)(hl:δ.length=δ'.length)(h:∀(i:Nat) sv,δ[i]? = some sv->sv=.no\/δ'[i]? = some sv):RSt D H σ δ O W where
 val:=λi d e=>by
  rcases h i _ e with z | z
  ·cases z
  ·exact R.val i d z
 own:=λi d e=>by
  rcases h i _ e with z | z
  ·cases z
  ·exact R.own i d z
 inj:=λi j a d d' e e'=>by
  rcases h i _ e with z | z
  ·cases z
  ·rcases h j _ e' with y | y
   ·cases y
   ·exact R.inj i j a d d' z y
 ot:=by
  obtain⟨P,f,u⟩:=R.ot;refine⟨P,λi d e=>?_,λi j d1 d2 h1 h2=>?_⟩
  ·rcases h i _ e with z | z
   ·cases z
   ·obtain⟨t,ts,e1,e2,e3,e4⟩:=f i d z;refine⟨t,ts,e1,e2,e3,λp hp=>⟨(e4 p hp).1,(e4 p hp).2.1,λk d2 q=>?_⟩⟩;rcases h k _ q with y | y
    ·cases y
    ·exact(e4 p hp).2.2 k d2 y
  ·rcases h i _ h1 with z | z
   ·cases z
   ·rcases h j _ h2 with y | y
    ·cases y
    ·exact u i j d1 d2 z y
 o2:=λi d e=>by
  rcases h i _ e with z | z
  ·cases z
  ·obtain⟨⟨p,L,e0,e1,e2,e3⟩,u,n⟩:=R.o2 i d z;refine⟨⟨p,L,e0,e1,e2,λk d2 a q q2=>?_⟩,λk d2 q=>?_,λk d2 q=>?_⟩
   ·rcases h k _ q with y | y
    ·cases y
    ·exact e3 k d2 a y q2
   ·rcases h k _ q with y | y
    ·cases y
    ·exact u k d2 y
   ·rcases h k _ q with y | y
    ·cases y
    ·exact n k d2 y
 od:=R.od.step (λj d e=>by
  rcases h j _ e with z | z
  ·cases z
  ·exact⟨z,rfl⟩) (λ_ h _=>h) (λ_ _ _ h _=>h)
 len:=by rw[hl];exact R.len
 hid:=R.hid
theorem q7c:∀{is:List Nat} {ds:List DV} {δ δ':List Sv},q5h δ is ds=some δ'->(∀i∈is,δ[i]? = some .no\/δ[i]? = none)->∀(i:Nat) sv,δ[i]? = some sv->sv=.no\/δ'[i]? = some sv
 | [],[],_,_,h,_,i,sv,e=>by cases h;exact .inr e
 | j::is,d::ds,δ,δ',h,hn,i,sv,e=>by
  by_cases hij:i∈j::is
  ·rcases hn i hij with z | z
   ·rw[z]at e;cases e;exact .inl rfl
   ·rw[z]at e;cases e
  ·have hne:j≠i:=λz=>hij (by rw[z];exact j5);have hni:i∉is:=λz=>hij (i6 _ z);have key:∀{is:List Nat} {ds:List DV} {δ δ':List Sv},q5h δ is ds=some δ'->i∉is->δ[i]? = some sv->δ'[i]? = some sv:=by
    intro is
    induction is with
    | nil=>intro ds δ δ' h _ e;cases ds with
     | nil=>cases h;exact e
     | cons _ _=>cases h
    | cons k is ih=>intro ds δ δ' h hi e;cases ds with
     | nil=>cases h
     | cons d ds=>
      refine ih h (λz=>hi (i6 _ z)) ?_;rw[d6 (λz=>hi (by rw[z];exact j5))];exact e
   exact .inr (key h hij e)
 | [],_::_,_,_,h,_,_,_,_=>by cases h
 | _::_,[],_,_,h,_,_,_,_=>by cases h
theorem q6d(h:tg.bind d δ=some δ')(hn:∀i∈Y3 tg,δ[i]? = some .no\/δ[i]? = none):δ.length=δ'.length/\∀(i:Nat) sv,δ[i]? = some sv->sv=.no\/δ'[i]? = some sv:=by
 cases tg with
 | one j=>
  cases h;refine⟨(u0 ..).symm,λi sv e=>?_⟩;by_cases hij:i=j
  ·subst hij;rcases hn i (by simp[Y3])with z | z
   ·rw[z]at e;cases e;exact .inl rfl
   ·rw[z]at e;cases e
  ·exact .inr (by rw[d6 (Ne.symm hij)];exact e)
 | many is=>
  unfold Tg.bind at h;dsimp only at h;split at h
  ·exact⟨(q2s h).2.symm,q7c h hn⟩
  ·cases h
theorem RSt.inner(R:RSt D H σ δ O W)(fr:List (Option Nat))(hnd:∀(j k i:Nat),fr[j]? = some (some i)->fr[k]? = some (some i)->j=k):RSt D H (L2.inner fr σ) (A2 fr δ) O W:=by
 have look:∀(j:Nat) sv,(A2 fr δ)[j]? = some sv->sv ≠ .no->∃i,fr[j]? = some (some i)/\δ[i]? = some sv:=λj sv h hn=>by
  unfold A2 at h;rw[m9]at h;cases q:fr[j]? with
  | none=>rw[q]at h;cases h
  | some o=>
   rw[q]at h;cases o with
   | none=>cases h;exact absurd rfl hn
   | some i=>
    refine⟨i,rfl,?_⟩;have h':(δ.getD i .no).plain=sv:=by simpa using h
    rw[i7]at h';cases z:δ[i]? with
    | none=>rw[z]at h';exact absurd h'.symm hn
    | some sv'=>
     rw[z]at h';cases sv' with
     | ot d=>exact absurd h'.symm hn
     | o2 d=>exact absurd h'.symm hn
     | od d=>exact congrArg some h'
     | no=>exact congrArg some h'
     | val d=>exact congrArg some h'
     | own d=>exact congrArg some h'
 have sig:∀(j i:Nat) (v:V),fr[j]? = some (some i)->σ[i]? = some (some v)->(L2.inner fr σ)[j]? = some (some v):=λj i v q e=>by unfold L2.inner;rw[m9,q];simp[e]
 have noot:∀(j:Nat) d,(A2 fr δ)[j]? ≠ some (.ot d):=λj d h=>by
  unfold A2 at h;rw[m9]at h;cases q:fr[j]? with
  | none=>rw[q]at h;cases h
  | some o=>
   rw[q]at h;cases o with
   | none=>cases h
   | some i=>
    have h':(δ.getD i .no).plain=.ot d:=by simpa using h
    cases z:δ.getD i .no with
    | ot d2=>rw[z]at h';cases h'
    | o2 d2=>rw[z]at h';cases h'
    | od d2=>rw[z]at h';cases h'
    | no=>rw[z]at h';cases h'
    | val d2=>rw[z]at h';cases h'
    | own d2=>rw[z]at h';cases h'
 have noo2:∀(j:Nat) d,(A2 fr δ)[j]? ≠ some (.o2 d):=λj d h=>by
  unfold A2 at h;rw[m9]at h;cases q:fr[j]? with
  | none=>rw[q]at h;cases h
  | some o=>
   rw[q]at h;cases o with
   | none=>cases h
   | some i=>
    have h':(δ.getD i .no).plain=.o2 d:=by simpa using h
    cases z:δ.getD i .no with
    | ot d2=>rw[z]at h';cases h'
    | o2 d2=>rw[z]at h';cases h'
    | od d2=>rw[z]at h';cases h'
    | no=>rw[z]at h';cases h'
    | val d2=>rw[z]at h';cases h'
    | own d2=>rw[z]at h';cases h'
 refine⟨λj d h=>?_,λj d h=>?_,λj k a d d' h1 h2 e1 e2=>?_,RSt.noot noot,λj d h=>absurd h (noo2 j d),λj d h=>?_,?_,R.hid⟩
 ·obtain⟨i,q1,q2⟩:=look j _ h (by intro z;cases z);obtain⟨v,e1,e2⟩:=R.val i d q2;exact⟨v,sig j i v q1 e1,e2⟩
 ·obtain⟨i,q1,q2⟩:=look j _ h (by intro z;cases z);obtain⟨a,xs,ds,e0,e1,e2⟩:=R.own i d q2;exact⟨a,xs,ds,e0,sig j i _ q1 e1,e2⟩
 ·obtain⟨i,q1,q2⟩:=look j _ h1 (by intro z;cases z);obtain⟨i',q1',q2'⟩:=look k _ h2 (by intro z;cases z);obtain⟨b,xs,ds,_,z1,_⟩:=R.own i d q2;obtain⟨b',xs',ds',_,z1',_⟩:=R.own i' d' q2';have y:=sig j i _ q1 z1;have y':=sig k i' _ q1' z1';rw[e1]at y;rw[e2]at y';cases y;cases y';have:=R.inj i i' a d d' q2 q2' z1 z1';subst this;exact hnd j k i q1 q1'
 ·obtain⟨i,q1,q2⟩:=look j _ h (by intro z;cases z);obtain⟨⟨a,o,e0,e1,e2⟩,u⟩:=R.od i d q2;refine⟨⟨a,o,e0,sig j i _ q1 e1,e2⟩,λk d' z=>?_⟩;obtain⟨i',q1',q2'⟩:=look k _ z (by intro z;cases z);rw[u i' d' q2']at q1';exact hnd k j i q1' q1
 ·unfold L2.inner A2;rw[d8,d8]
section
variable {X:Cx} {E:St->XK} {δ:List Sv} {iter elt tgE:Expr} {ifs:List Expr} {pos:Pos} {N':List Str} {scope:Scope} {fr:List (Option Nat)} {tg:Tg} {ri:Option Ri} {re:Re}
theorem q7Y{D:Dm}{J:It}{ds:List DV}{O W:List Addr}{H H1:Hp}{σ:St}{c:Cl}{g:DV->Option Rc}{xs:List DV}{tc:TT}{te:TE}{δ0:List Sv}{Q:VK}(w:Wk D J ds (hidW O W c) (J7 O W c) H1)(hd0:Hid O W H H)(hc:c ≠ .weak)(R:RSt D H1 σ δ0 O W)
  (hn:∀i∈Y3 tg,δ0[i]? = some .no\/δ0[i]? = none) (hz:ds.length<=sizeLine) (hx:A3 g ds=some xs) (s1:Same H H1)
  (step:∀d rc,d∈ds->g d=some rc->∃δ',tg.bind d δ0=some δ'/\∀σ' H2,Same H1 H2->RSt D H2 σ' δ' O W->∀K:Bool->Hp->Prop,(rc=.skip->∀H3,Same H2 H3->K false H3)->(∀x,rc=.item x->∀H3,Same H2 H3->K true H3)->tc σ' H2 K)
  (stepE:∀d x,d∈ds->g d=some (.item x)->∀δ',tg.bind d δ0=some δ'->∀σ' H2,Same H1 H2->RSt D H2 σ' δ' O W->∀K:VK,(∀v H3,Same H2 H3->Rep D (L2.wo (O++W) H3) x v->K v H3)->te σ' H2 K)
  (fin:∀v H',Same H H'->Got D O W H H' (.lst xs) .fresh v->Q v H') :
  z5v J (gT D.K tg) tc te (λys H'=>∀p,H' p=none->Q (.ref p) (upd H' p (.lst ys))) σ H1:=by
 have ci:J7 O W c=O++W:=by cases c<;>first | rfl | exact absurd rfl hc
 rw[ci]at w;refine⟨λi n ys σ' H'=>n=ds.length - i/\i<=ds.length/\ys.length<=i/\RSt D H' σ' δ0 O W/\Same H1 H'/\∃done rest,A3 g (ds.drop i)=some rest/\done++rest=xs/\RepL D (L2.wo (O++W) H') done ys,
  ⟨ds.length,rfl,O6 _,O6 _,R,Same.refl _,[],xs,hx,rfl,B2.mpr rfl⟩,?_⟩
 rintro i n ys σ2 H2 ⟨rfl,hi',hy,R2,s2,done,rest,h1,h2,r2⟩
 by_cases hlt:i<ds.length
 ·refine .inr ⟨w.go i H2 s2.wo hlt,G4 hy (x4 hlt hz),λx' H3 y=>?_⟩;have y1:=w.same i H2 x' H3 y;have y3:Rep D (L2.wo (O++W) H3) ds[i] x':=w.yld i H2 x' H3 _ (O++W) s2.wo s2.wo y (j3 hlt) λa ha=>⟨R2.hid.ot a ha,.inl ha⟩;rw[w3p hlt]at h1;have hm:ds[i]∈ds:=F6 hlt;unfold A3 at h1;split at h1
  ·cases h1
  ·rename_i q;obtain⟨δ',b1,b2⟩:=step _ _ hm q;refine q7k (R2.mono y1) y3 b1 λσ3 R3=>?_
   have back:=q6d b1 hn;refine b2 σ3 H3 (s2.trans y1) R3 _ (λ_ H4 s4=>?_) (λx z=>nomatch z);show if false=true then _ else _
   rw[d5 K2];exact⟨ds.length - (i+1),by omega,rfl,hlt,Nat.le_succ_of_le hy,(R3.less back.1 back.2).mono s4,(s2.trans y1).trans s4,done,rest,h1,h2,r2.mono (y1.trans s4).wo⟩
  ·rename_i x q;split at h1
   ·cases h1
   ·rename_i rest' q';cases h1;obtain⟨δ',b1,b2⟩:=step _ _ hm q;refine q7k (R2.mono y1) y3 b1 λσ3 R3=>?_
    have back:=q6d b1 hn;refine b2 σ3 H3 (s2.trans y1) R3 _ (λz=>nomatch z) (λx' z H4 s4=>?_);cases z;show if true=true then _ else _
    rw[d4 rfl];refine stepE _ x hm q δ' b1 σ3 H4 ((s2.trans y1).trans s4) (R3.mono s4) _ λv H5 s5 rv=>?_
    exact⟨ds.length - (i+1),by omega,rfl,hlt,by rw[C5,T9];omega,(R3.less back.1 back.2).mono (s4.trans s5),((s2.trans y1).trans s4).trans s5,done++[x],rest',q',by rw[Q3];exact h2,
     (r2.mono ((y1.trans s4).trans s5).wo).append (RepL.one rv)⟩
 ·have e:i=ds.length:=by omega
  subst e;rw[List.drop_length]at h1;cases h1;rw[M4]at h2;subst h2;have s0:=s1.trans s2;refine .inl ⟨w.stop H2 s2.wo,λp hp=>fin _ _ (s0.trans (u6 hp)) ?_⟩;have hd:Hid O W H H2:=hd0.mono s0;exact P4 hd hp r2
abbrev E0s:St->XK:=λ_ _ _ _=>False
theorem PE.any{Y:Cx}{e:Expr}{ι:Sort _}{t:ι->TE}(h:∀k,PE Y e (t k)):PE Y e (λσ H Q=>∃k,t k σ H Q):=λpins s σ H Q I ⟨k,q⟩=>h k pins s σ H Q I q
theorem PTs.any{Y:Cx}{ι:Sort _}{es:List Expr}{t:ι->TT}(h:∀k,PTs Y es (t k)):PTs Y es (λσ H Q=>∃k,t k σ H Q):=λpins s σ H Q I ⟨k,q⟩=>h k pins s σ H Q I q
theorem Rc.of_item(h:Rc.of r=some (.item x)):∃c,r=some (.ok x c)/\stro x c=true:=by
 unfold Rc.of at h;split at h
 ·rename_i d c;split at h
  ·rename_i m;cases h;exact⟨c,rfl,m⟩
  ·cases h
 ·cases h
theorem Rc.of_skip(h:Rc.of r=some .skip):False:=by
 unfold Rc.of at h;split at h
 ·split at h<;>cases h
 ·cases h
theorem q6G{fr:List (Option Nat)}{δ:List Sv}{i:Nat}(h:fr[i]? = some none):(A2 fr δ)[i]? = some .no:=by
 unfold A2;rw[m9,h];rfl
def V7(X:Cx)(E:St->XK)(δ:List Sv)(tgE iter:Expr)(ifs:List Expr)(elt:Expr)(scope:Scope)(N':List Str)(fr:List (Option Nat))(tg:Tg)(re:Re):Prop:=
 ∃wi tc te,PI X tgE iter wi/\(∀C cells s₂ H₂ fp,PTs (t9 X scope N' C cells s₂ H₂ fp) ifs tc)/\(∀C cells s₂ H₂ fp,PE (t9 X scope N' C cells s₂ H₂ fp) elt te) /\
  ∀σ H Q,dE X.D E δ re σ H Q->z6t fr wi (gT X.K tg) tc te σ H Q
theorem q5u(hset:G7 iter=false):∀x,foldedSetIterable iter env x=pure x:=by cases iter<;>first | (intro _;rfl) | cases hset
theorem V7.pe(P:V7 X E δ tgE iter ifs elt scope N' fr tg re)(S:CompScope X.N N' scope X.env.scope fr)(hc:X.calm=true)(hG:∀C cells s₂ H₂ fp,PG (t9 X scope N' C cells s₂ H₂ fp) tgE (gT X.K tg))(hset:G7 iter=false) :
  PE X (.ListComp elt [⟨tgE,iter,ifs,0⟩] scope pos) (dE X.D E δ re):=by
 obtain⟨wi,tc,te,h1,h2,h3,h4⟩:=P;exact(z6N (pos:=pos) S hc h1 hG h2 h3 (q5u hset)).weak h4
theorem q4Z{evElt:List Sv->Option Re}(S:CompScope X.N N' scope X.env.scope fr)(hc:X.calm=true)(hnd:∀(j k i:Nat),fr[j]? = some (some i)->fr[k]? = some (some i)->j=k)(hsl:∀i∈Y3 tg,fr[i]? = some none)(hi:∀q,ri=some q->PI X tgE iter (dI X.D E δ q))
  (hG:∀C cells s₂ H₂ fp,PG (t9 X scope N' C cells s₂ H₂ fp) tgE (gT X.K tg)) (he:∀δ' r,evElt δ'=some r->∀C cells s₂ H₂ fp,PE (t9 X scope N' C cells s₂ H₂ fp) elt (dE X.D E0s δ' r))
  (h:(Ri.thn ri λds c=>if c=.weak\/mostLen<ds.length then none else M7 (A3 (λd=>(tg.bind d (A2 fr δ)).bind λδ'=>Rc.of (evElt δ')) ds))=some re):V7 X E δ tgE iter [] elt scope N' fr tg re:=by
 cases hri:ri with
 | none=>rw[hri]at h;cases h
 | some q=>
  rw[hri]at h;have A:=hi q hri;refine⟨_,_,_,A,(λC cells s₂ H₂ fp=>z6Y),(λC cells s₂ H₂ fp=>PE.any (ι:={p:List Sv×Re // evElt p.1=some p.2}) (t:=λk=>dE X.D E0s k.1.1 k.1.2) λk=>he k.1.1 k.1.2 k.2 C cells s₂ H₂ fp),?_⟩;cases q with
  | ex c=>cases h;exact λσ H Q ⟨O,W,R,p⟩=>⟨O,W,R,p⟩
  | ok ds c=>
   have h':(if c=.weak\/mostLen<ds.length then none else M7 (A3 (λd=>(tg.bind d (A2 fr δ)).bind λδ'=>Rc.of (evElt δ')) ds))=some re:=h;split at h'
   ·cases h'
   ·rename_i m;rw[not_or]at m;unfold M7 at h';split at h'
    ·cases h'
    ·rename_i xs hx;cases h';refine λσ H Q ⟨O,W,R,p⟩=>⟨O,W,R,λJ H1 s1 w=>?_⟩
     refine q7Y (tg:=tg) (D:=X.D) w R.hid m.1 ((R.mono s1).inner fr hnd) (λi hi=>.inl (q6G (hsl i hi))) (Y5 (by omega)) hx s1 (λd rc hm hg=>?_) (λd x hm hg δ' hb σ' H2 s2 R2 K hK=>?_) p
     ·cases hb:tg.bind d (A2 fr δ)with
      | none=>rw[hb]at hg;cases hg
      | some δ'=>
       rw[hb]at hg;refine⟨δ',rfl,λσ' H2 s2 R2 K k1 k2=>?_⟩;cases rc with
       | skip=>exact(Rc.of_skip hg).elim
       | item x=>exact k2 x rfl H2 (Same.refl _)
     ·rw[hb]at hg;obtain⟨cl,e1,e2⟩:=Rc.of_item hg;exact⟨⟨⟨δ',.ok x cl⟩,e1⟩,O,W,R2,λv H3 s3 g3=>hK v H3 s3 (g3.stro (R2.hid.mono s3) e2)⟩
theorem q4V{evElt:List Sv->Option Re}{evC:List Sv->Option Rt}{cond:Expr}(S:CompScope X.N N' scope X.env.scope fr)(hc:X.calm=true)(hnd:∀(j k i:Nat),fr[j]? = some (some i)->fr[k]? = some (some i)->j=k)(hsl:∀i∈Y3 tg,fr[i]? = some none)(hi:∀q,ri=some q->PI X tgE iter (dI X.D E δ q))
  (hG:∀C cells s₂ H₂ fp,PG (t9 X scope N' C cells s₂ H₂ fp) tgE (gT X.K tg)) (he:∀δ' r,evElt δ'=some r->∀C cells s₂ H₂ fp,PE (t9 X scope N' C cells s₂ H₂ fp) elt (dE X.D E0s δ' r))
  (ht:∀δ' r,evC δ'=some r->∀C cells s₂ H₂ fp,PT (t9 X scope N' C cells s₂ H₂ fp) cond (dT X.D E0s δ' r))
  (h:(Ri.thn ri λds c=>if c=.weak\/mostLen<ds.length then none else M7 (A3 (λd=>(tg.bind d (A2 fr δ)).bind λδ'=>Rc.test (evC δ') (Rc.of (evElt δ'))) ds))=some re):V7 X E δ tgE iter [cond] elt scope N' fr tg re:=by
 cases hri:ri with
 | none=>rw[hri]at h;cases h
 | some q=>
  rw[hri]at h;have A:=hi q hri;refine⟨_,_,_,A,(λC cells s₂ H₂ fp=>PTs.any (ι:={p:List Sv×Rt // evC p.1=some p.2}) (t:=λk=>dT X.D E0s k.1.1 k.1.2) λk=>z5g (ht k.1.1 k.1.2 k.2 C cells s₂ H₂ fp)),
   (λC cells s₂ H₂ fp=>PE.any (ι:={p:List Sv×Re // evElt p.1=some p.2}) (t:=λk=>dE X.D E0s k.1.1 k.1.2) λk=>he k.1.1 k.1.2 k.2 C cells s₂ H₂ fp),?_⟩
  cases q with
  | ex c=>cases h;exact λσ H Q ⟨O,W,R,p⟩=>⟨O,W,R,p⟩
  | ok ds c=>
   have h':(if c=.weak\/mostLen<ds.length then none else M7 (A3 (λd=>(tg.bind d (A2 fr δ)).bind λδ'=>Rc.test (evC δ') (Rc.of (evElt δ'))) ds))=some re:=h;split at h'
   ·cases h'
   ·rename_i m;rw[not_or]at m;unfold M7 at h';split at h'
    ·cases h'
    ·rename_i xs hx;cases h';refine λσ H Q ⟨O,W,R,p⟩=>⟨O,W,R,λJ H1 s1 w=>?_⟩
     refine q7Y (tg:=tg) (D:=X.D) w R.hid m.1 ((R.mono s1).inner fr hnd) (λi hi=>.inl (q6G (hsl i hi))) (Y5 (by omega)) hx s1 (λd rc hm hg=>?_) (λd x hm hg δ' hb σ' H2 s2 R2 K hK=>?_) p
     ·cases hb:tg.bind d (A2 fr δ)with
      | none=>rw[hb]at hg;cases hg
      | some δ'=>
       rw[hb]at hg;have hg':Rc.test (evC δ') (Rc.of (evElt δ'))=some rc:=hg;refine⟨δ',rfl,λσ' H2 s2 R2 K k1 k2=>?_⟩;unfold Rc.test at hg';split at hg'
       ·rename_i q;refine⟨⟨⟨δ',.ok true⟩,q⟩,O,W,R2,λH3 s3=>?_⟩;cases rc with
        | skip=>exact(Rc.of_skip hg').elim
        | item x=>exact k2 x rfl H3 s3
       ·rename_i q;cases hg';exact⟨⟨⟨δ',.ok false⟩,q⟩,O,W,R2,λH3 s3=>k1 rfl H3 s3⟩
       ·cases hg'
     ·rw[hb]at hg;have hg':Rc.test (evC δ') (Rc.of (evElt δ'))=some (.item x):=hg;unfold Rc.test at hg';split at hg'
      ·obtain⟨cl,e1,e2⟩:=Rc.of_item hg';exact⟨⟨⟨δ',.ok x cl⟩,e1⟩,O,W,R2,λv H3 s3 g3=>hK v H3 s3 (g3.stro (R2.hid.mono s3) e2)⟩
      ·cases hg'
      ·cases hg'
end
end
section
theorem Inv.turnedL{X:Cx}{pins:List (Addr×Obj)}{σ:St}{H:Hp}{s:Shared}{h':Heap}{t':Nat}{ch:List Addr}(I:Inv X pins σ H s)(k:∀b o,b∉ch->s.heap.get? b=some o->h'.get? b=some o)(hf:∀b∈ch,FpOk X pins H b):Inv X pins σ H {s with heap:=h',toks:=t'}:=by
 have nit:∀b u,H b=some u->b∉ch:=λb u e z=>by rw[(hf b z).1]at e;cases e
 refine I.step (g':=s.gens) (d':=s.drawn) (ch:=ch) (λb hb=>?_) (λb o _ _ hc e _=>k b o hc e) (λb o _ _ hc e _=>⟨o.slots,k b o hc e⟩) (λ_ _ _ _ n=>n)
  (λb o hc e=>⟨o,k b o hc e⟩) (λ_ _ e=>e) (λ_ _ _ e=>e) (λb ps e=>⟨#[],by rw[e];simp⟩) (λm hm=>?_) (λb u e=>?_) I.bare
 ·obtain⟨_,f1,_,f3,f4,f5⟩:=hf b hb;exact⟨f3,f1,f4,f5⟩
 ·obtain⟨o,es,ep,ho,r⟩:=hm;exact⟨o,es,ep,k _ o (λz=>(hf _ z).2.1 rfl) ho,r⟩
 ·refine(I.hok b u e).stay (λc v hc q=>k c v ?_ q) (λ_ q=>q) λ_ _ q=>q;rcases hc with z | z
  ·rw[z];exact nit b u e
  ·exact nit c _ z
def SqD(t:Bool)(K:PySem.W.Frag)(H:Hp)(a:Addr)(xs:List V):Prop:=match t with | false=>SqL K H a xs | true=>SqT K H a xs
theorem Same.sqd{t:Bool}{K:PySem.W.Frag}{H H':Hp}{a:Addr}{xs:List V}(e:Same H H')(h:SqD t K H a xs):SqD t K H' a xs:=by
 cases t
 ·exact e.seq h
 ·exact e.tseq h
theorem Inv.sqd{σ:St}(I:Inv X pins σ H s)(h:SqD t X.K H a xs):∃its:List Value,Vals xs its/\SqK t s.heap a its.toArray:=by
 cases t
 ·obtain⟨its,rv,p,_⟩:=I.list h;exact⟨its,rv,p.isList⟩
 ·obtain⟨its,rv,p,_⟩:=I.tuple h;exact⟨its,rv,p⟩
theorem Inv.sqd_inj{σ:St}(I:Inv X pins σ H s)(h:SqD t X.K H a xs)(h':SqD t X.K H a ys):xs=ys:=by
 cases t
 ·exact I.list_inj h h'
 ·exact I.tuple_inj h h'
def itK(t:Bool)(h:Heap)(ia la:Addr)(k:Nat):Prop:=match t with | false=>h.IsListIter ia la k | true=>h.IsTupleIter ia la k
theorem q8B(p:itK t h ia la k)(q:SqK t h la vs):sK t ia la vs k h:=by
 cases t<;>exact⟨p,q⟩
theorem q8r(p:sK t ia la vs k h):itK t h ia la k:=by
 cases t<;>exact p.1
theorem q5g(p:itK t h ia la k)(e:∀o,h.get? ia=some o->h'.get? ia=some o):itK t h' ia la k:=by
 cases t
 ·exact Heap.IsListIter.at p e
 ·obtain⟨o,z,r⟩:=p;exact⟨o,e o z,r⟩
theorem q2g(p:itK t h ia la k):∃o xs,h.get? ia=some o/\o.data=.fields xs:=by
 cases t
 ·obtain⟨o,e,_,d⟩:=p;exact⟨o,_,e,d⟩
 ·obtain⟨o,e,_,d⟩:=p;exact⟨o,_,e,d⟩
theorem SqK.lt{t:Bool}{h:Heap}{a:Addr}{vs:Array Value}(p:SqK t h a vs):a<h.objs.size:=by
 cases t
 ·obtain⟨o,e,_⟩:=p;exact j8 e
 ·obtain⟨o,e,_⟩:=p;exact j8 e
def Itz(K:PySem.W.Frag)(t1 t2:Bool)(a b:Addr):It:=
  ⟨λi H=>∃xs ys x y,SqD t1 K H a xs/\SqD t2 K H b ys/\xs[i]? = some x/\ys[i]? = some y,
   λi H x H'=>∃p v u,x=.ref p/\H p=none/\(∀xs,SqD t1 K H a xs->xs[i]? = some v)/\(∀ys,SqD t2 K H b ys->ys[i]? = some u)/\H'=upd H p (.tup [v,u]),
   λi H=>∃xs ys,SqD t1 K H a xs/\SqD t2 K H b ys/\(xs.length<=i\/ys.length<=i)⟩
theorem z2p{P:Program}{w:World}{K:PySem.W.Frag}{elts:List Expr}{k:Nat}{pos:Pos}{z TI TO i1 i2 l1 l2:Addr}(t1 t2:Bool)(D:ZipApart z TI TO i1 i2 l1 l2) :
  Turn P w K (.Tuple elts k pos) (Itz K t1 t2 l1 l2) [z,TI,TO,i1,i2] z (λi h=>IsZip h z TI TO .none/\IsPair h TI (.ref i1) (.ref i2)/\(∃a b,IsPair h TO a b)/\itK t1 h i1 l1 i/\itK t2 h i2 l2 i) where
 mem:=by simp
 obj:=λi h st b hb=>by
  obtain⟨hz,hTI,⟨a,a',hTO⟩,h1,h2⟩:=st;simp only[f9,F7,K6]at hb;rcases hb with rfl | rfl | rfl | rfl | rfl
  ·exact⟨_,hz,λv q=>by cases q⟩
  ·exact⟨_,hTI,λv q=>by cases q⟩
  ·exact⟨_,hTO,λv q=>by cases q⟩
  ·obtain⟨o,xs,e,d⟩:=q2g h1;exact⟨o,e,λv q=>by rw[d]at q;cases q⟩
  ·obtain⟨o,xs,e,d⟩:=q2g h2;exact⟨o,e,λv q=>by rw[d]at q;cases q⟩
 keep:=λi h h' st q=>by obtain⟨hz,hTI,⟨a,a',hTO⟩,h1,h2⟩:=st;exact⟨q z (by simp) _ hz,q TI (by simp) _ hTI,⟨a,a',q TO (by simp) _ hTO⟩,q5g h1 λo e=>q i1 (by simp) o e,q5g h2 λo e=>q i2 (by simp) o e⟩
 item:=by
  intro X hP hw hK hc i pins s σ H E I hf st hg;subst hP hw hK;obtain⟨hz,hTI,⟨a,a',hTO⟩,h1,h2⟩:=st;obtain⟨xs,ys,x,y,q1,q2,hx,hy⟩:=hg;obtain⟨its,rv,p⟩:=I.sqd q1;obtain⟨its2,rv2,p2⟩:=I.sqd q2;obtain⟨u,hu,ru⟩:=rv.get hx;obtain⟨u2,hu2,ru2⟩:=rv2.get hy;refine z1B D (q8S t1 D.l1i1) (q8S t2 D.l2i2) hz hTI hTO (q8B h1 p) (q8B h2 p2) (x:=u) (y:=u2) (by simpa using hu) (by simpa using hu2) λh' a1 a2 a3 a4 a5 a6 a7=>⟨_,rfl,?_⟩
  refine wpAny_letOwnedTupleGo_zip a1 λh2' hz' hs'=>?_;have hsz:s.heap.objs.size≠z:=Q8 (j8 hz);have keep:∀b o,b∉[z,TI,TO,i1,i2]->s.heap.get? b=some o->h2'.get? b=some o:=λb o hb e=>
   hs'.extBut _ _ (λq=>hb (by simp[q])) (a7 b o (λq=>hb (by simp[q])) (λq=>hb (by simp[q])) (λq=>hb (by simp[q])) (λq=>hb (by simp[q])) e)
  have I1:Inv X pins σ H {s with heap:=h2'}:=I.turnedL (t':=s.toks) keep hf;have hn:H s.heap.objs.size=none:=I.hok.fresh (j2 _);have f5:=I.fpOk (j2 _) hn;have new:h2'.get? s.heap.objs.size=some {cls:=.type "tuple",data:=.seq #[u,u2]}:=hs'.extBut _ _ hsz a5;have h0:X.s₀.heap.get? s.heap.objs.size=none:=Z7 I.sz;have I2:Inv X pins σ (upd H s.heap.objs.size (.tup [x,y])) {s with heap:=h2'}:=I1.track hn h0 f5.2.1 (λn c e=>f5.2.2.2.2.1 n c e) (λq hq=>f5.2.2.2.2.2 q hq)
   ⟨by show(2:Nat)<=sizeLine;decide,[u,u2],.cons ru (.cons ru2 .nil),_,new,⟨rfl,rfl⟩,_,rfl⟩
  refine⟨.ref s.heap.objs.size,_,I2,rfl,⟨_,x,y,rfl,hn,λxs' e=>by rw[I.sqd_inj e q1];exact hx,λys' e=>by rw[I.sqd_inj e q2];exact hy,rfl⟩,
   ⟨hz',hs'.extBut _ _ D.TIz (a7 _ _ D.TIz D.TITO D.TIi1 D.TIi2 hTI),⟨_,_,hs'.extBut _ _ D.TOz a2⟩,q5g (q8r a3) (λo e=>hs'.extBut _ _ D.i1z e),q5g (q8r a4) (λo e=>hs'.extBut _ _ D.i2z e)⟩,λb hb=>?_⟩
  have lt:∀b∈[z,TI,TO,i1,i2],b≠s.heap.objs.size:=λb hb=>by
   simp only[f9,F7,K6]at hb;rcases hb with rfl | rfl | rfl | rfl | rfl
   ·exact Ne.symm hsz
   ·exact B3 (j8 hTI)
   ·exact B3 (j8 hTO)
   ·obtain⟨o,_,e,_⟩:=q2g h1;exact B3 (j8 e)
   ·obtain⟨o,_,e,_⟩:=q2g h2;exact B3 (j8 e)
  rw[j4 (lt b hb)];exact(hf b hb).1
 done:=by
  intro X hP hw hK hc i pins s σ H E I hf st hg;subst hP hw hK;obtain⟨hz,hTI,⟨a,a',hTO⟩,h1,h2⟩:=st;obtain⟨xs,ys,q1,q2,hx⟩:=hg;obtain⟨its,rv,p⟩:=I.sqd q1;obtain⟨its2,rv2,p2⟩:=I.sqd q2;have e1:=rv.length;have e2:=rv2.length;refine q9A (I.ok.hd hc) D (q8S t1 D.l1i1) (q8S t2 D.l2i2) hz hTI hTO (q8B h1 p) (q8B h2 p2) (by
   rcases hx with q | q
   ·left;simp;omega
   ·right;simp;omega) λh' a7=>⟨rfl,I.turnedL (t':=s.toks) (ch:=[z,TI,TO,i1,i2]) (λb o hb e=>a7 b o (λq=>hb (by simp[q])) (λq=>hb (by simp[q])) (λq=>hb (by simp[q])) (λq=>hb (by simp[q])) e) hf⟩
 self:=λ_ _ _ _ _ st h=>wpAny_pyIter_zip st.1 h
theorem q3C:∀(xs ys:List DV),(zpD xs ys).length=min xs.length ys.length
 | [],ys=>by simp[zpD]
 | _::_,[]=>by simp[zpD]
 | x::xs,y::ys=>by rw[zpD,m4,q3C xs ys,m4,m4];omega
theorem q9V:∀{xs ys:List DV} {i:Nat} {d:DV},(zpD xs ys)[i]? = some d->∃x y,xs[i]? = some x/\ys[i]? = some y/\d=.tup [x,y]
 | [],_,_,_,h=>by simp[zpD]at h
 | _::_,[],_,_,h=>by simp[zpD]at h
 | x::xs,y::ys,0,d,h=>by simp[zpD]at h;exact⟨x,y,rfl,rfl,h.symm⟩
 | x::xs,y::ys,i+1,d,h=>by rw[zpD,w3F]at h;simpa using q9V h
theorem q5n:∀b∈hidW O W (Cl.meet c c'),b∈hidW O W c:=by
 cases c<;>cases c'<;>intro b hb<;>first | exact hb | exact u4 _ hb
theorem q8P:∀b∈hidW O W (Cl.meet c c'),b∈hidW O W c':=by
 cases c<;>cases c'<;>intro b hb<;>first | exact hb | exact u4 _ hb
theorem q3o:∀b∈J7 O W (Cl.meet c c'),b∈J7 O W c:=by
 cases c<;>cases c'<;>intro b hb<;>first | exact hb | exact u4 _ hb
theorem q5V:∀b∈J7 O W (Cl.meet c c'),b∈J7 O W c':=by
 cases c<;>cases c'<;>intro b hb<;>first | exact hb | exact u4 _ hb
theorem Wk.zip(h:SqD t1 D.K (L2.wo Oc H1) a xs)(r:RepL D (L2.wo Oi H1) ds xs)(h':SqD t2 D.K (L2.wo Oc H1) b ys)(r':RepL D (L2.wo Oi H1) es ys):Wk D (Itz D.K t1 t2 a b) (zpD ds es) Oc Oi H1 where
 go:=λi H s hi=>by rw[q3C]at hi;exact⟨xs,ys,xs[i]'(by rw[r.length];omega),ys[i]'(by rw[r'.length];omega),n9.sqd (s.sqd h),n9.sqd (s.sqd h'),j3 _,j3 _⟩
 same:=λi H x H' y=>by obtain⟨p,v,u,_,hp,_,_,e⟩:=y;rw[e];exact u6 hp
 yld:=λi H x H' d O2 s s' y e ho=>by
  obtain⟨p,v,u,ex,hp,y1,y2,eH⟩:=y;obtain⟨d1,d2,q1,q2,rfl⟩:=q9V e;obtain⟨v1,z1,z2⟩:=r.get q1;obtain⟨v2,z3,z4⟩:=r'.get q2;have w1:=y1 xs (n9.sqd (s.sqd h));have w2:=y2 ys (n9.sqd (s.sqd h'));rw[z1]at w1;cases w1;rw[z3]at w2;cases w2;have hpo:p∉O2:=λz=>(ho p z).1 hp
  subst eH;refine A9.mpr ⟨p,_,ex,SqT.of (by rw[j7 hpo];exact w6),?_⟩;have up:Same (L2.wo Oi H1) (L2.wo O2 (upd H p (.tup [v,u]))):=(q7u s' ho).trans (u6 hp).wo;exact p8.mpr ⟨_,_,rfl,z2.mono up,RepL.one (z4.mono up)⟩
 stop:=λH s=>by refine⟨xs,ys,n9.sqd (s.sqd h),n9.sqd (s.sqd h'),?_⟩;rw[q3C,r.length,r'.length];omega
section
variable {X:Cx} {E:St->XK} {δ:List Sv} {e e':Expr} {elts:List Expr} {k:Nat} {tpos pos p:Pos} {ra rb:Option Re} {ri:Ri}
theorem q7p{n a b:Nat}(ha:a<n)(hb:b<n):ZipApart (n+4) (n+2) (n+3) n (n+1) a b:=by
 constructor<;>(show @Ne Nat _ _)<;>omega
theorem y0h(hg:Gl X "zip")(hm:X.mg "zip" = none)(ha:PA X [e,e'] ta)(hs:j6 e=false)(hs':j6 e'=false) :
  PI X (.Tuple elts k tpos) (.Call (.Name "zip" p) [e,e'] [] pos) (λσ H R=>ta σ H λvs H1=>∃t1 t2 a b,vs=[.ref a,.ref b]/\(∃xs,SqD t1 X.K H1 a xs)/\(∃ys,SqD t2 X.K H1 b ys)/\R (Itz X.K t1 t2 a b) H1):=by
 intro pins s σ H R I h;refine Call_ (q5j I hg hm boot_zip (w1T (thn (ha pos pins s σ H _ I h) λus s1 ⟨vs,H1,I1,r1,q1⟩=>?_) (by rw[u3 hs]) (q1I [e'] (by simp[hs']))));obtain⟨t1,t2,a,b,e1,⟨xs,hx⟩,⟨ys,hy⟩,q⟩:=q1;subst e1;obtain⟨u,u',rfl,ru,ru'⟩:=r1.two;cases ru;cases ru';obtain⟨its,rv,p1⟩:=I1.sqd hx;obtain⟨its2,rv2,p2⟩:=I1.sqd hy;have la:=p1.lt;have lb:=p2.lt;refine q9g t1 t2 p1 p2 λh' z1 z2 z3 z4 z5 z6 z7=>?_
 have I2:Inv X pins σ H1 {s1 with heap:=h'}:=I1.kept (t':=s1.toks) z7;refine wpAny_pyIter_zip z1 ⟨s1.heap.objs.size+4,[s1.heap.objs.size+4,s1.heap.objs.size+2,s1.heap.objs.size+3,s1.heap.objs.size,s1.heap.objs.size+1],_,_,H1,rfl,I2,
  z2p (l1:=a) (l2:=b) t1 t2 (q7p la lb),⟨z1,z2,⟨_,_,z3⟩,q8r z4,q8r z5⟩,λc hc=>?_,q⟩
 have hc':s1.heap.objs.size<=c:=by
  simp only[f9,F7,K6]at hc;rcases hc with rfl | rfl | rfl | rfl | rfl
  ·exact w2o ..
  ·exact w2o ..
  ·exact w2o ..
  ·exact j2 _
  ·exact w2o ..
 exact I1.fpOk hc' (I1.hok.fresh hc')
theorem q4v(k:z2u d=some (t,ds))(g:Got D O W H0 H d c v)(hd:Hid O W H0 H):∃a xs,v=.ref a/\SqD t D.K (L2.wo (hidW O W c) H) a xs/\RepL D (L2.wo (J7 O W c) H) ds xs:=by
 cases d<;>cases k
 ·exact g.walkT hd
 ·exact g.walkL hd
theorem z5z(hg:Gl X "zip")(hm:X.mg "zip" = none)(hs:j6 e=false)(hs':j6 e'=false)(ha:∀q,ra=some q->PE X e (dE X.D E δ q))(hb:∀q,rb=some q->PE X e' (dE X.D E δ q))
  (h:o5 (Re.thn ra λx c=>Re.thn rb λy c'=>zipD x y c c')=some ri):PI X (.Tuple elts k tpos) (.Call (.Name "zip" p) [e,e'] [] pos) (dI X.D E δ ri):=by
 have C:=λta tb (hA:PE X e ta) (hB:PE X e' tb)=>y0h (elts:=elts) (k:=k) (tpos:=tpos) (p:=p) (pos:=pos) hg hm (G1 hA (G1 hB O8 (u3 hs')) (u3 hs)) hs hs';cases hra:ra with
 | none=>rw[hra]at h;cases h
 | some q=>
  rw[hra]at h;have A:=ha q hra;cases q with
  | ex c=>cases h;exact(C _ _ A L0).weak λσ H R' ⟨O,W,R,p⟩=>⟨O,W,R,p⟩
  | ok dx cx=>
   cases hrb:rb with
   | none=>rw[hrb]at h;cases h
   | some q=>
    rw[hrb]at h;have B:=hb q hrb;cases q with
    | ex c=>cases h;exact(C _ _ A B).weak λσ H R' ⟨O,W,R,p⟩=>⟨O,W,R,λx H1 s1 g1=>⟨O,W,R.mono s1,λH' C m s=>p H' C m (s1.trans s)⟩⟩
    | ok dy cy=>
     have h':o5 (zipD dx dy cx cy)=some ri:=h;unfold zipD at h';split at h'
     ·rename_i t1 ds1 t2 ds2 k1 k2;cases h';exact(C _ _ A B).weak λσ H R' ⟨O,W,R,p⟩=>⟨O,W,R,λx H1 s1 g1=>⟨O,W,R.mono s1,λy H2 s2 g2=>by
       have hd:=(R.hid.mono s1).mono s2;obtain⟨a,xs,e1,e2,e3⟩:=q4v k1 (g1.mono s2) hd;obtain⟨b,ys,e1',e2',e3'⟩:=q4v k2 (g2.since s1) hd;refine⟨t1,t2,a,b,by rw[e1,e1'],⟨xs,n9.sqd e2⟩,⟨ys,n9.sqd e2'⟩,p _ H2 (s1.trans s2) (.zip ((x6 q5n).sqd e2) (e3.mono (x6 q3o)) ((x6 q8P).sqd e2') (e3'.mono (x6 q5V)))⟩⟩⟩
     ·cases h'
end
end
section
section
variable {P:Program} {w:World} {A:Around} {E:Value->Shared->Prop} {s:Shared} {n c l:Addr} {k:Nat} {vs:Array Value} {S:Nat->Heap->Prop} {x old:Value}
abbrev z8c(s:Shared)(h':Heap)(n c:Addr)(k:Nat)(x:Value)(S:Nat->Heap->Prop):Prop:=
 IsEnumOut h' n c ((k:Int)+1) x s.heap.objs.size/\S (k+1) h'/\h'.get? s.heap.objs.size=some {cls:=.type "tuple",data:=.seq #[.int k s.toks,x]} /\ h'.objs.size=s.heap.objs.size+1/\(∀b o,b≠n->b≠c->s.heap.get? b=some o->h'.get? b=some o)
theorem z1h{Q:Value->Shared->Prop}(R:Src P w c l vs S)(hn:IsEnum s.heap n c k old)(hS:S k s.heap)(hx:vs[k]? = some x)(d1:n≠c)(d2:l≠n)(hQ:∀h',z8c s h' n c k x S->Q (.ref s.heap.objs.size) {s with heap:=h',toks:=s.toks+1}) :
  wpAny (model P w) A (Builtin.«enumerate.__next__» ⟨[.ref n],[]⟩) (λfin s'=>∃v,fin=.done (.ret v)/\Q v s') E s:=by
 obtain⟨g0,gg,gd,gt,go⟩:=s;show wpAny _ _ (field (.ref n) 2 >>= _) _ _ _;refine b9 (B1 hn rfl (x:=.ref c) rfl (b9 (R.step k x hS hx λg1 r1 t1=>?_)))
 replace t1:Heap.SameBut c g0 g1:=t1
 have n1:IsEnum g1 n c k old:=(t1.2 n d1).trans hn;show wpAny _ _ (field (.ref n) 3 >>= _) _ _ ⟨g1,gg,gd,gt,go⟩;refine b9 (B1 n1 rfl (x:=rawInt k) rfl ?_);show wpAny _ _ (field (.ref n) 4 >>= _) _ _ ⟨g1,gg,gd,gt,go⟩;refine b9 (B1 n1 rfl (x:=.none) rfl ?_);show wpAny _ _ (mkInt k >>= _) _ _ ⟨g1,gg,gd,gt,go⟩;refine b9 (wpAny_mkInt ?_);show wpAny _ _ (setField (.ref n) 3 (rawInt ((k:Int)+1)) >>= _) _ _ ⟨g1,gg,gd,gt+1,go⟩;refine b9 (F5 n1 (by simp) λg2 n2 t2=>?_)
 replace t2:Heap.SameBut n g1 g2:=t2
 replace n2:IsEnum g2 n c ((k:Int)+1) old:=n2
 show wpAny _ _ (setField (.ref n) 4 .none >>= _) _ _ ⟨g2,gg,gd,gt+1,go⟩;refine b9 (F5 n2 (by simp) λg3 n3 t3=>?_)
 replace t3:Heap.SameBut n g2 g3:=t3
 replace n3:IsEnum g3 n c ((k:Int)+1) old:=n3
 show wpAny _ _ (newTuple [.int k gt,x] >>= _) _ _ ⟨g3,gg,gd,gt+1,go⟩;refine b9 (w3Z ?_);have n4:IsEnum (g3.push {cls:=.type "tuple",data:=.seq #[.int k gt,x]}) n c ((k:Int)+1) old:=m5 _ n3;have z3:g3.objs.size=g0.objs.size:=by rw[t3.1,t2.1,t1.1]
 have q4:(g3.push {cls:=.type "tuple",data:=.seq #[.int k gt,x]}).get? g0.objs.size=some {cls:=.type "tuple",data:=.seq #[.int k gt,x]}:=by rw[←z3];exact x9 _ rfl
 have z4:(g3.push {cls:=.type "tuple",data:=.seq #[.int k gt,x]}).objs.size=g0.objs.size+1:=by rw[K4,z3]
 have k4:∀b o,b≠n->b≠c->g0.get? b=some o->(g3.push {cls:=.type "tuple",data:=.seq #[.int k gt,x]}).get? b=some o:=λb o b1 b2 e=>
  m5 _ (t3.extBut b o b1 (t2.extBut b o b1 (t1.extBut b o b2 e)))
 have r4:S (k+1) (g3.push {cls:=.type "tuple",data:=.seq #[.int k gt,x]}):=
  R.keep _ _ _ (R.ext (R.ext r1 t2.extBut (Ne.symm d1) d2) t3.extBut (Ne.symm d1) d2) (λo e=>m5 _ e) (λo e=>m5 _ e)
 generalize (g3.push {cls:=.type "tuple",data:=.seq #[.int k gt,x]})=g4 at n4 q4 z4 k4 r4 ⊢;have lt:n<g0.objs.size:=j8 hn;show wpAny _ _ (Builtin.SmallTypes.ownedTupleIsFree (.ref n) >>= _) _ _ ⟨g4,gg,gd,gt+1,go⟩;rw[z3];refine b9 ?_;unfold Builtin.SmallTypes.ownedTupleIsFree;refine b9 (B1 n4 rfl (x:=.none) rfl (i4 ?_));simp only[if_true];refine b9 (w3n (b9 (B1 n4 rfl (x:=old) rfl (b9 (F5 n4 (by simp) λg5 n5 t5=>?_)))))
 replace t5:Heap.SameBut n g4 g5:=t5
 replace n5:IsEnum g5 n c ((k:Int)+1) x:=n5
 show wpAny _ _ (Builtin.SmallTypes.ownedTupleHandOut (.ref n) (.ref g0.objs.size) >>= _) _ _ ⟨g5,gg,gd,gt+1,go⟩;refine b9 ?_;unfold Builtin.SmallTypes.ownedTupleHandOut;refine b9 (F5 n5 (by simp) λg6 n6 t6=>?_)
 replace t6:Heap.SameBut n g5 g6:=t6
 replace n6:IsEnumOut g6 n c ((k:Int)+1) x g0.objs.size:=n6
 refine F5 n6 (by simp) λg7 n7 t7=>?_
 replace t7:Heap.SameBut n g6 g7:=t7
 replace n7:IsEnumOut g7 n c ((k:Int)+1) x g0.objs.size:=n7
 have up:∀b o,b≠n->g4.get? b=some o->g7.get? b=some o:=λb o b1 e=>t7.extBut b o b1 (t6.extBut b o b1 (t5.extBut b o b1 e));exact b9 (w2Z (i4 ⟨_,rfl,hQ g7 ⟨n7,R.keep _ _ _ r4 (λo e=>up _ o (Ne.symm d1) e) (λo e=>up _ o d2 e),up _ _ (Q8 lt) q4,by rw[t7.1,t6.1,t5.1,z4],λb o b1 b2 e=>up b o b1 (k4 b o b1 b2 e)⟩⟩))
theorem q9O(R:Src P w c l vs S)(hn:IsEnum s.heap n c k old)(hS:S k s.heap)(hx:vs[k]? = some x)(d1:n≠c)(d2:l≠n)(hQ:∀h',z8c s h' n c k x S->Q (some (.ref s.heap.objs.size)) {s with heap:=h',toks:=s.toks+1}) :
  wpAny (model P w) A (pyNext (.ref n)) Q E s:=by
 have T:s.TypeIs (.ref n) "enumerate":=⟨_,hn,rfl⟩;unfold pyNext;exact b9 (X0 (T7 (name:=Str.ofString "__next__") T w2l (Q5 w2l T w3V (z1h R hn hS hx d1 d2 λh' a=>i4 (hQ h' a)) (w3G _))))
theorem q9k(hh:A.handled=none)(R:Src P w c l vs S)(hn:IsEnum s.heap n c k old)(hS:S k s.heap)(hx:vs[k]? = none)(hQ:∀h',Heap.ExtBut c s.heap h'->Q none {s with heap:=h'}) :
  wpAny (model P w) A (pyNext (.ref n)) Q E s:=by
 have T:s.TypeIs (.ref n) "enumerate":=⟨_,hn,rfl⟩;unfold pyNext;refine b9 (X0 (T7 (name:=Str.ofString "__next__") T w2l (Q5 w2l T w3V ?_ (w3G _))));show wpAny _ _ (field (.ref n) 2 >>= _) _ _ _;refine b9 (B1 hn rfl (x:=.ref c) rfl (b9 (R.stop k hh hS hx λg1 e t1 he=>?_)));obtain⟨o,q1,q2⟩:=he;exact b9 (w3w (T:="StopIteration") (b:=true) ⟨o,q1,q2⟩ w30 (i4 (hQ _ t1)))
end
open AutoSeq1 (wpAny_loadPart') in
theorem q8M(l:Addr)(vs:Array Value)(m:Nat)(dc:Option Addr)(sl:Array (Option Value)):Meets (Builtin.«enumerate.__new__» ⟨[.type "enumerate",.ref l],[]⟩) (λ_ R s=>s.heap.get? l=some {cls:=.type "tuple",dict:=dc,data:=.seq vs m,slots:=sl} /\
  R (.ok (.ret (.ref (zH1 s.heap true l).objs.size))) {s with heap:=(zH1 s.heap true l).push {cls:=.type "enumerate",data:=.fields #[.none,.bool false,.ref s.heap.objs.size,rawInt 0,.none,.none]}}):=
 .of_wp λP w A R s h=>by
  obtain⟨g0,gg,gd,gt,go⟩:=s;obtain⟨q,h⟩:=h;have hsub:=sub_enumerate;have qT:Heap.IsTuple (Shared.heap ⟨g0,gg,gd,gt,go⟩) l vs:=⟨_,q,rfl,m,rfl⟩
  wp_walk using w2a q
  refine wpAny_stack_any λst=>i4 ?_;split
  ·rename_i y _ _ _ _ _;cases(y==Value.type "enumerate")
   ·wp_walk using w2a q,Q2 qT
    exact⟨_,rfl,h⟩
   ·wp_walk using w2a q,Q2 qT
    exact⟨_,rfl,h⟩
  ·wp_walk using w2a q,Q2 qT
   exact⟨_,rfl,h⟩
theorem q8t {P : Program} {w : World} {A : Around} {E : Value -> Shared -> Prop} {s : Shared} {l : Addr} {vs : Array Value} {Q : Value -> Shared -> Prop} (t : Bool) (q : SqK t s.heap l vs)
    (h : ∀ h', IsEnum h' (s.heap.objs.size + 1) s.heap.objs.size 0 .none -> sK t s.heap.objs.size l vs 0 h' -> h'.objs.size = s.heap.objs.size + 2 -> (∀ b o, s.heap.get? b = some o -> h'.get? b = some o) -> Q (.ref (s.heap.objs.size + 1)) { s with heap := h' }) :
    wpAny (model P w) A (call (.type "enumerate") [.ref l]) Q E s := by
  cases t with
  | false => exact call_enumerate_list (show s.heap.IsList l vs from q) λ h' a1 a2 a3 a4 => h h' a1 ⟨a2, Heap.IsList.at (show s.heap.IsList l vs from q) λ o e => a4 _ o e⟩ a3 a4
  | true =>
    obtain ⟨⟨y, dc, dt, sl⟩, q1, q2, m, q3⟩ := id (show s.heap.IsTuple l vs from q)
    replace q2 : y = .type "tuple" := q2
    replace q3 : dt = .seq vs m := q3
    subst q2 q3;refine callType_new F.called_enumerate (by decide) (F.typeCall_enumerate_1 _) (F.newCall_enumerate_1 _) (λ obj => F.args_object_init_2 obj _) F.entry_enumerate_new (q8M l vs m dc sl) ⟨q1, ?_⟩;have n1 : (zH1 s.heap true l).objs.size = s.heap.objs.size + 1 := K4 ..;have e2 := x9 (zH1 s.heap true l) (o := { cls := .type "enumerate", data := .fields #[.none, .bool false, .ref s.heap.objs.size, rawInt 0, .none, .none] }) rfl;have e1 : ((zH1 s.heap true l).push { cls := .type "enumerate", data := .fields #[.none, .bool false, .ref s.heap.objs.size, rawInt 0, .none, .none] }).get? s.heap.objs.size = some (itO true l) := m5 _ (x9 _ rfl);have kp : ∀ b o, s.heap.get? b = some o -> ((zH1 s.heap true l).push { cls := .type "enumerate", data := .fields #[.none, .bool false, .ref s.heap.objs.size, rawInt 0, .none, .none] }).get? b = some o := λ b o e => m5 _ (m5 _ e)
    rw [n1] at e2;show _ /\ _;rw [n1];exact ⟨⟨_, e2, rfl⟩, h _ e2 (z0o e1 q kp) (by rw [K4, n1]) kp⟩
end
section
def Ite(K:PySem.W.Frag)(t:Bool)(a:Addr):It:=
  ⟨λi H=>∃xs x,SqD t K H a xs/\xs[i]? = some x,
   λi H x H'=>∃p v,x=.ref p/\H p=none/\(∀xs,SqD t K H a xs->xs[i]? = some v)/\H'=upd H p (.tup [.int i,v]),
   λi H=>∃xs,SqD t K H a xs/\xs.length<=i⟩
theorem z0f{P:Program}{w:World}{K:PySem.W.Frag}{elts:List Expr}{k:Nat}{pos:Pos}{n c l:Addr}(t:Bool)(d1:n≠c)(d2:l≠n)(d3:l≠c) :
  Turn P w K (.Tuple elts k pos) (Ite K t l) [n,c] n (λi h=>(∃old,IsEnum h n c (i:Nat) old)/\itK t h c l i) where
 mem:=by simp
 obj:=λi h st b hb=>by
  obtain⟨⟨old,hn⟩,h1⟩:=st;simp only[f9,F7,K6]at hb;rcases hb with rfl | rfl
  ·exact⟨_,hn,λv q=>by cases q⟩
  ·obtain⟨o,xs,e,d⟩:=q2g h1;exact⟨o,e,λv q=>by rw[d]at q;cases q⟩
 keep:=λi h h' st q=>by obtain⟨⟨old,hn⟩,h1⟩:=st;exact⟨⟨old,q n (by simp) _ hn⟩,q5g h1 λo e=>q c (by simp) o e⟩
 item:=by
  intro X hP hw hK hc i pins s σ H E I hf st hg;subst hP hw hK;obtain⟨⟨old,hn⟩,h1⟩:=st;obtain⟨xs,x,q1,hx⟩:=hg;obtain⟨its,rv,p⟩:=I.sqd q1;obtain⟨u,hu,ru⟩:=rv.get hx;refine q9O (q8S t d3) hn (q8B h1 p) (x:=u) (by simpa using hu) d1 d2 λh' a=>⟨_,rfl,?_⟩
  obtain⟨a1,a2,a3,a4,a5⟩:=a;refine wpAny_letOwnedTupleGo_enum a1 λh2 hn2 t2=>?_
  have hsz:s.heap.objs.size≠n:=Q8 (j8 hn);have keep:∀b o,b∉[n,c]->s.heap.get? b=some o->h2.get? b=some o:=λb o hb e=>t2.extBut _ _ (λq=>hb (by simp[q])) (a5 b o (λq=>hb (by simp[q])) (λq=>hb (by simp[q])) e);have I1:Inv X pins σ H {s with heap:=h2,toks:=s.toks+1}:=I.turnedL (t':=s.toks+1) keep hf;have hn':H s.heap.objs.size=none:=I.hok.fresh (j2 _);have f5:=I.fpOk (j2 _) hn';have new:h2.get? s.heap.objs.size=some {cls:=.type "tuple",data:=.seq #[.int i s.toks,u]}:=t2.extBut _ _ hsz a3;have h0:X.s₀.heap.get? s.heap.objs.size=none:=Z7 I.sz;have I2:Inv X pins σ (upd H s.heap.objs.size (.tup [.int i,x])) {s with heap:=h2,toks:=s.toks+1}:=I1.track hn' h0 f5.2.1 (λn c e=>f5.2.2.2.2.1 n c e) (λq hq=>f5.2.2.2.2.2 q hq)
   ⟨by show(2:Nat)<=sizeLine;decide,[.int i s.toks,u],.cons ⟨_,rfl⟩ (.cons ru .nil),_,new,⟨rfl,rfl⟩,_,rfl⟩
  refine⟨.ref s.heap.objs.size,_,I2,rfl,⟨_,x,rfl,hn',λxs' e=>by rw[I.sqd_inj e q1];exact hx,rfl⟩,⟨⟨_,by simpa using hn2⟩,q5g (q8r a2) λo e=>t2.extBut _ _ (Ne.symm d1) e⟩,λb hb=>?_⟩;have lt:b≠s.heap.objs.size:=by
   simp only[f9,F7,K6]at hb;rcases hb with rfl | rfl
   ·exact Ne.symm hsz
   ·obtain⟨o,_,e,_⟩:=q2g h1;exact B3 (j8 e)
  rw[j4 lt];exact(hf b hb).1
 done:=by
  intro X hP hw hK hc i pins s σ H E I hf st hg;subst hP hw hK;obtain⟨⟨old,hn⟩,h1⟩:=st;obtain⟨xs,q1,hx⟩:=hg;obtain⟨its,rv,p⟩:=I.sqd q1;have e1:=rv.length;exact q9k (I.ok.hd hc) (q8S t d3) hn (q8B h1 p) (by simp;omega) λh' a=>⟨rfl,I.turnedL (t':=s.toks) (ch:=[n,c]) (λb o hb e=>a b o (λq=>hb (by simp[q])) e) hf⟩
 self:=λ_ _ _ _ _ st h=>by obtain⟨⟨old,hn⟩,_⟩:=st;exact wpAny_pyIter_enum hn h
theorem q3g:∀(k:Nat) (xs:List DV),(enuD k xs).length=xs.length
 | _,[]=>rfl
 | k,x::xs=>by rw[enuD,m4,q3g (k+1) xs,m4]
theorem q8i:∀{k:Nat} {xs:List DV} {i:Nat} {d:DV},(enuD k xs)[i]? = some d->∃x,xs[i]? = some x/\d=.tup [.int ((k+i:Nat):Int),x]
 | _,[],_,_,h=>by simp[enuD]at h
 | k,x::xs,0,d,h=>by simp[enuD]at h;exact⟨x,rfl,h.symm⟩
 | k,x::xs,i+1,d,h=>by rw[enuD,w3F]at h;obtain⟨y,e1,e2⟩:=q8i h;exact⟨y,by simpa using e1,by rw[e2,show k+1+i=k+(i+1)from by omega]⟩
theorem Wk.enum(h:SqD t D.K (L2.wo Oc H1) a xs)(r:RepL D (L2.wo Oi H1) ds xs):Wk D (Ite D.K t a) (enuD 0 ds) Oc Oi H1 where
 go:=λi H s hi=>by rw[q3g]at hi;exact⟨xs,xs[i]'(by rw[r.length];omega),n9.sqd (s.sqd h),j3 _⟩
 same:=λi H x H' y=>by obtain⟨p,v,_,hp,_,e⟩:=y;rw[e];exact u6 hp
 yld:=λi H x H' d O2 s s' y e ho=>by
  obtain⟨p,v,ex,hp,y1,eH⟩:=y;obtain⟨d1,q1,rfl⟩:=q8i e;obtain⟨v1,z1,z2⟩:=r.get q1;have w1:=y1 xs (n9.sqd (s.sqd h));rw[z1]at w1;cases w1;have hpo:p∉O2:=λz=>(ho p z).1 hp
  subst eH;refine A9.mpr ⟨p,_,ex,SqT.of (by rw[j7 hpo];exact w6),?_⟩;have up:Same (L2.wo Oi H1) (L2.wo O2 (upd H p (.tup [.int i,v]))):=(q7u s' ho).trans (u6 hp).wo;exact p8.mpr ⟨_,_,rfl,u9.mpr (by rw[X1]),RepL.one (z2.mono up)⟩
 stop:=λH s=>⟨xs,n9.sqd (s.sqd h),by rw[q3g,r.length];exact j2 _⟩
section
variable {X:Cx} {E:St->XK} {δ:List Sv} {e:Expr} {elts:List Expr} {k:Nat} {tpos pos p:Pos} {ra:Option Re} {ri:Ri}
theorem q4D(h:a<n):n+1≠n/\a≠n+1/\a≠n:=by omega
theorem q8E:bootBuiltins "enumerate" = some (.type "enumerate"):=by decide +kernel
theorem z7o(hg:Gl X "enumerate")(hm:X.mg "enumerate" = none)(ha:PA X [e] ta)(hs:j6 e=false) :
  PI X (.Tuple elts k tpos) (.Call (.Name "enumerate" p) [e] [] pos) (λσ H R=>ta σ H λvs H1=>∃t a,vs=[.ref a]/\(∃xs,SqD t X.K H1 a xs)/\R (Ite X.K t a) H1):=by
 intro pins s σ H R I h;refine Call_ (q5j I hg hm q8E (w1T (thn (ha pos pins s σ H _ I h) λus s1 ⟨vs,H1,I1,r1,q1⟩=>?_) (by rw[u3 hs]) (q1I [] (by simp))));obtain⟨t,a,e1,⟨xs,hx⟩,q⟩:=q1;subst e1;obtain⟨u,rfl,ru⟩:=r1.one;cases ru;obtain⟨its,rv,p1⟩:=I1.sqd hx;have la:=p1.lt;refine q8t t p1 λh' z1 z4 z6 z7=>?_
 have I2:Inv X pins σ H1 {s1 with heap:=h'}:=I1.kept (t':=s1.toks) z7;refine wpAny_pyIter_enum z1 ⟨s1.heap.objs.size+1,[s1.heap.objs.size+1,s1.heap.objs.size],_,_,H1,rfl,I2,
  z0f (l:=a) t (q4D la).1 (q4D la).2.1 (q4D la).2.2,⟨⟨_,z1⟩,q8r z4⟩,λc hc=>?_,q⟩
 have hc':s1.heap.objs.size<=c:=by
  simp only[f9,F7,K6]at hc;rcases hc with rfl | rfl
  ·exact w2o ..
  ·exact j2 _
 exact I1.fpOk hc' (I1.hok.fresh hc')
theorem z3j(hg:Gl X "enumerate")(hm:X.mg "enumerate" = none)(hs:j6 e=false)(ha:∀q,ra=some q->PE X e (dE X.D E δ q))
  (h:o5 (Re.thn ra λx c=>X8 x c)=some ri):PI X (.Tuple elts k tpos) (.Call (.Name "enumerate" p) [e] [] pos) (dI X.D E δ ri):=by
 have C:=λta (hA:PE X e ta)=>z7o (elts:=elts) (k:=k) (tpos:=tpos) (p:=p) (pos:=pos) hg hm (G1 hA O8 (u3 hs)) hs;cases hra:ra with
 | none=>rw[hra]at h;cases h
 | some q=>
  rw[hra]at h;have A:=ha q hra;cases q with
  | ex c=>cases h;exact(C _ A).weak λσ H R' ⟨O,W,R,p⟩=>⟨O,W,R,p⟩
  | ok dx cx=>
   have h':o5 (X8 dx cx)=some ri:=h;unfold X8 at h';split at h'
   ·rename_i t1 ds1 k1;cases h';exact(C _ A).weak λσ H R' ⟨O,W,R,p⟩=>⟨O,W,R,λx H1 s1 g1=>by
     have hd:=R.hid.mono s1;obtain⟨a,xs,e1,e2,e3⟩:=q4v k1 g1 hd;exact⟨t1,a,by rw[e1],⟨xs,n9.sqd e2⟩,p _ H1 s1 (.enum ((x6 q5n).sqd e2) (e3.mono (x6 q3o)))⟩⟩
   ·cases h'
end
end
section
def dEnd(D:Dm)(E:St->XK)(H0:Hp)(O:List Addr)(Dn:Ends):Out->Prop
 | .nx δ=>∀σ H W,RSt D H σ δ O W->(∀a∈W,H0 a=none)->Same H0 H->Dn.nx σ H
 | .rt d fr=>∀v H,Same H0 H->GotR D O H0 H d fr v->Dn.rt v H
 | .rtt d=>∀v H,Same H0 H->GotT D O H0 H d v->Dn.rt v H
 | .ex c δ=>∀σ H W C,D.mg c=some C->RSt D H σ δ O W->(∀a∈W,H0 a=none)->Same H0 H->E σ C none H
def dS(D:Dm)(E:St->XK)(δ:List Sv)(o:Out):TS:=λDn σ H=>∃H0 O W,RSt D H σ δ O W/\(∀a∈W,H0 a=none)/\(∀a∈O,H0 a≠none)/\Same H0 H/\dEnd D E H0 O Dn o
section
variable {X:Cx} {E:St->XK} {δ δ1:List Sv} {st:Stmt} {rest body els:List Stmt} {o:Out} {e c:Expr} {pos pos':Pos} {ra:Option Re} {rt:Option Rt} {i:Nat} {x:Str}
theorem z5G:PSs X [] (dS X.D E δ (.nx δ)):=z4G.weak λDn σ H ⟨H0,O,W,R,fr,fo,sm,k⟩=>k σ H W R fr sm
theorem z2A(h1:PS X st (dS X.D E δ (.nx δ1)))(h2:PSs X rest (dS X.D E δ1 o)):PSs X (st::rest) (dS X.D E δ o):=
 (q4d h1 h2).weak λDn σ H ⟨H0,O,W,R,fr,fo,sm,k⟩=>⟨H0,O,W,R,fr,fo,sm,λσ' H' W' R' fr' sm'=>⟨H0,O,W',R',fr',fo,sm',k⟩⟩
theorem z7J(h1:PS X st (dS X.D E δ (.rt d fr))):PSs X (st::rest) (dS X.D E δ (.rt d fr)):=
 (q4d h1 X5).weak λDn σ H ⟨H0,O,W,R,fr,fo,sm,k⟩=>⟨H0,O,W,R,fr,fo,sm,k⟩
theorem z6q(h1:PS X st (dS X.D E δ (.rtt d))):PSs X (st::rest) (dS X.D E δ (.rtt d)):=
 (q4d h1 X5).weak λDn σ H ⟨H0,O,W,R,fr,fo,sm,k⟩=>⟨H0,O,W,R,fr,fo,sm,k⟩
theorem z9J{c:Str}{δ':List Sv}(h1:PS X st (dS X.D E δ (.ex c δ'))):PSs X (st::rest) (dS X.D E δ (.ex c δ')):=
 (q4d h1 X5).weak λDn σ H ⟨H0,O,W,R,fr,fo,sm,k⟩=>⟨H0,O,W,R,fr,fo,sm,k⟩
theorem P6{D:Dm}{H0 H:Hp}{O W:List Addr}{σ:St}{Dn:Ends}{c:Str}{Q:VK}(R:RSt D H σ δ O W)(fr:∀a∈W,H0 a=none)(sm:Same H0 H)(k:dEnd D E H0 O Dn (.ex c δ)):Post D E σ O W H H Q (.ex c):=
 λH' C m s=>k σ H' W C m (R.mono s) fr (sm.trans s)
theorem z8j(hc:∀q,rt=some q->PT X c (dT X.D E δ q))(h1:∀q,ro=some q->PSs X body (dS X.D E δ q))(h2:∀q,rp=some q->PSs X els (dS X.D E δ q))(h:(Rt.thnS δ rt λk=>if k then ro else rp)=some o):PS X (.If c body els pos) (dS X.D E δ o):=by
 cases hrt:rt with
 | none=>rw[hrt]at h;cases h
 | some q=>
  rw[hrt]at h;have C:=hc q hrt;cases q with
  | ex c=>cases h;exact(z5W C X5 X5).weak λDn σ H ⟨H0,O,W,R,fr,fo,sm,k⟩=>⟨O,W,R,λH' C m s=>k σ H' W C m (R.mono s) fr (sm.trans s)⟩
  | ok b=>
   cases b with
   | true=>
    have h':ro=some o:=h;exact(z5W C (h1 o h') X5).weak λDn σ H ⟨H0,O,W,R,fr,fo,sm,k⟩=>⟨O,W,R,λH1 s1=>iteT ⟨H0,O,W,R.mono s1,fr,fo,sm.trans s1,k⟩⟩
   | false=>
    have h':rp=some o:=h;exact(z5W C X5 (h2 o h')).weak λDn σ H ⟨H0,O,W,R,fr,fo,sm,k⟩=>⟨O,W,R,λH1 s1=>iteF ⟨H0,O,W,R.mono s1,fr,fo,sm.trans s1,k⟩⟩
theorem z5m(ha:∀q,ra=some q->PE X e (dE X.D E δ q))(h:(Re.thnS δ ra λd c=>some (retD d c))=some o):PS X (.Return (some e) pos) (dS X.D E δ o):=by
 cases hra:ra with
 | none=>rw[hra]at h;cases h
 | some q=>
  rw[hra]at h;have A:=ha q hra;cases q with
  | ex c=>cases h;exact(q5r A).weak λDn σ H ⟨H0,O,W,R,fr,fo,sm,k⟩=>⟨O,W,R,P6 R fr sm k⟩
  | ok d cl=>
   have h2:some (retD d cl)=some o:=h;cases h2;by_cases hft:cl=.ft
   ·subst hft;refine(q5r A).weak λDn σ H ⟨H0,O,W,R,fr,fo,sm,k⟩=>⟨O,W,R,λv H1 s1 g=>(k:dEnd X.D E H0 O Dn (.rtt d)) v H1 (sm.trans s1) ?_⟩
    obtain⟨t,ts,p,xs,ds,es,e1,e2,e0,e3,e4,e5,e6⟩:=g;have up:Same (L2.wo (p::(O++W)) H1) (L2.wo (p::O) H1):=x6 λb hb=>by rcases f9.mp hb with z | z;exact f9.mpr (.inl z);exact i6 _ (u4 _ z)
    exact .inl ⟨t,ts,p,xs,ds,es,e1,e2,(x6 R8).tseq e0,sm.free e3,e4,e5.mono up,e6.mono up⟩
   have hrt:retD d cl=.rt d (frD d cl):=by cases cl<;>first | rfl | exact absurd rfl hft
   rw[hrt];refine(q5r A).weak λDn σ H ⟨H0,O,W,R,fr,fo,sm,k⟩=>⟨O,W,R,λv H1 s1 g=>(k:dEnd X.D E H0 O Dn (.rt d (frD d cl))) v H1 (sm.trans s1) ?_⟩
   have hd:=R.hid.mono s1;cases hf:frD d cl with
   | false=>exact g.weak hd
   | true=>
    unfold frD at hf;split at hf
    ·obtain⟨p,xs,ds,e1,e2,e3,e4,e5⟩:=g;exact⟨p,xs,ds,e1,e2,sm.free e3,e4,e5.mono (x6 λb hb=>by rcases f9.mp hb with z | z;exact f9.mpr (.inl z);exact i6 _ (u4 _ z))⟩
    ·obtain⟨a,xs,e1,e0,e2,e3⟩:=g;exact⟨a,xs,_,e1,rfl,fr a e0,n9 _ _ e2,e3.mono (x6 λb hb=>by rcases f9.mp hb with z | z;rw[z];exact u7 _ e0;exact u4 _ z)⟩
    ·cases hf
theorem q2k(h:V2 v=false):swapsWith v t l env=pure false:=by
 cases v<;>first | rfl | cases h
theorem z6u(ha:∀q,ra=some q->PE X e (dE X.D E δ q))(hc:V2 e=false)(h:(Re.thnS δ ra λ_ _=>some (.nx δ))=some o):PS X (.Expr e pos) (dS X.D E δ o):=by
 cases hra:ra with
 | none=>rw[hra]at h;cases h
 | some q=>
  rw[hra]at h;have A:=ha q hra;cases q with
  | ex c=>cases h;exact(q4L A (q2k hc)).weak λDn σ H ⟨H0,O,W,R,fr,fo,sm,k⟩=>⟨O,W,R,P6 R fr sm k⟩
  | ok d cl=>cases h;exact(q4L A (q2k hc)).weak λDn σ H ⟨H0,O,W,R,fr,fo,sm,k⟩=>⟨O,W,R,λv H1 s1 g=>k σ H1 W (R.mono s1) fr (sm.trans s1)⟩
theorem T4{O W:List Addr}{p b:Addr}:b∈O++p::W↔b∈p::(O++W):=by
 simp only[y0,f9];constructor
 ·rintro(h | h | h)
  ·exact .inr (.inl h)
  ·exact .inl h
  ·exact .inr (.inr h)
 ·rintro(h | h | h)
  ·exact .inr (.inl h)
  ·exact .inl h
  ·exact .inr (.inr h)
theorem j0{α:Type}{l:List α}{i j:Nat}{a b:α}(h:(l.set i a)[j]? = some b)(hn:a≠b):j≠i:=λz=>by
 subst z;have hl:j<l.length:=by have:=(w9.mp h).1;rw[u0]at this;exact this
 rw[C8 hl]at h;exact hn (F1 h)
theorem N9{α:Type}{l:List α}{i:Nat}{a b:α}(h:(l.set i a)[i]? = some b):i<l.length/\a=b:=by
 have hl:i<l.length:=(by have:=(w9.mp h).1;rw[u0]at this;exact this);rw[C8 hl]at h;exact⟨hl,F1 h⟩
theorem RSt.alloc(R:RSt D H σ δ O W)(s:Same H H')(hp:H p=none)(hp':H' p=some (.lst xs))(r:RepL D (L2.wo (p::(O++W)) H') ds xs)(i:Nat) :
  RSt D H' (σ.set i (some (.ref p))) (δ.set i (.own (.lst ds))) O (p::W):=by
 have old:Same (L2.wo (O++W) H) (L2.wo (O++p::W) H'):=λb o e=>by obtain⟨hb,e⟩:=B7 e;have hbp:b≠p:=G0 e hp;rw[j7 (λz=>by rcases f9.mp (T4.mp z)with z | z;exact hbp z;exact hb z)];exact s b o e
 have eqv:Same (L2.wo (p::(O++W)) H') (L2.wo (O++p::W) H'):=x6 λb hb=>T4.mp hb;refine⟨λj d h=>?_,λj ds' h=>?_,λj k a d1 d2 h1 h2 e1 e2=>?_,?_,λj d h=>by
   have hj:=j0 h (by intro z;cases z);rw[d6 (Ne.symm hj)]at h ⊢;obtain⟨⟨p1,L,e0,e1,e2,e3⟩,u,n⟩:=R.o2 j d h;refine⟨⟨p1,L,e0,e1,(e2.mono s).sub λa _ ha=>i6 _ ha,λk d2 a q q2=>?_⟩,λk d2 q=>?_,λk d2 q=>?_⟩
   ·by_cases hk:k=i
    ·subst hk;obtain⟨_,z⟩:=N9 q2;cases z;intro z;obtain⟨_,ys,w⟩:=e2.dom z;rw[hp]at w;cases w
    ·rw[d6 (Ne.symm hk)]at q q2;exact e3 k d2 a q q2
   ·have hk:=j0 q (by intro z;cases z);rw[d6 (Ne.symm hk)]at q;exact u k d2 q
   ·have hk:=j0 q (by intro z;cases z);rw[d6 (Ne.symm hk)]at q;exact n k d2 q,R.od.step (q5c _ (by intro d z;cases z)) (λ_ h _=>i6 _ h) (λa kvs _ h _=>s _ _ h),by rw[u0,u0];exact R.len,⟨λa ha=>?_,Same.refl _,λa ha=>?_,λa ha=>?_,R.hid.omS s⟩⟩
 ·have hj:=j0 h (by intro z;cases z);rw[d6 (Ne.symm hj)]at h ⊢;obtain⟨v,e1,e2⟩:=R.val j d h;exact⟨v,e1,e2.mono old⟩
 ·by_cases hj:j=i
  ·subst hj;obtain⟨hl,e⟩:=N9 h;cases e;exact⟨p,xs,ds,rfl,C8 (by rw[R.len];exact hl),j5,hp',r.mono eqv⟩
  ·rw[d6 (Ne.symm hj)]at h ⊢;obtain⟨a,ys,ds1,e0,e1,e2,e3,e4⟩:=R.own j ds' h;exact⟨a,ys,ds1,e0,e1,i6 _ e2,s _ _ e3,e4.mono old⟩
 ·have key:∀{j:Nat} {d1:DV},(δ.set i (.own (.lst ds)))[j]? = some (.own d1)->(σ.set i (some (.ref p)))[j]? = some (some (V.ref a))->(j=i/\a=p)\/(j≠i/\δ[j]? = some (.own d1)/\σ[j]? = some (some (V.ref a))/\a≠p):=λ{j d1} h e=>by
   by_cases hj:j=i
   ·subst hj;obtain⟨_,z⟩:=N9 e;cases z;exact .inl ⟨rfl,rfl⟩
   ·rw[d6 (Ne.symm hj)]at h e;refine .inr ⟨hj,h,e,λz=>?_⟩;obtain⟨a',ys,ds1,_,q1,_,q3,_⟩:=R.own j d1 h;rw[e]at q1;cases q1;rw[z,hp]at q3;cases q3
  rcases key h1 e1 with⟨z1,z2⟩ | ⟨z1,z2,z3,z4⟩<;>rcases key h2 e2 with⟨y1,y2⟩ | ⟨y1,y2,y3,y4⟩
  ·rw[z1,y1]
  ·exact absurd z2 y4
  ·exact absurd y2 z4
  ·exact R.inj j k a d1 d2 z2 y2 z3 y3
 ·obtain⟨P,f,u⟩:=R.ot;refine⟨P,λj d h=>?_,λj k d1 d2 h1 h2=>?_⟩
  ·have hj:=j0 h (by intro z;cases z);rw[d6 (Ne.symm hj)]at h ⊢;obtain⟨t,ts,e1,e2,e3,e4⟩:=f j d h;refine⟨t,ts,e1,old.tseq e2,e3.mono old λp1 _ ys q=>s _ _ q,λp1 hp1=>⟨i6 _ (e4 p1 hp1).1,(e4 p1 hp1).2.1.imp λys q=>s _ _ q,λk d2 q=>?_⟩⟩;by_cases hk:k=i
   ·subst hk;intro z;obtain⟨_,z⟩:=N9 z;obtain⟨ys,y⟩:=(e4 p1 hp1).2.1;cases z;rw[hp]at y;cases y
   ·rw[d6 (Ne.symm hk)]at q ⊢;exact(e4 p1 hp1).2.2 k d2 q
  ·rw[d6 (Ne.symm (j0 h1 (by intro z;cases z)))]at h1;rw[d6 (Ne.symm (j0 h2 (by intro z;cases z)))]at h2;exact u j k d1 d2 h1 h2
 ·rcases f9.mp (T4.mp ha)with z | z
  ·rw[z,hp'];intro q;cases q
  ·intro q;exact R.hid.ot a z (s.free q)
 ·rcases f9.mp ha with z | z
  ·exact⟨_,by rw[z];exact hp',rfl⟩
  ·obtain⟨ys,q,m⟩:=R.hid.wl a z;exact⟨ys,s _ _ q,m⟩
 ·rcases f9.mp ha with z | z
  ·intro q;exact R.hid.ot p (u4 _ (by rw[←z];exact q)) hp
  ·exact R.hid.dj a z
theorem z1d(h:noOt i δ=true)(q:δ[j]? = some (.ot d)):j=i:=by
 unfold noOt at h;rw[D6]at h;have hj:j<δ.length:=(w9.mp q).1;have:=h j (p0.mpr hj);rw[q]at this;simpa using this
theorem z0z(h:noOt i δ=true)(q:δ[j]? = some (.o2 d)):j=i:=by
 unfold noOt at h;rw[D6]at h;have hj:j<δ.length:=(w9.mp q).1;have:=h j (p0.mpr hj);rw[q]at this;simpa using this
theorem z0H(h:noOt i δ=true)(q:δ[j]? = some (.od d)):j=i:=by
 unfold noOt at h;rw[D6]at h;have hj:j<δ.length:=(w9.mp q).1;have:=h j (p0.mpr hj);rw[q]at this;simpa using this
theorem RSt.allocT(R:RSt D H σ δ O W)(s:Same H H')(ht:SqT D.K (L2.wo (O++W) H') t (.ref p::ts))(hp:H p=none)(hp':H' p=some (.lst xs))(r:RepL D (L2.wo (p::(O++W)) H') ds xs)(r2:RepL D (L2.wo (p::(O++W)) H') es ts)(i:Nat)(hno:noOt i δ=true) :
  RSt D H' (σ.set i (some (.ref t))) (δ.set i (.ot (.tup (.lst ds::es)))) O (p::W):=by
 have old:Same (L2.wo (O++W) H) (L2.wo (O++p::W) H'):=λb o e=>by obtain⟨hb,e⟩:=B7 e;have hbp:b≠p:=G0 e hp;rw[j7 (λz=>by rcases f9.mp (T4.mp z)with z | z;exact hbp z;exact hb z)];exact s b o e
 have eqv:Same (L2.wo (p::(O++W)) H') (L2.wo (O++p::W) H'):=x6 λb hb=>T4.mp hb;have ht':SqT D.K (L2.wo (O++p::W) H') t (.ref p::ts):=by
  have ne:∀{o:HO},L2.wo (O++W) H' t=some o->(∀ys,o ≠ .lst ys)->L2.wo (O++p::W) H' t=some o:=λ{o} e ho=>by
   obtain⟨hb,e⟩:=B7 e;rw[j7 (λz=>by
    rcases f9.mp (T4.mp z)with z | z
    ·rw[z,hp']at e;cases e;exact ho _ rfl
    ·exact hb z)]
   exact e
  rcases ht with(h | ⟨o,h⟩) | h
  ·exact .inl (.inl (ne h (by intro ys z;cases z)))
  ·exact .inl (.inr ⟨o,ne h (by intro ys z;cases z)⟩)
  ·exact .inr h
 refine⟨λj d h=>?_,λj ds' h=>?_,λj k a d1 d2 h1 h2 e1 e2=>?_,?_,λj d h=>absurd (z0z hno (by have hj:=j0 h (by intro z;cases z);rw[d6 (Ne.symm hj)]at h;exact h)) (j0 h (by intro z;cases z)),R.od.step (q5c _ (by intro d z;cases z)) (λ_ h _=>i6 _ h) (λa kvs _ h _=>s _ _ h),by rw[u0,u0];exact R.len,⟨λa ha=>?_,Same.refl _,λa ha=>?_,λa ha=>?_,R.hid.omS s⟩⟩
 ·have hj:=j0 h (by intro z;cases z);rw[d6 (Ne.symm hj)]at h ⊢;obtain⟨v,e1,e2⟩:=R.val j d h;exact⟨v,e1,e2.mono old⟩
 ·have hj:=j0 h (by intro z;cases z);rw[d6 (Ne.symm hj)]at h ⊢;obtain⟨a,ys,ds1,e0,e1,e2,e3,e4⟩:=R.own j ds' h;exact⟨a,ys,ds1,e0,e1,i6 _ e2,s _ _ e3,e4.mono old⟩
 ·have n1:=j0 h1 (by intro z;cases z);have n2:=j0 h2 (by intro z;cases z);rw[d6 (Ne.symm n1)]at h1 e1;rw[d6 (Ne.symm n2)]at h2 e2;exact R.inj j k a d1 d2 h1 h2 e1 e2
 ·have at':∀{j:Nat} {d:DV},(δ.set i (.ot (.tup (.lst ds::es))))[j]? = some (.ot d)->j=i:=λ{j d} h=>by
   by_cases hj:j=i
   ·exact hj
   ·rw[d6 (Ne.symm hj)]at h;exact z1d hno h
  refine⟨λ_=>[p],λj d h=>?_,λj k d1 d2 h1 h2 ne=>absurd ((at' h1).trans (at' h2).symm) ne⟩;have hj:=at' h;subst hj;obtain⟨hl,e⟩:=N9 h;cases e;refine⟨t,_,C8 (by rw[R.len];exact hl),ht',.inl ⟨p,xs,ds,es,ts,rfl,rfl,rfl,hp',r.mono eqv,r2.mono eqv⟩,λp1 hp1=>?_⟩;rw[D0.mp hp1];refine⟨j5,⟨xs,hp'⟩,λk d2 q=>?_⟩;have hk:=j0 q (by intro z;cases z);rw[d6 (Ne.symm hk)]at q ⊢;intro z;obtain⟨a,ys,ds1,f0,f1,f2,f3,f4⟩:=R.own k d2 q;rw[z]at f1;cases f1;rw[hp]at f3;cases f3
 ·rcases f9.mp (T4.mp ha)with z | z
  ·rw[z,hp'];intro q;cases q
  ·intro q;exact R.hid.ot a z (s.free q)
 ·rcases f9.mp ha with z | z
  ·exact⟨_,by rw[z];exact hp',rfl⟩
  ·obtain⟨ys,q,m⟩:=R.hid.wl a z;exact⟨ys,s _ _ q,m⟩
 ·rcases f9.mp ha with z | z
  ·intro q;exact R.hid.ot p (u4 _ (by rw[←z];exact q)) hp
  ·exact R.hid.dj a z
theorem RSt.write(R:RSt D H σ δ O W)(hi:δ[i]? = some (.own (.lst ds)))(ha:σ[i]? = some (some (.ref a)))(r:RepL D (L2.wo (O++W) H) ds' xs') :
  RSt D (upd H a (.lst xs')) σ (δ.set i (.own (.lst ds'))) O W:=by
 obtain⟨a',xs,ds0,e0,e1,e2,e3,e4⟩:=R.own i _ hi;rw[ha]at e1;cases e1;have old:Same (L2.wo (O++W) H) (L2.wo (O++W) (upd H a (.lst xs'))):=λb o e=>by obtain⟨hb,e⟩:=B7 e;rw[j7 hb,j4 λz=>hb (by rw[z];exact u7 _ e2)];exact e
 have hl:i<δ.length:=(w9.mp hi).1;refine⟨λj d h=>?_,λj ds'' h=>?_,λj k b d1 d2 h1 h2 q1 q2=>?_,?_,λj d h=>by
   have hj:=j0 h (by intro z;cases z);rw[d6 (Ne.symm hj)]at h;obtain⟨⟨p1,L,f0,f1,f2,f3⟩,u,n⟩:=R.o2 j d h;refine⟨⟨p1,L,f0,f1,f2.write (f3 i _ a hi ha),λk d2 b q q2=>?_⟩,λk d2 q=>?_,λk d2 q=>?_⟩
   ·by_cases hk:k=i
    ·subst hk;exact f3 k _ b hi q2
    ·rw[d6 (Ne.symm hk)]at q;exact f3 k d2 b q q2
   ·have hk:=j0 q (by intro z;cases z);rw[d6 (Ne.symm hk)]at q;exact u k d2 q
   ·have hk:=j0 q (by intro z;cases z);rw[d6 (Ne.symm hk)]at q;exact n k d2 q,R.od.step (z1q (by intro d z;cases z)) (λ_ h _=>h) (λb kvs _ h m=>by rw[j4 (λz=>by rw[z,e3]at h;cases h;cases m)];exact h),by rw[u0];exact R.len,⟨λb hb q=>?_,Same.refl _,λb hb=>?_,R.hid.dj,R.hid.omW (by assumption)⟩⟩
 ·have hj:=j0 h (by intro z;cases z);rw[d6 (Ne.symm hj)]at h;obtain⟨v,q1,q2⟩:=R.val j d h;exact⟨v,q1,q2.mono old⟩
 ·by_cases hj:j=i
  ·subst hj;obtain⟨_,e⟩:=N9 h;cases e;exact⟨a,xs',ds',rfl,ha,e2,w6,r.mono old⟩
  ·rw[d6 (Ne.symm hj)]at h;obtain⟨b,ys,ds1,q0,q1,q2,q3,q4⟩:=R.own j ds'' h;refine⟨b,ys,ds1,q0,q1,q2,?_,q4.mono old⟩;rw[j4 λz=>hj (R.inj j i a ds'' _ h hi (by rw[←z];exact q1) ha)];exact q3
 ·have key:∀{j:Nat} {d1:DV},(δ.set i (.own (.lst ds')))[j]? = some (.own d1)->∃d0,δ[j]? = some (.own d0):=λ{j d1} h=>by
   by_cases hj:j=i
   ·subst hj;exact⟨_,hi⟩
   ·rw[d6 (Ne.symm hj)]at h;exact⟨d1,h⟩
  obtain⟨d1',z1⟩:=key h1;obtain⟨d2',z2⟩:=key h2;exact R.inj j k b d1' d2' z1 z2 q1 q2
 ·obtain⟨P,f,u⟩:=R.ot;refine⟨P,λj d h=>?_,λj k d1 d2 h1 h2=>?_⟩
  ·have hj:=j0 h (by intro z;cases z);rw[d6 (Ne.symm hj)]at h;obtain⟨t,ts,f1,f2,f3,f4⟩:=f j d h;have un:∀p1∈P j,∀ys,H p1=some (.lst ys)->upd H a (.lst xs') p1=some (.lst ys):=λp1 hp1 ys q=>by
    rw[j4 λz=>(f4 p1 hp1).2.2 i _ hi (by rw[z];exact ha)];exact q
   refine⟨t,ts,f1,old.tseq f2,f3.mono old un,λp1 hp1=>⟨(f4 p1 hp1).1,(f4 p1 hp1).2.1.imp λys q=>un p1 hp1 ys q,λk d2 q=>?_⟩⟩;by_cases hk:k=i
   ·subst hk;exact(f4 p1 hp1).2.2 k _ hi
   ·rw[d6 (Ne.symm hk)]at q;exact(f4 p1 hp1).2.2 k d2 q
  ·rw[d6 (Ne.symm (j0 h1 (by intro z;cases z)))]at h1;rw[d6 (Ne.symm (j0 h2 (by intro z;cases z)))]at h2;exact u j k d1 d2 h1 h2
 ·by_cases hba:b=a
  ·rw[hba,w6]at q;cases q
  ·rw[j4 hba]at q;exact R.hid.ot b hb q
 ·by_cases hba:b=a
  ·exact⟨_,by rw[hba];exact w6,rfl⟩
  ·obtain⟨ys,q,m⟩:=R.hid.wl b hb;exact⟨ys,by rw[j4 hba];exact q,m⟩
theorem q1J{H0 H:Hp}{a:Addr}{o:HO}(h:Same H0 H)(ha:H0 a=none):Same H0 (upd H a o):=λb u e=>by
 rw[j4 (G0 e ha)];exact h b u e
theorem z3N{Dn:Ends}{σ:St}{H H0:Hp}{O W:List Addr}{own:Bool}{d:DV}{cl:Cl}{D:Dm}(h:(if own then X9 i δ d cl else(if stro d cl then some (.nx (δ.set i (.val d)))else none))=some o)
  (R:RSt D H σ δ O W) (fr:∀a∈W,H0 a=none) (sm:Same H0 H) (k:dEnd D E H0 O Dn o):∀v H',Same H H'->Got D O W H H' d cl v->Dn.nx (σ.set i (some v)) H':=λv H1 s1 g=>by
 cases own with
 | true=>
  simp only[if_true]at h;unfold X9 at h;split at h
  ·cases h;obtain⟨p,xs,ds,e1,e2,e3,e4,e5⟩:=g;subst e1 e2;exact k _ H1 (p::W) (R.alloc s1 e3 e4 e5 i) (λa ha=>by
    rcases f9.mp ha with z | z
    ·rw[z];exact sm.free e3
    ·exact fr a z) (sm.trans s1)
  ·split at h
   ·rename_i hno;cases h;obtain⟨t,ts,p,xs,ds,es,e1,e2,e0,e3,e4,e5,e6⟩:=g;subst e1 e2;exact k _ H1 (p::W) (R.allocT s1 e0 e3 e4 e5 e6 i hno) (λa ha=>by
     rcases f9.mp ha with z | z
     ·rw[z];exact sm.free e3
     ·exact fr a z) (sm.trans s1)
   ·cases h
  ·cases h
 | false=>
  simp only[Bool.false_eq_true,if_false]at h;split at h
  ·rename_i m;cases h;exact k _ H1 W ((R.mono s1).setVal (g.stro (R.hid.mono s1) m) i) fr (sm.trans s1)
  ·cases h
theorem z0V{own:Bool}(hN:X.N.Nodup)(hi:X.N[i]? = some x)(hx:Loc X.env.scope x)(hf:X.fn x=true\/X.env.scope.names.lookup x=some .local)(ha:∀q,ra=some q->PE X e (dE X.D E δ q))(hc:swapsWith e (some (.Name x pos')) pos.line X.env=pure false)
  (h:(Re.thnS δ ra λd c=>if own then X9 i δ d c else(if stro d c then some (.nx (δ.set i (.val d)))else none))=some o):PS X (.Assign [.Name x pos'] e pos) (dS X.D E δ o):=by
 cases hra:ra with
 | none=>rw[hra]at h;cases h
 | some q=>
  rw[hra]at h;have A:=ha q hra;cases q with
  | ex c=>cases h;exact(q6a hN hi hx A hc hf).weak λDn σ H ⟨H0,O,W,R,fr,fo,sm,k⟩=>⟨O,W,R,P6 R fr sm k⟩
  | ok d cl=>exact(q6a hN hi hx A hc hf).weak λDn σ H ⟨H0,O,W,R,fr,fo,sm,k⟩=>⟨O,W,R,z3N h R fr sm k⟩
theorem q7i{own:Bool}{tgE iter elt:Expr}{ifs:List Expr}{scope:Scope}{N':List Str}{fr:List (Option Nat)}{tg:Tg}{re:Re}(S:CompScope X.N N' scope X.env.scope fr)(hc:X.calm=true)(hN:X.N.Nodup)(hi:X.N[i]? = some x)(hx:X.env.scope.names.lookup x=some .local)
  (P:V7 X E δ tgE iter ifs elt scope N' fr tg re) (hG:∀C cells s₂ H₂ fp,PG (t9 X scope N' C cells s₂ H₂ fp) tgE (gT X.K tg)) (hset:G7 iter=false) {cpos:Pos} (hsw:swapsWith (.ListComp elt [⟨tgE,iter,ifs,0⟩] scope cpos) (some (.Name x pos')) pos.line X.env=pure true)
  (h:(Re.thnS δ (some re) λd c=>if own then X9 i δ d c else(if stro d c then some (.nx (δ.set i (.val d)))else none))=some o):PS X (.Assign [.Name x pos'] (.ListComp elt [⟨tgE,iter,ifs,0⟩] scope cpos) pos) (dS X.D E δ o):=by
 obtain⟨wi,tc,te,h1,h2,h3,h4⟩:=P;refine(q8w S hc hN hi hx h1 hG h2 h3 hsw (q5u hset)).weak λDn σ H ⟨H0,O,W,R,fr,fo,sm,k⟩=>h4 σ H _ ⟨O,W,R,?_⟩
 cases re with
 | ex c=>cases h;exact P6 R fr sm k
 | ok d cl=>exact z3N h R fr sm k
theorem q8Q(hv:PE X (.Name x npos) (tVar i))(he:∀q,ra=some q->PE X e (dE X.D E δ q))(hs:j6 e=false)(hline:(apos.endLine==cpos.line)=true)
  (h:(match δ[i]? with
   | some (.own (.lst ds))=>Re.thnS δ ra λd c=>if stro d c/\ds.length<mostLen then some (.nx (δ.set i (.own (.lst (ds++[d])))))else none
   | _=>none)=some o):PS X (.Expr (.Call (.Attribute (.Name x npos) "append" apos) [e] [] cpos) pos) (dS X.D E δ o):=by
 split at h
 ·rename_i ds hi;have C:=λt (hA:PE X e t)=>q4L (pos:=pos) (z6b w2C w3z w3A q6r hv (G1 hA O8 (u3 hs)) rfl (by rw[u3 hs];rfl) hline (u3 hs) rfl) rfl
  cases hra:ra with
  | none=>rw[hra]at h;cases h
  | some q=>
   rw[hra]at h;have A:=he q hra;cases q with
   | ex c=>
    cases h;exact(C _ A).weak λDn σ H ⟨H0,O,W,R,fr,fo,sm,k⟩=>by obtain⟨a,xs,ds0,e0,e1,e2,e3,e4⟩:=R.own i _ hi;exact⟨.ref a,e1,.inl ⟨rfl,xs,SqL.of e3⟩,O,W,R,P6 (Q:=λ_ _=>False) R fr sm k⟩
   | ok d cl=>
    have h':(if stro d cl/\ds.length<mostLen then some (Out.nx (δ.set i (.own (.lst (ds++[d])))))else none)=some o:=h;split at h'
    ·rename_i m;cases h';exact(C _ A).weak λDn σ H ⟨H0,O,W,R,fr,fo,sm,k⟩=>by obtain⟨a,xs,ds0,e0,e1,e2,e3,e4⟩:=R.own i _ hi;cases e0;refine⟨.ref a,e1,.inl ⟨rfl,xs,SqL.of e3⟩,O,W,R,λv H1 s1 g=>?_⟩;have R1:=R.mono s1;refine⟨a,xs,v,rfl,rfl,s1 _ _ e3,by rw[e4.length];exact x4 m.2 (by decide),?_⟩;exact k σ _ W (R1.write hi e1 ((e4.mono s1.wo).append (RepL.one (g.stro (R.hid.mono s1) m.1)))) fr (q1J (sm.trans s1) (fr a e2))
    ·cases h'
 ·cases h
theorem z1u(hv:PE X (.Name x npos) (tVar i))(he:∀q,ra=some q->PE X e (dE X.D E δ q))(hx:∀q,rb=some q->PE X ix (dE X.D E δ q))(hsl:V1 ix=false)
  (h:(match δ[i]? with
   | some (.own (.lst ds))=>Re.thnS δ ra λd c=>Re.thnS δ rb λk _=>(match k with
    | .int k=>(match F2 ds.length k with
     | some j=>if stro d c then some (.nx (δ.set i (.own (.lst (ds.set j d)))))else none
     | none=>none)
    | _=>none)
   | _=>none)=some o):PS X (.Assign [.Subscript (.Name x npos) ix spos] e pos) (dS X.D E δ o):=by
 have sub:∀v,assign (.Subscript (.Name x npos) ix spos) X.env v=(do
   let ov ←holding [v] (eval (.Name x npos) X.env)
   let iv ←holding [v,ov] (eval ix X.env)
   standAt spos
   holding [v,ov,iv] (setItem ov iv v)
   release [v,ov,iv] []):=by cases ix<;>first | (intro _;rfl) | cases hsl
 have C:=λt tk (hA:PE X e t) (hK:PE X ix tk)=>z7U (pos:=pos) hA (z9d hv hK z2l sub) (by cases e<;>rfl) (by cases e<;>rfl) rfl;split at h
 ·rename_i ds hi;cases hra:ra with
  | none=>rw[hra]at h;cases h
  | some q=>
   rw[hra]at h;have A:=he q hra;cases q with
   | ex c=>
    cases h;exact(C _ _ A L0).weak λDn σ H ⟨H0,O,W,R,fr,fo,sm,k⟩=>⟨O,W,R,P6 (Q:=λ_ _=>False) R fr sm k⟩
   | ok d cl=>
    cases hrb:rb with
    | none=>rw[hrb]at h;cases h
    | some q=>
     rw[hrb]at h;have B:=hx q hrb;cases q with
     | ex c=>
      cases h;exact(C _ _ A B).weak λDn σ H ⟨H0,O,W,R,fr,fo,sm,k⟩=>⟨O,W,R,λv H1 s1 g=>by
       have R1:=R.mono s1;obtain⟨a,xs,ds0,e0,e1,e2,e3,e4⟩:=R1.own i _ hi;exact⟨.ref a,e1,O,W,R1,P6 (Q:=λ_ _=>False) R1 fr (sm.trans s1) k⟩⟩
     | ok dk ck=>
      have h':(match(generalizing:=false) dk with
       | .int k=>(match F2 ds.length k with
        | some j=>if stro d cl then some (Out.nx (δ.set i (.own (.lst (ds.set j d)))))else none
        | none=>none)
       | _=>none)=some o:=h
      split at h'
      ·rename_i k0;split at h'
       ·rename_i j hj;split at h'
        ·rename_i m;cases h';exact(C _ _ A B).weak λDn σ H ⟨H0,O,W,R,fr,fo,sm,k⟩=>⟨O,W,R,λv H1 s1 g=>by
          have R1:=R.mono s1;obtain⟨a,xs,ds0,e0,e1,e2,e3,e4⟩:=R1.own i _ hi;cases e0;refine⟨.ref a,e1,O,W,R1,λy H2 s2 g2=>?_⟩;have R2:=R1.mono s2;refine⟨a,xs,k0,j,rfl,g2.int (R1.hid.mono s2),s2 _ _ e3,by rw[e4.length];exact hj,?_⟩;exact k σ _ W (R2.write hi e1 (RepL.set ((g.mono s2).stro ((R.hid.mono s1).mono s2) m) j (e4.mono s2.wo))) fr (q1J ((sm.trans s1).trans s2) (fr a e2))⟩
        ·cases h'
       ·cases h'
      ·cases h'
 ·cases h
theorem RSt.freeze(R:RSt D H σ δ O W)(hi:δ[i]? = some (.own d)):∃W',(∀a∈W',a∈W)/\RSt D H σ (δ.set i (.val d)) O W':=by
 obtain⟨a,xs,ds,e0,e1,e2,e3,e4⟩:=R.own i d hi;subst e0;have hl:i<δ.length:=(w9.mp hi).1;have sub:∀b∈O++W.filter (λb=>decide (b≠a)),b∈O++W:=λb hb=>by
  rcases y0.mp hb with z | z
  ·exact u4 _ z
  ·exact u7 _ (M3.mp z).1
 have hao:a∉O++W.filter (λb=>decide (b≠a)):=λz=>by
  rcases y0.mp z with z | z
  ·exact R.hid.dj a e2 z
  ·exact absurd rfl (w2j (M3.mp z).2)
 refine⟨W.filter λb=>decide (b≠a),λb hb=>(M3.mp hb).1,⟨λj d h=>?_,λj ds' h=>?_,λj k b d1 d2 h1 h2 q1 q2=>?_,?_,λj d h=>by
   have hj:=j0 h (by intro z;cases z);rw[d6 (Ne.symm hj)]at h;obtain⟨⟨p1,L,f0,f1,f2,f3⟩,u,n⟩:=R.o2 j d h;refine⟨⟨p1,L,f0,f1,f2.sub λb hb hbw=>M3.mpr ⟨hbw,B9 λz=>f3 i _ a hi e1 (by rw[←z];exact hb)⟩,λk d2 b q q2=>?_⟩,λk d2 q=>?_,λk d2 q=>?_⟩
   ·have hk:=j0 q (by intro z;cases z);rw[d6 (Ne.symm hk)]at q;exact f3 k d2 b q q2
   ·have hk:=j0 q (by intro z;cases z);rw[d6 (Ne.symm hk)]at q;exact u k d2 q
   ·have hk:=j0 q (by intro z;cases z);rw[d6 (Ne.symm hk)]at q;exact n k d2 q,R.od.step (z1q (by intro d z;cases z)) (λb hb ⟨kvs,h,m⟩=>M3.mpr ⟨hb,B9 λz=>by rw[z,e3]at h;cases h;cases m⟩) (λ_ _ _ h _=>h),by rw[u0];exact R.len,
  ⟨λb hb=>R.hid.ot b (sub b hb),Same.refl _,λb hb=>R.hid.wl b (M3.mp hb).1,λb hb=>R.hid.dj b (M3.mp hb).1,R.hid.om⟩⟩⟩
 ·by_cases hj:j=i
  ·subst hj;obtain⟨_,e⟩:=N9 h;cases e;exact⟨.ref a,e1,B6.mpr ⟨a,xs,rfl,by rw[j7 hao];exact e3,e4.mono (x6 sub)⟩⟩
  ·rw[d6 (Ne.symm hj)]at h;obtain⟨v,q1,q2⟩:=R.val j d h;exact⟨v,q1,q2.mono (x6 sub)⟩
 ·have hj:=j0 h (by intro z;cases z);rw[d6 (Ne.symm hj)]at h;obtain⟨b,ys,ds1,q0,q1,q2,q3,q4⟩:=R.own j ds' h;refine⟨b,ys,ds1,q0,q1,M3.mpr ⟨q2,B9 λz=>hj (R.inj j i a ds' _ h hi (by rw[←z];exact q1) e1)⟩,q3,q4.mono (x6 sub)⟩
 ·have n1:=j0 h1 (by intro z;cases z);have n2:=j0 h2 (by intro z;cases z);rw[d6 (Ne.symm n1)]at h1;rw[d6 (Ne.symm n2)]at h2;exact R.inj j k b d1 d2 h1 h2 q1 q2
 ·obtain⟨P,f,u⟩:=R.ot;refine⟨P,λj d h=>?_,λj k d1 d2 h1 h2=>?_⟩
  ·have hj:=j0 h (by intro z;cases z);rw[d6 (Ne.symm hj)]at h;obtain⟨t,ts,f1,f2,f3,f4⟩:=f j d h;refine⟨t,ts,f1,(x6 sub).tseq f2,f3.mono (x6 sub) λ_ _ _ q=>q,λp1 hp1=>⟨M3.mpr ⟨(f4 p1 hp1).1,B9 λz=>(f4 p1 hp1).2.2 i _ hi (by rw[z];exact e1)⟩,(f4 p1 hp1).2.1,λk d2 q=>?_⟩⟩;have hk:=j0 q (by intro z;cases z);rw[d6 (Ne.symm hk)]at q;exact(f4 p1 hp1).2.2 k d2 q
  ·rw[d6 (Ne.symm (j0 h1 (by intro z;cases z)))]at h1;rw[d6 (Ne.symm (j0 h2 (by intro z;cases z)))]at h2;exact u j k d1 d2 h1 h2
theorem q8R(hi:δ[i]? = some (.own d))(h:PSs X rest (dS X.D E (δ.set i (.val d)) o)):PSs X rest (dS X.D E δ o):=h.weak λDn σ H ⟨H0,O,W,R,fr,fo,sm,k⟩=>by
 obtain⟨W',hs,R'⟩:=R.freeze hi;exact⟨H0,O,W',R',λa ha=>fr a (hs a ha),fo,sm,k⟩
end
end
section
section
variable {X:Cx} {E:St->XK} {δ δ1:List Sv} {o:Out} {e c:Expr} {pos pos':Pos} {ra:Option Re} {i:Nat} {x:Str}
theorem q6Q(hk:env.scope.kind=.function)(hx:env.scope.names.lookup x=some .local)(hy:env.scope.names.lookup y=some .local)(hxy:x≠y)(hl:(py.line==px.line)=true)
  (ha:j6 a=false) (hb:j6 b=false) (hf : [a,b].all (foldedForSure 8)=false) (hc : [a,b].all (constantsAlone 8)=false) :
  swappedStores [.Tuple [.Name x px,.Name y py] kt pt] (.Tuple [a,b] k2 pt2) env=pure (some [x,y]):=by
 have hbk:env.blockKind=.function:=by unfold Env.blockKind;rw[hk];rfl
 have sa:∀e:Expr,j6 e=false->(match e with | .Starred ..=>true | _=>false)=false:=λe h=>by cases e<;>first | rfl | cases h
 have hyx:(x==y)=false:=C4.mpr hxy;unfold swappedStores;simp only[hbk,Env.kindOf,hx,hy,hf,hc,sa a ha,sa b hb,J1,List.any_nil,w2w,List.filterMap_nil,List.head?_cons,Q6,w2J,Expr.pos,hl];simp[hl,List.eraseDups_cons,hyx,hxy,Ne.symm hxy]
 rintro(h | h)
 ·exfalso;cases a<;>first | exact Bool.noConfusion h | exact Bool.noConfusion ha
 ·exfalso;cases b<;>first | exact Bool.noConfusion h | exact Bool.noConfusion hb
theorem z6J{is:List Nat}(hcm:X.calm=true)(hN:X.N.Nodup)(hi:X.N[i]? = some x)(hj:X.N[j]? = some y)(hij:i≠j)(hx:X.env.scope.names.lookup x=some .local)(hy:X.env.scope.names.lookup y=some .local)(hl:(py.line==px.line)=true)
  (ha:j6 a=false) (hb:j6 b=false) (hf : [a,b].all (foldedForSure 8)=false) (hc : [a,b].all (constantsAlone 8)=false) (hA:∀q,rs=some q->PA X [a,b] (dA X.D E δ q)) (h:(Rs.thnS δ rs λl=>parD δ [i,j] l)=some o) :
  PS X (.Assign [.Tuple [.Name x px,.Name y py] kt pt] (.Tuple [a,b] k2 pt2) pos) (dS X.D E δ o):=by
 have hxy:x≠y:=λz=>hij (by
  subst z;have h1:=(w9.mp hi);have h2:=(w9.mp hj);obtain⟨l1,e1⟩:=h1;obtain⟨l2,e2⟩:=h2;exact(List.getElem_inj hN).mp (e1.trans e2.symm))
 have C:∀t,PA X [a,b] t->PS X (.Assign [.Tuple [.Name x px,.Name y py] kt pt] (.Tuple [a,b] k2 pt2) pos) (tPar i j t):=λt hA=>(λpins s σ H D I q=>y0a (px:=px) (py:=py) (pt:=pt) (kt:=kt) (k2:=k2) (pt2:=pt2) (pos:=pos) hcm hN hi hj hij hx hy hA (q6Q I.ok.kind hx hy hxy hl ha hb hf hc) rfl pins s σ H D I q);cases hrs:rs with
 | none=>rw[hrs]at h;cases h
 | some q=>
  rw[hrs]at h;have A:=hA q hrs;cases q with
  | ex c=>cases h;exact(C _ A).weak λDn σ H ⟨H0,O,W,R,fr,fo,sm,k⟩=>⟨O,W,R,λH' C m s=>k σ H' W C m (R.mono s) fr (sm.trans s)⟩
  | ok l=>
   have h':parD δ [i,j] l=some o:=h;unfold parD at h';split at h'
   ·rename_i i' j' d cd d' cd' q1;cases q1;split at h'
    ·rename_i hs;cases h';refine(C _ A).weak λDn σ H ⟨H0,O,W,R,fr,fo,sm,k⟩=>⟨O,W,R,λvs H1 s1 g=>?_⟩
     obtain⟨v,w,e1,g1,g2⟩:=g.two;have hd:=R.hid.mono s1;refine⟨v,w,e1,k _ H1 W (((R.mono s1).setVal (g1.stro hd hs.2.1) i).setVal (g2.stro hd hs.2.2) j) fr (sm.trans s1)⟩
    ·cases h'
   ·cases h'
end
end
section
theorem PSs.any{X:Cx}{body:List Stmt}{ι:Sort _}{t:ι->TS}(h:∀k,PSs X body (t k)):PSs X body (λD σ H=>∃k,t k D σ H):=λpins s σ H D I ⟨k,q⟩=>h k pins s σ H D I q
theorem PT.any{X:Cx}{e:Expr}{ι:Sort _}{t:ι->TT}(h:∀k,PT X e (t k)):PT X e (λσ H Q=>∃k,t k σ H Q):=λpins s σ H Q I ⟨k,q⟩=>h k pins s σ H Q I q
structure Lp(H0 H1:Hp)(O W:List Addr):Prop where
 out:∀{H:Hp},Same (L2.wo W H1) H->Same H0 H
 outW:∀{a:Addr},L2.wo W H1 a=none->H0 a=none
 in1:∀a∈W,L2.wo W H1 a=none
 in2:∀a∈O,L2.wo W H1 a≠none
 wsame:∀{H:Hp},Same (L2.wo W H1) H->Same (L2.wo (O++W) H1) (L2.wo (O++W) H)
theorem Lp.mk'(fr:∀a∈W,H0 a=none)(fo:∀a∈O,H0 a≠none)(sm:Same H0 H1):Lp H0 H1 O W where
 out:=λ{H} s b u e=>s b u (by
  rw[j7 λz=>by rw[fr b z]at e;cases e];exact sm b u e)
 outW:=λ{a} q=>by
  by_cases z:a∈W
  ·exact fr a z
  ·rw[j7 z]at q;exact sm.free q
 in1:=λa ha=>z7D ha
 in2:=λa ha=>by rw[j7 λz=>fo a ha (fr a z)];intro q;exact fo a ha (sm.free q)
 wsame:=λ{H} s b u e=>by obtain⟨hb,e⟩:=B7 e;rw[j7 hb];exact s b u (by rw[j7 λz=>hb (u7 _ z)];exact e)
theorem Lp.gotR(L:Lp H0 H1 O W)(g:GotR D O (L2.wo W H1) H d fr v):GotR D O H0 H d fr v:=by
 cases fr with
 | false=>exact g
 | true=>
  obtain⟨p,xs,ds,e1,e2,e3,e4,e5⟩:=g;exact⟨p,xs,ds,e1,e2,L.outW e3,e4,e5⟩
theorem Lp.gotT(L:Lp H0 H1 O W)(g:GotT D O (L2.wo W H1) H d v):GotT D O H0 H d v:=by
 rcases g with⟨t,ts,p,xs,ds,es,e1,e2,e0,e3,e4,e5,e6⟩ | ⟨xs,e1,e2⟩ | g
 ·exact .inl ⟨t,ts,p,xs,ds,es,e1,e2,e0,L.outW e3,e4,e5,e6⟩
 ·exact .inr (.inl ⟨xs,e1,e2.since λa ha=>L.outW ha⟩)
 ·exact .inr (.inr (g.since λa ha=>L.outW ha))
section
variable {X:Cx} {E:St->XK} {δ:List Sv} {tgE iter c:Expr} {body:List Stmt} {o:Out} {pos:Pos} {tg:Tg} {ri:Option Ri} {evB:List Sv->Option Out} {evC:List Sv->Option Rt}
theorem z4B(hp:PassesOwn (model X.prog X.w) X.A X.env X.xe)(hc:X.calm=true)(hi:∀q,ri=some q->PI X tgE iter (dI X.D E δ q))(hG:PG X tgE (gT X.K tg))(hb:∀δ' o,evB δ'=some o->PSs X body (dS X.D E δ' o))(hset:G7 iter=false)
  (h:(Ri.thnS δ ri λds c=>if c=.strong\/c=.fresh then p6 tg evB ds δ else none)=some o):PS X (.For tgE iter body [] pos) (dS X.D E δ o):=by
 have B:PSs X body (λD σ H=>∃k:{p:List Sv×Out // evB p.1=some p.2},dS X.D E k.1.1 k.1.2 D σ H):=PSs.any λk=>hb k.1.1 k.1.2 k.2;cases hri:ri with
 | none=>rw[hri]at h;cases h
 | some q=>
  rw[hri]at h;have A:=hi q hri;cases q with
  | ex c=>cases h;exact(z4p hp hc A hG B (q5u hset)).weak λDn σ H ⟨H0,O,W,R,fr,fo,sm,k⟩=>⟨O,W,R,λH' C m s=>k σ H' W C m (R.mono s) fr (sm.trans s)⟩
  | ok ds c=>
   have h':(if c=.strong\/c=.fresh then p6 tg evB ds δ else none)=some o:=h;split at h'
   ·rename_i m;refine(z4p hp hc A hG B (q5u hset)).weak λDn σ H ⟨H0,O,W,R,fr,fo,sm,k⟩=>⟨O,W,R,λJ H1 s1 w=>?_⟩
    have R1:=R.mono s1;have L:=Lp.mk' fr fo (sm.trans s1);have w:Wk X.D J ds (O++W) (O++W) H1:=(by rcases m with m | m<;>subst m<;>exact w);refine⟨λi n σ H=>n=ds.length - i/\i<=ds.length/\∃δi W',p6 tg evB (ds.drop i) δi=some o/\RSt X.D H σ δi O W'/\(∀a∈W',L2.wo W H1 a=none)/\Same (L2.wo W H1) H,
     ⟨ds.length,rfl,O6 _,δ,W,h',R1,L.in1,n9⟩,?_⟩
    rintro i n σ2 H2 ⟨rfl,hi,δi,W2,hgo,R2,b1,b2⟩
    by_cases hlt:i<ds.length
    ·refine .inr ⟨w.go i H2 (L.wsame b2) hlt,λσ H=>∃δi W',p6 tg evB (ds.drop (i+1)) δi=some o/\RSt X.D H σ δi O W'/\(∀a∈W',L2.wo W H1 a=none)/\Same (L2.wo W H1) H,
      λσ' H' q=>⟨ds.length - (i+1),by omega,rfl,hlt,q⟩,λx H3 y=>?_⟩
     have y1:=w.same i H2 x H3 y;have y3:Rep X.D (L2.wo (O++W2) H3) ds[i] x:=w.yld i H2 x H3 _ (O++W2) (L.wsame b2) (L.wsame b2) y (j3 hlt) λa ha=>⟨R2.hid.ot a ha,by
      rcases y0.mp ha with z | z
      ·exact .inl (u4 _ z)
      ·have q:=b1 a z;by_cases hw:a∈W
       ·exact .inl (u7 _ hw)
       ·rw[j7 hw]at q;exact .inr q⟩
     rw[w3p hlt]at hgo;unfold p6 at hgo;split at hgo
     ·cases hgo
     ·rename_i δ1 hb1;refine q7k (R2.mono y1) y3 hb1 λσ3 R3=>?_
      split at hgo
      ·rename_i δ2 hev;exact⟨⟨⟨δ1,.nx δ2⟩,hev⟩,L2.wo W H1,O,W2,R3,b1,L.in2,b2.trans y1,λσ' H' W' R' fr' sm'=>⟨δ2,W',hgo,R',fr',sm'⟩⟩
      ·rename_i hne;refine⟨⟨⟨δ1,o⟩,hgo⟩,L2.wo W H1,O,W2,R3,b1,L.in2,b2.trans y1,?_⟩;cases o with
       | nx δ2=>exact absurd hgo (hne δ2)
       | rt d fr'=>exact λv H' s' g=>k v H' (L.out s') (L.gotR g)
       | rtt d=>exact λv H' s' g=>k v H' (L.out s') (L.gotT g)
       | ex c' δ'=>exact λσ' H' W' C m R' fr' sm'=>k σ' H' W' C m R' (λa ha=>L.outW (fr' a ha)) (L.out sm')
    ·have e:i=ds.length:=by omega
     subst e;rw[List.drop_length]at hgo;cases hgo;exact .inl ⟨w.stop H2 (L.wsame b2),k σ2 H2 W2 R2 (λa ha=>L.outW (b1 a ha)) (L.out b2)⟩
   ·cases h'
theorem q9z(hp:PassesOwn (model X.prog X.w) X.A X.env X.xe)(hc:∀δ' r,evC δ'=some r->PT X c (dT X.D E δ' r))(hb:∀δ' o,evB δ'=some o->PSs X body (dS X.D E δ' o))(h:J3 evC evB n δ=some o):PS X (.While c body [] pos) (dS X.D E δ o):=by
 have B:PSs X body (λD σ H=>∃k:{p:List Sv×Out // evB p.1=some p.2},dS X.D E k.1.1 k.1.2 D σ H):=PSs.any λk=>hb k.1.1 k.1.2 k.2;have T:PT X c (λσ H Q=>∃k:{p:List Sv×Rt // evC p.1=some p.2},dT X.D E k.1.1 k.1.2 σ H Q):=PT.any λk=>hc k.1.1 k.1.2 k.2;refine(z2Q hp T B).weak λDn σ H ⟨H0,O,W,R,fr,fo,sm,k⟩=>?_;have L:=Lp.mk' fr fo sm;refine⟨λm σ H2=>∃δi W',J3 evC evB m δi=some o/\RSt X.D H2 σ δi O W'/\(∀a∈W',L2.wo W H a=none)/\Same (L2.wo W H) H2,⟨n,δ,W,h,R,L.in1,n9⟩,?_⟩
 rintro m σ2 H2 ⟨δi,W2,hgo,R2,b1,b2⟩
 cases m with
 | zero=>cases hgo
 | succ m=>
  unfold J3 at hgo;split at hgo
  ·cases hgo
  ·rename_i c' hev;cases hgo;exact⟨⟨⟨δi,.ex c'⟩,hev⟩,O,W2,R2,λH' C m s=>k σ2 H' W2 C m (R2.mono s) (λa ha=>L.outW (b1 a ha)) (L.out (b2.trans s))⟩
  ·rename_i hev;cases hgo;refine⟨⟨⟨δi,.ok false⟩,hev⟩,O,W2,R2,λH' s=>iteF ?_⟩;exact k σ2 H' W2 (R2.mono s) (λa ha=>L.outW (b1 a ha)) (L.out (b2.trans s))
  ·rename_i hev;refine⟨⟨⟨δi,.ok true⟩,hev⟩,O,W2,R2,λH' s=>iteT ?_⟩;refine⟨λσ H2=>∃δi W',J3 evC evB m δi=some o/\RSt X.D H2 σ δi O W'/\(∀a∈W',L2.wo W H a=none)/\Same (L2.wo W H) H2,λσ' H' q=>⟨m,w3y m,q⟩,?_⟩;split at hgo
   ·rename_i δ2 hev2;exact⟨⟨⟨δi,.nx δ2⟩,hev2⟩,L2.wo W H,O,W2,R2.mono s,b1,L.in2,b2.trans s,λσ' H' W' R' fr' sm'=>⟨δ2,W',hgo,R',fr',sm'⟩⟩
   ·rename_i hne;refine⟨⟨⟨δi,o⟩,hgo⟩,L2.wo W H,O,W2,R2.mono s,b1,L.in2,b2.trans s,?_⟩;cases o with
    | nx δ2=>exact absurd hgo (hne δ2)
    | rt d fr'=>exact λv H' s' g=>k v H' (L.out s') (L.gotR g)
    | rtt d=>exact λv H' s' g=>k v H' (L.out s') (L.gotT g)
    | ex c' δ'=>exact λσ' H' W' C m R' fr' sm'=>k σ' H' W' C m R' (λa ha=>L.outW (fr' a ha)) (L.out sm')
end
end
section
section
variable {D:Dm} {H H':Hp} {σ:St} {δ:List Sv} {O W:List Addr} {i:Nat}
theorem RSt.grow(R:RSt D H σ δ O W)(s:Same H H')(N:List Addr)(hN:∀a∈N,H a=none/\∃xs,H' a=some (.lst xs)):RSt D H' σ δ O (N++W):=by
 have old:Same (L2.wo (O++W) H) (L2.wo (O++(N++W)) H'):=λb o e=>by
  obtain⟨hb,e⟩:=B7 e;rw[j7 λz=>?_]
  ·exact s b o e
  ·rcases y0.mp z with z | z
   ·exact hb (u4 _ z)
   ·rcases y0.mp z with z | z
    ·rw[(hN b z).1]at e;cases e
    ·exact hb (u7 _ z)
 refine⟨λj d h=>?_,λj d h=>?_,R.inj,?_,λj d h=>?_,R.od.step (λj d h=>⟨h,rfl⟩) (λ_ h _=>u7 _ h) (λa _ _ h _=>s _ _ h),R.len,⟨λa ha=>?_,Same.refl _,λa ha=>?_,λa ha=>?_,R.hid.omS s⟩⟩
 ·obtain⟨v,e1,e2⟩:=R.val j d h;exact⟨v,e1,e2.mono old⟩
 ·obtain⟨a,ys,ds1,e0,e1,e2,e3,e4⟩:=R.own j d h;exact⟨a,ys,ds1,e0,e1,u7 _ e2,s _ _ e3,e4.mono old⟩
 ·obtain⟨P,f,u⟩:=R.ot;refine⟨P,λj d h=>?_,u⟩;obtain⟨t,ts,e1,e2,e3,e4⟩:=f j d h;exact⟨t,ts,e1,old.tseq e2,e3.mono old λ_ _ _ q=>s _ _ q,λp hp=>⟨u7 _ (e4 p hp).1,(e4 p hp).2.1.imp λ_ q=>s _ _ q,(e4 p hp).2.2⟩⟩
 ·obtain⟨⟨p1,L,e0,e1,e2,e3⟩,u,n⟩:=R.o2 j d h;exact⟨⟨p1,L,e0,e1,(e2.mono s).sub λa _ ha=>u7 _ ha,e3⟩,u,n⟩
 ·rcases y0.mp ha with z | z
  ·intro q;exact R.hid.ot a (u4 _ z) (s.free q)
  ·rcases y0.mp z with z | z
   ·obtain⟨xs,e⟩:=(hN a z).2;rw[e];intro q;cases q
   ·intro q;exact R.hid.ot a (u7 _ z) (s.free q)
 ·rcases y0.mp ha with z | z
  ·obtain⟨xs,e⟩:=(hN a z).2;exact⟨_,e,rfl⟩
  ·obtain⟨ys,q,m⟩:=R.hid.wl a z;exact⟨ys,s _ _ q,m⟩
 ·rcases y0.mp ha with z | z
  ·intro q;exact R.hid.ot a (u4 _ q) (hN a z).1
  ·exact R.hid.dj a z
theorem RSt.forget(R:RSt D H σ δ O W)(i:Nat):RSt D H σ (δ.set i .no) O W:=R.less (by rw[u0]) λj sv h=>by
 by_cases hj:j=i
 ·subst hj;obtain⟨_,e⟩:=N9 h;exact .inl e.symm
 ·rw[d6 (Ne.symm hj)]at h;exact .inr h
theorem RSt.poke2(R:RSt D H σ δ O W)(ha:a∈W)(ho:∀(j:Nat) d',δ[j]? = some (.own d')->σ[j]? ≠ some (some (.ref a)))(hot:(∃P:Nat->List Addr,(∀(i:Nat) d,δ[i]? = some (.ot d)->∃t ts,σ[i]? = some (some (.ref t))/\SqT D.K (L2.wo (O++W) (upd H a (.lst xs))) t ts/\OtV D (L2.wo (O++W) (upd H a (.lst xs))) (upd H a (.lst xs)) d ts (P i)/\OtL σ δ (upd H a (.lst xs)) W (P i))/\∀(i j:Nat) d d',δ[i]? = some (.ot d)->δ[j]? = some (.ot d')->i≠j->∀p∈P i,p∉P j))(h2:∀(j:Nat) d',δ[j]? ≠ some (.o2 d'))(hal:∃ys,H a=some (.lst ys)):RSt D (upd H a (.lst xs)) σ δ O W:=by
 have old:Same (L2.wo (O++W) H) (L2.wo (O++W) (upd H a (.lst xs))):=λb o e=>by obtain⟨hb,e⟩:=B7 e;rw[j7 hb,j4 λz=>hb (by rw[z];exact u7 _ ha)];exact e
 refine⟨λj d h=>?_,λj d h=>?_,R.inj,hot,λj d h=>absurd h (h2 j d),R.od.step (λj d h=>⟨h,rfl⟩) (λ_ h _=>h) (λb kvs _ h m=>by obtain⟨ys,w⟩:=hal;rw[j4 (λz=>by rw[z,w]at h;cases h;cases m)];exact h),R.len,⟨λb hb q=>?_,Same.refl _,λb hb=>?_,R.hid.dj,R.hid.omW (by assumption)⟩⟩
 ·obtain⟨v,q1,q2⟩:=R.val j d h;exact⟨v,q1,q2.mono old⟩
 ·obtain⟨b,ys,ds1,q0,q1,q2,q3,q4⟩:=R.own j d h;refine⟨b,ys,ds1,q0,q1,q2,?_,q4.mono old⟩;rw[j4 λz=>ho j _ h (by rw[←z];exact q1)];exact q3
 ·by_cases hba:b=a
  ·rw[hba,w6]at q;cases q
  ·rw[j4 hba]at q;exact R.hid.ot b hb q
 ·by_cases hba:b=a
  ·exact⟨_,by rw[hba];exact w6,rfl⟩
  ·obtain⟨ys,q,m⟩:=R.hid.wl b hb;exact⟨ys,by rw[j4 hba];exact q,m⟩
theorem q5Y{α:Type}{l:List α}{i:Nat}{a:α}(h:l[i]? = some a):l.set i a=l:=by
 obtain⟨hl,e⟩:=w9.mp h;rw[←e,List.set_getElem_self]
end
end
section
section
variable {X:Cx} {E:St->XK} {δ:List Sv} {o:Out} {e fe:Expr} {pos pos':Pos} {ra rb:Option Re} {i:Nat} {x:Str}
theorem z6C(h:newI d c=true):∃ns:List Int,d=.lst (ns.map DV.int)/\c=.fresh:=by
 unfold newI at h;split at h
 ·rename_i ds;cases q:ints? ds with
  | none=>rw[q]at h;cases h
  | some ns=>exact⟨ns,by rw[q5A q],rfl⟩
 ·cases h
theorem gotI{D:Dm}{O W:List Addr}{H0 H:Hp}{ns:List Int}{v:V}(g:Got D O W H0 H (.lst (ns.map DV.int)) .fresh v):∃q,v=.ref q/\H0 q=none/\H q=some (.lst (ns.map V.int)):=by
 obtain⟨q,xs,ds,e1,e2,e3,e4,e5⟩:=g;cases e2;have:xs=ns.map V.int:=by
  clear e4
  induction ns generalizing xs with
  | nil=>exact B2.mp e5
  | cons n ns ih=>
   obtain⟨v',vs,f1,f2,f3⟩:=p8.mp e5;rw[f1,ih vs f3,u9.mp f2];rfl
 rw[this]at e4;exact⟨q,e1,e3,e4⟩
theorem z9i{D:Dm}{H:Hp}{σ:St}{O W:List Addr}{q:Addr}(R:RSt D H σ δ O W)(hq:H q=none){j:Nat}{d':DV}{a:Addr}(h:δ[j]? = some (.own d'))(h2:σ[j]? = some (some (.ref a))):a≠q:=λz=>by
 obtain⟨b,xs,ds,_,e1,_,e3,_⟩:=R.own j d' h;rw[h2]at e1;cases e1;rw[z,hq]at e3;cases e3
end
section
variable {X:Cx} {E:St->XK} {δ:List Sv} {o:Out} {iter elt tgE:Expr} {pos pos':Pos} {N':List Str} {scope:Scope} {fr:List (Option Nat)} {tg:Tg} {ri:Option Ri} {i:Nat} {x:Str}
end
end
section
theorem z0q:∀{M:List (Option Addr×List Int)} {m k:Nat} {x y:List Int},(M.filterMap (·.1)).Nodup->M[m]? = some (some p,x)->M[k]? = some (some p,y)->m=k
 | [],_,_,_,_,_,h,_=>by simp at h
 | (none,_)::M,0,_,_,_,_,h,_=>by simp at h
 | (none,_)::M,_+1,0,_,_,_,_,h=>by simp at h
 | (none,_)::M,m+1,k+1,_,_,n,h1,h2=>by rw[z0q (M:=M) (m:=m) (k:=k) (by simpa using n) (by simpa using h1) (by simpa using h2)]
 | (some q,_)::M,0,0,_,_,_,_,_=>rfl
 | (some q,_)::M,0,k+1,_,_,n,h1,h2=>by simp at h1 h2 n;obtain⟨h1,_⟩:=h1;subst h1;exact absurd (P9 h2) (n.1 _)
 | (some q,_)::M,m+1,0,_,_,n,h1,h2=>by simp at h1 h2 n;obtain⟨h2,_⟩:=h2;subst h2;exact absurd (P9 h1) (n.1 _)
 | (some q,_)::M,m+1,k+1,_,_,n,h1,h2=>by rw[z0q (M:=M) (m:=m) (k:=k) (by simp at n;exact n.2) (by simpa using h1) (by simpa using h2)]
theorem z3g{M:List (Option Addr×List Int)}{k:Nat}{a:Addr}{x y:List Int}(h:M[k]? = some (some a,x)):(M.set k (some a,y)).filterMap (·.1)=M.filterMap (·.1):=by
 have e:∀N:List (Option Addr×List Int),N.filterMap (·.1)=(N.map (·.1)).filterMap id:=λN=>by rw[List.filterMap_map];rfl
 rw[e,e,U3,q5Y (by rw[m9,h];rfl)]
theorem it_V{M:List (Option Addr×List Int)}{k:Nat}{a:Addr}{x y:List Int}(h:M[k]? = some (some a,x)):(M.set k (some a,y)).map itV=M.map itV:=by
 rw[U3,q5Y (by rw[m9,h];rfl)]
section
variable {D:Dm} {H H':Hp} {σ:St} {δ:List Sv} {O W:List Addr} {i:Nat}
theorem RSt.setOt(R:RSt D H σ δ O W)(i:Nat)(ht:SqT D.K (L2.wo (O++W) H) t (M.map itV))(nd:(M.filterMap (·.1)).Nodup)(hM:ItAt H M)(hw:∀p∈M.filterMap (·.1),p∈W)(ho:∀p∈M.filterMap (·.1),∀(j:Nat) d',j≠i->δ[j]? = some (.own d')->σ[j]? ≠ some (some (.ref p)))
  (P:Nat->List Addr) (f:∀(j:Nat) d,j≠i->δ[j]? = some (.ot d)->∃t ts,σ[j]? = some (some (.ref t))/\SqT D.K (L2.wo (O++W) H) t ts/\OtV D (L2.wo (O++W) H) H d ts (P j)/\OtL σ δ H W (P j)) (u:∀(j k:Nat) d d',δ[j]? = some (.ot d)->δ[k]? = some (.ot d')->j≠i->k≠i->j≠k->∀p∈P j,p∉P k)
  (dis:∀(j:Nat) d',j≠i->δ[j]? = some (.ot d')->∀p∈M.filterMap (·.1),p∉P j) (h2:∀(j:Nat) d',j≠i->δ[j]? ≠ some (.o2 d')):RSt D H (σ.set i (some (.ref t))) (δ.set i (.ot (.dct [] (M.map itD)))) O W:=by
 refine⟨λj d h=>?_,λj d h=>?_,λj k a d1 d2 q1 q2 e1 e2=>?_,?_,λj d h=>?_,R.od.step (q5c _ (by intro d z;cases z)) (λ_ h _=>h) (λ_ _ _ h _=>h),by rw[u0,u0];exact R.len,R.hid⟩
 ·have hj:=j0 h (by intro z;cases z);rw[d6 (Ne.symm hj)]at h ⊢;exact R.val j d h
 ·have hj:=j0 h (by intro z;cases z);rw[d6 (Ne.symm hj)]at h ⊢;exact R.own j d h
 ·have n1:=j0 q1 (by intro z;cases z);have n2:=j0 q2 (by intro z;cases z);rw[d6 (Ne.symm n1)]at q1 e1;rw[d6 (Ne.symm n2)]at q2 e2;exact R.inj j k a d1 d2 q1 q2 e1 e2
 ·obtain⟨Q,q1,q2⟩:∃Q:Nat->List Addr,Q i=M.filterMap (·.1)/\∀j,j≠i->Q j=P j:=⟨λj=>if j=i then M.filterMap (·.1)else P j,d4 rfl,λj h=>d5 h⟩;refine⟨Q,λj d h=>?_,λj k d1 d2 h1 h2' ne p hp=>?_⟩
  ·by_cases hj:j=i
   ·subst hj;obtain⟨hl,e⟩:=N9 h;cases e;rw[q1];refine⟨t,_,C8 (by rw[R.len];exact hl),ht,.inr ⟨M,rfl,rfl,rfl,nd,hM⟩,λp hp=>⟨hw p hp,?_,λk d' q=>?_⟩⟩
    ·obtain⟨⟨o,ns⟩,hm,e⟩:=O1.mp hp;have e:o=some p:=e;subst e;exact⟨_,hM p ns hm⟩
    ·have hk:=j0 q (by intro z;cases z);rw[d6 (Ne.symm hk)]at q ⊢;exact ho p hp k d' hk q
   ·rw[q2 j hj];rw[d6 (Ne.symm hj)]at h ⊢;obtain⟨t',ts,e1,e2,e3,e4⟩:=f j d hj h;refine⟨t',ts,e1,e2,e3,λp hp=>⟨(e4 p hp).1,(e4 p hp).2.1,λk d' q=>?_⟩⟩;have hk:=j0 q (by intro z;cases z);rw[d6 (Ne.symm hk)]at q ⊢;exact(e4 p hp).2.2 k d' q
  ·by_cases hj:j=i
   ·have hk:k≠i:=λz=>ne (hj.trans z.symm);rw[hj,q1]at hp;rw[q2 k hk];rw[d6 (Ne.symm hk)]at h2';exact dis k d2 hk h2' p hp
   ·rw[q2 j hj]at hp;rw[d6 (Ne.symm hj)]at h1;by_cases hk:k=i
    ·rw[hk,q1];exact λz=>dis j d1 hj h1 p z hp
    ·rw[q2 k hk];rw[d6 (Ne.symm hk)]at h2';exact u j k d1 d2 h1 h2' hj hk ne p hp
 ·have hj:=j0 h (by intro z;cases z);rw[d6 (Ne.symm hj)]at h;exact absurd h (h2 j d hj)
theorem RSt.otAt(R:RSt D H σ δ O W)(hi:δ[i]? = some (.ot (.dct ks ds)))(hk:ds[k]? = some (.lst xs)):∃(t:Addr) (ts:List V) (a:Addr) (ns:List Int),σ[i]? = some (some (.ref t))/\SqT D.K H t ts/\ts[k]? = some (.ref a)/\xs=ns.map DV.int/\H a=some (.lst (ns.map V.int))/\a∈W /\
  ∀H1,Same H H1->∀ns':List Int,RSt D (upd H1 a (.lst (ns'.map V.int))) σ (δ.set i (.ot (.dct ks (ds.set k (.lst (ns'.map DV.int)))))) O W:=by
 obtain⟨P,f,u⟩:=R.ot;obtain⟨t,ts,e1,e2,e3,e4⟩:=f i _ hi;rcases e3 with⟨p,xs,ds1,es1,us,f0,f1,f2,f3,f4,f5⟩ | ⟨M,f0,f1,f2,f3,f4⟩
 ·cases f0
 ·cases f0;subst f1;rw[m9]at hk;cases hm:M[k]? with
  | none=>rw[hm]at hk;cases hk
  | some m=>
   obtain⟨o,ns⟩:=m;rw[hm]at hk;cases o with
   | none=>cases hk
   | some a=>
    have hk':DV.lst (ns.map DV.int)=.lst xs:=F1 hk;cases hk';have hmem:(some a,ns)∈M:=P9 hm;have hf:a∈P i:=by rw[f2];exact O1.mpr ⟨_,hmem,rfl⟩
    have ha:=e4 a hf;refine⟨t,_,a,ns,e1,n9.tseq e2,by rw[m9,hm];rfl,rfl,f4 a ns hmem,ha.1,λH1 s1 ns'=>?_⟩;have R1:=R.mono s1;have no2:∀(j:Nat) d',(δ.set i .no)[j]? ≠ some (.o2 d'):=λj d' q=>by have hj:=j0 q (by intro z;cases z);rw[d6 (Ne.symm hj)]at q;exact(R.o2 j d' q).2.2 i _ hi
    have old:Same (L2.wo (O++W) H) (L2.wo (O++W) (upd H1 a (.lst (ns'.map V.int)))):=λb o e=>by obtain⟨hb,e⟩:=B7 e;rw[j7 hb,j4 λz=>hb (by rw[z];exact u7 _ ha.1)];exact s1 _ _ e
    have g:∀(j:Nat) d,j≠i->(δ.set i .no)[j]? = some (.ot d)->∃t ts,σ[j]? = some (some (.ref t))/\SqT D.K (L2.wo (O++W) (upd H1 a (.lst (ns'.map V.int)))) t ts/\OtV D (L2.wo (O++W) (upd H1 a (.lst (ns'.map V.int)))) (upd H1 a (.lst (ns'.map V.int))) d ts (P j)/\OtL σ (δ.set i .no) (upd H1 a (.lst (ns'.map V.int))) W (P j):=λj d hj h=>by
     rw[d6 (Ne.symm hj)]at h;obtain⟨t',ts',g1,g2,g3,g4⟩:=f j d h;have un:∀p∈P j,∀xs,H p=some (.lst xs)->upd H1 a (.lst (ns'.map V.int)) p=some (.lst xs):=λp hp xs q=>by rw[j4 λz=>u i j _ _ hi h (Ne.symm hj) a hf (by rw[←z];exact hp)];exact s1 _ _ q
     refine⟨t',ts',g1,old.tseq g2,g3.mono old un,λp hp=>⟨(g4 p hp).1,(g4 p hp).2.1.imp λxs q=>un p hp xs q,λk d' q=>?_⟩⟩;have hk:=j0 q (by intro z;cases z);rw[d6 (Ne.symm hk)]at q;exact(g4 p hp).2.2 k d' q
    have back:∀{j:Nat} {d:DV},(δ.set i .no)[j]? = some (.ot d)->j≠i/\δ[j]? = some (.ot d):=λ{j d} h=>by have hj:=j0 h (by intro z;cases z);rw[d6 (Ne.symm hj)]at h;exact⟨hj,h⟩
    have R2:=(R1.forget i).poke2 (xs:=ns'.map V.int) ha.1 (λj d' q=>by
     have hj:=j0 q (by intro z;cases z);rw[d6 (Ne.symm hj)]at q;exact ha.2.2 j d' q) ⟨P,λj d h=>g j d (back h).1 h,λj k d1 d2 h1 h2=>u j k d1 d2 (back h1).2 (back h2).2⟩ no2 ⟨_,s1 _ _ (f4 a ns hmem)⟩
    have R3:=R2.setOt (t:=t) (M:=M.set k (some a,ns')) i (by rw[it_V hm];exact old.tseq e2) (by rw[z3g hm,←f2];exact f3) (λp ns1 hp=>by
     obtain⟨m,hm'⟩:=List.mem_iff_getElem?.mp hp;by_cases hmk:m=k
     ·subst hmk;rw[C8 (w9.mp hm).1]at hm';cases hm';exact w6
     ·rw[d6 (Ne.symm hmk)]at hm';rw[j4 λz=>hmk (z0q (by rw[←f2];exact f3) hm' (by rw[z];exact hm))];exact s1 _ _ (f4 p ns1 (P9 hm'))) (λp hp=>by rw[z3g hm,←f2]at hp;exact(e4 p hp).1) (λp hp j d' hj q=>by
       rw[z3g hm,←f2]at hp;rw[d6 (Ne.symm hj)]at q;exact(e4 p hp).2.2 j d' q) P g (λj k d1 d2 h1 h2 _ _=>u j k d1 d2 (back h1).2 (back h2).2) (λj d' hj h p hp=>by
       rw[z3g hm,←f2]at hp;exact u i j _ _ hi (back h).2 (Ne.symm hj) p hp) (λj d' _=>no2 j d')
    rw[q5Y e1,w38,U3]at R3;exact R3
theorem z2L(h:noO2 i δ=true)(q:δ[j]? = some (.o2 d)):j=i:=by
 unfold noO2 at h;rw[D6]at h;have hj:j<δ.length:=(w9.mp q).1;have:=h j (p0.mpr hj);rw[q]at this;simpa using this
end
def dP(D:Dm)(δ:List Sv)(d:DV):TE:=λσ H Q=>∃O W,RSt D H σ δ O W/\∀v H',Same H H'->GotP D O H H' d v->Q v H'
section
variable {X:Cx} {E:St->XK} {δ:List Sv} {o:Out} {pos pos':Pos} {i:Nat} {x:Str} {e ea eb:Expr} {ra:Option Re}
theorem z4U(hno:noO2 i δ=true)(R:RSt D H σ δ O W)(fr:∀a∈W,H0 a=none)(sm:Same H0 H)(k:dEnd D E H0 O Dn (.nx (δ.set i (.ot (.dct ks ds))))):∀v H',Same H H'->GotP D O H H' (.dct ks ds) v->Dn.nx (σ.set i (some v)) H':=λv H1 s1 g=>by
 obtain⟨t,M,rfl,e1,e3,e4,e5,e6⟩:=g;cases e1;obtain⟨L,hL⟩:∃L,M.filterMap (·.1)=L:=⟨_,rfl⟩;rw[hL]at e5;have inN:∀a∈L,H a=none/\∃xs,H1 a=some (.lst xs):=λa ha=>by rw[←hL]at ha;obtain⟨⟨o,ns⟩,hm,e⟩:=O1.mp ha;have e:o=some a:=e;subst e;exact⟨e5 a (by rw[←hL];exact ha),_,e6 a ns hm⟩
 have R1:=R.grow s1 L inN;obtain⟨P,f,u⟩:=R.ot;have old:Same (L2.wo (O++W) H) (L2.wo (O++(L++W)) H1):=λb o e=>by
  obtain⟨hb,e⟩:=B7 e;rw[j7 λz=>?_]
  ·exact s1 b o e
  ·rcases y0.mp z with z | z
   ·exact hb (u4 _ z)
   ·rcases y0.mp z with z | z
    ·rw[(inN b z).1]at e;cases e
    ·exact hb (u7 _ z)
 have R2:=R1.setOt (t:=t) (M:=M) i (e3.immut λa ha=>by
   rcases y0.mp ha with z | z
   ·obtain⟨_,xs,q⟩:=inN a z;exact⟨_,q,rfl⟩
   ·obtain⟨o,q,m⟩:=R.hid.wl a z;exact⟨o,s1 _ _ q,m⟩) e4 e6 (λp hp=>by rw[hL]at hp;exact u4 _ hp) (λp hp j d' _ z w=>by rw[hL]at hp;exact z9i R (inN p hp).1 z w rfl)
  P (λj d _ h=>by
   obtain⟨t',ts,g1,g2,g3,g4⟩:=f j d h;exact⟨t',ts,g1,old.tseq g2,g3.mono old λp _ xs q=>s1 _ _ q,λp hp=>⟨u7 _ (g4 p hp).1,(g4 p hp).2.1.imp λxs q=>s1 _ _ q,(g4 p hp).2.2⟩⟩) (λj k d1 d2 h1 h2 _ _=>u j k d1 d2 h1 h2) (λj d' _ h p hp z=>by
   rw[hL]at hp;obtain⟨_,_,_,_,_,g4⟩:=f j d' h;obtain⟨xs,q⟩:=(g4 p z).2.1;rw[(inN p hp).1]at q;cases q) (λj d' hj z=>hj (z2L hno z))
 exact k _ H1 _ R2 (λa ha=>by
  rcases y0.mp ha with z | z
  ·exact sm.free (inN a z).1
  ·exact fr a z) (sm.trans s1)
theorem z0M{F:Nat->List DV->Option Ou}{f n:Nat}{ex:Expr}{l:List (DV×Cl)}{ks:List DKey}{ds:List DV}(hn:∀ds o,F f ds=some o->ds.length=n)
  (C:PE X ex (λσ H Q=>dA X.D E δ (.ok l) σ H λvs H1=>spF X.D n (F f) vs H1 Q (E σ))) (e1:F f (l.map (·.1))=some (.t (.dct ks ds))):PE X ex (dP X.D δ (.dct ks ds)):=
 C.weak λσ H Q ⟨O,W,R,p⟩=>⟨O,W,R,λvs H1 s1 g1=>by
  have hd:=R.hid.mono s1;refine⟨O,_,_,hd.hdO,hn _ _ e1,g1.repL hd,e1,λv H' s g=>p v H' (s1.trans s) ?_⟩;exact(z3J g).since λa ha=>s1.free ha⟩
theorem z2G(hN:X.N.Nodup)(hi:X.N[i]? = some x)(hx:Loc X.env.scope x)(hf:X.fn x=true\/X.env.scope.names.lookup x=some .local)(A:PE X e (dP X.D δ (.dct ks ds)))(hc:swapsWith e (some (.Name x pos')) pos.line X.env=pure false)(hno:noO2 i δ=true) :
  PS X (.Assign [.Name x pos'] e pos) (dS X.D E δ (.nx (δ.set i (.ot (.dct ks ds))))):=
 (q6a hN hi hx A hc hf).weak λDn σ H ⟨H0,O,W,R,fr,fo,sm,k⟩=>⟨O,W,R,z4U hno R fr sm k⟩
theorem q9W(hd:Hid O W H0 H1)(h:M9 d c=true)(g:Got D O W H0 H1 d c v):∃m,d=itD m/\v=itV m/\∀p,m.1=some p->H0 p=none/\H1 p=some (.lst (m.2.map V.int)):=by
 unfold M9 at h;split at h
 ·rename_i n;exact⟨(none,[n]),rfl,g.int hd,λp z=>by cases z⟩
 ·obtain⟨ns,e1,e2⟩:=z6C h;subst e1 e2;obtain⟨q,e3,e4,e5⟩:=gotI g;exact⟨(some q,ns),rfl,e3,λp z=>by cases z;exact⟨e4,e5⟩⟩
theorem z1O(ha:PE X ea (dE X.D E δ (.ok d c)))(hb:PE X eb (dE X.D E δ (.ok d' c')))(sa:j6 ea=false)(sb:j6 eb=false)(h:M9 d c=true/\M9 d' c'=true):PS X (.Return (some (.Tuple [ea,eb] kk tp)) pos) (dS X.D E δ (.rtt (.dct [] [d,d']))):=by
 refine(q5r (z3A (G1 ha (G1 hb O8 (u3 sb)) (u3 sa)))).weak λDn σ H ⟨H0,O,W,R,fr,fo,sm,k⟩=>⟨O,W,R,λv1 H1 s1 g1=>⟨O,W,R.mono s1,λv2 H2 s2 g2=>⟨(by decide:2<=sizeLine),λq hq=>?_⟩⟩⟩;obtain⟨m1,a1,a2,a3⟩:=q9W (R.hid.mono s1) h.1 g1;obtain⟨m2,b1,b2,b3⟩:=q9W ((R.mono s1).hid.mono s2) h.2 g2;subst a1 a2 b1 b2;have s3:Same H2 (upd H2 q (.tup [itV m1,itV m2])):=u6 hq;refine(k:dEnd X.D E H0 O Dn (.rtt (.dct [] [itD m1,itD m2]))) (.ref q) _ (((sm.trans s1).trans s2).trans s3) (.inr (.inr ⟨q,[m1,m2],rfl,rfl,SqT.of (by rw[j7 λz=>R.hid.ot q (u4 _ z) (s1.free (s2.free hq))];exact w6),?_,λp hp=>?_,λp ns hp=>?_⟩))
 ·obtain⟨o1,n1⟩:=m1;obtain⟨o2,n2⟩:=m2;cases o1 with
  | none=>cases o2<;>simp
  | some p1=>
   cases o2 with
   | none=>simp
   | some p2=>
    have ne:p1≠p2:=λz=>by have w1:=(a3 p1 rfl).2;rw[z,(b3 p2 rfl).1]at w1;cases w1
    simp[ne]
 ·obtain⟨m,hm,e⟩:=O1.mp hp;rcases f9.mp hm with z | z
  ·subst z;exact sm.free (a3 p e).1
  ·rw[D0.mp z]at e;exact sm.free (s1.free (b3 p e).1)
 ·rcases f9.mp hp with z | z
  ·subst z;exact s3 _ _ (s2 _ _ (a3 p rfl).2)
  ·rw[←D0.mp z]at b3;exact s3 _ _ (b3 p rfl).2
theorem z3a(hv:PE X (.Name x npos) (tVar i))(h:(match δ[i]? with
   | some (.ot (.dct ks ds))=>some (Out.rtt (.dct ks ds))
   | _=>none)=some o):PS X (.Return (some (.Name x npos)) pos) (dS X.D E δ o):=by
 split at h
 ·rename_i ks ds hi;cases h;refine(q5r hv).weak λDn σ H ⟨H0,O,W,R,fr,fo,sm,k⟩=>?_
  obtain⟨P,f,u⟩:=R.ot;obtain⟨t,ts,e1,e2,e3,e4⟩:=f i _ hi;rcases e3 with⟨p,xs,ds1,es1,us,f0,_⟩ | ⟨M,f0,f1,f2,f3,f4⟩
  ·cases f0
  ·cases f0;subst f1;refine⟨.ref t,e1,(k:dEnd X.D E H0 O Dn (.rtt (.dct [] (M.map itD)))) (.ref t) H sm (.inr (.inr ⟨t,M,rfl,rfl,(x6 R8).tseq e2,by rw[←f2];exact f3,λp hp=>fr p (e4 p (by rw[f2];exact hp)).1,f4⟩))⟩
 ·cases h
theorem z2D{apos cpos npos spos ipos:Pos}{j kk:Nat}(hv:PE X (.Name x npos) (tVar i))(he:∀q,ra=some q->PE X e (dE X.D E δ q))(hs:j6 e=false)(hline:(apos.endLine==cpos.line)=true)
  (h:(match δ[i]? with
   | some (.ot (.dct ks ds))=>(match(generalizing:=false) ds[kk]?,ra with
    | some (.lst xs),some (.ok (.int z) _)=>if xs.length<mostLen then some (Out.nx (δ.set i (.ot (.dct ks (ds.set kk (.lst (xs++[.int z])))))))else none
    | _,_=>none)
   | _=>none)=some o):PS X (.Expr (.Call (.Attribute (.Subscript (.Name x npos) (.Constant (.int (kk:Int)) j ipos) spos) "append" apos) [e] [] cpos) pos) (dS X.D E δ o):=by
 split at h
 ·rename_i ks ds hi;split at h
  ·rename_i xs z cz hk;split at h
   ·rename_i m;cases h;have S:PE X (.Subscript (.Name x npos) (.Constant (.int (kk:Int)) j ipos) spos) (tOp (rIxT X.K) (tVar i) (tC (.int (kk:Int)))):=z6h z0e hv q7y (by intro _ _;rfl);have C:=λt (hA:PE X e t)=>q4L (pos:=pos) (z6b w2C w3z w3A q6r S (G1 hA O8 (u3 hs)) rfl (by rw[u3 hs];rfl) hline (u3 hs) rfl) rfl
    exact(C _ (he _ rfl)).weak λDn σ H ⟨H0,O,W,R,fr,fo,sm,k⟩=>by obtain⟨t,ts,a,ns,e1,e2,e3,e4,e5,e6,e7⟩:=R.otAt hi hk;refine⟨.ref t,e1,t,_,(kk:Int),.ref a,rfl,rfl,e2,z0b e3,.inl ⟨rfl,_,SqL.of e5⟩,O,W,R,λv H1 s1 g=>?_⟩;have hv':=g.int (R.hid.mono s1);subst hv' e4;rw[d8]at m;refine⟨a,_,.int z,rfl,rfl,s1 _ _ e5,by rw[d8];exact x4 m (by decide),?_⟩;have R4:=e7 H1 s1 (ns++[z]);rw[E4,E4]at R4;exact k σ _ W R4 fr (q1J (sm.trans s1) (fr a e6))
   ·cases h
  ·cases h
 ·cases h
theorem z3o{apos cpos npos spos ipos:Pos}{j kk:Nat}(hv:PE X (.Name x npos) (tVar i))(hline:(apos.endLine==cpos.line)=true)
  (h:(match δ[i]? with
   | some (.ot (.dct ks ds))=>(match(generalizing:=false) ds[kk]? with
    | some (.lst _)=>some (Out.nx (δ.set i (.ot (.dct ks (ds.set kk (.lst []))))))
    | _=>none)
   | _=>none)=some o):PS X (.Expr (.Call (.Attribute (.Subscript (.Name x npos) (.Constant (.int (kk:Int)) j ipos) spos) "clear" apos) [] [] cpos) pos) (dS X.D E δ o):=by
 split at h
 ·rename_i ks ds hi;split at h
  ·rename_i xs hk;cases h;have S:PE X (.Subscript (.Name x npos) (.Constant (.int (kk:Int)) j ipos) spos) (tOp (rIxT X.K) (tVar i) (tC (.int (kk:Int)))):=z6h z0e hv q7y (by intro _ _;rfl);exact(q4L (pos:=pos) (z9Z w2C PySem.F.slot_list_clear PySem.F.type_list_clear z2z S rfl hline) rfl).weak λDn σ H ⟨H0,O,W,R,fr,fo,sm,k⟩=>by obtain⟨t,ts,a,ns,e1,e2,e3,e4,e5,e6,e7⟩:=R.otAt hi hk;refine⟨.ref t,e1,t,_,(kk:Int),.ref a,rfl,rfl,e2,z0b e3,.inl ⟨rfl,_,SqL.of e5⟩,a,_,rfl,rfl,e5,?_⟩;exact k σ _ W (e7 H (Same.refl H) []) fr (q1J sm (fr a e6))
  ·cases h
 ·cases h
end
end
section
section
variable {κ:Type} [DecidableEq κ]
def valV(kvs:List (κ×V))(k:κ):Option V:=(kvs.find? λkv=>decide (kv.1=k)).map (·.2)
def putK(kvs:List (κ×V))(k:κ)(v:V):List (κ×V):=
 if(kvs.any λkv=>decide (kv.1=k))=true then kvs.map (λkv=>if kv.1=k then(kv.1,v)else kv)else kvs++[(k,v)]
theorem q2T{p:κ×V}{r:List (κ×V)}{k:κ}(e:p.1=k):valV (p::r) k=some p.2:=by simp[valV,O5,e]
theorem q2R{p:κ×V}{r:List (κ×V)}{k:κ}(e:¬p.1=k):valV (p::r) k=valV r k:=by simp[valV,O5,e]
theorem q7I(k:κ):∀kvs:List (κ×V),(kvs.any λkv=>decide (kv.1=k))=(valV kvs k).isSome
 | []=>rfl
 | p::r=>by
  rw[J1];by_cases e:p.1=k
  ·simp only[q2T e,B9 e,Bool.true_or,Option.isSome_some]
  ·rw[q2R e,C6 e,w36];exact q7I k r
theorem q4z(kvs:List (κ×V))(k:κ)(v:V):(putK kvs k v).length<=kvs.length+1:=by
 unfold putK;split
 ·rw[d8];omega
 ·rw[C5,m4,List.length_nil];omega
theorem RelO.isSome_eq(r:RelO o u):o.isSome=u.isSome:=by
 cases o with
 | none=>cases u with
  | none=>rfl
  | some _=>exact(show False from r).elim
 | some _=>cases u with
  | none=>exact(show False from r).elim
  | some _=>rfl
theorem RelO.getD(r:RelO o u)(rd:RelV d d'):RelV (o.getD d) (u.getD d'):=by
 cases o with
 | none=>cases u with
  | none=>exact rd
  | some _=>exact(show False from r).elim
 | some _=>cases u with
  | none=>exact(show False from r).elim
  | some _=>exact r
theorem KV.val(r:KV kvs vs)(k:κ):RelO (valV kvs k) (valueAt vs k):=by
 unfold KV at r
 induction r with
 | nil=>exact True.intro
 | @cons p q ps qs h t ih=>
  obtain⟨h1,h2⟩:=h;by_cases e:p.1=k
  ·have e':q.1=k:=h1.symm.trans e;have b:valueAt (q::qs) k=some q.2:=by simp[valueAt,O5,e']
   rw[q2T e,b];exact h2
  ·have e':¬q.1=k:=λz=>e (h1.trans z);have b:valueAt (q::qs) k=valueAt qs k:=by simp[valueAt,O5,e']
   rw[q2R e,b];exact ih
theorem KV.any(r:KV kvs vs)(k:κ):(kvs.any λkv=>decide (kv.1=k))=vs.any λkv=>decide (kv.1=k):=by
 unfold KV at r
 induction r with
 | nil=>rfl
 | cons h t ih=>rw[J1,J1,ih,h.1]
theorem KV.repl(r:KV kvs vs)(k:κ)(ry:RelV y u) :
  KV (kvs.map λkv=>if kv.1=k then(kv.1,y)else kv) (vs.map λkv=>if kv.1=k then(kv.1,u)else kv):=by
 unfold KV at r ⊢
 induction r with
 | nil=>exact .nil
 | @cons p q ps qs h t ih=>
  rw[p7,p7];refine .cons ?_ ih;obtain⟨h1,h2⟩:=h;by_cases e:p.1=k
  ·rw[d4 e,d4 (h1.symm.trans e)];exact⟨h1,ry⟩
  ·rw[d5 e,d5 (λz=>e (h1.trans z))];exact⟨h1,h2⟩
theorem KV.put(r:KV kvs vs)(k:κ)(ry:RelV y u):KV (putK kvs k y) (stored vs k u):=by
 unfold putK stored;rw[r.any k];by_cases e:(vs.any λkv=>decide (kv.1=k))=true
 ·rw[d4 e,d4 e];exact r.repl k ry
 ·rw[d5 e,d5 e];exact Paired.snoc r ⟨rfl,ry⟩
theorem KV.length{kvs:List (κ×V)}{vs:List (κ×Value)}(r:KV kvs vs):kvs.length=vs.length:=w3e r
end
theorem z1L(r:RelV (kV k) u):(C7 P w).is k u=true:=by
 cases k with
 | inl i=>obtain⟨t,e⟩:=(show ∃t,u=Value.int i t from r);subst e;exact q6S P w i t
 | inr x=>obtain⟨t,e⟩:=(show ∃t,u=Value.str x t from r);subst e;exact q7q P w x t
theorem q3m:∀{ks:List Key} {us:List Value},Vals (ks.map kV) us->ItemsAre (C7 P w) ks us
 | [],_,r=>by rw[List.map_nil]at r;cases r;exact .nil
 | k::ks,_,r=>by
  rw[p7]at r;cases r with
  | cons h t=>exact .cons (z1L h) (q3m t)
abbrev KT(H:Hp):List (List Key×V)->List (List Key×Addr×Value)->Prop:=Paired λp q=>p.1=q.1/\H q.2.1=some (.tup (p.1.map kV))/\RelV p.2 q.2.2
theorem KT.val(r:KT H kvs xs)(k:List Key):RelO (valV kvs k) ((atKey xs k).map (·.2)):=by
 induction r with
 | nil=>exact True.intro
 | @cons p q ps qs h t ih=>
  obtain⟨h1,_,h2⟩:=h;by_cases e:p.1=k
  ·have e':q.1=k:=h1.symm.trans e;have b:atKey (q::qs) k=some q.2:=by simp[atKey,O5,e']
   rw[q2T e,b];exact h2
  ·have e':¬q.1=k:=λz=>e (h1.trans z);have b:atKey (q::qs) k=atKey qs k:=by simp[atKey,O5,e']
   rw[q2R e,b];exact ih
theorem KT.repl(r:KT H kvs xs)(k:List Key)(ry:RelV y u) :
  KT H (kvs.map λkv=>if kv.1=k then(kv.1,y)else kv) (xs.map (putAt k u)):=by
 induction r with
 | nil=>exact .nil
 | @cons p q ps qs h t ih=>
  rw[p7,p7];refine .cons ?_ ih;obtain⟨h1,h2,h3⟩:=h;unfold putAt;by_cases e:p.1=k
  ·rw[d4 e,d4 (h1.symm.trans e)];exact⟨h1,h2,ry⟩
  ·rw[d5 e,d5 (λz=>e (h1.trans z))];exact⟨h1,h2,h3⟩
theorem KT.put(r:KT H kvs xs)(k:List Key)(hb:H b=some (.tup (k.map kV)))(ry:RelV y u) :
  KT H (putK kvs k y) (storedH xs k b u):=by
 have e:(kvs.any λkv=>decide (kv.1=k))=(atKey xs k).isSome:=(by rw[q7I,(r.val k).isSome_eq,Option.isSome_map]);unfold putK storedH;rw[e];by_cases q:(atKey xs k).isSome=true
 ·rw[d4 q,d4 q];exact r.repl k ry
 ·rw[d5 q,d5 q];exact Paired.snoc r ⟨rfl,hb,ry⟩
theorem KT.keeps(r:KT H kvs xs)(ht:∀b ys,H b=some (.tup ys)->H' b=some (.tup ys)):KT H' kvs xs:=
 Paired.mapP r λ_ _ z=>⟨z.1,ht _ _ z.2.1,z.2.2⟩
section
variable {P:Program} {w:World} {H:Hp} {h:Heap} {a:Addr}
theorem z6d(ok:HOk P w H h)(e:Rd H a u):r6 P w H h a u:=e.ok ok
theorem z6m(ok:HOk P w H h)(e:Rd H a (.dK kvs)):kvs.length<=sizeLine/\(a==sysModules)=false/\∃vs,KV kvs vs/\h.DictOf (C7 P w) a vs:=
 show r6 P w H h a (.dK kvs)from z6d ok e
theorem y0d(ok:HOk P w H h)(e:H a=some (.dK kvs)):kvs.length<=sizeLine/\(a==sysModules)=false/\∃vs,KV kvs vs/\h.DictOf (C7 P w) a vs:=z6m ok (.inl e)
theorem z0W(ok:HOk P w H h)(e:H a=some (.tup (ks.map kV))):(tupleKind (C7 P w)).is h ks a:=by
 obtain⟨_,its,r,o,h1,h2,n,h3⟩:=(show r6 P w H h a (.tup (ks.map kV))from ok a _ e);exact⟨o,its.toArray,n,h1,h2.1,h3,by simpa using q3m r⟩
theorem z0S(ok:HOk P w H h)(e:Rd H a (.dT kvs)):kvs.length<=sizeLine/\(a==sysModules)=false /\
  ∃xs,KT H kvs xs/\h.DictOfH (tupleKind (C7 P w)) a xs:=by
 obtain⟨z,y,xs,r,o,es,ep,h1,h2,h3,h4,h5⟩:=(show r6 P w H h a (.dT kvs)from z6d ok e);refine⟨z,y,xs,r,o,es,ep,h1,h2,h3,h4,λx hx=>?_,h5⟩;have all:∀{l:List (List Key×V)} {m:List (List Key×Addr×Value)},KT H l m->∀x∈m,(tupleKind (C7 P w)).is h x.1 x.2.1:=by
  intro l m q
  induction q with
  | nil=>intro x hx;exact nomatch hx
  | @cons p q ps qs hq t ih=>
   intro x hx;rcases f9.mp hx with e | hx
   ·subst e;exact z0W ok (by rw[←hq.1];exact hq.2.1)
   ·exact ih x hx
 exact all r x hx
theorem y0Y(ok:HOk P w H h)(e:H a=some (.dT kvs)):kvs.length<=sizeLine/\(a==sysModules)=false /\
  ∃xs,KT H kvs xs/\h.DictOfH (tupleKind (C7 P w)) a xs:=z0S ok (.inl e)
end
def DGet(H:Hp)(a:Addr)(y:V)(r:Option V):Prop:=
 (∃kvs k,Rd H a (.dK kvs)/\y=kV k/\r=valV kvs k)\/∃kvs k b,Rd H a (.dT kvs)/\y=.ref b/\H b=some (.tup (k.map kV))/\r=valV kvs k
def DPut(H:Hp)(a:Addr)(y v:V)(H':Hp):Prop:=
 (∃kvs k,H a=some (.dK kvs)/\y=kV k/\kvs.length<sizeLine/\H'=upd H a (.dK (putK kvs k v))) \/
 ∃kvs k b,H a=some (.dT kvs)/\y=.ref b/\H b=some (.tup (k.map kV))/\kvs.length<sizeLine/\H'=upd H a (.dT (putK kvs k v))
theorem DPut.k{H:Hp}{a:Addr}{kvs:List (Key×V)}{k:Key}{v:V}(e:H a=some (.dK kvs))(hl:kvs.length<sizeLine):DPut H a (kV k) v (upd H a (.dK (putK kvs k v))):=.inl ⟨kvs,k,e,rfl,hl,rfl⟩
section
variable {X:Cx} {pins:List (Addr×Obj)} {σ:St} {H:Hp} {s:Shared} {a:Addr} {y v:V} {u r:Value} {o:Option V} {A:Around} {E:Value->Shared->Prop}
theorem Inv.big(I:Inv X pins σ H s):sysModules<s.heap.objs.size:=by
 have h:mainGlobals<s.heap.objs.size:=(I.mod.glob.keeps I.bk).lt;exact w3B (by decide) h
theorem q9l(hu:A.units+1<cLine)(I:Inv X pins σ H s)(g:DGet H a y (some v))(ry:RelV y u)(h:∀w' s',Inv X pins σ H s'->RelV v w'->Q w' s') :
  wpAny (model X.prog X.w) A (getItem (.ref a) u) Q E s:=by
 rcases g with⟨kvs,k,e,ey,l⟩ | ⟨kvs,k,b,e,ey,eb,l⟩
 ·subst ey;obtain⟨z,hd,vs,rel,dd⟩:=z6m I.hok e;obtain⟨w',hw,rw'⟩:=RelO.some_of (v:=v) (o:=valueAt vs k) (by rw[l];exact rel.val k);exact wpAny_getItem_of (z1L ry) dd.mapOf hw (h w' _ (I.tok _) rw')
 ·subst ey;cases(show u=Value.ref b from ry);obtain⟨z,hd,xs,rel,dd⟩:=z0S I.hok e;obtain⟨w',hw,rw'⟩:=RelO.some_of (v:=v) (o:=(atKey xs k).map (·.2)) (by rw[l];exact rel.val k);obtain⟨p,hp,hp2⟩:=x8.mp hw;refine wpAny_getItem_heap (w28 hu) (z0W I.hok eb) dd hp ?_;rw[hp2];exact h w' _ (I.tok _) rw'
theorem z0c(I:Inv X pins σ H s)(mu:Mut (H a))(hs:Heap.SameBut a s.heap h')(he:∃q,h'.get? a=some q)(new:r6 X.prog X.w (upd H a ob) h' a ob) :
  Inv X pins σ (upd H a ob) {s with heap:=h',toks:=t'}:=
 I.write (x:=a) (e:=a) mu (.inl rfl) (λb q hb z=>(hs.2 b hb).trans z) he new
theorem z9l(z:kvs.length<=sizeLine)(hd:(a==sysModules)=false)(rel:KV kvs vs)(dd:h'.DictOf (C7 P w) a vs) :
  r6 P w H' h' a (.dK kvs):=⟨z,hd,vs,rel,dd⟩
theorem q9L(hu:A.units+1<cLine)(I:Inv X pins σ H s)(g:DPut H a y v H')(ry:RelV y u)(rv:RelV v r)(h:∀s',Inv X pins σ H' s'->Q () s') :
  wpAny (model X.prog X.w) A (setItem (.ref a) u r) Q E s:=by
 rcases g with⟨kvs,k,e,ey,l,eH⟩ | ⟨kvs,k,b,e,ey,eb,l,eH⟩
 ·subst ey eH;obtain⟨z,hd,vs,rel,dd⟩:=y0d I.hok e;have hz:vs.length<=sizeLine:=by rw[←rel.length];exact z
  have hl:(putK kvs k v).length<=sizeLine:=by have:=q4z kvs k v;omega
  refine wpAny_setItem_pairs (hsz:=hz) (z1L ry) dd λh' dd' hs=>h _ ?_;have he:∃q,h'.get? a=some q:=let ⟨q,_,_,hq,_⟩:=dd';⟨q,hq⟩;exact z0c I (by rw[e];exact True.intro) hs he (z9l hl hd (rel.put k rv) dd')
 ·subst ey eH;cases(show u=Value.ref b from ry);obtain⟨z,hd,xs,rel,dd⟩:=y0Y I.hok e;have hz:xs.length<=sizeLine:=by rw[←w3e rel];exact z
  have hl:(putK kvs k v).length<=sizeLine:=by have:=q4z kvs k v;omega
  refine wpAny_setItem_heap (hsz:=hz) (w28 hu) (z0W I.hok eb) dd λh' dd' hs=>h _ ?_;obtain⟨q,es,ep,hq,h2,h3,h4,_,h5⟩:=dd';refine z0c I (by rw[e];exact True.intro) hs ⟨q,hq⟩ ⟨hl,hd,_,(rel.put k eb rv).keeps λc ys ec=>?_,q,es,ep,hq,h2,h3,h4,h5⟩;rw[j4 (y0M ec e (λz=>nomatch z))];exact ec
end
section
variable {X:Cx} {pins:List (Addr×Obj)} {σ:St} {H:Hp} {s:Shared} {a:Addr} {kvs:List (Key×V)} {k:Key} {u:Value} {A:Around} {E:Value->Shared->Prop}
end
def NoSl(i:Expr):Prop:=∀ov iv,subscripted i false ov iv=operate [ov,iv] (getItem ov iv)
theorem z5q{prog:Program}{w:World}{A:Around}{E:Value->Shared->Prop}{s:Shared}{env:Env}{value slice:Expr}{pos:Pos}{T id:String}{Q:Value->Shared->Prop}
  (hl:typeLookup (.type T) "__getitem__" = pure (some (.builtin id))) (hs:NoSl slice)
  (h:wpAny (model prog w) A (eval value env) (λo s₁=>wpAny (model prog w) A (eval slice env) (λi s₂=>s₂.TypeIs o T/\wpAny (model prog w) A (getItem o i) Q E s₂) E s₁) E s) :
  wpAny (model prog w) A (eval (.Subscript value slice pos) env) Q E s:=by
 refine Subscript_ (F8 h (λo s₁ h₁=>F8 h₁ (λi s₂ h₂=>?_) λ_ _ x=>x) λ_ _ x=>x);obtain⟨hT,h₂⟩:=h₂;unfold subscriptTail;refine b9 ?_;rw[getitemInPython_of_ne hT.not_modules];refine b9 (wpAny_specialOf hT hl ?_);have fin:wpAny (model prog w) A (subscripted slice false o i) (λr s₃=>wpAny (model prog w) A (letTemporaryGo value o r >>= λ_=>pure r) Q E s₃) E s₂:=by rw[hs o i];exact wpAny_operating (F8 h₂ (λr s₃ h₃=>b9 (wpAny_letTemporaryGo (i4 h₃))) λ_ _ x=>x)
 first
  | exact i4 (b9 fin)
  | exact b9 (i4 (b9 fin))
  | exact b9 fin
theorem q6Y{σ:St}(I:Inv X pins σ H s)(g:DGet H a y o):s.TypeIs (.ref a) "dict":=by
 rcases g with⟨kvs,k,e,_,_⟩ | ⟨kvs,k,b,e,_,_,_⟩
 ·obtain⟨_,_,vs,_,dd⟩:=z6m I.hok e;exact dd.typeIs
 ·obtain⟨_,_,xs,_,dd⟩:=z0S I.hok e;exact dd.typeIs
def y1v(td ty tv:TE):TS:=λD σ H=>tv σ H λv H1=>td σ H1 λx H2=>ty σ H2 λy H3=>∃a H4,x=.ref a/\DPut H3 a y v H4/\D.nx σ H4
section
variable {X:Cx} {o i e value:Expr} {pos pos' tpos:Pos} {td ty tv:TE}
theorem z5E(hu:X.A.units+1<cLine)(ho:PE X o td)(hi:PE X i ty)(hv:PE X value tv)(hs:swapsWith value (some (.Subscript o i pos')) pos.line X.env=pure false) :
  PS X (.Assign [.Subscript o i pos'] value pos) (y1v td ty tv):=by
 intro pins s σ H D I h;refine wpAny_Assign_Subscript (thn (hv pins s σ H _ I h) λr s1 ⟨v,H1,I1,rv,q1⟩=>thn (ho pins s1 σ H1 _ I1 q1) λu s2 ⟨x,H2,I2,rx,q2⟩=>thn (hi pins s2 σ H2 _ I2 q2) λiv s3 ⟨y,H3,I3,ry,a,H4,ex,g,q3⟩=>?_) hs;subst ex;obtain rfl:u=Value.ref a:=rx;exact q9L hu I3 g ry rv λs4 I4=>⟨σ,H4,I4,q3⟩
end
theorem z3p(h:Heap)(hb:sysModules<h.objs.size):r6 P w H (h.push {cls:=.type "dict",data:=.dict #[]}) h.objs.size (.dK []):=
 ⟨O6 _,C4.mpr (Ne.symm (B3 hb)),[],.nil,w3P h⟩
def z7V:TE:=λ_ H Q=>∀p,H p=none->Q (.ref p) (upd H p (.dK []))
section
variable {X:Cx} {pos:Pos}
theorem z2v:PE X (.Dict [] [] pos) z7V:=λpins s σ H Q I h=>
 wpAny_Dict_empty ⟨.ref s.heap.objs.size,_,I.laid (a:=s.heap.objs.size) (o:=.dK []) (t':=s.toks) (λ_ _ q=>m5 _ q) (j2 _) (z3p s.heap I.big),rfl,h _ (I.hok.fresh (j2 _))⟩
end
end
section
def putL(L:List (Int×Int))(k z:Int):List (Int×Int):=if(L.any λp=>decide (p.1=k))=true then L.map (λp=>if p.1=k then(p.1,z)else p)else L++[(k,z)]
theorem z4w(L:List (Int×Int))(k z:Int):putK (odK L) (.inl k) (.int z)=odK (putL L k z):=by
 have e:((odK L).any λkv=>decide (kv.1=.inl k))=L.any λp=>decide (p.1=k):=by
  unfold odK;rw[List.any_map]
  congr 1
  funext p
  simp
 unfold putK putL;rw[e];split
 ·unfold odK;rw[j9,j9];apply C9;intro p _;simp only[Function.comp];by_cases h:p.1=k
  ·rw[d4 (by rw[h]),d4 h]
  ·rw[d5 (by intro z;exact h (Sum.inl.inj z)),d5 h]
 ·unfold odK;rw[E4];rfl
theorem z4t(L:List (Int×Int))(k z:Int):putD (.i k) (.int z) (L.map λp=>.i p.1) (L.map λp=>.int p.2)=((putL L k z).map (λp=>.i p.1),(putL L k z).map (λp=>.int p.2)):=by
 have e:(DKey.i k∈L.map λp=>DKey.i p.1)↔(L.any λp=>decide (p.1=k))=true:=by
  rw[o7,w13];constructor
  ·rintro⟨p,h1,h2⟩;exact⟨p,h1,by rw[L3];cases h2;rfl⟩
  ·rintro⟨p,h1,h2⟩;exact⟨p,h1,by rw[L3.mp h2]⟩
 unfold putD putL;by_cases h:(L.any λp=>decide (p.1=k))=true
 ·rw[d4 (e.mpr h),d4 h,j9,j9];refine Prod.ext ?_ ?_
  ·apply C9;intro p _;show DKey.i p.1=DKey.i (if p.1=k then(p.1,z)else p).1;split<;>rfl
  ·show List.map _ (List.zip _ _)=_;rw[List.zip_map_left,List.zip_map_right];have:∀(L:List (Int×Int)),List.zip L L=L.map λp=>(p,p):=by
    intro L
    induction L with
    | nil=>rfl
    | cons a r ih=>rw[w29,ih];rfl
   rw[this,j9,j9,j9];apply C9;intro p _;show(if DKey.i p.1=DKey.i k then DV.int z else DV.int p.2)=DV.int (if p.1=k then(p.1,z)else p).2;by_cases h:p.1=k
   ·rw[d4 (by rw[h]),d4 h]
   ·rw[d5 (by intro z;exact h (DKey.i.inj z)),d5 h]
 ·rw[d5 (λz=>h (e.mp z)),d5 h,E4,E4];rfl
theorem z5K(L:List (Int×Int)):RepL D H (L.map λp=>.int p.2) ((odK L).map (·.2)):=by
 have:=V5 (D:=D) (H:=H) (L.map (·.2));rw[j9,j9]at this;unfold odK;rw[j9];exact this
theorem z6s(L:List (Int×Int)):(odK L).map (λp=>dKey p.1)=L.map λp=>.i p.1:=by
 unfold odK;rw[j9];rfl
theorem z5h(L:List (Int×Int))(k:Int):valV (odK L) (.inl k)=(G2 (.i k) (L.map λp=>.i p.1) (L.map λp=>.int p.2)).map (λd=>match d with | .int v=>V.int v | _=>.non):=by
 induction L with
 | nil=>rfl
 | cons p r ih=>
  show valV ((.inl p.1,.int p.2)::odK r) (.inl k)=(if DKey.i p.1=.i k then some (DV.int p.2)else G2 (.i k) (r.map λp=>.i p.1) (r.map λp=>.int p.2)).map _;by_cases h:p.1=k
  ·rw[q2T (by rw[h]),d4 (by rw[h])];rfl
  ·rw[q2R (by intro z;exact h (Sum.inl.inj z)),d5 (by intro z;exact h (DKey.i.inj z)),ih]
section
variable {D:Dm} {H H':Hp} {σ:St} {δ:List Sv} {O W:List Addr} {i:Nat}
theorem RSt.growD(R:RSt D H σ δ O W)(hp:H p=none)(hm:mutO o0=true):RSt D (upd H p o0) σ δ O (p::W):=by
 have s:Same H (upd H p o0):=u6 hp;have old:Same (L2.wo (O++W) H) (L2.wo (O++(p::W)) (upd H p o0)):=λb o e=>by
  obtain⟨hb,e⟩:=B7 e;rw[j7 λz=>?_]
  ·exact s b o e
  ·rcases f9.mp (T4.mp z)with z | z
   ·rw[z,hp]at e;cases e
   ·exact hb z
 refine⟨λj d h=>?_,λj d h=>?_,R.inj,?_,λj d h=>?_,R.od.step (λj d h=>⟨h,rfl⟩) (λ_ h _=>i6 _ h) (λa _ _ h _=>s _ _ h),R.len,⟨λa ha=>?_,Same.refl _,λa ha=>?_,λa ha=>?_,R.hid.omS s⟩⟩
 ·obtain⟨v,e1,e2⟩:=R.val j d h;exact⟨v,e1,e2.mono old⟩
 ·obtain⟨a,ys,ds1,e0,e1,e2,e3,e4⟩:=R.own j d h;exact⟨a,ys,ds1,e0,e1,i6 _ e2,s _ _ e3,e4.mono old⟩
 ·obtain⟨P,f,u⟩:=R.ot;refine⟨P,λj d h=>?_,u⟩;obtain⟨t,ts,e1,e2,e3,e4⟩:=f j d h;exact⟨t,ts,e1,old.tseq e2,e3.mono old λ_ _ _ q=>s _ _ q,λp hp=>⟨i6 _ (e4 p hp).1,(e4 p hp).2.1.imp λ_ q=>s _ _ q,(e4 p hp).2.2⟩⟩
 ·obtain⟨⟨p1,L,e0,e1,e2,e3⟩,u,n⟩:=R.o2 j d h;exact⟨⟨p1,L,e0,e1,(e2.mono s).sub λa _ ha=>i6 _ ha,e3⟩,u,n⟩
 ·rcases f9.mp (T4.mp ha)with z | z
  ·rw[z,w6];intro q;cases q
  ·intro q;exact R.hid.ot a z (s.free q)
 ·rcases f9.mp ha with z | z
  ·exact⟨_,by rw[z];exact w6,hm⟩
  ·obtain⟨ys,q,m⟩:=R.hid.wl a z;exact⟨ys,s _ _ q,m⟩
 ·rcases f9.mp ha with z | z
  ·intro q;exact R.hid.ot p (u4 _ (by rw[←z];exact q)) hp
  ·exact R.hid.dj a z
theorem RSt.setOd(R:RSt D H σ δ O W)(hp:p∈W)(hok:OdOk d0 o0)(hH:H p=some o0)(hno:noOt i δ=true):RSt D H (σ.set i (some (.ref p))) (δ.set i (.od d0)) O W:=by
 refine⟨λj d h=>?_,λj d h=>?_,λj k a d1 d2 q1 q2 e1 e2=>?_,RSt.noot λj d h=>?_,λj d h=>?_,λj d h=>?_,by rw[u0,u0];exact R.len,R.hid⟩
 ·have hj:=j0 h (by intro z;cases z);rw[d6 (Ne.symm hj)]at h ⊢;exact R.val j d h
 ·have hj:=j0 h (by intro z;cases z);rw[d6 (Ne.symm hj)]at h ⊢;exact R.own j d h
 ·have n1:=j0 q1 (by intro z;cases z);have n2:=j0 q2 (by intro z;cases z);rw[d6 (Ne.symm n1)]at q1 e1;rw[d6 (Ne.symm n2)]at q2 e2;exact R.inj j k a d1 d2 q1 q2 e1 e2
 ·have hj:=j0 h (by intro z;cases z);rw[d6 (Ne.symm hj)]at h;exact absurd (z1d hno h) hj
 ·have hj:=j0 h (by intro z;cases z);rw[d6 (Ne.symm hj)]at h;exact absurd (z0z hno h) hj
 ·have hj:j=i:=by
   by_cases hj:j=i
   ·exact hj
   ·rw[d6 (Ne.symm hj)]at h;exact z0H hno h
  subst hj;obtain⟨hl,e⟩:=N9 h;cases e;refine⟨⟨p,o0,hok,C8 (by rw[R.len];exact hl),hp,hH⟩,λk d' q=>?_⟩;by_cases hk:k=j
  ·exact hk
  ·rw[d6 (Ne.symm hk)]at q;exact z0H hno q
theorem RSt.writeOd(R:RSt D H σ δ O W)(hi:δ[i]? = some (.od d))(ha:σ[i]? = some (some (.ref p)))(hp:p∈W)(hH:H p=some o0)(hdc:dicO o0=true)(hok:OdOk d1 o1):RSt D (upd H p o1) σ (δ.set i (.od d1)) O W:=by
 have old:Same (L2.wo (O++W) H) (L2.wo (O++W) (upd H p o1)):=λb o e=>by obtain⟨hb,e⟩:=B7 e;rw[j7 hb,j4 λz=>hb (by rw[z];exact u7 _ hp)];exact e
 have lne:∀{b:Addr} {ys:List V},H b=some (.lst ys)->b≠p:=λ{b ys} h z=>by rw[z,hH]at h;cases h;cases hdc
 refine⟨λj d h=>?_,λj d h=>?_,λj k a d1 d2 q1 q2 e1 e2=>?_,?_,λj d h=>?_,λj d h=>?_,by rw[u0];exact R.len,⟨λb hb q=>?_,Same.refl _,λb hb=>?_,R.hid.dj,R.hid.omW hp⟩⟩
 ·have hj:=j0 h (by intro z;cases z);rw[d6 (Ne.symm hj)]at h;obtain⟨v,q1,q2⟩:=R.val j d h;exact⟨v,q1,q2.mono old⟩
 ·have hj:=j0 h (by intro z;cases z);rw[d6 (Ne.symm hj)]at h;obtain⟨b,ys,ds1,q0,q1,q2,q3,q4⟩:=R.own j d h;exact⟨b,ys,ds1,q0,q1,q2,by rw[j4 (lne q3)];exact q3,q4.mono old⟩
 ·have n1:=j0 q1 (by intro z;cases z);have n2:=j0 q2 (by intro z;cases z);rw[d6 (Ne.symm n1)]at q1;rw[d6 (Ne.symm n2)]at q2;exact R.inj j k a d1 d2 q1 q2 e1 e2
 ·obtain⟨P,f,u⟩:=R.ot;refine⟨P,λj d h=>?_,λj k d1 d2 h1 h2=>?_⟩
  ·have hj:=j0 h (by intro z;cases z);rw[d6 (Ne.symm hj)]at h;obtain⟨t,ts,f1,f2,f3,f4⟩:=f j d h;refine⟨t,ts,f1,old.tseq f2,f3.mono old λp1 _ ys q=>by rw[j4 (lne q)];exact q,λp1 hp1=>⟨(f4 p1 hp1).1,(f4 p1 hp1).2.1.imp λys q=>by rw[j4 (lne q)];exact q,λk d2 q=>?_⟩⟩;have hk:=j0 q (by intro z;cases z);rw[d6 (Ne.symm hk)]at q;exact(f4 p1 hp1).2.2 k d2 q
  ·rw[d6 (Ne.symm (j0 h1 (by intro z;cases z)))]at h1;rw[d6 (Ne.symm (j0 h2 (by intro z;cases z)))]at h2;exact u j k d1 d2 h1 h2
 ·have hj:=j0 h (by intro z;cases z);rw[d6 (Ne.symm hj)]at h;obtain⟨⟨p1,L1,f0,f1,f2,f3⟩,u,n⟩:=R.o2 j d h;refine⟨⟨p1,L1,f0,f1,f2.write λz=>?_,λk d2 b q q2=>?_⟩,λk d2 q=>?_,λk d2 q=>?_⟩
  ·obtain⟨_,ys,w⟩:=f2.dom z;exact lne w rfl
  ·have hk:=j0 q (by intro z;cases z);rw[d6 (Ne.symm hk)]at q;exact f3 k d2 b q q2
  ·have hk:=j0 q (by intro z;cases z);rw[d6 (Ne.symm hk)]at q;exact u k d2 q
  ·have hk:=j0 q (by intro z;cases z);rw[d6 (Ne.symm hk)]at q;exact n k d2 q
 ·have hj:j=i:=by
   by_cases hj:j=i
   ·exact hj
   ·rw[d6 (Ne.symm hj)]at h;exact(R.od i _ hi).2 j _ h
  subst hj;obtain⟨hl,e⟩:=N9 h;cases e;refine⟨⟨p,o1,hok,ha,hp,w6⟩,λk d' q=>?_⟩;by_cases hk:k=j
  ·exact hk
  ·rw[d6 (Ne.symm hk)]at q;exact(R.od j _ hi).2 k _ q
 ·by_cases hba:b=p
  ·rw[hba,w6]at q;cases q
  ·rw[j4 hba]at q;exact R.hid.ot b hb q
 ·by_cases hba:b=p
  ·exact⟨_,by rw[hba];exact w6,hok.mut⟩
  ·obtain⟨ys,q,m⟩:=R.hid.wl b hb;exact⟨ys,by rw[j4 hba];exact q,m⟩
end
section
variable {X:Cx} {E:St->XK} {δ:List Sv} {o:Out} {e ek ed ea:Expr} {pos pos' npos spos apos cpos:Pos} {ra rb rc:Option Re} {i:Nat} {x:Str} {re:Re}
theorem z4R(hN:X.N.Nodup)(hi:X.N[i]? = some x)(hx:Loc X.env.scope x)(hf:X.fn x=true\/X.env.scope.names.lookup x=some .local)(h:(if noOt i δ then some (Out.nx (δ.set i (.od (.dct [] []))))else none)=some o):PS X (.Assign [.Name x npos] (.Dict [] [] pos') pos) (dS X.D E δ o):=by
 split at h
 ·rename_i hno;cases h;refine(q6a hN hi hx z2v rfl hf).weak λDn σ H ⟨H0,O,W,R,fr,fo,sm,k⟩=>λp hp=>?_
  have R1:RSt X.D (upd H p (.dK [])) (σ.set i (some (.ref p))) (δ.set i (.od (odD []))) O (p::W):=(R.growD hp rfl).setOd (o0:=.dK []) (j5 ..) (.inl ⟨[],rfl,rfl⟩) w6 hno;exact k _ _ _ R1 (λa ha=>by
   rcases f9.mp ha with z | z
   ·rw[z];exact sm.free hp
   ·exact fr a z) (sm.trans (u6 hp))
 ·cases h
theorem z2c(hu:X.A.units+1<cLine)(hv:PE X (.Name x npos) (tVar i))(he:∀q,ra=some q->PE X e (dE X.D E δ q))(hk:∀q,rb=some q->PE X ek (dE X.D E δ q))(hc:V2 e=false)
  (h:(match δ[i]? with
   | some (.od (.dct ks vs))=>Re.thnS δ ra λd _=>Re.thnS δ rb λk _=>(match k,d with
    | .int k,.int z=>if ks.length<mostLen then some (Out.nx (δ.set i (.od (.dct (putD (.i k) (.int z) ks vs).1 (putD (.i k) (.int z) ks vs).2))))else none
    | _,_=>none)
   | _=>none)=some o):PS X (.Assign [.Subscript (.Name x npos) ek spos] e pos) (dS X.D E δ o):=by
 split at h
 ·rename_i ks vs hi;have C:=λt t' (hA:PE X e t) (hB:PE X ek t')=>z5E (pos:=pos) (pos':=spos) hu hv hB hA (q2k hc)
  cases hra:ra with
  | none=>rw[hra]at h;cases h
  | some q=>
   rw[hra]at h;have A:=he q hra;cases q with
   | ex c=>
    cases h;exact(C _ _ A L0).weak λDn σ H ⟨H0,O,W,R,fr,fo,sm,k⟩=>⟨O,W,R,P6 (Q:=λ_ _=>False) R fr sm k⟩
   | ok d cl=>
    cases hrb:rb with
    | none=>rw[hrb]at h;cases h
    | some q2=>
     rw[hrb]at h;have B:=hk q2 hrb;cases q2 with
     | ex c=>
      cases h;refine(C _ _ A B).weak λDn σ H ⟨H0,O,W,R,fr,fo,sm,k⟩=>⟨O,W,R,λv H1 s1 g=>?_⟩
      obtain⟨⟨p,L,e0,e1,e2,e3⟩,u⟩:=R.od i _ hi;exact⟨.ref p,e1,O,W,R.mono s1,P6 (Q:=λ_ _=>False) (R.mono s1) fr (sm.trans s1) k⟩
     | ok dk ck=>
      have h':(match(generalizing:=false) dk,d with
       | .int k,.int z=>if ks.length<mostLen then some (Out.nx (δ.set i (.od (.dct (putD (.i k) (.int z) ks vs).1 (putD (.i k) (.int z) ks vs).2))))else none
       | _,_=>none)=some o:=h
      split at h'
      ·rename_i k0 z;split at h'
       ·rename_i hl;cases h';refine(C _ _ A B).weak λDn σ H ⟨H0,O,W,R,fr,fo,sm,k⟩=>⟨O,W,R,λv H1 s1 g=>?_⟩
        obtain⟨⟨p,ob,e0,e1,e2,e3⟩,u⟩:=R.od i _ hi;obtain⟨L,e0z,eo⟩:∃L,DV.dct ks vs=odD L/\ob=.dK (odK L):=by
         rcases e0 with h | ⟨L,q,_⟩
         ·exact h
         ·cases q
        subst eo;refine⟨.ref p,e1,O,W,R.mono s1,λv2 H2 s2 g2=>?_⟩;have hv1:=g.int (R.hid.mono s1);have hv2:=g2.int ((R.mono s1).hid.mono s2);subst hv1 hv2;have e3':=s2 _ _ (s1 _ _ e3);have e0':DV.dct ks vs=.dct (L.map λp=>.i p.1) (L.map λp=>.int p.2):=e0z;cases e0';rw[d8]at hl;refine⟨p,_,rfl,DPut.k (k:=.inl k0) e3' (by unfold odK;rw[d8];exact x4 hl (by decide)),?_⟩;rw[z4w];rw[z4t]at k;exact k σ _ W (((R.mono s1).mono s2).writeOd hi e1 e2 e3' rfl (.inl ⟨_,rfl,rfl⟩)) fr (q1J ((sm.trans s1).trans s2) (fr p e2))
       ·cases h'
      ·cases h'
 ·cases h
theorem z2B(L:List ((Int×Int)×Int)):(oeK L).map (λp=>DKey.t p.1)=L.map λp=>.t [.inl p.1.1,.inl p.1.2]:=by
 unfold oeK;rw[j9];rfl
theorem z2H(L:List ((Int×Int)×Int)):RepL D H (L.map λp=>.int p.2) ((oeK L).map (·.2)):=by
 unfold oeK;rw[j9]
 induction L with
 | nil=>exact B2.mpr rfl
 | cons p r ih=>exact p8.mpr ⟨_,_,rfl,u9.mpr rfl,ih⟩
theorem z7N(hv:PE X (.Name x npos) (tVar i)):PE X (.Name x npos) (λσ H Q=>∃a o,σ[i]? = some (some (.ref a))/\H a=some o/\dicO o=true/\∀ob,Q (.ref a) (upd H a (.frz ob o))):=by
 intro pins s σ H Q I h;obtain⟨a,o,e1,e2,e3,q⟩:=h;refine thn (hv pins s σ H (λv H1=>v=.ref a/\H1=H) I ⟨_,e1,rfl,rfl⟩) λu s1 ⟨v,H1,I1,r1,q1,q2⟩=>?_
 subst q1 q2;have ok:=I1.hok _ _ e2;obtain⟨ob,z5⟩:∃ob,s1.heap.get? a=some ob:=by
  cases o with
  | dK kvs=>obtain⟨_,_,_,_,ob,_,_,e,_⟩:=ok;exact⟨ob,e⟩
  | dT kvs=>obtain⟨_,_,_,_,ob,_,_,e,_⟩:=ok;exact⟨ob,e⟩
  | _=>cases e3
 have ok2:r6 X.prog X.w (upd H1 a (.frz ob o)) s1.heap a o:=by
  refine ok.stay (λ_ _ _ e=>e) (λb e=>?_) λb xs e=>?_
  ·rw[j4 λz=>by rw[z,e2]at e;cases e;cases e3];exact e
  ·rw[j4 λz=>by rw[z,e2]at e;cases e;cases e3];exact e
 exact⟨.ref a,upd H1 a (.frz ob o),I1.write (x:=a) (e:=a) (t':=s1.toks) (by rw[e2];cases o<;>first | trivial | cases e3) (.inl rfl) (λb u hb e=>e) ⟨ob,z5⟩ ⟨z5,ok2⟩,r1,q ob⟩
theorem z2s(hv:PE X (.Name x npos) (tVar i))(h:(match δ[i]? with
   | some (.od d)=>some (Out.rt (unT d) false)
   | _=>none)=some o):PS X (.Return (some (.Name x npos)) pos) (dS X.D E δ o):=by
 split at h
 ·rename_i d hi;cases h;refine(q5r (z7N hv)).weak λDn σ H ⟨H0,O,W,R,fr,fo,sm,k⟩=>?_
  obtain⟨⟨p,ob,e0,e1,e2,e3⟩,u⟩:=R.od i _ hi;refine⟨p,ob,e1,e3,e0.dic,λo1=>k _ _ (q1J sm (fr p e2)) ?_⟩;rcases e0 with⟨L,q1,q2⟩ | ⟨L,q1,q2⟩
  ·subst q1 q2;show Rep X.D (L2.wo O (upd H p (.frz o1 (.dK (odK L))))) (odD L) (.ref p);exact M0.mpr (.inl ⟨p,o1,odK L,rfl,by rw[j7 (R.hid.dj p e2)];exact w6,z6s L,z5K L⟩)
  ·subst q1 q2;show Rep X.D (L2.wo O (upd H p (.frz o1 (.dT (oeK L))))) (oeD L) (.ref p);exact M0.mpr (.inr ⟨p,o1,oeK L,rfl,by rw[j7 (R.hid.dj p e2)];exact w6,z2B L,z2H L⟩)
 ·cases h
def y1r:V->List V->Hp->VK->Prop:=λx vs H Q=>∃a kvs k z,x=.ref a/\vs=[.int k,z]/\H a=some (.dK kvs)/\Q ((valV kvs (.inl k)).getD z) H
theorem z5b:MtM X "dict.get" y1r:=by
 intro pins s σ H x vs v us Q I rx rv h;obtain⟨a,kvs,k,z,rfl,rfl,hH,q⟩:=h;cases rx;obtain⟨u1,u2,rfl,r1,r2⟩:=z1C rv;obtain⟨t,rfl⟩:=id r1;obtain⟨z1,z2,ws,rel,dd⟩:=y0d I.hok hH;refine w39 w31 dd.typeIs PySem.F.entry_dict_get (PySem.F.args_dict_get_3 _ _ _) (meets_dict_get_default (C7 X.prog X.w) a (z1L (k:=.inl k) r1) z2 u2) ⟨_,dd.mapOf,?_⟩;exact⟨_,H,I.tok _,(rel.val (.inl k)).getD r2,q⟩
theorem z6G(hv:PE X (.Name x npos) (tVar i))(hk:∀q,ra=some q->PE X ek (dE X.D E δ q))(he:∀q,rb=some q->PE X ed (dE X.D E δ q))(hs1:j6 ek=false)(hs2:j6 ed=false)(hline:(apos.endLine==cpos.line)=true)
  (h:(match δ[i]? with
   | some (.od y)=>Re.thn ra λk _=>Re.thn rb λz _=>dgtD y k z
   | _=>none)=some re):PE X (.Call (.Attribute (.Name x npos) "get" apos) [ek,ed] [] cpos) (dE X.D E δ re):=by
 split at h
 ·rename_i y hi;have C:=λt t' (hA:PE X ek t) (hB:PE X ed t')=>z6b (o:=.Name x npos) (apos:=apos) (cpos:=cpos) w2D w31 PySem.F.type_dict_get z5b hv (G1 hA (G1 hB O8 (u3 hs2)) (u3 hs1)) rfl (by rw[u3 hs1,u3 hs2];rfl) hline (u3 hs1) (by rw[u3 hs2];rfl)
  have ty:∀{H:Hp} {σ:St} {O W:List Addr},RSt X.D H σ δ O W->∃p ob,OdOk y ob/\σ[i]? = some (some (.ref p))/\p∈W/\H p=some ob/\tyV X.K "dict" (.ref p) H:=λR=>by
   obtain⟨⟨p,ob,e0,e1,e2,e3⟩,u⟩:=R.od i _ hi;refine⟨p,ob,e0,e1,e2,e3,.inr (.inr (.inl ⟨rfl,?_⟩))⟩;rcases e0 with⟨L,_,q⟩ | ⟨L,_,q⟩
   ·exact .inl ⟨_,by rw[e3,q]⟩
   ·exact .inr ⟨_,by rw[e3,q]⟩
  cases hra:ra with
  | none=>rw[hra]at h;cases h
  | some q=>
   rw[hra]at h;have A:=hk q hra;cases q with
   | ex c=>
    cases h;exact(C _ _ A L0).weak λσ H Q ⟨O,W,R,p⟩=>by obtain⟨pp,L,e0,e1,e2,e3,e4⟩:=ty R;exact⟨.ref pp,e1,e4,O,W,R,p⟩
   | ok dk ck=>
    cases hrb:rb with
    | none=>rw[hrb]at h;cases h
    | some q2=>
     rw[hrb]at h;have B:=he q2 hrb;cases q2 with
     | ex c=>
      cases h;exact(C _ _ A B).weak λσ H Q ⟨O,W,R,p⟩=>by obtain⟨pp,L,e0,e1,e2,e3,e4⟩:=ty R;exact⟨.ref pp,e1,e4,O,W,R,λv H1 s1 g=>⟨O,W,R.mono s1,λH' C m s=>p H' C m (s1.trans s)⟩⟩
     | ok dz cz=>
      have h':dgtD y dk dz=some re:=h;refine(C _ _ A B).weak λσ H Q ⟨O,W,R,p⟩=>?_;obtain⟨pp,ob,e0,e1,e2,e3,e4⟩:=ty R;unfold dgtD at h';split at h'
      ·rename_i ks vs k0 z0;obtain⟨L,e0z,eo⟩:∃L,DV.dct ks vs=odD L/\ob=.dK (odK L):=by
        rcases e0 with h | ⟨L,q,_⟩
        ·exact h
        ·cases q
       subst eo;obtain⟨ek1,ek2⟩:=DV.dct.inj (show DV.dct ks vs=.dct (L.map λp=>.i p.1) (L.map λp=>.int p.2)from e0z);subst ek1 ek2;split at h'
       ·rename_i v0 hv0;cases h';refine⟨.ref pp,e1,e4,O,W,R,λv H1 s1 g=>⟨O,W,R.mono s1,λv2 H2 s2 g2=>?_⟩⟩;have hv1:=g.int (R.hid.mono s1);have hv2:=g2.int ((R.mono s1).hid.mono s2);subst hv1 hv2;refine⟨pp,odK L,k0,.int z0,rfl,rfl,s2 _ _ (s1 _ _ e3),p _ H2 (s1.trans s2) ?_⟩;have e:(valV (odK L) (.inl k0)).getD (.int z0)=.int v0:=by
         rw[z5h];cases hz:G2 (.i k0) (L.map λp=>.i p.1) (L.map λp=>.int p.2)with
         | none=>rw[hz]at hv0;cases hv0;rfl
         | some d=>rw[hz]at hv0;cases hv0;rfl
        rw[e];exact y8
       ·cases h'
      ·cases h'
 ·cases h
theorem z4M(h:V1 ek=false):NoSl ek:=λov iv=>by cases ek<;>first | rfl | cases h
theorem q7G:∀{kvs:List (Key×V)} {vs:List DV},RepL D H vs (kvs.map (·.2))->G2 (.i k) (kvs.map λp=>dKey p.1) vs=some (.int v)->valV kvs (.inl k)=some (.int v)
 | [],vs,r,h=>by cases vs<;>cases h
 | (k1,v1)::kvs,[],r,h=>by cases h
 | (k1,v1)::kvs,d::vs,r,h=>by
  obtain⟨w,ws,e1,e2,e3⟩:=p8.mp r;cases e1;have h':(if dKey k1=.i k then some d else G2 (.i k) (kvs.map λp=>dKey p.1) vs)=some (.int v):=h;by_cases hk:k1=.inl k
  ·subst hk;rw[d4 (show dKey (.inl k)=.i k from rfl)]at h';cases h';rw[q2T rfl];show some v1=_;rw[show v1=.int v from u9.mp e2]
  ·rw[d5 (λz=>hk (by cases k1 with | inl j=>cases z;rfl | inr j=>cases z))]at h';rw[q2R hk];exact q7G e3 h'
theorem q6Z{k:DKey}{α:Type}{f:α->DKey}:∀{l:List α} {vs:List DV},(∀a∈l,f a≠k)->G2 k (l.map f) vs=none
 | [],vs,_=>by cases vs<;>rfl
 | a::l,[],_=>rfl
 | a::l,v::vs,h=>by
  show(if f a=k then some v else G2 k (l.map f) vs)=none;rw[d5 (h a (j5 ..))];exact q6Z λb hb=>h b (i6 _ hb)
theorem q6K{k:List Key}:∀{kvs:List (List Key×V)} {vs:List DV},RepL D H vs (kvs.map (·.2))->G2 (.t k) (kvs.map λp=>DKey.t p.1) vs=some (.int v)->valV kvs k=some (.int v)
 | [],vs,r,h=>by cases vs<;>cases h
 | (k1,v1)::kvs,[],r,h=>by cases h
 | (k1,v1)::kvs,d::vs,r,h=>by
  obtain⟨w,ws,e1,e2,e3⟩:=p8.mp r;cases e1;have h':(if DKey.t k1=.t k then some d else G2 (.t k) (kvs.map λp=>DKey.t p.1) vs)=some (.int v):=h;by_cases hk:k1=k
  ·subst hk;rw[d4 rfl]at h';cases h';rw[q2T rfl];show some v1=_;rw[show v1=.int v from u9.mp e2]
  ·rw[d5 (λz=>hk (DKey.t.inj z))]at h';rw[q2R hk];exact q6K e3 h'
def z5Q(K:PySem.W.Frag)(H:Hp)(a:Addr)(y:V)(r:Option V):Prop:=DGet H a y r\/∃kvs k b,Rd H a (.dT kvs)/\y=.ref b/\SqT K H b (k.map kV)/\r=valV kvs k
theorem z4C{σ:St}(I:Inv X pins σ H s)(e:SqT X.K H a (ks.map kV)):(tupleKind (C7 X.prog X.w)).is s.heap ks a:=by
 rcases e with h | ⟨o,its,n,h1,h2,h3,_,h5⟩
 ·obtain⟨_,its,r,o,h1,h2,n,h3⟩:=(show r6 X.prog X.w H s.heap a (.tup (ks.map kV))from z6d I.hok h);exact⟨o,its.toArray,n,h1,h2.1,h3,by simpa using q3m r⟩
 ·exact⟨o,its,n,I.kIn a o h1,h2.1,h3,q3m h5⟩
theorem q8N{pins:List (Addr×Obj)}{σ:St}{H:Hp}{s:Shared}{a:Addr}{y v:V}{u:Value}{A:Around}{E:Value->Shared->Prop}{Q:Value->Shared->Prop}(hu:A.units+1<cLine)(I:Inv X pins σ H s)(g:z5Q X.K H a y (some v))(ry:RelV y u)(h:∀w' s',Inv X pins σ H s'->RelV v w'->Q w' s') :
  wpAny (model X.prog X.w) A (getItem (.ref a) u) Q E s:=by
 rcases g with g | ⟨kvs,k,b,e,ey,eb,l⟩
 ·exact q9l hu I g ry h
 ·subst ey;cases(show u=Value.ref b from ry);obtain⟨z,hd,xs,rel,dd⟩:=z0S I.hok e;obtain⟨w',hw,rw'⟩:=RelO.some_of (v:=v) (o:=(atKey xs k).map (·.2)) (by rw[l];exact rel.val k);obtain⟨p,hp,hp2⟩:=x8.mp hw;refine wpAny_getItem_heap (w28 hu) (z4C I eb) dd hp ?_;rw[hp2];exact h w' _ (I.tok _) rw'
theorem q6F{pins:List (Addr×Obj)}{σ:St}{H:Hp}{s:Shared}{a:Addr}{y:V}{o:Option V}(I:Inv X pins σ H s)(g:z5Q X.K H a y o):s.TypeIs (.ref a) "dict":=by
 rcases g with g | ⟨kvs,k,b,e,ey,eb,l⟩
 ·exact q6Y I g
 ·obtain⟨_,_,xs,_,dd⟩:=z0S I.hok e;exact dd.typeIs
def z9M(K:PySem.W.Frag)(td ty:TE):TE:=λσ H Q=>td σ H λx H1=>ty σ H1 λy H2=>∃a v,x=.ref a/\z5Q K H2 a y (some v)/\Q v H2
theorem z1X(hu:X.A.units+1<cLine)(ho:PE X ea td)(hi:PE X ek ty)(hs:NoSl ek):PE X (.Subscript ea ek pos) (z9M X.K td ty):=by
 intro pins s σ H Q I h;refine z5q PySem.F.slot_dict_getitem.lookup hs (thn (ho pins s σ H _ I h) λu s1 ⟨x,H1,I1,rx,q1⟩=>thn (hi pins s1 σ H1 _ I1 q1) λiv s2 ⟨y,H2,I2,ry,a,v,ex,g,q2⟩=>?_);subst ex;obtain rfl:u=Value.ref a:=rx;exact⟨q6F I2 g,q8N hu I2 g ry λw' s3 I3 rw'=>⟨v,H2,I3,rw',q2⟩⟩
theorem z5c(h:Rep D H (.tup [.int a,.int b]) v):∃p,v=.ref p/\SqT D.K H p (([.inl a,.inl b]:List Key).map kV):=by
 obtain⟨p,xs,e1,e2,e3⟩:=A9.mp h;obtain⟨v1,vs,rfl,r1,r2⟩:=p8.mp e3;obtain⟨v2,vs2,rfl,r3,r4⟩:=p8.mp r2;rw[u9.mp r1,u9.mp r3,B2.mp r4]at e2;exact⟨p,e1,e2⟩
theorem z5F(hu:X.A.units+1<cLine)(ha:∀q,ra=some q->PE X ea (dE X.D E δ q))(hk:∀q,rb=some q->PE X ek (dE X.D E δ q))(hs:V1 ek=false)
  (h:(Re.thn ra λx _=>Re.thn rb λy _=>dixD x y)=some re):PE X (.Subscript ea ek pos) (dE X.D E δ re):=by
 have C:=λt t' (hA:PE X ea t) (hB:PE X ek t')=>z1X (pos:=pos) hu hA hB (z4M hs);cases hra:ra with
 | none=>rw[hra]at h;cases h
 | some q=>
  rw[hra]at h;have A:=ha q hra;cases q with
  | ex c=>cases h;exact(C _ _ A L0).weak λσ H Q ⟨O,W,R,p⟩=>⟨O,W,R,p⟩
  | ok dx cx=>
   cases hrb:rb with
   | none=>rw[hrb]at h;cases h
   | some q2=>
    rw[hrb]at h;have B:=hk q2 hrb;cases q2 with
    | ex c=>cases h;exact(C _ _ A B).weak λσ H Q ⟨O,W,R,p⟩=>⟨O,W,R,λv H1 s1 g=>⟨O,W,R.mono s1,λH' C m s=>p H' C m (s1.trans s)⟩⟩
    | ok dk ck=>
     have h':dixD dx dk=some re:=h;unfold dixD at h';split at h'
     ·rename_i ks vs k0;split at h'
      ·rename_i v0 hv0;cases h';refine(C _ _ A B).weak λσ H Q ⟨O,W,R,p⟩=>⟨O,W,R,λv H1 s1 g=>⟨O,W,R.mono s1,λv2 H2 s2 g2=>?_⟩⟩
       have hv2:=g2.int ((R.mono s1).hid.mono s2);subst hv2;rcases M0.mp (g.all (R.hid.mono s1))with⟨a,ob,kvs,e1,e2,e3,e4⟩ | ⟨a,ob,kvs,e1,e2,e3,e4⟩
       ·subst e3;exact⟨a,.int v0,e1,.inl (.inl ⟨kvs,.inl k0,.inr ⟨ob,s2 _ _ e2⟩,rfl,(q7G e4 hv0).symm⟩),p _ H2 (s1.trans s2) y8⟩
       ·subst e3;rw[q6Z (λa _ z=>by cases z)]at hv0;cases hv0
      ·cases h'
     ·rename_i ks vs a0 b0;split at h'
      ·rename_i v0 hv0;cases h';refine(C _ _ A B).weak λσ H Q ⟨O,W,R,p⟩=>⟨O,W,R,λv H1 s1 g=>⟨O,W,R.mono s1,λv2 H2 s2 g2=>?_⟩⟩
       obtain⟨pk,ek1,ek2⟩:=z5c (g2.all ((R.mono s1).hid.mono s2));rcases M0.mp (g.all (R.hid.mono s1))with⟨a,ob,kvs,e1,e2,e3,e4⟩ | ⟨a,ob,kvs,e1,e2,e3,e4⟩
       ·subst e3;rw[q6Z (λa _ z=>by rcases a with⟨k | k,_⟩<;>cases z)]at hv0;cases hv0
       ·subst e3;exact⟨a,.int v0,e1,.inr ⟨kvs,_,pk,.inr ⟨ob,s2 _ _ e2⟩,ek1,ek2,(q6K e4 hv0).symm⟩,p _ H2 (s1.trans s2) y8⟩
      ·cases h'
     ·cases h'
end
end
section
def kP(p:Int×Int):List Key:=[.inl p.1,.inl p.2]
def kD(p:Int×Int):DKey:=.t [.inl p.1,.inl p.2]
section
variable {X:Cx} {E:St->XK} {δ:List Sv} {o:Out} {e ek ed ea:Expr} {es:List Expr} {x1:Nat} {pos pos' npos spos apos cpos tpos:Pos} {ra rb rc:Option Re} {rs:Option Rs} {i:Nat} {x:Str} {re:Re}
end
end
end L2
end
noncomputable section
namespace L2
open PySem
section
def Kp(a:Addr)(h h':Heap):Prop:=∀b o,b≠a->h.get? b=some o->h'.get? b=some o
theorem Kp.of(x:Heap.SameBut a h h'):Kp a h h':=λb o n e=>x.extBut b o n e
theorem Kp.trans(x:Kp a h h')(y:Kp a h' h''):Kp a h h'':=λb o n e=>y b o n (x b o n e)
theorem Kp.push(x:Kp a h h')(o':Obj):Kp a h (h'.push o'):=λb o n e=>m5 _ (x b o n e)
section
variable {prog:Program} {w:World} {A:Around} {E:Value->Shared->Prop} {s:Shared} {d it:Addr} {i ep:Nat} {od:Obj} {es:Array DictEntry} {ok ov:Value}
theorem q8Y(hd:(d==sysModules)=false):MeetsIn prog w (Builtin.«dict.items» ⟨[.ref d],[]⟩) (λ_ R s=>s.TypeIs (.ref d) "dict" /\
  R (.ok (.ret (.ref s.heap.objs.size))) {s with heap:=s.heap.push {cls:=.type "dict_items",data:=.fields #[.ref d]}}):=.of_wp λA R s q=>by
 have no:¬((d==sysModules)=true):=by rw[hd];exact K2
 unfold Builtin.«dict.items» Builtin.Dict.noArgs Builtin.Dict.showsAll;refine b9 (b9 (wpAny_notOrdered_dict q.1 (i4 ?_)));show wpAny _ _ ((if(d==sysModules)=true then _ else _) >>= _) _ _ s;rw[d5 no];exact b9 (i4 (b9 (M2 (i4 ⟨_,rfl,q.2⟩))))
theorem q8T(hv:s.heap.IsItemsView v d)(ho:s.heap.get? d=some od)(hdat:od.data=.dict es ep)
  (q:Q (.ref s.heap.objs.size) {s with heap:=s.heap.push {cls:=.type "dict_itemiterator",data:=.fields #[.none,.bool false,.ref d,.int 0 0,.int es.size 0,.int ep 0,.none,.none]}}):wpAny (model prog w) A (pyIter (.ref v)) Q E s:=by
 obtain⟨_,h1,_,h2⟩:=id hv;refine wpAny_pyIter_slot hv.typeIs w3W (Q5 w3W hv.typeIs F.entry_dict_items_iter ?_ (F.args_dict_items_iter_1 _));unfold Builtin.«dict_items.__iter__» Builtin.Dict_items.dictOf Builtin.Dict_items.newIterator;refine b9 (i4 (b9 (b9 (B1 h1 h2 (x:=.ref d) rfl (i4 (b9 (b9 (wpAny_dictEntries ho hdat (b9 (wpAny_dictEpoch ho hdat ?_))))))))));rw[show Builtin.Dict_items.ownsTuple "dict_itemiterator" = true from by decide];exact M2 (i4 ⟨_,rfl,"dict_itemiterator",_,⟨_,x9 _ rfl,rfl⟩,F.slot_dict_itemiterator_next.lookup,q⟩) (by show(8:Nat)<=_;rw[sizeLine_eq];omega)
theorem q5f(hh:A.handled=none)(hit:IsItemIter s.heap it d i es.size ep ok ov)(hod:s.heap.get? d=some od)(hdd:od.data=.dict es ep)
  (some_:∀en h',es[i]? = some en->IsItemIterOut h' it d (i+1) es.size ep en.key en.val s.heap.objs.size->h'.get? s.heap.objs.size=some {cls:=.type "tuple",data:=.seq #[en.key,en.val]} -> Kp it s.heap h'->Q (some (.ref s.heap.objs.size)) {s with heap:=h'})
  (none_:∀h',es[i]? = none->Kp it s.heap h'->Q none {s with heap:=h'}):wpAny (model prog w) A (pyNext (.ref it)) Q E s:=by
 have ty:∀{h:Heap} {j:Nat} {x y:Value},IsItemIter h it d j es.size ep x y->Shared.TypeIs {s with heap:=h} (.ref it) "dict_itemiterator":=λz=>⟨_,z,rfl⟩;have ow:Builtin.Dict_items.ownsTuple "dict_itemiterator" = true:=by decide
 have nn:¬((Value.ref d==Value.none)=true):=K2;unfold pyNext;refine b9 (X0 (T7 (name:=Str.ofString "__next__") (ty hit) w2S (Q5 w2S (ty hit) F.entry_dict_itemiterator_next ?_ (F.args_dict_itemiterator_next_1 _))));refine b9 (i4 (b9 (b9 (b9 (w2b (ty hit) (i4 (b9 (wpAny_fieldsOf hit rfl ?_))))))));simp only[ow,if_true];show wpAny _ _ (if(Value.ref d==Value.none)=true then _ else _) _ _ s;rw[d5 nn];refine b9 (i4 (b9 (wpAny_dictEntries hod hdd ?_)));rw[d5 (by simp)];refine b9 (i4 (b9 (wpAny_dictEpoch hod hdd ?_)));rw[d5 (by simp)];refine i4 ?_;dsimp only;rw[d5 (show ¬((i:Int)<0) by omega),B8];cases hx:es[i]? with
 | none=>
  dsimp only;refine b9 (b9 (w2b (ty hit) (i4 ?_)));simp only[ow,if_true];refine b9 (F5 hit (by simp) λh1 z1 s1=>b9 ?_);unfold newExc newTuple;refine b9 (M2 (b9 (m:=firstArgMember _ _) (wpAny_of_eq (a:=Value.none) (by first | rfl | (simp only[firstArgMember];rfl)) (M2 (wpAny_raiseNew_none hh (b9 (w3w (T:="StopIteration") (b:=true) ⟨_,x9 _ rfl,rfl⟩ w30 (i4 ?_)))) (by size_fits)))) (by size_fits));exact none_ _ hx (((Kp.of s1).push _).push _)
 | some en=>
  dsimp only;refine b9 (b9 (w2b (ty hit) (i4 (b9 (w2H (ty hit) ?_)))));simp only[ow,if_true];refine b9 (F5 hit (by simp) λh1 z1 s1=>?_);have e1:IsItemIter h1 it d (i+1) es.size ep ok ov:=by unfold IsItemIter;rw[show((i+1:Nat):Int)=(i:Int)+1 by omega];exact z1
  refine b9 (W8 (b9 (w2H (ty e1) (b9 (w2H (ty e1) ?_)))));show wpAny _ _ (Builtin.Dict_items.pairFromOwner (.ref it) 6 en.key en.val) _ _ {s with heap:=h1};unfold Builtin.Dict_items.pairFromOwner Builtin.Dict_items.ownedTupleIsFree;have sz:h1.objs.size=s.heap.objs.size:=s1.1;have lt:it≠s.heap.objs.size:=B3 (j8 hit);have e2:IsItemIter (h1.push {cls:=.type "tuple",data:=.seq #[en.key,en.val]}) it d (i+1) es.size ep ok ov:=m5 _ e1;have t2:(h1.push {cls:=.type "tuple",data:=.seq #[en.key,en.val]}).get? s.heap.objs.size=some {cls:=.type "tuple",data:=.seq #[en.key,en.val]}:=by rw[←sz];exact x9 _ rfl
  refine b9 (w3Z (b9 (b9 (B1 e2 rfl (x:=.none) rfl (i4 ?_)))));simp only[if_true];refine b9 (B1 e2 rfl (x:=ok) rfl (b9 (B1 e2 rfl (x:=ov) rfl ?_)));refine b9 (F5 e2 (by simp) λh3 z3 s3=>b9 (F5 z3 (by simp) λh4 z4 s4=>b9 (F5 z4 (by simp) λh5 z5 s5=>b9 (F5 z5 (by simp) λh6 z6 s6=>?_))));have k6:Kp it (h1.push {cls:=.type "tuple",data:=.seq #[en.key,en.val]}) h6:=(((Kp.of s3).trans (.of s4)).trans (.of s5)).trans (.of s6);refine b9 (w2Z (i4 (i4 ⟨_,rfl,i4 ?_⟩)));rw[sz]at z6 ⊢;exact some_ en h6 hx z6 (k6 _ _ (Ne.symm lt) t2) (((Kp.of s1).push _).trans k6)
end
end
end L2
end
noncomputable section
namespace L2
open PySem PySem.Spec PyProof.Rows
section
def ItI(a:Addr)(ob:Obj)(kvs:List (Key×V)):It:=
  ⟨λi H=>H a=some (.frz ob (.dK kvs))/\∃k v,kvs[i]? = some (.inl k,v),
   λi H x H'=>∃p k v,x=.ref p/\H p=none/\kvs[i]? = some (.inl k,v)/\H'=upd H p (.tup [.int k,v]),
   λi H=>H a=some (.frz ob (.dK kvs))/\kvs.length<=i⟩
theorem y0c(r:KV kvs vs):∀{i:Nat} {k:Key} {v:V},kvs[i]? = some (k,v)->∃u,vs[i]? = some (k,u)/\RelV v u:=by
 induction r with
 | nil=>intro i k v h;cases h
 | cons p t ih=>
  intro i k v h;cases i with
  | zero=>
   obtain⟨p1,p2⟩:=p;rename_i a b _ _;obtain⟨a1,a2⟩:=a;obtain⟨b1,b2⟩:=b;cases h;have p1':k=b1:=p1;subst p1';exact⟨b2,rfl,p2⟩
  | succ i=>exact ih h
theorem z5M(h:(C7 P w).is (.inl i) u=true):∃t,u=.int i t:=by
 have h':Value.isInt i u=true:=h;cases u<;>simp[Value.isInt]at h';subst h';exact⟨_,rfl⟩
theorem q9j{σ:St}(I:Inv X pins σ H s)(h:H a=some (.frz ob (.dK kvs)))(hd:ob.data=.dict es ep) :
  (a==sysModules)=false/\∃vs,KV kvs vs/\s.heap.DictAt (C7 X.prog X.w) a vs ep:=by
 obtain⟨z0,z1,z2,vs,z3,⟨o,es',ep',y1,y2,y3,y4⟩⟩:=(show r6 X.prog X.w H s.heap a (.frz ob (.dK kvs))from I.hok _ _ h);rw[z0]at y1;cases y1;rw[hd]at y3;cases y3;exact⟨z2,vs,z3,_,_,z0,y2,hd,y4⟩
theorem q8p{P:Program}{w:World}{K:PySem.W.Frag}{elts:List Expr}{k:Nat}{pos:Pos}{it a:Addr}{ob:Obj}{kvs:List (Key×V)}{es:Array DictEntry}{ep:Nat}(hd:ob.data=.dict es ep) :
  Turn P w K (.Tuple elts k pos) (ItI a ob kvs) [it] it (λi h=>∃ok ov,IsItemIter h it a i kvs.length ep ok ov) where
 mem:=by simp
 obj:=λi h st b hb=>by obtain⟨ok,ov,hn⟩:=st;rw[D0]at hb;subst hb;exact⟨_,hn,λv q=>by cases q⟩
 keep:=λi h h' st q=>by obtain⟨ok,ov,hn⟩:=st;exact⟨ok,ov,q it (by simp) _ hn⟩
 item:=by
  intro X hP hw hK hc i pins s σ H E I hf st hg;subst hP hw hK;obtain⟨ok,ov,hn⟩:=st;obtain⟨hH,k0,v0,hx⟩:=hg;obtain⟨z2,vs,z3,dd⟩:=q9j I hH hd;obtain⟨u,hu,ru⟩:=y0c z3 hx;have hl:kvs.length=vs.length:=z3.length;rw[hl]at hn;refine wpAny_pyNext_items_item hn dd hu λkey h' b1 b2 b3 b4 b5=>⟨_,rfl,?_⟩
  obtain⟨tk,rfl⟩:=z5M b1;refine w3a b2 λh2 hn2 t2=>?_
  have hsz:s.heap.objs.size≠it:=Q8 (j8 hn);have keep:∀b o,b∉[it]->s.heap.get? b=some o->h2.get? b=some o:=λb o hb e=>t2.extBut _ _ (λq=>hb (by simp[q])) (b5 b o (λq=>hb (by simp[q])) e);have I1:Inv X pins σ H {s with heap:=h2}:=I.turnedL (t':=s.toks) keep hf;have hn':H s.heap.objs.size=none:=I.hok.fresh (j2 _);have f5:=I.fpOk (j2 _) hn';have new:h2.get? s.heap.objs.size=some {cls:=.type "tuple",data:=.seq #[.int k0 tk,u]}:=t2.extBut _ _ hsz b3;have h0:X.s₀.heap.get? s.heap.objs.size=none:=Z7 I.sz;have I2:Inv X pins σ (upd H s.heap.objs.size (.tup [.int k0,v0])) {s with heap:=h2}:=I1.track hn' h0 f5.2.1 (λn c e=>f5.2.2.2.2.1 n c e) (λq hq=>f5.2.2.2.2.2 q hq)
   ⟨by show(2:Nat)<=sizeLine;decide,[.int k0 tk,u],.cons ⟨_,rfl⟩ (.cons ru .nil),_,new,⟨rfl,rfl⟩,_,rfl⟩
  refine⟨.ref s.heap.objs.size,_,I2,rfl,⟨_,k0,v0,rfl,hn',hx,rfl⟩,⟨_,_,by rw[hl];exact hn2⟩,λb hb=>?_⟩;rw[D0]at hb;subst hb;rw[j4 (Ne.symm hsz)];exact(hf b (by simp)).1
 done:=by
  intro X hP hw hK hc i pins s σ H E I hf st hg;subst hP hw hK;obtain⟨ok,ov,hn⟩:=st;obtain⟨hH,hx⟩:=hg;obtain⟨z2,vs,z3,dd⟩:=q9j I hH hd;have hl:kvs.length=vs.length:=z3.length;rw[hl]at hn hx;exact wpAny_pyNext_items_end (I.ok.hd hc) hn dd (Z6 hx) λh' a=>⟨rfl,I.turnedL (t':=s.toks) (ch:=[it]) (λb o hb e=>a b o (λq=>hb (by simp[q])) e) hf⟩
 self:=λ_ _ _ _ _ st h=>by obtain⟨ok,ov,hn⟩:=st;exact PySem.W.kcp_self hn h
theorem Wk.items(h:L2.wo Oc H1 a=some (.frz ob (.dK kvs)))(e:kvs=odK L):Wk D (ItI a ob kvs) (L.map λp=>.tup [.int p.1,.int p.2]) Oc Oi H1:=by
 subst e;have hl:(odK L).length=L.length:=by unfold odK;rw[d8]
 have at':∀(i:Nat),(odK L)[i]? = (L[i]?).map λp=>(Sum.inl p.1,V.int p.2):=λi=>by unfold odK;rw[m9]
 refine⟨λi H s hi=>?_,λi H x H' y=>?_,λi H x H' d O2 s s' y e ho=>?_,λH s=>?_⟩
 ·rw[d8]at hi;exact⟨n9 _ _ (s _ _ h),L[i].1,.int L[i].2,by rw[at',j3 hi];rfl⟩
 ·obtain⟨p,k,v,_,hp,_,e⟩:=y;rw[e];exact u6 hp
 ·obtain⟨p,k,v,ex,hp,y1,eH⟩:=y;rw[m9]at e;rw[at']at y1;cases hz:L[i]? with
  | none=>rw[hz]at e;cases e
  | some q=>
   rw[hz]at e y1;cases e;cases y1;have hpo:p∉O2:=λz=>(ho p z).1 hp
   subst eH;exact A9.mpr ⟨p,_,ex,SqT.of (by rw[j7 hpo];exact w6),p8.mpr ⟨_,_,rfl,u9.mpr rfl,RepL.one (u9.mpr rfl)⟩⟩
 ·exact⟨n9 _ _ (s _ _ h),by rw[d8,hl];exact j2 _⟩
def ItP(a:Addr)(ob:Obj)(qs:List Addr)(kvs:List (List Key×V)):It:=
  ⟨λi H=>H a=some (.frz ob (.dT kvs))/\∃k v,kvs[i]? = some (k,v),
   λi H x H'=>∃p q k v,x=.ref p/\H p=none/\kvs[i]? = some (k,v)/\qs[i]? = some q/\H q=some (.tup (k.map kV))/\H'=upd H p (.tup [.ref q,v]),
   λi H=>H a=some (.frz ob (.dT kvs))/\kvs.length<=i⟩
theorem z7w(r:KT H kvs xs):∀{i:Nat} {k:List Key} {v:V},kvs[i]? = some (k,v)->∃b u,xs[i]? = some (k,b,u)/\H b=some (.tup (k.map kV))/\RelV v u:=by
 induction r with
 | nil=>intro i k v h;cases h
 | cons p t ih=>
  intro i k v h;cases i with
  | zero=>
   obtain⟨p1,p2,p3⟩:=p;rename_i a b _ _;obtain⟨a1,a2⟩:=a;obtain⟨b1,b2,b3⟩:=b;cases h;have p1':k=b1:=p1;subst p1';exact⟨b2,b3,rfl,p2,p3⟩
  | succ i=>exact ih h
theorem KT.length(r:KT H kvs xs):kvs.length=xs.length:=by
 induction r with
 | nil=>rfl
 | cons _ _ ih=>rw[m4,m4,ih]
theorem q6O{σ:St}(I:Inv X pins σ H s)(h:H a=some (.frz ob (.dT kvs)))(hd:ob.data=.dict es ep) :
  s.heap.get? a=some ob/\(a==sysModules)=false/\ob.ExactDict/\∃xs,KT H kvs xs/\es.toList=xs.map (entryOfKey (tupleKind (C7 X.prog X.w))):=by
 obtain⟨z0,z1,z2,xs,z3,o,es',ep',y1,y2,y3,y4,y5⟩:=(show r6 X.prog X.w H s.heap a (.frz ob (.dT kvs))from I.hok _ _ h);rw[z0]at y1;cases y1;rw[hd]at y3;cases y3;exact⟨z0,z2,y2,xs,z3,y4⟩
def z1x(es:Array DictEntry)(qs:List Addr):Prop:=es.toList.map (·.key)=qs.map Value.ref
theorem q6P{P:Program}{w:World}{K:PySem.W.Frag}{elts:List Expr}{k:Nat}{pos:Pos}{it a:Addr}{ob:Obj}{qs:List Addr}{kvs:List (List Key×V)}{es:Array DictEntry}{ep:Nat}(hd:ob.data=.dict es ep)(hq:z1x es qs) :
  Turn P w K (.Tuple elts k pos) (ItP a ob qs kvs) [it] it (λi h=>∃ok ov,IsItemIter h it a i es.size ep ok ov) where
 mem:=by simp
 obj:=λi h st b hb=>by obtain⟨ok,ov,hn⟩:=st;rw[D0]at hb;subst hb;exact⟨_,hn,λv q=>by cases q⟩
 keep:=λi h h' st q=>by obtain⟨ok,ov,hn⟩:=st;exact⟨ok,ov,q it (by simp) _ hn⟩
 item:=by
  intro X hP hw hK hc i pins s σ H E I hf st hg;subst hP hw hK;obtain⟨ok,ov,hn⟩:=st;obtain⟨hH,k0,v0,hx⟩:=hg;obtain⟨z0,z2,z4,xs,z3,z5⟩:=q6O I hH hd;obtain⟨b,u,hu,hb,ru⟩:=z7w z3 hx;have he:es[i]? = some (entryOfKey (tupleKind (C7 X.prog X.w)) (k0,b,u)):=by rw[entry_at z5,hu];rfl
  have hqi:qs[i]? = some b:=by
   have h1:(es.toList.map (·.key))[i]? = some (.ref b):=by rw[m9,w2M,he];rfl
   rw[hq,m9]at h1;obtain⟨c,e1,e2⟩:=x8.mp h1;cases e2;exact e1
  refine q5f (I.ok.hd hc) hn z0 hd (λen h' hen b2 b3 b5=>?_) (λh' hno _=>by rw[he]at hno;cases hno);rw[he]at hen;cases hen;refine⟨_,rfl,?_⟩;refine w3a b2 λh2 hn2 t2=>?_;have hsz:s.heap.objs.size≠it:=Q8 (j8 hn);have keep:∀b o,b∉[it]->s.heap.get? b=some o->h2.get? b=some o:=λb o hb e=>t2.extBut _ _ (λq=>hb (by simp[q])) (b5 b o (λq=>hb (by simp[q])) e);have I1:Inv X pins σ H {s with heap:=h2}:=I.turnedL (t':=s.toks) keep hf;have hn':H s.heap.objs.size=none:=I.hok.fresh (j2 _);have f5:=I.fpOk (j2 _) hn';have new:h2.get? s.heap.objs.size=some {cls:=.type "tuple",data:=.seq #[.ref b,u]}:=t2.extBut _ _ hsz b3;have h0:X.s₀.heap.get? s.heap.objs.size=none:=Z7 I.sz;have I2:Inv X pins σ (upd H s.heap.objs.size (.tup [.ref b,v0])) {s with heap:=h2}:=I1.track hn' h0 f5.2.1 (λn c e=>f5.2.2.2.2.1 n c e) (λq hq=>f5.2.2.2.2.2 q hq)
   ⟨by show(2:Nat)<=sizeLine;decide,[.ref b,u],.cons rfl (.cons ru .nil),_,new,⟨rfl,rfl⟩,_,rfl⟩
  refine⟨.ref s.heap.objs.size,_,I2,rfl,⟨_,b,k0,v0,rfl,hn',hx,hqi,hb,rfl⟩,⟨_,_,hn2⟩,λb hb=>?_⟩;rw[D0]at hb;subst hb;rw[j4 (Ne.symm hsz)];exact(hf b (by simp)).1
 done:=by
  intro X hP hw hK hc i pins s σ H E I hf st hg;subst hP hw hK;obtain⟨ok,ov,hn⟩:=st;obtain⟨hH,hx⟩:=hg;obtain⟨z0,z2,z4,xs,z3,z5⟩:=q6O I hH hd;have hl:es.size<=i:=by rw[size_of_entries z5,←z3.length];exact hx
  exact q5f (I.ok.hd hc) hn z0 hd (λen h' hen _ _ _=>by rw[Array.getElem?_eq_none hl]at hen;cases hen) λh' _ a=>⟨rfl,I.turnedL (t':=s.toks) (ch:=[it]) (λb o hb e=>a b o (λq=>hb (by simp[q])) e) hf⟩
 self:=λ_ _ _ _ _ st h=>by obtain⟨ok,ov,hn⟩:=st;exact PySem.W.kcp_self hn h
theorem Wk.itemsP(h:L2.wo Oc H1 a=some (.frz ob (.dT kvs)))(e:kvs=oeK L)(hq:∀q∈qs,∃ys,H1 q=some (.tup ys))(hO:Hdn Oi H1):Wk D (ItP a ob qs kvs) (L.map λp=>.tup [.tup [.int p.1.1,.int p.1.2],.int p.2]) Oc Oi H1:=by
 subst e;have hl:(oeK L).length=L.length:=by unfold oeK;rw[d8]
 have at':∀(i:Nat),(oeK L)[i]? = (L[i]?).map λp=>(kP p.1,V.int p.2):=λi=>by unfold oeK;rw[m9];rfl
 refine⟨λi H s hi=>?_,λi H x H' y=>?_,λi H x H' d O2 s s' y e ho=>?_,λH s=>?_⟩
 ·rw[d8]at hi;exact⟨n9 _ _ (s _ _ h),kP L[i].1,.int L[i].2,by rw[at',j3 hi];rfl⟩
 ·obtain⟨p,q,k,v,_,hp,_,_,_,e⟩:=y;rw[e];exact u6 hp
 ·obtain⟨p,q,k,v,ex,hp,y1,y2,y3,eH⟩:=y;rw[m9]at e;rw[at']at y1;cases hz:L[i]? with
  | none=>rw[hz]at e;cases e
  | some q'=>
   rw[hz]at e y1;cases e;cases y1;have hpo:p∉O2:=λz=>(ho p z).1 hp
   have hqo:q∉O2:=λz=>by
    obtain⟨ys,w⟩:=hq q (P9 y2);rcases(ho q z).2 with u | u
    ·obtain⟨o,w2,m⟩:=hO q u;rw[w]at w2;cases w2;cases m
    ·rw[w]at u;cases u
   subst eH;have hqp:q≠p:=G0 y3 hp;have r1:Rep D (L2.wo O2 (upd H p (.tup [.ref q,.int q'.2]))) (.tup [.int q'.1.1,.int q'.1.2]) (.ref q):=
    A9.mpr ⟨q,_,rfl,SqT.of (by rw[j7 hqo,j4 hqp];exact y3),p8.mpr ⟨_,_,rfl,u9.mpr rfl,RepL.one (u9.mpr rfl)⟩⟩
   exact A9.mpr ⟨p,_,ex,SqT.of (by rw[j7 hpo];exact w6),p8.mpr ⟨_,_,rfl,r1,RepL.one (u9.mpr rfl)⟩⟩
 ·exact⟨n9 _ _ (s _ _ h),by rw[d8,hl];exact j2 _⟩
section
variable {X:Cx} {E:St->XK} {δ:List Sv} {e:Expr} {elts:List Expr} {k:Nat} {tpos apos pos:Pos} {ra:Option Re} {ri:Ri}
theorem z2N(he:PE X e te)(hbase:attributeBase e "items" X.env (eval e X.env)=eval e X.env)(hline:(apos.endLine==pos.line)=true) :
  PI X (.Tuple elts k tpos) (.Call (.Attribute e "items" apos) [] [] pos) (λσ H R=>te σ H λx H1=>(∃a ob kvs,x=.ref a/\H1 a=some (.frz ob (.dK kvs))/\R (ItI a ob kvs) H1)\/∃a ob kvs,x=.ref a/\H1 a=some (.frz ob (.dT kvs))/\∀qs:List Addr,(∀q∈qs,∃ys,H1 q=some (.tup ys))->R (ItP a ob qs kvs) H1):=by
 intro pins s σ H R I h;refine w3E hbase hline (thn (he pins s σ H _ I h) λv s1 ⟨x,H1,I1,r1,hx⟩=>?_);rcases hx with⟨a,ob,kvs,e1,e2,q⟩ | ⟨a,ob,kvs,e1,e2,q⟩
 ·subst e1;cases r1;obtain⟨z0,z1,z2,vs0,z3,z4⟩:=(show r6 X.prog X.w H1 s1.heap a (.frz ob (.dK kvs))from I1.hok _ _ e2);obtain⟨o',es,ep,y1,y2,y3,y4⟩:=id z4;have yo:o'=ob:=by rw[z0]at y1;cases y1;rfl
  subst yo;refine⟨"dict","dict.items",w2D,w17,w3H,z4.typeIs,z4.mapOf.noDict,w2g rfl (w2T ?_)⟩;refine w39 w17 z4.typeIs w3C (w3q _) (meets_dict_items (C7 X.prog X.w) a z2) ⟨⟨vs0,z4⟩,?_⟩;have k1:∀b o,s1.heap.get? b=some o->(s1.heap.push {cls:=.type "dict_items",data:=.fields #[.ref a]}).get? b=some o:=λb o e=>m5 _ e
  have I2:Inv X pins σ H1 {s1 with heap:=s1.heap.push {cls:=.type "dict_items",data:=.fields #[.ref a]}}:=I1.kept (t':=s1.toks) k1;obtain⟨_,vs,w3,dd⟩:=q9j I2 e2 y3;refine wpAny_pyIter_items (v:=s1.heap.objs.size) ⟨_,x9 _ rfl,rfl,rfl⟩ dd ?_;have hl:kvs.length=vs.length:=w3.length;rw[←hl];refine⟨_,[_],_,ItI a o' kvs,H1,rfl,I2.kept (t':=s1.toks) λb o e=>m5 _ e,q8p (elts:=elts) (k:=k) (pos:=tpos) y3,⟨.none,.none,x9 _ rfl⟩,λc hc=>?_,q⟩;rw[D0]at hc;subst hc;exact I2.fpOk (j2 _) (I2.hok.fresh (j2 _))
 ·subst e1;cases r1;obtain⟨o',es,ep,z5,z6⟩:∃o' es ep,s1.heap.get? a=some o'/\o'.data=.dict es ep:=by
   obtain⟨z0,z1,z2,xs,z3,o,es,ep,y1,y2,y3,y4⟩:=(show r6 X.prog X.w H1 s1.heap a (.frz ob (.dT kvs))from I1.hok _ _ e2);exact⟨o,es,ep,y1,y3⟩
  have yo:o'=ob:=(by obtain⟨z0,_⟩:=(show r6 X.prog X.w H1 s1.heap a (.frz ob (.dT kvs))from I1.hok _ _ e2);rw[z0]at z5;cases z5;rfl);subst yo;obtain⟨z0,z2,z4,xs,z3,z7⟩:=q6O I1 e2 z6;have tI:s1.TypeIs (.ref a) "dict":=⟨o',z0,z4.1⟩;have nD:∀b,Value.ref a=.ref b->∃ob,s1.heap.get? b=some ob/\ob.dict=none:=λb q=>by cases q;exact⟨o',z0,z4.2.1⟩
  refine⟨"dict","dict.items",w2D,w17,w3H,tI,nD,w2g rfl (w2T ?_)⟩;refine w39 w17 tI w3C (w3q _) (q8Y z2) ⟨tI,?_⟩;have k1:∀b o,s1.heap.get? b=some o->(s1.heap.push {cls:=.type "dict_items",data:=.fields #[.ref a]}).get? b=some o:=λb o e=>m5 _ e;have I2:Inv X pins σ H1 {s1 with heap:=s1.heap.push {cls:=.type "dict_items",data:=.fields #[.ref a]}}:=I1.kept (t':=s1.toks) k1;refine q8T (v:=s1.heap.objs.size) ⟨_,x9 _ rfl,rfl,rfl⟩ (k1 _ _ z0) z6 ?_;have hqs:z1x es (xs.map (·.2.1)):=by unfold z1x;rw[z7,j9,j9];rfl
  refine⟨_,[_],_,ItP a o' (xs.map (·.2.1)) kvs,H1,rfl,I2.kept (t':=s1.toks) λb o e=>m5 _ e,q6P (elts:=elts) (k:=k) (pos:=tpos) z6 hqs,⟨.none,.none,x9 _ rfl⟩,λc hc=>?_,q _ λb hb=>?_⟩
  ·rw[D0]at hc;subst hc;exact I2.fpOk (j2 _) (I2.hok.fresh (j2 _))
  ·obtain⟨y,hy,rfl⟩:=o7.mp hb;have all:∀{l:List (List Key×V)} {m:List (List Key×Addr×Value)},KT H1 l m->∀x∈m,∃ys,H1 x.2.1=some (.tup ys):=by
    intro l m q
    induction q with
    | nil=>intro x hx;exact nomatch hx
    | cons p t ih=>
     intro x hx;rcases f9.mp hx with z | z
     ·rw[z];exact⟨_,p.2.1⟩
     ·exact ih x z
   exact all z3 y hy
theorem z3z:∀{ks:List DKey} {vs:List DV} {L:List (Int×Int)},kvs? ks vs=some L->∀{D:Dm} {H:Hp} {kv:List (Key×V)},kv.map (λp=>dKey p.1)=ks->RepL D H vs (kv.map (·.2))->kv=odK L
 | [],[],L,h,D,H,kv,e,r=>by cases h;cases kv with | nil=>rfl | cons _ _=>cases e
 | [],_::_,L,h,D,H,kv,e,r=>by cases h
 | .i k::ks,.int v::vs,L,h,D,H,kv,e,r=>by
  have h':(kvs? ks vs).map ((k,v) :: ·)=some L:=h;obtain⟨L',h1,h2⟩:=x8.mp h';subst h2;cases kv with
  | nil=>cases e
  | cons p kv=>
   obtain⟨k1,v1⟩:=p;obtain⟨w,ws,e1,e2,e3⟩:=p8.mp r;cases e1;have e':=List.cons.inj e;have hk:k1=.inl k:=by
    cases k1 with
    | inl j=>cases e'.1;rfl
    | inr j=>cases e'.1
   rw[z3z h1 e'.2 e3,hk,show v1=.int v from u9.mp e2];rfl
 | .i _::_,[],L,h,D,H,kv,e,r=>by cases h
 | .s _::_,_,L,h,D,H,kv,e,r=>by cases h
 | .t _::_,_,L,h,D,H,kv,e,r=>by cases h
 | .i _::_,.non::_,L,h,D,H,kv,e,r=>by cases h
 | .i _::_,.bl _::_,L,h,D,H,kv,e,r=>by cases h
 | .i _::_,.str _::_,L,h,D,H,kv,e,r=>by cases h
 | .i _::_,.tup _::_,L,h,D,H,kv,e,r=>by cases h
 | .i _::_,.lst _::_,L,h,D,H,kv,e,r=>by cases h
 | .i _::_,.dct _ _::_,L,h,D,H,kv,e,r=>by cases h
 | .i _::_,.exc _::_,L,h,D,H,kv,e,r=>by cases h
 | .i _::_,.fn _::_,L,h,D,H,kv,e,r=>by cases h
 | .i _::_,.scr _::_,L,h,D,H,kv,e,r=>by cases h
theorem y1N{ks:List DKey}{vs:List DV}{L:List (Int×Int)}(h:kvs? ks vs=some L){kv:List (List Key×V)}(e:kv.map (λp=>DKey.t p.1)=ks):L=[]/\kv=[]:=by
 cases kv with
 | nil=>
  subst e;cases vs with
  | nil=>cases h;exact⟨rfl,rfl⟩
  | cons _ _=>cases h
 | cons p kv=>
  subst e;cases vs<;>cases h
theorem y1l{ks:List DKey}{vs:List DV}{L:List ((Int×Int)×Int)}(h:kvp? ks vs=some L){kv:List (Key×V)}(e:kv.map (λp=>dKey p.1)=ks):L=[]/\kv=[]:=by
 cases kv with
 | nil=>
  subst e;cases vs with
  | nil=>cases h;exact⟨rfl,rfl⟩
  | cons _ _=>cases h
 | cons p kv=>
  subst e;obtain⟨k,v⟩:=p;cases k<;>cases vs<;>cases h
theorem z8f:∀{ks:List DKey} {vs:List DV} {L:List ((Int×Int)×Int)},kvp? ks vs=some L->∀{D:Dm} {H:Hp} {kv:List (List Key×V)},kv.map (λp=>DKey.t p.1)=ks->RepL D H vs (kv.map (·.2))->kv=oeK L:=by
 intro ks
 induction ks with
 | nil=>
  intro vs L h D H kv e r;cases kv with
  | nil=>cases vs with
   | nil=>cases h;rfl
   | cons _ _=>cases h
  | cons _ _=>cases e
 | cons k0 ks ih=>
  intro vs L h D H kv e r;unfold kvp? at h;split at h
  ·exact absurd (by assumption:k0::ks=[]) (List.cons_ne_nil _ _)
  ·rename_i a b ks' v vs' q;cases q;obtain⟨L',h1,h2⟩:=x8.mp h;subst h2;cases kv with
   | nil=>cases e
   | cons p kv=>
    obtain⟨k1,v1⟩:=p;obtain⟨w,ws,e1,e2,e3⟩:=p8.mp r;cases e1;have e':=List.cons.inj e;rw[ih h1 e'.2 e3,show k1=[.inl a,.inl b]from DKey.t.inj e'.1,show v1=.int v from u9.mp e2];rfl
  ·cases h
theorem z6V(hbase:attributeBase e "items" X.env (eval e X.env)=eval e X.env)(hline:(apos.endLine==pos.line)=true)(ha:∀q,ra=some q->PE X e (dE X.D E δ q))
  (h:o5 (Re.thn ra λx c=>itmD x c)=some ri):PI X (.Tuple elts k tpos) (.Call (.Attribute e "items" apos) [] [] pos) (dI X.D E δ ri):=by
 have C:=λta (hA:PE X e ta)=>z2N (elts:=elts) (k:=k) (tpos:=tpos) (apos:=apos) (pos:=pos) hA hbase hline;cases hra:ra with
 | none=>rw[hra]at h;cases h
 | some q=>
  rw[hra]at h;have A:=ha q hra;cases q with
  | ex c=>cases h;exact(C _ A).weak λσ H R' ⟨O,W,R,p⟩=>⟨O,W,R,p⟩
  | ok dx cx=>
   have h':o5 (itmD dx cx)=some ri:=h;unfold itmD at h';split at h'
   ·rename_i ks vs;split at h'
    ·rename_i hcx;subst hcx;split at h'
     ·rename_i L hk;cases h';exact(C _ A).weak λσ H R' ⟨O,W,R,p⟩=>⟨O,W,R,λx H1 s1 g1=>by
       rcases M0.mp (show Rep X.D (L2.wo (O++W) H1) (.dct ks vs) x from g1)with⟨a,ob,kvs,e1,e2,e3,e4⟩ | ⟨a,ob,kvs,e1,e2,e3,e4⟩
       ·exact .inl ⟨a,ob,kvs,e1,n9 _ _ e2,p _ H1 s1 (.items e2 (z3z hk e3 e4))⟩
       ·obtain⟨rfl,rfl⟩:=y1N hk e3;exact .inr ⟨a,ob,[],e1,n9 _ _ e2,λqs hq=>p _ H1 s1 (Wk.itemsP (L:=[]) e2 rfl hq (R.hid.mono s1).hdA)⟩⟩
     ·rename_i hk0;cases hk:kvp? ks vs with
      | none=>rw[hk]at h';cases h'
      | some L=>
       rw[hk]at h';cases h';exact(C _ A).weak λσ H R' ⟨O,W,R,p⟩=>⟨O,W,R,λx H1 s1 g1=>by
        rcases M0.mp (show Rep X.D (L2.wo (O++W) H1) (.dct ks vs) x from g1)with⟨a,ob,kvs,e1,e2,e3,e4⟩ | ⟨a,ob,kvs,e1,e2,e3,e4⟩
        ·obtain⟨rfl,rfl⟩:=y1l hk e3;have hvs:vs=[]:=W1.mp (by have:=e4.length;simpa using this.symm);subst hvs;subst e3;cases hk0
        ·exact .inr ⟨a,ob,kvs,e1,n9 _ _ e2,λqs hq=>p _ H1 s1 (Wk.itemsP e2 (z8f hk e3 e4) hq (R.hid.mono s1).hdA)⟩⟩
    ·cases h'
   ·cases h'
end
end
section
section
variable {X:Cx} {CX:CXT} {k:Nat} {f:Addr} {fd:FuncData} {ps ks:List Str} {sp:Sp} {E:St->XK} {x:Str} {p pos:Pos} {e:Expr} {es:List Expr} {kws:List Keyword} {t tk:TA} {g:List Value->List Value->List Value} {gV:List V->List V->List V}
end
section
variable {X:Cx} {E:St->XK} {δ:List Sv} {re:Re} {rs:Option Rs}
end
section
variable {X:Cx} {E:St->XK} {δ:List Sv} {e:Expr} {es:List Expr} {pos p:Pos} {re:Re} {rs rs':Option Rs} {k:Nat} {fa:Addr} {fd:FuncData} {ps:List Str} {x:Str}
def N0{α:Type}(n:Nat)(us ws:List α):List α:=if us.length+1=n/\ws.length=1 then us++ws else[]
theorem z0Z(r:Vals vs us)(q:Vals zs ws):Vals (N0 n vs zs) (N0 n us ws):=by
 unfold N0;rw[r.length,q.length];split
 ·exact r.append q
 ·exact .nil
end
end
section
def z8T(K:PySem.W.Frag)(C:Addr):Prop:=∃B newId initId bmB,ExcBaseFacts B newId initId bmB/\PySem.W.excIn K C bmB newId=true
structure XOne(K:PySem.W.Frag)(mg:Str->Option Value)(G:Gs)(cl:List Str)(c:Str)(C:Addr):Prop where
 mc:mg c=some (.ref C)
 ck:ClsK K C
 rk:z8T K C
 own:∀t∈cl,∀Ct,mg t=some (.ref Ct)->PySem.W.kitOne K (.ref C) (.ref Ct)=some (N7 G c t)/\(N7 G c t=true->PySem.W.exmOne K (.ref C) (.ref Ct)=some true)
 blt:PySem.W.kitOne K (.ref C) (.type "ValueError")=some (N7 G c "ValueError")
structure XFacts(K:PySem.W.Frag)(mg:Str->Option Value)(G:Gs)(cl:List Str):Prop where
 one:∀c,(G.cls.lookup c).isSome=true->∃C,XOne K mg G cl c C
 all:∀t∈cl,∃Ct,mg t=some (.ref Ct)
section
variable {X:Cx} {E:St->XK} {δ:List Sv} {e:Expr} {pos p p':Pos} {re:Re} {ra:Option Re} {G:Gs} {cl:List Str} {t:Str} {o:Out}
def rIsx(X:Cx):List V->Hp->VK->Prop:=λxs H Q=>∃(a C:Addr) (y:V) (c:Value) (b:Bool),xs=[.ref a,y]/\H a=some (excO a (.ref C))/\ClsK X.K C/\((∃Ct,y=.ref Ct/\c=.ref Ct)\/∃n,y=.ty n/\c=.type n)/\PySem.W.kitOne X.K (.ref C) c=some b/\Q (.bl b) H
theorem z2I:y6 X (.builtin "isinstance") (rIsx X):=by
 intro pins s σ H xs us Q I r h;obtain⟨a,C,y,c,b,rfl,ea,ck,hy,hk,q⟩:=h;obtain⟨u,w',rfl,ru,rw'⟩:=z1C r;cases(show u=Value.ref a from ru);obtain⟨⟨oe,vs,h1,h2,_⟩,_⟩:=(show r6 X.prog X.w H s.heap a (excO a (.ref C))from I.hok a _ ea);have hw:w'=c:=by
  rcases hy with⟨Ct,rfl,rfl⟩ | ⟨n,rfl,rfl⟩
  ·exact rw'
  ·exact rw'
 subst hw;exact z5C ck I.kIn ⟨oe,h1,h2⟩ hk λtk=>⟨.bl b,H,I.tok tk,rfl,q⟩
theorem q4t:bootBuiltins "ValueError" = some (.type "ValueError"):=by decide +kernel
theorem z6B(F:XFacts X.K X.mg G cl)(hg:Gl X "isinstance")(hm:X.mg "isinstance" = none)(hgt:Gl X t)(ht:(t∈cl/\(t==("__debug__" : Str))=false)\/(X.mg t=none/\t = "ValueError"))
  (ha:∀q,ra=some q->PE X e (dE X.D E δ q)) (hs:j6 e=false) (h:(Re.thn ra λy _=>(isxD G y t).map λk=>.ok (.bl k) .strong)=some re):PE X (.Call (.Name "isinstance" p) [e,.Name t p'] [] pos) (dE X.D E δ re):=by
 have T:∃(v:V) (c:Value),PE X (.Name t p') (tC v)/\((∃Ct,v=.ref Ct/\c=.ref Ct)\/∃n,v=.ty n/\c=.type n)/\∀c' C,XOne X.K X.mg G cl c' C->PySem.W.kitOne X.K (.ref C) c=some (N7 G c' t):=by
  rcases ht with⟨h1,h2⟩ | ⟨h1,h2⟩
  ·obtain⟨Ct,hC⟩:=F.all t h1;exact⟨.ref Ct,.ref Ct,z1w hgt hC rfl h2,.inl ⟨Ct,rfl,rfl⟩,λc' C x=>(x.own t h1 Ct hC).1⟩
  ·subst h2;exact⟨.ty "ValueError",.type "ValueError",z0p hgt h1 q4t rfl (by decide +kernel) (by decide +kernel),.inr ⟨_,rfl,rfl⟩,λc' C x=>x.blt⟩
 obtain⟨v,c,T,hv,hk⟩:=T;have C:=λta (hA:PE X e ta)=>q5I (p:=p) (pos:=pos) z2I hg hm boot_isinstance (G1 hA (G1 T O8) (u3 hs)) (by decide) (by decide) (u3 hs)
 cases hra:ra with
 | none=>rw[hra]at h;cases h
 | some q=>
  rw[hra]at h;have A:=ha q hra;cases q with
  | ex c=>cases h;exact(C _ A).weak λσ H Q ⟨O,W,R,p⟩=>⟨O,W,R,p⟩
  | ok d dc=>
   obtain⟨k,e1,e2⟩:=x8.mp (show((isxD G d t).map λk=>Re.ok (.bl k) .strong)=some re from h);cases e2;unfold isxD at e1;split at e1
   ·rename_i c';split at e1
    ·rename_i hc;cases e1;obtain⟨C0,x⟩:=F.one c' hc;refine(C _ A).weak λσ H Q ⟨O,W,R,p⟩=>⟨O,W,R,λv1 H1 s1 g1=>?_⟩
     obtain⟨a,C1,z1,z2,z3⟩:=q7n.mp (g1.all (R.hid.mono s1));rw[show C1=Value.ref C0 from F1 (z2.symm.trans x.mc)]at z3;exact⟨a,C0,v,c,_,by rw[z1],z3,x.ck,hv,hk c' C0 x,p _ H1 s1 R9⟩
    ·cases e1
   ·cases e1
theorem z0x(F:XFacts X.K X.mg G cl)(hc:X.calm=true)(hg:Gl X c)(hd:(c==("__debug__" : Str))=false)(hR:q4q X E)(ha:∀q,ra=some q->PE X e (dE X.D E δ q))(hs:j6 e=false)
  (h:(if(G.cls.lookup c).isSome then Re.thnS δ ra λ_ _=>some (.ex c δ)else none)=some o):PS X (.Raise (some (.Call (.Name c np) [e] [] cpos)) none pos) (dS X.D E δ o):=by
 split at h
 ·rename_i hc';obtain⟨C,x⟩:=F.one c hc';obtain⟨B,newId,initId,bmB,FB,hx⟩:=x.rk;cases hra:ra with
  | none=>rw[hra]at h;cases h
  | some q=>
   rw[hra]at h;have A:=ha q hra;have P:=z3d (np:=np) (cpos:=cpos) (pos:=pos) FB hc hg x.mc hx hR (G1 A O8 (u3 hs)) hd (u3 hs) rfl;cases q with
   | ex c2=>cases h;exact P.weak λDn σ H ⟨H0,O,W,R,fr,fo,sm,k⟩=>⟨O,W,R,P6 R fr sm k⟩
   | ok d dc=>cases h;exact P.weak λDn σ H ⟨H0,O,W,R,fr,fo,sm,k⟩=>⟨O,W,R,λv H1 s1 g=>⟨by show 1<=sizeLine;decide,k σ H1 W _ x.mc (R.mono s1) fr (sm.trans s1)⟩⟩
 ·cases h
theorem RSt.unset(R:RSt D H σ δ O W)(i:Nat):RSt D H (σ.set i none) (δ.set i .no) O W where
 val:=λj d h=>by
  by_cases hj:j=i
  ·subst hj;have hl:j<δ.length:=by
    have:=(w9.mp h).1;rw[u0]at this;exact this
   rw[C8 hl]at h;cases h
  ·rw[d6 (Ne.symm hj)]at h ⊢;exact R.val j d h
 own:=λj d h=>by
  by_cases hj:j=i
  ·subst hj;have hl:j<δ.length:=by
    have:=(w9.mp h).1;rw[u0]at this;exact this
   rw[C8 hl]at h;cases h
  ·rw[d6 (Ne.symm hj)]at h ⊢;exact R.own j d h
 inj:=λj k a d d' h1 h2 h3 h4=>by
  have ne:∀(j:Nat) d,(δ.set i .no)[j]? = some (.own d)->j≠i:=λj d h z=>by
   subst z;have hl:j<δ.length:=by have:=(w9.mp h).1;rw[u0]at this;exact this
   rw[C8 hl]at h;cases h
  have nj:=ne j d h1;have nk:=ne k d' h2;rw[d6 (Ne.symm nj)]at h1 h3;rw[d6 (Ne.symm nk)]at h2 h4;exact R.inj j k a d d' h1 h2 h3 h4
 ot:=by
  obtain⟨P,f,u⟩:=R.ot;refine⟨P,λj d h=>?_,λj k d1 d2 h1 h2=>?_⟩
  ·have nj:=j0 h (by intro z;cases z);rw[d6 (Ne.symm nj)]at h ⊢;obtain⟨t,ts,e1,e2,e3,e4⟩:=f j d h;refine⟨t,ts,e1,e2,e3,λp hp=>⟨(e4 p hp).1,(e4 p hp).2.1,λk d2 q=>?_⟩⟩;have nk:=j0 q (by intro z;cases z);rw[d6 (Ne.symm nk)]at q ⊢;exact(e4 p hp).2.2 k d2 q
  ·rw[d6 (Ne.symm (j0 h1 (by intro z;cases z)))]at h1;rw[d6 (Ne.symm (j0 h2 (by intro z;cases z)))]at h2;exact u j k d1 d2 h1 h2
 o2:=λj d h=>by
  have nj:=j0 h (by intro z;cases z);rw[d6 (Ne.symm nj)]at h ⊢;obtain⟨⟨p,L,e0,e1,e2,e3⟩,u,n⟩:=R.o2 j d h;refine⟨⟨p,L,e0,e1,e2,λk d2 a q q2=>?_⟩,λk d2 q=>?_,λk d2 q=>?_⟩
  ·have nk:=j0 q (by intro z;cases z);rw[d6 (Ne.symm nk)]at q q2;exact e3 k d2 a q q2
  ·have nk:=j0 q (by intro z;cases z);rw[d6 (Ne.symm nk)]at q;exact u k d2 q
  ·have nk:=j0 q (by intro z;cases z);rw[d6 (Ne.symm nk)]at q;exact n k d2 q
 od:=R.od.step (q5c _ (by intro d z;cases z)) (λ_ h _=>h) (λ_ _ _ h _=>h)
 len:=by rw[u0,u0];exact R.len
 hid:=R.hid
theorem z5D(F:XFacts X.K X.mg G cl)(hst:X.stack=X.env::X.outer)(hfr:X.env.frame=some X.env.locals)(hex:X.ex=[])(hgl:Gl X c)(hc:c∈cl)(hd:(c==("__debug__" : Str))=false)(hN:X.N.Nodup)(hi:X.N[ie]? = some n)(hl:X.env.scope.names.lookup n=some .local)
  (hn1:(n==("__debug__" : Str))=false) (hn2:(n==("__classdict__" : Str))=false) (hi2:X.N[ic]? = some x) (hx:Loc X.env.scope x) (hf:X.fn x=true\/X.env.scope.names.lookup x=some .local)
  (hb:∀pins (E':St->Value->Hp->Prop) q,ob=some q->PSs (X.tryIn pins E') body (dS X.D (λσ C _ H=>E' σ C H) δ q))
  (h:tryD G c ie ic ob=some o) :
  PS X (.Try body [.ExceptHandler (some (.Name c np)) (some n) [.Assign [.Name x tp] (.Name n vp) ap] hpos] [] [] pos) (dS X.D E δ o):=by
 obtain⟨Ct,hCt⟩:=F.all c hc;cases hob:ob with
 | none=>rw[hob]at h;cases h
 | some q=>
  rw[hob]at h;have S:∀ea,PSs (X.inExc ea) [.Assign [.Name x tp] (.Name n vp) ap] (tAsg (tVar ie) (q8J ic)):=λea=>z4y (q6a (X:=X.inExc ea) hN hi2 hx (O7 (X:=X.inExc ea) hi (.inl hl) hn1 hn2) rfl hf)
  refine(z8y (i:=ie) (cv:=.ref Ct) (tb:=λE'=>dS X.D (λσ C _ H=>E' σ C H) δ q) hst hfr hex hgl hCt hN hi hl (λpins E'=>hb pins E' q hob) S hd).weak λDn σ H ⟨H0,O,W,R,fr,fo,sm,k⟩=>⟨H0,O,W,R,fr,fo,sm,?_⟩;cases q with
  | nx δ'=>cases h;exact k
  | rt d f=>cases h;exact k
  | rtt d=>cases h;exact k
  | ex c' δ'=>
   have h':(if(G.cls.lookup c').isSome/\N7 G c' c/\ie<δ'.length/\ie≠ic then some (Out.nx ((δ'.set ic (.val (.exc c'))).set ie .no))else none)=some o:=h;split at h'
   ·rename_i hh;cases h';obtain⟨hh1,hh2,hh3,hh4⟩:=hh;obtain⟨C0,xo⟩:=F.one c' hh1;intro σ' H' W' C hm R' fr' sm';rw[show C=Value.ref C0 from F1 (hm.symm.trans xo.mc)];refine⟨(xo.own c hc Ct hCt).2 hh2,λea hea=>?_⟩;have hout:ea∉O++W':=R'.hid.newOut hea;have R1:=R'.mono (u6 (o:=excO ea (.ref C0)) hea);have rp:Rep X.D (L2.wo (O++W') (upd H' ea (excO ea (.ref C0)))) (.exc c') (.ref ea):=q7n.mpr ⟨ea,_,rfl,xo.mc,by rw[j7 hout];exact w6⟩;refine⟨.ref ea,C8 (by rw[R'.len];exact hh3),?_⟩;refine k _ _ W' ?_ fr' (sm'.trans (u6 hea));have R2:=((R1.setVal rp ie).setVal rp ic).unset ie;rw[show((δ'.set ie (Sv.val (.exc c'))).set ic (Sv.val (.exc c'))).set ie Sv.no=(δ'.set ic (Sv.val (.exc c'))).set ie Sv.no by rw[List.set_comm _ _ hh4,w38]]at R2;exact R2
   ·cases h'
end
end
section
def z1o(K:PySem.W.Frag)(w:World)(mg:Str->Option Value)(x:Str)(kvs:List (Str×Str)):Prop:=
 ∃a es n,mg x=some (.ref a)/\K.lookup a=some ⟨.type "dict",none,.dict es n,#[]⟩/\PySem.W.KeysLit w.params es.toList/\∀k v,kvs.lookup k=some v->v.length<=sizeLine/\∃t,PySem.W.nsIn K a k=some (some (.str v t))
def DK(K:PySem.W.Frag)(D:Dm)(G:Gs)(f:Nat)(fd:FuncData)(ps:List Str):Prop:=
 (∀ds,G.dfl.lookup f=some ds->∃us dvs,J2 K fd ps us/\Vals dvs us/\∀H,RepL D H ds dvs)/\∀n,G.kws.lookup f=some n->KBinds K fd ps [n] (N0 ps.length) (N0 ps.length)
structure Good(sg:Sg)(G:Gs)(F:Nat->List DV->Option Ou)(X:Cx)(E:St->XK):Prop where
 N:X.N=sg.N
 nd:X.N.Nodup
 vis:∀x,visB sg x=true->Vis X.env.scope x
 glo:∀x,gloB sg x=true->Gl X x
 loc:∀x,locB sg x=true->Loc X.env.scope x/\(X.fn x=true\/X.env.scope.names.lookup x=some .local)
 lcl:∀x,sg.sc.lookup x=some .local->X.env.scope.names.lookup x=some .local
 cel:∀x,(sg.sc.lookup x=some .cell\/sg.sc.lookup x=some .free)->X.env.scope.names.lookup x=some .cell\/X.env.scope.names.lookup x=some .free
 calm:X.calm=true
 hu:X.A.units+64<cLine
 fns:∀f x,sg.fn[f]? = some x->∃k fa fd ps,Room k X.A/\X.mg x=some (.ref fa)/\PySem.W.keepIn X.K (.ref fa)=true/\J2 X.K fd ps []/\(∀ds o,F f ds=some o->ds.length=ps.length) /\
  FnOk X.prog X.w X.K X.mg X.base (CXx X.prog X.w X.base) k fa fd ps (spF X.D ps.length (F f))/\DK X.K X.D G f fd ps
 blt:∀x∈sg.bl,X.mg x=none
 pas:q3G (CXx X.prog X.w X.base) X E
 con:∀x d,G.con.lookup x=some d->∃u v,X.mg x=some u/\RelV v u/\∀H,Rep X.D H d v
 own:sg.lp=true->PassesOwn (model X.prog X.w) X.A X.env X.xe
 xf:XFacts X.K X.mg G sg.cl
 st:sg.top=true->X.stack=X.env::X.outer/\X.env.frame=some X.env.locals/\X.ex=[]/\q4q X E
 dcs:∀x kvs,G.dcs.lookup x=some kvs->z1o X.K X.w X.mg x kvs
 hun:G.hun=true->∃k fa fd ps hf,Room k X.A/\X.mg J4=some (.ref fa)/\PySem.W.keepIn X.K (.ref fa)=true/\J2 X.K fd ps []/\(∀d l,F R6 [d,.lst l]=(hf d l).map λr=>.v r.1 false)/\FnOk X.prog X.w X.K X.mg X.base (CXx X.prog X.w X.base) k fa fd ps (spH X.D hf)
theorem q2f:∀{l:List Str},Y2 l=true->l.Nodup
 | [],_=>List.nodup_nil
 | x::r,h=>by unfold Y2 at h;rw[d7]at h;refine O4.mpr ⟨λz=>?_,q2f h.2⟩;have:=h.1;rw[P8.mpr z]at this;cases this
section
variable {sg:Sg} {G:Gs} {F:Nat->List DV->Option Ou} {X:Cx} {E:St->XK} {tg:Tg} {sc:Scope} {N':List Str} {fr:List (Option Nat)}
theorem q1L(g:Good sg G F X E)(h:Y4 sg N' fr sc tg=true):CompScope X.N N' sc X.env.scope fr/\(∀(j k i:Nat),fr[j]? = some (some i)->fr[k]? = some (some i)->j=k)/\∀i∈Y3 tg,fr[i]? = some none:=by
 unfold Y4 at h;simp only[d7,D6,i8]at h;obtain⟨⟨⟨⟨⟨⟨h0,h1⟩,h2⟩,h3⟩,h4⟩,h5⟩,h6⟩:=h;have h5':∀(j i:Nat),fr[j]? = some (some i)->∃x,N'[j]? = some x/\sg.N[i]? = some x/\(x,NameKind.free)∈sc.names:=λj i e=>by
  have hj:j<fr.length:=(w9.mp e).1;have hj':j<N'.length:=by rw[←h4];exact hj
  have hz:(some i,N'[j])∈fr.zip N':=(by refine P9 (i:=j) ?_;rw[List.getElem?_zip_eq_some];exact⟨e,j3 hj'⟩);have q:=h5 _ hz;simp only[d7,i8,P8]at q;exact⟨_,j3 hj',q.1,q.2⟩
 refine⟨⟨h1,q2f h2,q2f h3,h4,λj i e=>?_,λy hy hk=>?_⟩,λj k i e1 e2=>?_,h0⟩
 ·obtain⟨x,a,b,c⟩:=h5' j i e;exact⟨x,a,by rw[g.N];exact b,c⟩
 ·have q:=h6 y hy;rw[d4 hk]at q;simp only[J0,i8]at q;exact g.cel _ q
 ·obtain⟨x,a,b,_⟩:=h5' j i e1;obtain⟨x',a',b',_⟩:=h5' k i e2;rw[b]at b';cases b';exact q4i (q2f h2) a a'
theorem Y8(g:Good sg G F X E)(h:Y4 sg N' fr sc tg=true)(C:Addr)(cells:List (Str×Addr))(s₂:Shared)(H₂:Hp)(fp:List Addr):Good ⟨N',sc.names,sg.fn,sg.bl,sg.cl,false,true⟩ G F (t9 X sc N' C cells s₂ H₂ fp) E0s:=by
 obtain⟨S,_,_⟩:=q1L g h;have look:∀x,(t9 X sc N' C cells s₂ H₂ fp).env.scope.names.lookup x=(sc.names.lookup x).map λk=>if(k==NameKind.free&&X.env.scope.kind == .function&&X.env.kindOf x==some .cell)=true then NameKind.cell else k:=λx=>q1X
 have one:∀x k,sc.names.lookup x=some k->k ≠ .free->(t9 X sc N' C cells s₂ H₂ fp).env.scope.names.lookup x=some k:=λx k e hk=>by rw[look,e,Q6,d5];intro z;simp only[d7,i8]at z;exact hk z.1.1
 have two:∀x,sc.names.lookup x=some .free->(t9 X sc N' C cells s₂ H₂ fp).env.scope.names.lookup x=some .cell\/(t9 X sc N' C cells s₂ H₂ fp).env.scope.names.lookup x=some .free:=λx e=>by
  rw[look,e,Q6];split
  ·exact .inl rfl
  ·exact .inr rfl
 refine⟨rfl,S.nd,λx hx=>?_,λx hx=>?_,λx hx=>?_,λx hx=>one x _ hx (by intro z;cases z),λx hx=>?_,g.calm,g.hu,g.fns,g.blt,?_,g.con,λ_=>.never,g.xf,(λz=>nomatch z),g.dcs,g.hun⟩
 ·unfold visB at hx;simp only[J0,i8]at hx;rcases hx with(hx | hx) | hx
  ·exact .inl (one x _ hx (by intro z;cases z))
  ·exact .inr (.inl (one x _ hx (by intro z;cases z)))
  ·exact .inr (two x hx)
 ·unfold gloB at hx;rw[i8]at hx;exact one x _ hx (by intro z;cases z)
 ·unfold locB at hx;simp only[J0,i8]at hx;rcases hx with hx | hx
  ·exact⟨.inl (one x _ hx (by intro z;cases z)),.inr (one x _ hx (by intro z;cases z))⟩
  ·exact⟨.inr (one x _ hx (by intro z;cases z)),.inl (by show(sc.names.lookup x==some .cell)=true;rw[hx];rfl)⟩
 ·rcases hx with hx | hx
  ·exact .inl (one x _ hx (by intro z;cases z))
  ·exact two x hx
 ·intro pins σ H s e s' I z;obtain⟨_,_,_,_,_,_,_,_,_,_,q⟩:=z;exact q.elim
theorem T5(g:Good sg G F X E)(h:L9 sg i x=true):X.N[i]? = some x/\Vis X.env.scope x/\(x==("__debug__" : Str))=false/\(x==("__classdict__" : Str))=false:=by
 unfold L9 at h;simp only[d7,i8,U6,ne_eq]at h;obtain⟨⟨⟨h1,h2⟩,h3⟩,h4⟩:=h;exact⟨by rw[g.N];exact h1,g.vis x h2,C4.mpr h3,C4.mpr h4⟩
theorem q5k(g:Good sg G F X E)(h:bltB sg x f=true):(∃p,f=.Name x p)/\Gl X x/\X.mg x=none:=by
 unfold bltB at h;simp only[d7,i8,P8]at h;obtain⟨⟨h1,h2⟩,h3⟩:=h;exact⟨A4 h1,g.glo x h2,g.blt x h3⟩
theorem z3e(g:Good sg G F X E)(pins:List (Addr×Obj))(E':St->Value->Hp->Prop):Good ⟨sg.N,sg.sc,sg.fn,sg.bl,sg.cl,false,false⟩ G F (X.tryIn pins E') (λσ C _ H=>E' σ C H):=
 ⟨g.N,g.nd,g.vis,g.glo,g.loc,g.lcl,g.cel,g.calm,g.hu,g.fns,g.blt,q8C,g.con,(λz=>nomatch z),g.xf,(λz=>nomatch z),g.dcs,g.hun⟩
theorem q6D(g:Good sg G F X E):∀(is:List Nat) (es:List Expr),es.length=is.length->((is.zip es).all λp=>match u5 p.2 with | some x=>sg.N[p.1]? == some x&&locB sg x | none=>false)=true ->
  PGs X es (q7w is)/\(assignEach es X.env).length=is.length/\(assignEach es X.env).findIdx? (·.1)=none
 | [],[],_,_=>⟨z4J,rfl,rfl⟩
 | [],_::_,h,_=>by cases h
 | _::_,[],h,_=>by cases h
 | i::is,e::es,hl,h=>by
  rw[w29,List.all_cons,d7]at h;obtain⟨h1,h2⟩:=h;obtain⟨A,B,C⟩:=q6D g is es (by simpa using hl) h2;split at h1
  ·rename_i x q;obtain⟨p,rfl⟩:=A4 q;simp only[d7,i8]at h1;have l:=g.loc x h1.2;refine⟨z2T (z0s g.nd (by rw[g.N];exact h1.1) l.1 l.2) A rfl,?_,?_⟩
   ·show(assignEach es X.env).length+1=is.length+1;rw[B]
   ·show((false,assign (.Name x p) X.env)::assignEach es X.env).findIdx? (·.1)=none;rw[List.findIdx?_cons,C];rfl
  ·cases h1
theorem q9h(g:Good sg G F X E)(h:tgOk sg tg tgE=true):PG X tgE (gT X.K tg):=by
 cases tg with
 | one i=>
  unfold tgOk at h;dsimp only at h;split at h
  ·rename_i x q;obtain⟨p,rfl⟩:=A4 q;simp only[d7,i8]at h;have l:=g.loc x h.2;exact z0s g.nd (by rw[g.N];exact h.1) l.1 l.2
  ·cases h
 | many is=>
  unfold tgOk at h;dsimp only at h;split at h
  ·rename_i es q;obtain⟨k,p,rfl⟩:=R7 q;rw[d7,d7,i8]at h;obtain⟨A,B,C⟩:=q6D g is es h.1.1 h.2;exact z9m g.calm A B C
  ·cases h
end
section
variable (G:Gs) (F:Nat->List DV->Option Ou)
def SE(m:ME):Prop:=∀{sg:Sg} {X:Cx} {E:St->XK} {e:Expr} {δ:List Sv} {r:Re},Good sg G F X E->corE sg false m e=true->evE G F m δ=some r->PE X e (dE X.D E δ r)
def ST(m:ME):Prop:=∀{sg:Sg} {X:Cx} {E:St->XK} {e:Expr} {δ:List Sv} {r:Rt},Good sg G F X E->corE sg false m e=true->tstD (evE G F m δ)=some r->PT X e (dT X.D E δ r)
def SI(m:ME):Prop:=∀{sg:Sg} {X:Cx} {E:St->XK} {e tg:Expr} {δ:List Sv} {r:Ri},Good sg G F X E->corE sg true m e=true->(isZp m=true->(F4 tg).isSome=true)->o5 (evE G F m δ)=some r->PI X tg e (dI X.D E δ r)
def SEs(ms:List ME):Prop:=∀{sg:Sg} {X:Cx} {E:St->XK} {es:List Expr} {δ:List Sv} {r:Rs},Good sg G F X E->u8 sg ms es=true->evEs G F ms δ=some r->PA X es (dA X.D E δ r)
def SAnd(ms:List ME):Prop:=∀{sg:Sg} {X:Cx} {E:St->XK} {es:List Expr} {δ:List Sv} {pos:Pos},Good sg G F X E->u8 sg ms es=true ->
 (∀r,M8 G F ms δ=some r->PE X (.BoolOp .And es pos) (dE X.D E δ r))/\(∀r,tstD (M8 G F ms δ)=some r->PW X (.BoolOp .And es pos) (dT X.D E δ r))
def SOr(ms:List ME):Prop:=∀{sg:Sg} {X:Cx} {E:St->XK} {es:List Expr} {δ:List Sv} {pos:Pos},Good sg G F X E->u8 sg ms es=true ->
 (∀r,evOr G F ms δ=some r->PE X (.BoolOp .Or es pos) (dE X.D E δ r))/\(∀r,tstD (evOr G F ms δ)=some r->PW X (.BoolOp .Or es pos) (dT X.D E δ r))
def S1(m:ME):Prop:=SE G F m/\ST G F m/\SI G F m
end
section
variable {G:Gs} {F:Nat->List DV->Option Ou}
theorem S1.of(h:SE G F m)(hw:∀sg e,corE sg true m e=corE sg false m e)(ht:∀sg e env,corE sg false m e=true->∀whole,isTrue e env whole=(do let v ←whole;standAt e.pos;holding [v] (truthy v))):S1 G F m:=
 ⟨h,λ{sg X E e δ r} g hc q=>z0a (λz hz=>h g hc hz) (ht sg e X.env hc) q,λ{sg X E e tg δ r} g hc _ q=>q8m (λz hz=>h g (by rw[←hw];exact hc) hz) q⟩
theorem S1.of2(h:SE G F m)(ht:ST G F m)(hw:∀sg e,corE sg true m e=corE sg false m e):S1 G F m:=
 ⟨h,ht,λ{sg X E e tg δ r} g hc _ q=>q8m (λz hz=>h g (by rw[←hw];exact hc) hz) q⟩
end
end
section
def z7R:Expr->Bool
 | .UnaryOp .Not _ _=>false | .BoolOp _ _ _=>false | .IfExp _ _ _ _=>false | .Compare _ _ _ _=>false
 | _=>true
theorem E3(h:z7R e=true)(env:Env):∀whole,isTrue e env whole=(do let v ←whole;standAt e.pos;holding [v] (truthy v)):=by
 cases e with
 | UnaryOp o a p=>cases o<;>first | (intro _;rfl) | cases h
 | BoolOp _ _ _=>cases h
 | IfExp _ _ _ _=>cases h
 | Compare _ _ _ _=>cases h
 | _=>intro _;rfl
section
variable {G:Gs} {F:Nat->List DV->Option Ou} {a b c:ME}
theorem y0D:S1 G F (.var i):=by
 refine .of (λ{sg X E e δ r} g hc h=>?_) (λ_ _=>rfl) (λsg e env hc=>?_)
 ·unfold corE at hc;split at hc
  ·rename_i x q;obtain⟨p,rfl⟩:=A4 q;obtain⟨h1,h2,h3,h4⟩:=T5 g hc;exact z7h h1 h2 h3 h4 (by unfold evE at h;exact h)
  ·cases hc
 ·unfold corE at hc;split at hc
  ·rename_i x q;obtain⟨p,rfl⟩:=A4 q;exact E3 rfl env
  ·cases hc
theorem q5y(hm:∀sg w e,corE sg w m e=true->P2 e=some k)(he:∀δ,evE G F m δ=some (.ok d .strong))(hw:∀sg e,corE sg true m e=corE sg false m e)
  (hp:∀{X:Cx} {E:St->XK} {δ:List Sv} {j:Nat} {pos:Pos} sg e,corE sg false m e=true->PE X (.Constant k j pos) (dE X.D E δ (.ok d .strong))):S1 G F m:=by
 refine .of (λ{sg X E e δ r} g hc h=>?_) hw (λsg e env hc=>?_)
 ·obtain⟨j,p,rfl⟩:=q2h (hm sg false e hc);rw[he]at h;cases h;exact hp sg _ hc
 ·obtain⟨j,p,rfl⟩:=q2h (hm sg false e hc);exact E3 rfl env
theorem y1t:S1 G F (.int i):=q5y (λsg w e h=>by unfold corE at h;exact i8.mp h) (λδ=>by unfold evE;rfl) (λ_ _=>rfl) λ_ _ _=>z6c
theorem s_bl:S1 G F (.bl i):=q5y (λsg w e h=>by unfold corE at h;exact i8.mp h) (λδ=>by unfold evE;rfl) (λ_ _=>rfl) λ_ _ _=>z8r
theorem y1m:S1 G F .non:=q5y (λsg w e h=>by unfold corE at h;exact i8.mp h) (λδ=>by unfold evE;rfl) (λ_ _=>rfl) λ_ _ _=>z5P
theorem y0C:S1 G F (.str i):=q5y (λsg w e h=>by unfold corE at h;rw[d7]at h;exact i8.mp h.1) (λδ=>by unfold evE;rfl) (λ_ _=>rfl) λ_ _ h=>by
 unfold corE at h;rw[d7,L3]at h;exact z6O (m6 h.2 (by decide))
theorem y0t:S1 G F (.glb x):=by
 refine .of (λ{sg X E e δ r} g hc h=>?_) (λ_ _=>rfl) (λsg e env hc=>?_)
 ·unfold corE at hc;simp only[d7,i8,U6,ne_eq]at hc;obtain⟨p,rfl⟩:=A4 hc.1.1;unfold evE at h;obtain⟨d,h1,h2⟩:=x8.mp h;cases h2;obtain⟨u,v,m,rv,rp⟩:=g.con x d h1;exact(z1w (g.glo x hc.1.2) m rv (C4.mpr hc.2)).weak λσ H Q ⟨O,W,R,p⟩=>p v H (Same.refl H) (rp _)
 ·unfold corE at hc;simp only[d7,i8]at hc;obtain⟨p,rfl⟩:=A4 hc.1.1;exact E3 rfl env
theorem y1h(ha:S1 G F a)(hb:S1 G F b):S1 G F (.bin op a b):=by
 refine .of (λ{sg X E e δ r} g hc h=>?_) (λ_ _=>rfl) (λsg e env hc=>?_)
 ·unfold corE at hc;split at hc
  ·rename_i ea o eb q;obtain⟨p,rfl⟩:=q7Z q;simp only[d7,i8]at hc;obtain⟨⟨h1,h2⟩,h3⟩:=hc;subst h1;unfold evE at h;exact z7c (λz hz=>ha.1 g h2 hz) (λz hz=>hb.1 g h3 hz) h
  ·cases hc
 ·unfold corE at hc;split at hc
  ·rename_i q;obtain⟨p,rfl⟩:=q7Z q;exact E3 rfl env
  ·cases hc
theorem y0L(ha:S1 G F a):S1 G F (.neg a):=by
 refine .of (λ{sg X E e δ r} g hc h=>?_) (λ_ _=>rfl) (λsg e env hc=>?_)
 ·unfold corE at hc;split at hc
  ·rename_i o ea q;obtain⟨p,rfl⟩:=q5F q;simp only[d7,i8]at hc;obtain⟨h1,h2⟩:=hc;subst h1;unfold evE at h;exact z5U (λz hz=>ha.1 g h2 hz) h
  ·cases hc
 ·unfold corE at hc;split at hc
  ·rename_i q;obtain⟨p,rfl⟩:=q5F q;simp only[d7,i8]at hc;obtain⟨h1,h2⟩:=hc;subst h1;exact E3 rfl env
  ·cases hc
theorem y1L(ha:S1 G F a):S1 G F (.not a):=by
 refine .of2 (λ{sg X E e δ r} g hc h=>?_) (λ{sg X E e δ r} g hc h=>?_) (λ_ _=>rfl)
 ·unfold corE at hc;split at hc
  ·rename_i o ea q;obtain⟨p,rfl⟩:=q5F q;simp only[d7,i8]at hc;obtain⟨h1,h2⟩:=hc;subst h1;unfold evE at h;exact z6x (λz hz=>ha.1 g h2 hz) h
  ·cases hc
 ·unfold corE at hc;split at hc
  ·rename_i o ea q;obtain⟨p,rfl⟩:=q5F q;simp only[d7,i8]at hc;obtain⟨h1,h2⟩:=hc;subst h1;unfold evE at h;exact z1V (λz hz=>ha.2.1 g h2 hz) h
  ·cases hc
theorem y0U(ha:S1 G F a)(hb:S1 G F b):S1 G F (.cmp op a b):=by
 refine .of2 (λ{sg X E e δ r} g hc h=>?_) (λ{sg X E e δ r} g hc h=>?_) (λ_ _=>rfl)
 ·unfold corE at hc;split at hc
  ·rename_i ea o eb q;obtain⟨p,rfl⟩:=q4j q;simp only[d7,i8,v9]at hc;obtain⟨⟨⟨h1,h2⟩,h3⟩,h4⟩:=hc;subst h1;unfold evE at h;exact z5L g.hu (λz hz=>ha.1 g h2 hz) (λz hz=>hb.1 g h3 hz) h4 h
  ·cases hc
 ·unfold corE at hc;split at hc
  ·rename_i ea o eb q;obtain⟨p,rfl⟩:=q4j q;simp only[d7,i8,v9]at hc;obtain⟨⟨⟨h1,h2⟩,h3⟩,h4⟩:=hc;subst h1;unfold evE at h;exact z1P g.hu (λz hz=>ha.1 g h2 hz) (λz hz=>hb.1 g h3 hz) h4 h
  ·cases hc
theorem z6M(ha:S1 G F a)(hb:S1 G F b)(hcc:S1 G F c):S1 G F (.chain op op' a b c):=by
 refine .of2 (λ{sg X E e δ r} g hc h=>?_) (λ{sg X E e δ r} g hc h=>?_) (λ_ _=>rfl)
 ·unfold corE at hc;split at hc
  ·rename_i ea o o' eb ec q;obtain⟨p,rfl⟩:=q4j q;simp only[d7,i8,v9]at hc;obtain⟨⟨⟨⟨⟨h1,h1'⟩,h2⟩,h3⟩,h4⟩,h5⟩:=hc;subst h1 h1';unfold evE at h;exact q9G g.hu (λz hz=>ha.1 g h2 hz) (λz hz=>hb.1 g h3 hz) (λz hz=>hcc.1 g h4 hz) h5 h
  ·cases hc
 ·unfold corE at hc;split at hc
  ·rename_i ea o o' eb ec q;obtain⟨p,rfl⟩:=q4j q;simp only[d7,i8,v9]at hc;obtain⟨⟨⟨⟨⟨h1,h1'⟩,h2⟩,h3⟩,h4⟩,h5⟩:=hc;subst h1 h1';unfold evE at h;exact q8I g.hu (λz hz=>ha.1 g h2 hz) (λz hz=>hb.1 g h3 hz) (λz hz=>hcc.1 g h4 hz) h5 h
  ·cases hc
theorem s_ix(ha:S1 G F a)(hb:S1 G F b):S1 G F (.ix a b):=by
 refine .of (λ{sg X E e δ r} g hc h=>?_) (λ_ _=>rfl) (λsg e env hc=>?_)
 ·unfold corE at hc;split at hc
  ·rename_i ea eb q;obtain⟨p,rfl⟩:=K9 q;simp only[d7,v9]at hc;obtain⟨⟨h1,h2⟩,h3⟩:=hc;unfold evE at h;exact z8a (λz hz=>ha.1 g h1 hz) (λz hz=>hb.1 g h2 hz) h3 h
  ·cases hc
 ·unfold corE at hc;split at hc
  ·rename_i q;obtain⟨p,rfl⟩:=K9 q;exact E3 rfl env
  ·cases hc
theorem s_sl(ha:S1 G F a)(hb:S1 G F b)(hcc:S1 G F c):S1 G F (.sl a b c):=by
 refine .of (λ{sg X E e δ r} g hc h=>?_) (λ_ _=>rfl) (λsg e env hc=>?_)
 ·unfold corE at hc;split at hc
  ·rename_i ea es q;obtain⟨p,rfl⟩:=K9 q;split at hc
   ·rename_i q2;obtain⟨p2,rfl⟩:=q3I q2;simp only[d7]at hc;obtain⟨⟨h1,h2⟩,h3⟩:=hc;unfold evE at h;exact z7X (λz hz=>ha.1 g h1 hz) (λz hz=>hb.1 g h2 hz) (λz hz=>hcc.1 g h3 hz) h
   ·cases hc
  ·cases hc
 ·unfold corE at hc;split at hc
  ·rename_i q;obtain⟨p,rfl⟩:=K9 q;exact E3 rfl env
  ·cases hc
theorem y1x(ha:S1 G F a)(hb:S1 G F b):S1 G F (.slf a b):=by
 refine .of (λ{sg X E e δ r} g hc h=>?_) (λ_ _=>rfl) (λsg e env hc=>?_)
 ·unfold corE at hc;split at hc
  ·rename_i ea es q;obtain⟨p,rfl⟩:=K9 q;split at hc
   ·rename_i q2;obtain⟨p2,rfl⟩:=q3I q2;simp only[d7]at hc;obtain⟨h1,h2⟩:=hc;unfold evE at h;exact z5o (λz hz=>ha.1 g h1 hz) (λz hz=>hb.1 g h2 hz) h
   ·cases hc
  ·cases hc
 ·unfold corE at hc;split at hc
  ·rename_i q;obtain⟨p,rfl⟩:=K9 q;exact E3 rfl env
  ·cases hc
theorem y1q(ha:S1 G F a)(hb:S1 G F b):S1 G F (.slt a b):=by
 refine .of (λ{sg X E e δ r} g hc h=>?_) (λ_ _=>rfl) (λsg e env hc=>?_)
 ·unfold corE at hc;split at hc
  ·rename_i ea es q;obtain⟨p,rfl⟩:=K9 q;split at hc
   ·rename_i q2;obtain⟨p2,rfl⟩:=q3I q2;simp only[d7]at hc;obtain⟨h1,h2⟩:=hc;unfold evE at h;exact z5t (λz hz=>ha.1 g h1 hz) (λz hz=>hb.1 g h2 hz) h
   ·cases hc
  ·cases hc
 ·unfold corE at hc;split at hc
  ·rename_i q;obtain⟨p,rfl⟩:=K9 q;exact E3 rfl env
  ·cases hc
variable {ms:List ME}
theorem q4s:∀{sg:Sg} {ms:List ME} {es:List Expr},u8 sg ms es=true->es.any j6=false
 | _,[],[],_=>rfl
 | _,[],_::_,h=>by unfold u8 at h;cases h
 | _,_::_,[],h=>by unfold u8 at h;cases h
 | sg,m::ms,e::es,h=>by unfold u8 at h;simp only[d7,v9]at h;rw[J1,h.1.2,q4s h.2];rfl
theorem y0v(ha:SEs G F ms):S1 G F (.lst ms):=by
 refine .of (λ{sg X E e δ r} g hc h=>?_) (λ_ _=>rfl) (λsg e env hc=>?_)
 ·unfold corE at hc;split at hc
  ·rename_i es q;obtain⟨p,rfl⟩:=q6u q;unfold evE at h;exact z6a (λz hz=>ha g hc hz) h
  ·cases hc
 ·unfold corE at hc;split at hc
  ·rename_i q;obtain⟨p,rfl⟩:=q6u q;exact E3 rfl env
  ·cases hc
theorem y1s(ha:SEs G F ms):S1 G F (.tup ms):=by
 refine .of (λ{sg X E e δ r} g hc h=>?_) (λ_ _=>rfl) (λsg e env hc=>?_)
 ·unfold corE at hc;split at hc
  ·rename_i es q;obtain⟨k,p,rfl⟩:=R7 q;unfold evE at h;exact z5x (λz hz=>ha g hc hz) h
  ·cases hc
 ·unfold corE at hc;split at hc
  ·rename_i q;obtain⟨k,p,rfl⟩:=R7 q;exact E3 rfl env
  ·cases hc
theorem z8C(ha:SEs G F ms):S1 G F (.call f ms):=by
 refine .of (λ{sg X E e δ r} g hc h=>?_) (λ_ _=>rfl) (λsg e env hc=>?_)
 ·unfold corE at hc;split at hc
  ·rename_i ef es pos q;have:=E9 q;subst this;rw[d7,d7]at hc;obtain⟨⟨h1,h2⟩,h3⟩:=hc;split at h1
   ·rename_i x qx;obtain⟨p,rfl⟩:=A4 qx;simp only[d7,i8,U6,ne_eq]at h1;obtain⟨k,fa,fd,ps,hr,hm,hk,hb,hl,fo,dk⟩:=g.fns f x h1.1.1;cases es with
    | nil=>cases h2
    | cons y ys=>
     have ns:=q4s h3;rw[J1,Z8]at ns;unfold evE at h;exact z3r fo hl hr (g.glo x h1.1.2) hm hk hb g.pas (λz hz=>ha g h3 hz) (C4.mpr h1.2) ns.1 ns.2 h
   ·cases h1
  ·cases hc
 ·unfold corE at hc;split at hc
  ·rename_i q;have:=E9 q;subst this;exact E3 rfl env
  ·cases hc
theorem s_bi(ha:SEs G F ms):S1 G F (.bi f ms):=by
 refine .of (λ{sg X E e δ r} g hc h=>?_) (λ_ _=>rfl) (λsg e env hc=>?_)
 ·unfold corE at hc;split at hc
  ·rename_i ef es pos q;have:=E9 q;subst this;rw[d7,d7]at hc;obtain⟨⟨h1,h2⟩,h3⟩:=hc;obtain⟨⟨p,rfl⟩,hg,hm⟩:=q5k g h1;unfold evE at h;cases es with
   | nil=>cases h2
   | cons y ys=>
    have go:u8 sg ms (y::ys)=true->(∀q,evEs G F ms δ=some q->PA X (y::ys) (dA X.D E δ q))/\j6 y=false/\ys.any j6=false:=λz=>by have ns:=q4s z;rw[J1,Z8]at ns;exact⟨λw hw=>ha g z hw,ns.1,ns.2⟩
    cases f with
    | len=>obtain⟨A,s1,s2⟩:=go h3;exact q5d z9I z6E hg hm boot_len (by decide) (by decide) A s1 s2 h
    | abs=>obtain⟨A,s1,s2⟩:=go h3;exact q5d z9u z6z hg hm boot_abs (by decide) (by decide) A s1 s2 h
    | min=>obtain⟨A,s1,s2⟩:=go h3;exact q5d (z8s g.calm (by have:=g.hu;omega)) z4x hg hm boot_min (by decide) (by decide) A s1 s2 h
    | max=>obtain⟨A,s1,s2⟩:=go h3;exact q5d (z9Q g.calm) z6Q hg hm boot_max (by decide) (by decide) A s1 s2 h
    | sum=>obtain⟨A,s1,s2⟩:=go h3;exact q5d (z7q g.calm) z5d hg hm q9r (by decide) (by decide) A s1 s2 h
    | any=>obtain⟨A,s1,s2⟩:=go h3;exact q5d (z8G g.calm) z6y hg hm z0d (by decide) (by decide) A s1 s2 h
    | int=>obtain⟨A,s1,s2⟩:=go h3;exact q5B z9v z6e hg hm boot_int (by decide) (by decide) A s1 s2 h
    | list=>obtain⟨A,s1,s2⟩:=go h3;exact q5B z4D z2f hg hm boot_list (by decide) (by decide) A s1 s2 h
    | lsti=>obtain⟨A,s1,s2⟩:=go h3;exact q5B z4W z1M hg hm boot_list (by decide) (by decide) A s1 s2 h
    | tuple=>obtain⟨A,s1,s2⟩:=go h3;exact q5B z1K q9P hg hm boot_tuple (by decide) (by decide) A s1 s2 h
  ·cases hc
 ·unfold corE at hc;split at hc
  ·rename_i q;have:=E9 q;subst this;exact E3 rfl env
  ·cases hc
theorem z0Q(h:U8.contains x=true):∃t,q5q x=some t:=by
 have key:∀x∈U8,∃t,q5q x=some t:=by
  intro x hx;simp only[U8,f9,F7,K6]at hx;rcases hx with rfl | rfl | rfl | rfl | rfl | rfl
  ·exact⟨"int",by decide +kernel⟩
  ·exact⟨"bool",by decide +kernel⟩
  ·exact⟨"str",by decide +kernel⟩
  ·exact⟨"list",by decide +kernel⟩
  ·exact⟨"tuple",by decide +kernel⟩
  ·exact⟨"dict",by decide +kernel⟩
 exact key x (P8.mp h)
theorem q5w:∀x∈U8,x ≠ "__name__" /\ (x==("__debug__" : Str))=false:=by
 intro x hx;simp only[U8,f9,F7,K6]at hx;rcases hx with rfl | rfl | rfl | rfl | rfl | rfl<;>exact⟨by decide +kernel,by decide +kernel⟩
theorem y1H(ha:S1 G F a):S1 G F (.isx a t):=by
 refine .of (λ{sg X E e δ r} g hc h=>?_) (λ_ _=>rfl) (λsg e env hc=>?_)
 ·unfold corE at hc;split at hc
  ·rename_i ef ea et pos q;have:=E9 q;subst this;simp only[d7,v9,i8,J0,P8,U6,ne_eq]at hc;obtain⟨⟨⟨⟨⟨⟨h1,h2⟩,h3⟩,h4⟩,h5⟩,h6⟩,h7⟩:=hc;obtain⟨⟨p,rfl⟩,hg,hm⟩:=q5k g h1;obtain⟨p',rfl⟩:=A4 h5;unfold evE at h;refine z6B g.xf hg hm (g.glo t h6) ?_ (λz hz=>ha.1 g h2 hz) h3 h;rcases h7 with⟨k1,k2⟩ | ⟨k1,k2⟩
   ·exact .inl ⟨k1,C4.mpr k2⟩
   ·refine .inr ⟨g.blt t k1,?_⟩;simp only[z1k,f9,F7,K6]at k2;exact k2
  ·cases hc
 ·unfold corE at hc;split at hc
  ·rename_i q;have:=E9 q;subst this;exact E3 rfl env
  ·cases hc
theorem y1i(ha:S1 G F a):S1 G F (.dct i a):=by
 refine .of (λ{sg X E e δ r} g hc h=>?_) (λ_ _=>rfl) (λsg e env hc=>?_)
 ·unfold corE at hc;split at hc
  ·rename_i ek ev q;obtain⟨p,rfl⟩:=q7V q;simp only[d7,i8]at hc;obtain⟨j,kp,rfl⟩:=q2h hc.1;unfold evE at h;exact z6i (λz hz=>ha.1 g hc.2 hz) h
  ·cases hc
 ·unfold corE at hc;split at hc
  ·rename_i q;obtain⟨p,rfl⟩:=q7V q;exact E3 rfl env
  ·cases hc
theorem y1b:S1 G F .dc0:=by
 refine .of (λ{sg X E e δ r} g hc h=>?_) (λ_ _=>rfl) (λsg e env hc=>?_)
 ·unfold corE at hc;split at hc
  ·unfold evE at h;cases h;exact z7l
  ·cases hc
 ·unfold corE at hc;split at hc
  ·exact E3 rfl env
  ·cases hc
theorem y1P(ha:S1 G F a)(hb:S1 G F b):S1 G F (.dix a b):=by
 refine .of (λ{sg X E e δ r} g hc h=>?_) (λ_ _=>rfl) (λsg e env hc=>?_)
 ·unfold corE at hc;split at hc
  ·rename_i ea eb q;obtain⟨p,rfl⟩:=K9 q;simp only[d7,v9]at hc;obtain⟨⟨h1,h2⟩,h3⟩:=hc;unfold evE at h;exact z5F (G4 (by omega) g.hu) (λz hz=>ha.1 g h1 hz) (λz hz=>hb.1 g h2 hz) h3 h
  ·cases hc
 ·unfold corE at hc;split at hc
  ·rename_i q;obtain⟨p,rfl⟩:=K9 q;exact E3 rfl env
  ·cases hc
theorem y0x(ha:S1 G F a)(hb:S1 G F b):S1 G F (.dgt i a b):=by
 refine .of (λ{sg X E e δ r} g hc h=>?_) (λ_ _=>rfl) (λsg e env hc=>?_)
 ·unfold corE at hc;split at hc
  ·rename_i ef ek ed pos q;have:=E9 q;subst this;split at hc
   ·rename_i ob n apos q2;have:=q2H q2;subst this;simp only[d7,v9]at hc;obtain⟨⟨⟨⟨⟨⟨h1,h2⟩,h3⟩,h4⟩,h5⟩,h6⟩,h7⟩:=hc;split at h2
    ·rename_i x q3;obtain⟨np,rfl⟩:=A4 q3;obtain⟨s1,s2,s3,s4⟩:=T5 g h2;have hn:n = "get":=i8.mp h1;subst hn;unfold evE at h;exact z6G (O7 s1 s2 s3 s4) (λz hz=>ha.1 g h3 hz) (λz hz=>hb.1 g h4 hz) h5 h6 h7 h
    ·cases h2
   ·cases hc
  ·cases hc
 ·unfold corE at hc;split at hc
  ·rename_i q;have:=E9 q;subst this;exact E3 rfl env
  ·cases hc
theorem y1B(ha:S1 G F a):S1 G F (.isi a ts):=by
 refine .of (λ{sg X E e δ r} g hc h=>?_) (λ_ _=>rfl) (λsg e env hc=>?_)
 ·unfold corE at hc;split at hc
  ·rename_i ef ea et pos q;have:=E9 q;subst this;simp only[d7,v9]at hc;obtain⟨⟨⟨⟨h1,h2⟩,h3⟩,h4⟩,h5⟩:=hc;obtain⟨⟨p,rfl⟩,hg,hm⟩:=q5k g h1;split at h5
   ·rename_i t;simp only[d7,i8,P8]at h5;obtain⟨⟨⟨k1,k2⟩,k3⟩,k4⟩:=h5;obtain⟨p',rfl⟩:=A4 k1;obtain⟨T,hT⟩:=z0Q (P8.mpr k4);obtain⟨n1,n2⟩:=q5w t k4;unfold evE at h;exact z5r hT hg hm (g.glo t k2) (g.blt t k3) n1 n2 (λz hz=>ha.1 g h2 hz) h3 h
   ·cases h5
  ·cases hc
 ·unfold corE at hc;split at hc
  ·rename_i q;have:=E9 q;subst this;exact E3 rfl env
  ·cases hc
theorem q4O:∀{ms:List ME} {δ:List Sv} {l:List (DV×Cl)},evEs G F ms δ=some (.ok l)->l.length=ms.length
 | [],_,_,h=>by unfold evEs at h;cases h;rfl
 | m::ms,δ,l,h=>by
  unfold evEs at h;split at h
  ·cases h
  ·cases h
  ·split at h
   ·cases h
   ·cases h
   ·rename_i l' q;cases h;rw[m4,m4,q4O q]
theorem q3Q:∀{sg:Sg} {ms:List ME} {es:List Expr},u8 sg ms es=true->ms.length=es.length
 | _,[],[],_=>rfl
 | _,[],_::_,h=>by unfold u8 at h;cases h
 | _,_::_,[],h=>by unfold u8 at h;cases h
 | sg,m::ms,e::es,h=>by unfold u8 at h;simp only[d7]at h;rw[m4,m4,q3Q h.2]
theorem y0z(ha:SEs G F ms):S1 G F (.rng ms):=by
 refine⟨λ{sg X E e δ r} g hc h=>?_,λ{sg X E e δ r} g hc h=>?_,λ{sg X E e tg δ r} g hc _ h=>?_⟩
 ·unfold corE at hc;rw[N4]at hc;cases hc
 ·unfold corE at hc;rw[N4]at hc;cases hc
 ·unfold corE at hc;rw[w2r]at hc;split at hc
  ·rename_i ef es pos q;have:=E9 q;subst this;rw[d7,L3]at hc;obtain⟨hc,hle⟩:=hc;rw[d7]at hc;obtain⟨⟨p,rfl⟩,hg,hm⟩:=q5k g hc.1;have l1:=q3Q hc.2;have ns:=q4s hc.2;unfold evE at h;cases es with
   | nil=>
    exfalso;cases ms with
    | nil=>unfold evEs at h;cases h
    | cons _ _=>cases l1
   | cons y ys=>
    rw[J1,Z8]at ns;cases ys with
    | nil=>exact q8Z hg hm (λz hz=>ha g hc.2 hz) ns.1 h λl hl=>by rw[q4O hl,l1];rfl
    | cons z zs=>simp at hle
  ·cases hc
theorem s_zp(ha:S1 G F a)(hb:S1 G F b):S1 G F (.zp a b):=by
 refine⟨λ{sg X E e δ r} g hc h=>?_,λ{sg X E e δ r} g hc h=>?_,λ{sg X E e tg δ r} g hc ht h=>?_⟩
 ·unfold corE at hc;rw[N4]at hc;cases hc
 ·unfold corE at hc;rw[N4]at hc;cases hc
 ·unfold corE at hc;rw[w2r]at hc;split at hc
  ·rename_i ef ea eb pos q;have:=E9 q;subst this;simp only[d7,v9]at hc;obtain⟨⟨⟨⟨h1,h2⟩,h3⟩,h4⟩,h5⟩:=hc;obtain⟨⟨p,rfl⟩,hg,hm⟩:=q5k g h1;have t:=ht rfl;cases q2:F4 tg with
   | none=>rw[q2]at t;cases t
   | some elts=>
    obtain⟨k,tp,rfl⟩:=R7 q2;unfold evE at h;exact z5z hg hm h4 h5 (λz hz=>ha.1 g h2 hz) (λz hz=>hb.1 g h3 hz) h
  ·cases hc
theorem y1K(ha:S1 G F a):S1 G F (.enu a):=by
 refine⟨λ{sg X E e δ r} g hc h=>?_,λ{sg X E e δ r} g hc h=>?_,λ{sg X E e tg δ r} g hc ht h=>?_⟩
 ·unfold corE at hc;rw[N4]at hc;cases hc
 ·unfold corE at hc;rw[N4]at hc;cases hc
 ·unfold corE at hc;rw[w2r]at hc;split at hc
  ·rename_i ef ea pos q;have:=E9 q;subst this;simp only[d7,v9]at hc;obtain⟨⟨h1,h2⟩,h3⟩:=hc;obtain⟨⟨p,rfl⟩,hg,hm⟩:=q5k g h1;have t:=ht rfl;cases q2:F4 tg with
   | none=>rw[q2]at t;cases t
   | some elts=>
    obtain⟨k,tp,rfl⟩:=R7 q2;unfold evE at h;exact z3j hg hm h3 (λz hz=>ha.1 g h2 hz) h
  ·cases hc
theorem y0p(ha:S1 G F a):S1 G F (.itm a):=by
 refine⟨λ{sg X E e δ r} g hc h=>?_,λ{sg X E e δ r} g hc h=>?_,λ{sg X E e tg δ r} g hc ht h=>?_⟩
 ·unfold corE at hc;rw[N4]at hc;cases hc
 ·unfold corE at hc;rw[N4]at hc;cases hc
 ·unfold corE at hc;rw[w2r]at hc;split at hc
  ·rename_i ef pos q;have:=E9 q;subst this;split at hc
   ·rename_i ob n apos q2;have:=q2H q2;subst this;simp only[d7]at hc;obtain⟨⟨⟨h1,h2⟩,h3⟩,h4⟩:=hc;have hn:n = "items":=i8.mp h1;subst hn;cases q3:u5 ob with
    | none=>rw[q3]at h4;cases h4
    | some x=>
     obtain⟨np,rfl⟩:=A4 q3;have t:=ht rfl;cases q4:F4 tg with
     | none=>rw[q4]at t;cases t
     | some elts=>
      obtain⟨k,tp,rfl⟩:=R7 q4;unfold evE at h;exact z6V rfl h3 (λz hz=>ha.1 g h2 hz) h
   ·cases hc
  ·cases hc
theorem z7a{sg:Sg}{X:Cx}{E:St->XK}{e:Expr}{δ:List Sv}{r:Re}{tg:Tg}{fr:List (Option Nat)}{cp:CParts}{tn:List Str}(ha:S1 G F a)(hb:S1 G F b)(g:Good sg G F X E)(hemp:cp.ifs=[])
  (h2:corE sg true b cp.it=true) (hz:isZp b=true->(F4 cp.tg).isSome=true) (h4:Y4 sg (G8 sg tn fr) fr cp.sc tg=true) (h5:tgOk ⟨G8 sg tn fr,cp.sc.names,sg.fn,sg.bl,sg.cl,false,true⟩ tg cp.tg=true) (h6:corE ⟨G8 sg tn fr,cp.sc.names,sg.fn,sg.bl,sg.cl,false,true⟩ false a cp.elt=true)
  (h:evE G F (.comp a tg b fr) δ=some r):V7 X E δ cp.tg cp.it cp.ifs cp.elt cp.sc (G8 sg tn fr) fr tg r:=by
 obtain⟨S,nd,sl⟩:=q1L g h4;rw[hemp];unfold evE at h;exact q4Z S g.calm nd sl (λz hz'=>hb.2.2 g h2 hz hz') (λC cells s₂ H₂ fp=>q9h (Y8 g h4 C cells s₂ H₂ fp) h5) (λδ' r' hr C cells s₂ H₂ fp=>ha.1 (Y8 g h4 C cells s₂ H₂ fp) h6 hr) h
theorem z2q{sg:Sg}{X:Cx}{E:St->XK}{e cd:Expr}{δ:List Sv}{r:Re}{tg:Tg}{fr:List (Option Nat)}{cp:CParts}{tn:List Str}(ha:S1 G F a)(hb:S1 G F b)(hcc:S1 G F c)(g:Good sg G F X E)(hemp:cp.ifs=[cd])
  (h2:corE sg true b cp.it=true) (hz:isZp b=true->(F4 cp.tg).isSome=true) (h4:Y4 sg (G8 sg tn fr) fr cp.sc tg=true) (h5:tgOk ⟨G8 sg tn fr,cp.sc.names,sg.fn,sg.bl,sg.cl,false,true⟩ tg cp.tg=true) (h6:corE ⟨G8 sg tn fr,cp.sc.names,sg.fn,sg.bl,sg.cl,false,true⟩ false a cp.elt=true)
  (h7:corE ⟨G8 sg tn fr,cp.sc.names,sg.fn,sg.bl,sg.cl,false,true⟩ false c cd=true) (h:evE G F (.compi a tg b c fr) δ=some r):V7 X E δ cp.tg cp.it cp.ifs cp.elt cp.sc (G8 sg tn fr) fr tg r:=by
 obtain⟨S,nd,sl⟩:=q1L g h4;rw[hemp];unfold evE at h;exact q4V S g.calm nd sl (λz hz'=>hb.2.2 g h2 hz hz') (λC cells s₂ H₂ fp=>q9h (Y8 g h4 C cells s₂ H₂ fp) h5) (λδ' r' hr C cells s₂ H₂ fp=>ha.1 (Y8 g h4 C cells s₂ H₂ fp) h6 hr)
  (λδ' r' hr C cells s₂ H₂ fp=>hcc.2.1 (Y8 g h4 C cells s₂ H₂ fp) h7 hr) h
def Y9(G:Gs)(F:Nat->List DV->Option Ou)(m:ME):Prop:=∀{sg:Sg} {X:Cx} {E:St->XK} {e:Expr} {δ:List Sv} {r:Re},Good sg G F X E->corE sg false m e=true->evE G F m δ=some r ->
 ∃(cp:CParts) (N':List Str) (fr:List (Option Nat)) (tg:Tg) (p:Pos),e=.ListComp cp.elt [⟨cp.tg,cp.it,cp.ifs,0⟩] cp.sc p/\CompScope X.N N' cp.sc X.env.scope fr/\V7 X E δ cp.tg cp.it cp.ifs cp.elt cp.sc N' fr tg r /\
  (∀C cells s₂ H₂ fp,PG (t9 X cp.sc N' C cells s₂ H₂ fp) cp.tg (gT X.K tg))/\G7 cp.it=false
theorem Y9.s1(h:Y9 G F m)(hw:∀sg e,corE sg true m e=corE sg false m e)(hl:∀sg e,corE sg false m e=true->(q5m e).isSome=true):S1 G F m:=by
 refine .of (λ{sg X E e δ r} g hc q=>?_) hw (λsg e env hc=>?_)
 ·obtain⟨cp,N',fr,tg,p,rfl,S,P,hG,hs⟩:=h g hc q;exact P.pe S g.calm hG hs
 ·have:=hl sg e hc;cases z:q5m e with
  | none=>rw[z]at this;cases this
  | some cp=>obtain⟨p,rfl⟩:=q4A z;exact E3 rfl env
theorem z4m(ha:S1 G F a)(hb:S1 G F b):Y9 G F (.comp a tg b fr):=by
 intro sg X E e δ r g hc h;unfold corE at hc;split at hc
 ·rename_i cp q;obtain⟨p,rfl⟩:=q4A q;simp only[d7,v9,J0]at hc;obtain⟨⟨⟨h1,h2,h3⟩,h4⟩,h5⟩:=hc;split at h5
  ·rename_i tn qt;simp only[d7]at h5;refine⟨cp,_,fr,tg,p,rfl,(q1L g h5.1.1).1,z7a (e:=.ListComp cp.elt [⟨cp.tg,cp.it,cp.ifs,0⟩] cp.sc p) ha hb g (List.isEmpty_iff.mp h1) h2 (λz=>?_) h5.1.1 h5.1.2 h5.2 h,λC cells s₂ H₂ fp=>q9h (Y8 g h5.1.1 C cells s₂ H₂ fp) h5.1.2,h4⟩;rcases h3 with w | w
   ·rw[z]at w;cases w
   ·exact w
  ·cases h5
 ·cases hc
theorem q9w(ha:S1 G F a)(hb:S1 G F b)(hcc:S1 G F c):Y9 G F (.compi a tg b c fr):=by
 intro sg X E e δ r g hc h;unfold corE at hc;split at hc
 ·rename_i cp q;obtain⟨p,rfl⟩:=q4A q;simp only[d7,v9,J0]at hc;obtain⟨⟨⟨h2,h3⟩,h4⟩,h5⟩:=hc;split at h5
  ·rename_i tn ec qt qi;simp only[d7]at h5;refine⟨cp,_,fr,tg,p,rfl,(q1L g h5.1.1.1).1,z2q (e:=.ListComp cp.elt [⟨cp.tg,cp.it,cp.ifs,0⟩] cp.sc p) ha hb hcc g qi h2 (λz=>?_) h5.1.1.1 h5.1.1.2 h5.1.2 h5.2 h,λC cells s₂ H₂ fp=>q9h (Y8 g h5.1.1.1 C cells s₂ H₂ fp) h5.1.1.2,h4⟩;rcases h3 with w | w
   ·rw[z]at w;cases w
   ·exact w
  ·cases h5
 ·cases hc
theorem z7v(ha:S1 G F a)(hb:S1 G F b):S1 G F (.comp a tg b fr):=Y9.s1 (λ{sg X E e δ r}=>z4m ha hb) (λ_ _=>rfl) λsg e hc=>by
 unfold corE at hc;split at hc
 ·rename_i q;rw[q];rfl
 ·cases hc
theorem z6L(ha:S1 G F a)(hb:S1 G F b)(hcc:S1 G F c):S1 G F (.compi a tg b c fr):=Y9.s1 (λ{sg X E e δ r}=>q9w ha hb hcc) (λ_ _=>rfl) λsg e hc=>by
 unfold corE at hc;split at hc
 ·rename_i q;rw[q];rfl
 ·cases hc
theorem y0F:SEs G F []:=λ{sg X E es δ r} g hc h=>by
 cases es with
 | nil=>unfold evEs at h;cases h;exact z2m
 | cons _ _=>unfold u8 at hc;cases hc
theorem z9N(ha:S1 G F a)(hb:SEs G F ms):SEs G F (a::ms):=λ{sg X E es δ r} g hc h=>by
 cases es with
 | nil=>unfold u8 at hc;cases hc
 | cons e es=>
  unfold u8 at hc;simp only[d7,v9]at hc;unfold evEs at h;exact z1t hc.1.2 (λz hz=>ha.1 g hc.1.1 hz) (λz hz=>hb g hc.2 hz) h
theorem z6T:SAnd G F []:=λ{sg X E es δ pos} g hc=>⟨λr h=>(by unfold M8 at h;cases h),λr h=>(by unfold M8 at h;cases h)⟩
theorem z7s:SOr G F []:=λ{sg X E es δ pos} g hc=>⟨λr h=>(by unfold evOr at h;cases h),λr h=>(by unfold evOr at h;cases h)⟩
theorem z2k(ha:S1 G F a)(hb:SAnd G F ms):SAnd G F (a::ms):=λ{sg X E es δ pos} g hc=>by
 cases es with
 | nil=>unfold u8 at hc;cases hc
 | cons e es=>
  unfold u8 at hc;simp only[d7,v9]at hc;cases ms with
  | nil=>
   cases es with
   | nil=>
    refine⟨λr h=>?_,λr h=>?_⟩
    ·unfold M8 at h;exact z4k (ha.1 g hc.1.1 h)
    ·unfold M8 at h;exact z6K (ha.2.1 g hc.1.1 h)
   | cons _ _=>have:=hc.2;unfold u8 at this;cases this
  | cons m ms=>
   cases es with
   | nil=>have:=hc.2;unfold u8 at this;cases this
   | cons e' es=>
    have B:=@hb sg X E (e'::es) δ pos g hc.2;refine⟨λr h=>?_,λr h=>?_⟩
    ·unfold M8 at h;exact z5l (λz hz=>ha.1 g hc.1.1 hz) (λz hz=>B.1 z hz) h
    ·unfold M8 at h;exact z2x (λz hz=>ha.2.1 g hc.1.1 hz) (λz hz=>B.2 z hz) h
theorem z4z(ha:S1 G F a)(hb:SOr G F ms):SOr G F (a::ms):=λ{sg X E es δ pos} g hc=>by
 cases es with
 | nil=>unfold u8 at hc;cases hc
 | cons e es=>
  unfold u8 at hc;simp only[d7,v9]at hc;cases ms with
  | nil=>
   cases es with
   | nil=>
    refine⟨λr h=>?_,λr h=>?_⟩
    ·unfold evOr at h;exact z4k (ha.1 g hc.1.1 h)
    ·unfold evOr at h;exact z8P (ha.2.1 g hc.1.1 h)
   | cons _ _=>have:=hc.2;unfold u8 at this;cases this
  | cons m ms=>
   cases es with
   | nil=>have:=hc.2;unfold u8 at this;cases this
   | cons e' es=>
    have B:=@hb sg X E (e'::es) δ pos g hc.2;refine⟨λr h=>?_,λr h=>?_⟩
    ·unfold evOr at h;exact z9R (λz hz=>ha.1 g hc.1.1 hz) (λz hz=>B.1 z hz) h
    ·unfold evOr at h;exact z4F (λz hz=>ha.2.1 g hc.1.1 hz) (λz hz=>B.2 z hz) h
theorem y1c(ha:SAnd G F ms):S1 G F (.and ms):=by
 refine .of2 (λ{sg X E e δ r} g hc h=>?_) (λ{sg X E e δ r} g hc h=>?_) (λ_ _=>rfl)
 ·unfold corE at hc;split at hc
  ·rename_i o es q;obtain⟨p,rfl⟩:=q3p q;simp only[d7,i8]at hc;obtain⟨h1,h2⟩:=hc;subst h1;unfold evE at h;exact(ha g h2).1 r h
  ·cases hc
 ·unfold corE at hc;split at hc
  ·rename_i o es q;obtain⟨p,rfl⟩:=q3p q;simp only[d7,i8]at hc;obtain⟨h1,h2⟩:=hc;subst h1;unfold evE at h;exact((ha g h2).2 r h).pt
  ·cases hc
theorem s_or(ha:SOr G F ms):S1 G F (.or ms):=by
 refine .of2 (λ{sg X E e δ r} g hc h=>?_) (λ{sg X E e δ r} g hc h=>?_) (λ_ _=>rfl)
 ·unfold corE at hc;split at hc
  ·rename_i o es q;obtain⟨p,rfl⟩:=q3p q;simp only[d7,i8]at hc;obtain⟨h1,h2⟩:=hc;subst h1;unfold evE at h;exact(ha g h2).1 r h
  ·cases hc
 ·unfold corE at hc;split at hc
  ·rename_i o es q;obtain⟨p,rfl⟩:=q3p q;simp only[d7,i8]at hc;obtain⟨h1,h2⟩:=hc;subst h1;unfold evE at h;exact((ha g h2).2 r h).pt
  ·cases hc
end
section
variable {G:Gs} {F:Nat->List DV->Option Ou}
mutual
theorem snd:∀m:ME,S1 G F m
 | .var _=>y0D
 | .int _=>y1t
 | .bl _=>s_bl
 | .str _=>y0C
 | .non=>y1m
 | .glb _=>y0t
 | .bin _ a b=>y1h (snd a) (snd b)
 | .neg a=>y0L (snd a)
 | .not a=>y1L (snd a)
 | .cmp _ a b=>y0U (snd a) (snd b)
 | .chain _ _ a b c=>z6M (snd a) (snd b) (snd c)
 | .and es=>y1c (z3R es)
 | .or es=>s_or (z9a es)
 | .lst es=>y0v (sndL es)
 | .tup es=>y1s (sndL es)
 | .dct _ a=>y1i (snd a)
 | .dc0=>y1b
 | .ix a b=>s_ix (snd a) (snd b)
 | .sl a b c=>s_sl (snd a) (snd b) (snd c)
 | .slf a b=>y1x (snd a) (snd b)
 | .slt a b=>y1q (snd a) (snd b)
 | .call _ es=>z8C (sndL es)
 | .bi _ es=>s_bi (sndL es)
 | .isi a _=>y1B (snd a)
 | .isx a _=>y1H (snd a)
 | .comp a _ b _=>z7v (snd a) (snd b)
 | .compi a _ b c _=>z6L (snd a) (snd b) (snd c)
 | .rng es=>y0z (sndL es)
 | .zp a b=>s_zp (snd a) (snd b)
 | .enu a=>y1K (snd a)
 | .itm a=>y0p (snd a)
 | .dix a b=>y1P (snd a) (snd b)
 | .dgt _ a b=>y0x (snd a) (snd b)
theorem sndL:∀ms:List ME,SEs G F ms
 | []=>y0F
 | a::ms=>z9N (snd a) (sndL ms)
theorem z3R:∀ms:List ME,SAnd G F ms
 | []=>z6T
 | a::ms=>z2k (snd a) (z3R ms)
theorem z9a:∀ms:List ME,SOr G F ms
 | []=>z7s
 | a::ms=>z4z (snd a) (z9a ms)
end
end
end
section
section
variable (G:Gs) (F:Nat->List DV->Option Ou) (fu:Nat)
def SS(m:MS):Prop:=∀{sg:Sg} {X:Cx} {E:St->XK} {st:Stmt} {δ:List Sv} {o:Out},Good sg G F X E->corS sg m st=true->evS G F fu m δ=some o->PS X st (dS X.D E δ o)
def SSs(ms:List MS):Prop:=∀{sg:Sg} {X:Cx} {E:St->XK} {sts:List Stmt} {δ:List Sv} {o:Out},Good sg G F X E->G9 sg ms sts=true->evSs G F fu ms δ=some o->PSs X sts (dS X.D E δ o)
end
section
variable {G:Gs} {F:Nat->List DV->Option Ou} {fu:Nat} {e k:ME} {i:Nat}
theorem z9H:∀{e:ME},q9p e=true->Y9 G F e
 | .comp a _ b _,_=>z4m (snd a) (snd b)
 | .compi a _ b c _,_=>q9w (snd a) (snd b) (snd c)
theorem y1J:SS G F fu (.set i own e):=by
 intro sg X E st δ o g hc h;unfold corS at hc;split at hc
 ·rename_i t v pos;split at hc
  ·rename_i x pt;simp only[d7,i8,J0,v9]at hc;obtain⟨⟨⟨h1,h2⟩,h3⟩,h4⟩:=hc;have l:=g.loc x h2;have hN:X.N[i]? = some x:=by rw[g.N];exact h1
   unfold evS at h;cases hv:V2 v with
   | false=>exact z0V g.nd hN l.1 l.2 (λz hz=>(snd e).1 g h3 hz) (q2k hv) h
   | true=>
    rcases h4 with h4 | h5
    ·rw[hv]at h4;cases h4
    ·cases hr:evE G F e δ with
     | none=>rw[hr]at h;cases h
     | some r=>
      obtain⟨cp,N',fr,tg,p,rfl,S,P,hG,hs⟩:=z9H h5 g h3 hr;cases hb:(X.env.blockKind == .function&&X.env.kindOf x==some .local&&pt.line==(Expr.ListComp cp.elt [⟨cp.tg,cp.it,cp.ifs,0⟩] cp.sc p).pos.line && !(cp.sc.names.any λ(n,k)=>n==x&&(k == .local||k == .cell)))with
      | false=>
       have hsw:swapsWith (.ListComp cp.elt [⟨cp.tg,cp.it,cp.ifs,0⟩] cp.sc p) (some (.Name x pt)) pos.line X.env=pure false:=(by show(pure (X.env.blockKind == .function&&X.env.kindOf x==some .local&&pt.line==(Expr.ListComp cp.elt [⟨cp.tg,cp.it,cp.ifs,0⟩] cp.sc p).pos.line && !(cp.sc.names.any λ(n,k)=>n==x&&(k == .local||k == .cell))):Sem Bool)=pure false;rw[hb]);exact z0V g.nd hN l.1 l.2 (λz hz=>(snd e).1 g h3 hz) hsw h
      | true=>
       have hsw:swapsWith (.ListComp cp.elt [⟨cp.tg,cp.it,cp.ifs,0⟩] cp.sc p) (some (.Name x pt)) pos.line X.env=pure true:=(by show(pure (X.env.blockKind == .function&&X.env.kindOf x==some .local&&pt.line==(Expr.ListComp cp.elt [⟨cp.tg,cp.it,cp.ifs,0⟩] cp.sc p).pos.line && !(cp.sc.names.any λ(n,k)=>n==x&&(k == .local||k == .cell))):Sem Bool)=pure true;rw[hb]);rw[hr]at h;have h4:X.env.kindOf x=some .local:=by simp only[d7,i8]at hb;exact hb.1.1.2
       exact q7i S g.calm g.nd hN h4 P hG hs hsw h
  ·cases hc
 ·cases hc
theorem y1R:SS G F fu (.app i e):=by
 intro sg X E st δ o g hc h;unfold corS at hc;split at hc
 ·rename_i v pos;split at hc
  ·rename_i ef ea cpos q;have:=E9 q;subst this;split at hc
   ·rename_i ob n apos q2;have:=q2H q2;subst this;simp only[d7,v9]at hc;obtain⟨⟨⟨⟨h1,h2⟩,h3⟩,h4⟩,h5⟩:=hc;split at h2
    ·rename_i x q3;obtain⟨np,rfl⟩:=A4 q3;obtain⟨s1,s2,s3,s4⟩:=T5 g h2;have hn:n = "append":=i8.mp h1;subst hn;unfold evS at h;exact q8Q (O7 s1 s2 s3 s4) (λz hz=>(snd e).1 g h3 hz) h4 h5 h
    ·cases h2
   ·cases hc
  ·cases hc
 ·cases hc
theorem y1F:SS G F fu (.par is es):=by
 intro sg X E st δ o g hc h;unfold corS at hc;split at hc
 ·rename_i t v pos;split at hc
  ·rename_i x y a b i j q1 q2;obtain⟨kt,pt,rfl⟩:=R7 q1;obtain⟨k2,pt2,rfl⟩:=R7 q2;rw[d7]at hc;obtain⟨h1,h2⟩:=hc;unfold parB at h1;split at h1
   ·rename_i x' y' q3 q4;obtain⟨px,rfl⟩:=A4 q3;obtain⟨py,rfl⟩:=A4 q4;simp only[d7,v9,i8,U6,ne_eq]at h1;obtain⟨⟨⟨⟨⟨⟨⟨⟨⟨a1,a2⟩,a3⟩,a4⟩,a5⟩,a6⟩,a7⟩,a8⟩,a9⟩,a10⟩:=h1;unfold evS at h;exact z6J (is:=[]) g.calm g.nd (by rw[g.N];exact a2) (by rw[g.N];exact a3) a1 (g.lcl _ a4) (g.lcl _ a5) (i8.mpr a6) a7 a8 a9 a10 (λz hz=>sndL es g h2 hz) h
   ·cases h1
  ·cases hc
 ·cases hc
theorem y0m:SS G F fu (.sed i):=by
 intro sg X E st δ o g hc h;unfold corS at hc;split at hc
 ·rename_i t v pos;split at hc
  ·rename_i x q;obtain⟨np,rfl⟩:=A4 q;split at hc
   ·rw[d7,i8]at hc;obtain⟨l1,l2⟩:=g.loc x hc.2;unfold evS at h;exact z4R g.nd (by rw[g.N];exact hc.1) l1 l2 h
   ·cases hc
  ·cases hc
 ·cases hc
theorem z8k:SS G F fu (.dput i k e):=by
 intro sg X E st δ o g hc h;unfold corS at hc;split at hc
 ·rename_i t v pos;split at hc
  ·rename_i ob ek q;obtain⟨sp,rfl⟩:=K9 q;simp only[d7,v9]at hc;obtain⟨⟨⟨⟨h1,h2⟩,h3⟩,h4⟩,h5⟩:=hc;split at h1
   ·rename_i x q3;obtain⟨np,rfl⟩:=A4 q3;obtain⟨s1,s2,s3,s4⟩:=T5 g h1;unfold evS at h;exact z2c (G4 (by omega) g.hu) (O7 s1 s2 s3 s4) (λz hz=>(snd e).1 g h4 hz) (λz hz=>(snd k).1 g h2 hz) h5 h
   ·cases h1
  ·cases hc
 ·cases hc
theorem y0b:SS G F fu (.retd i):=by
 intro sg X E st δ o g hc h;unfold corS at hc;split at hc
 ·rename_i v pos;split at hc
  ·rename_i x q;obtain⟨np,rfl⟩:=A4 q;obtain⟨s1,s2,s3,s4⟩:=T5 g hc;unfold evS at h;exact z2s (O7 s1 s2 s3 s4) h
  ·cases hc
 ·cases hc
theorem z8U:SS G F fu (.seti i k e):=by
 intro sg X E st δ o g hc h;unfold corS at hc;split at hc
 ·rename_i t v pos;split at hc
  ·rename_i ob ek q;obtain⟨sp,rfl⟩:=K9 q;simp only[d7,v9]at hc;obtain⟨⟨⟨h2,h3⟩,h4⟩,h5⟩:=hc;split at h2
   ·rename_i x q3;obtain⟨np,rfl⟩:=A4 q3;obtain⟨s1,s2,s3,s4⟩:=T5 g h2;unfold evS at h;exact z1u (O7 s1 s2 s3 s4) (λz hz=>(snd e).1 g h5 hz) (λz hz=>(snd k).1 g h3 hz) h4 h
   ·cases h2
  ·cases hc
 ·cases hc
theorem y0R:SS G F fu (.exp e):=by
 intro sg X E st δ o g hc h;unfold corS at hc;split at hc
 ·simp only[d7,v9]at hc;unfold evS at h;exact z6u (λz hz=>(snd e).1 g hc.1 hz) hc.2 h
 ·cases hc
theorem y0E:SS G F fu (.ret e):=by
 intro sg X E st δ o g hc h;unfold corS at hc;split at hc
 ·unfold evS at h;exact z5m (λz hz=>(snd e).1 g hc hz) h
 ·cases hc
theorem z7P{k:Nat}:SS G F fu (.oapp i k e):=by
 intro sg X E st δ o g hc h;unfold corS at hc;split at hc
 ·rename_i v pos;split at hc
  ·rename_i ef ea cpos q;have:=E9 q;subst this;split at hc
   ·rename_i ob n apos q2;have:=q2H q2;subst this;simp only[d7,v9]at hc;obtain⟨⟨⟨⟨h1,h2⟩,h3⟩,h4⟩,h5⟩:=hc;split at h2
    ·rename_i oa oi q3;obtain⟨sp,rfl⟩:=K9 q3;rw[d7]at h2;obtain⟨h2,h6⟩:=h2;split at h2
     ·rename_i x q4;obtain⟨np,rfl⟩:=A4 q4;obtain⟨jj,ip,rfl⟩:=q2h (i8.mp h6);obtain⟨s1,s2,s3,s4⟩:=T5 g h2;have hn:n = "append":=i8.mp h1;subst hn;unfold evS at h;exact z2D (O7 s1 s2 s3 s4) (λz hz=>(snd e).1 g h3 hz) h4 h5 h
     ·cases h2
    ·cases h2
   ·cases hc
  ·cases hc
 ·cases hc
theorem z8R{k:Nat}:SS G F fu (.oclr i k):=by
 intro sg X E st δ o g hc h;unfold corS at hc;split at hc
 ·rename_i v pos;split at hc
  ·rename_i ef cpos q;have:=E9 q;subst this;split at hc
   ·rename_i ob n apos q2;have:=q2H q2;subst this;simp only[d7,v9]at hc;obtain⟨⟨h1,h2⟩,h5⟩:=hc;split at h2
    ·rename_i oa oi q3;obtain⟨sp,rfl⟩:=K9 q3;rw[d7]at h2;obtain⟨h2,h6⟩:=h2;split at h2
     ·rename_i x q4;obtain⟨np,rfl⟩:=A4 q4;obtain⟨jj,ip,rfl⟩:=q2h (i8.mp h6);obtain⟨s1,s2,s3,s4⟩:=T5 g h2;have hn:n = "clear":=i8.mp h1;subst hn;unfold evS at h;exact z3o (O7 s1 s2 s3 s4) h5 h
     ·cases h2
    ·cases h2
   ·cases hc
  ·cases hc
 ·cases hc
theorem z8i:SS G F fu (.retp i):=by
 intro sg X E st δ o g hc h;unfold corS at hc;split at hc
 ·rename_i v pos;split at hc
  ·rename_i x q4;obtain⟨np,rfl⟩:=A4 q4;obtain⟨s1,s2,s3,s4⟩:=T5 g hc;unfold evS at h;exact z3a (O7 s1 s2 s3 s4) h
  ·cases hc
 ·cases hc
theorem z9h:SS G F fu (.ret2 a b):=by
 intro sg X E st δ o g hc h;unfold corS at hc;split at hc
 ·rename_i v pos;split at hc
  ·rename_i ea eb q;obtain⟨kk,tp,rfl⟩:=R7 q;simp only[d7,v9]at hc;obtain⟨⟨⟨h1,h2⟩,h3⟩,h4⟩:=hc;unfold evS at h;split at h
   ·rename_i d c d' c' q1 q2;split at h
    ·rename_i m;cases h;exact z1O ((snd a).1 g h1 q1) ((snd b).1 g h2 q2) h3 h4 m
    ·cases h
   ·cases h
  ·cases hc
 ·cases hc
theorem z7B:SS G F fu (.setp i f es):=by
 intro sg X E st δ o g hc h;unfold corS at hc;split at hc
 ·rename_i t v pos;split at hc
  ·rename_i x pt;simp only[d7,i8]at hc;obtain⟨⟨h1,h2⟩,h3⟩:=hc;have l:=g.loc x h2;have hN:X.N[i]? = some x:=by rw[g.N];exact h1
   unfold corE at h3;split at h3
   ·rename_i ef as cpos q;have:=E9 q;subst this;rw[d7,d7]at h3;obtain⟨⟨k1,k2⟩,k3⟩:=h3;split at k1
    ·rename_i y qx;obtain⟨p,rfl⟩:=A4 qx;simp only[d7,i8,U6,ne_eq]at k1;obtain⟨k,fa,fd,ps,hr,hm,hk,hb,hl,fo,dk⟩:=g.fns f y k1.1.1;cases as with
     | nil=>cases k2
     | cons a as=>
      have ns:=q4s k3;rw[J1,Z8]at ns;unfold evS at h;split at h
      ·rename_i l' hl';split at h
       ·rename_i m;split at h
        ·rename_i ks ds q1;cases h;have A:=q7R (p:=p) (pos:=cpos) fo hr (g.glo y k1.1.2) hm hk hb .nil g.pas (sndL es g k3 hl') (C4.mpr k1.2) (u3 ns.1) (q1I as ns.2);refine z2G g.nd hN l.1 l.2 (z0M (E:=E) (n:=ps.length) hl (A.weak λσ H Q z=>?_) q1) (q2k rfl) m;obtain⟨O,W,R,p⟩:=z;exact⟨O,W,R,λvs H1 s1 g1=>by
          show spF X.D ps.length (F f) (vs++[]) H1 Q (E σ);rw[M4];exact p vs H1 s1 g1⟩
        ·cases h
       ·cases h
      ·cases h
    ·cases k1
   ·cases h3
  ·cases hc
 ·cases hc
theorem y0O:SS G F fu (.rse c e):=by
 intro sg X E st δ o g hc h;unfold corS at hc;split at hc
 ·rename_i v pos;split at hc
  ·rename_i ef ea cpos q;have:=E9 q;subst this;simp only[d7,v9,i8,U6,ne_eq]at hc;obtain⟨⟨⟨⟨⟨h0,h1⟩,h2⟩,h3⟩,h4⟩,h5⟩:=hc;obtain⟨np,rfl⟩:=A4 h1;unfold evS at h;exact z0x g.xf g.calm (g.glo c h2) (C4.mpr h3) (g.st h0).2.2.2 (λz hz=>(snd e).1 g h4 hz) h5 h
  ·cases hc
 ·cases hc
theorem y1f(hb:SSs G F fu body):SS G F fu (.tryc body c ie ic):=by
 intro sg X E st δ o g hc h;unfold corS at hc;split at hc
 ·rename_i b hd pos;cases hd with
  | ExceptHandler t n bd hp=>
  simp only[d7,q6x]at hc;obtain⟨⟨h0,h1⟩,h2⟩:=hc;split at h2
  ·rename_i t' n' t2 v2 ap q;simp only[Option.some.injEq,Prod.mk.injEq]at q;obtain⟨rfl,rfl,rfl⟩:=q;simp only[d7,i8,U6,ne_eq,P8]at h2;obtain⟨⟨⟨⟨⟨⟨⟨⟨⟨⟨k1,k2⟩,k3⟩,k4⟩,k5⟩,k6⟩,k7⟩,k8⟩,k9⟩,k10⟩,k11⟩:=h2;split at k10
   ·rename_i x q2;simp only[d7,i8]at k10;obtain⟨tp,rfl⟩:=A4 q2;obtain⟨vp,rfl⟩:=A4 k9;obtain⟨np,rfl⟩:=A4 k1;have l:=g.loc x k10.2;obtain⟨s1,s2,s3,_⟩:=g.st h0;unfold evS at h;exact z5D g.xf s1 s2 s3 (g.glo c k2) k4 (C4.mpr k3) g.nd (by rw[g.N];exact k5) (g.lcl _ k6) (C4.mpr k7) (C4.mpr k8) (by rw[g.N];exact k10.1) l.1 l.2
     (λpins E' q hq=>hb (z3e g pins E') h1 hq) h
   ·cases k10
  ·cases h2
 ·cases hc
theorem y0V:SS G F fu (.frz i):=by
 intro sg X E st δ o g hc h;unfold corS at hc;cases hc
variable {a b body:List MS} {c:ME} {tg:Tg}
theorem y0W(ha:SSs G F fu a)(hb:SSs G F fu b):SS G F fu (.iff c a b):=by
 intro sg X E st δ o g hc h;unfold corS at hc;split at hc
 ·simp only[d7]at hc;unfold evS at h;exact z8j (λz hz=>(snd c).2.1 g hc.1.1 hz) (λz hz=>ha g hc.1.2 hz) (λz hz=>hb g hc.2 hz) h
 ·cases hc
theorem t_fo(hb:SSs G F fu body):SS G F fu (.fo tg e body):=by
 intro sg X E st δ o g hc h;unfold corS at hc;split at hc
 ·simp only[d7,v9,J0]at hc;obtain⟨⟨⟨⟨h0,h1⟩,h2,h3⟩,h4⟩,h5⟩:=hc;unfold evS at h;exact z4B (g.own h0) g.calm (λz hz=>(snd e).2.2 g h2 (λw=>by
   rcases h3 with q | q
   ·rw[w]at q;cases q
   ·exact q) hz) (q9h g h1) (λδ' o' ho=>hb g h5 ho) h4 h
 ·cases hc
theorem t_wh(hb:SSs G F fu body):SS G F fu (.wh c body):=by
 intro sg X E st δ o g hc h;unfold corS at hc;split at hc
 ·simp only[d7]at hc;unfold evS at h;exact q9z (g.own hc.1.1) (λδ' r hr=>(snd c).2.1 g hc.1.2 hr) (λδ' o' ho=>hb g hc.2 ho) h
 ·cases hc
theorem z8F:SSs G F fu []:=by
 intro sg X E sts δ o g hc h;cases sts with
 | nil=>unfold evSs at h;cases h;exact z5G
 | cons a b=>unfold G9 at hc;cases hc
theorem z9D(hb:SSs G F fu ms):SSs G F fu (.frz i::ms):=by
 intro sg X E sts δ o g hc h;have hc':G9 sg ms sts=true:=by unfold G9 at hc;exact hc
 unfold evSs at h;have key:evS G F fu (.frz i) δ=(match δ[i]? with | some (.own d)=>some (.nx (δ.set i (.val d))) | _=>some (.nx δ)):=by unfold evS;rfl
 rw[key]at h;cases q:δ[i]? with
 | none=>rw[q]at h;exact hb g hc' h
 | some sv=>
  rw[q]at h;cases sv with
  | own d=>exact q8R q (hb g hc' h)
  | no=>exact hb g hc' h
  | val d=>exact hb g hc' h
  | ot d=>exact hb g hc' h
  | o2 d=>exact hb g hc' h
  | od d=>exact hb g hc' h
theorem F0(ha:SS G F fu m)(hb:SSs G F fu ms)(hm:∀i,m ≠ .frz i):SSs G F fu (m::ms):=by
 intro sg X E sts δ o g hc h;cases sts with
 | nil=>
  exfalso;cases m<;>first | exact hm _ rfl | (unfold G9 at hc;cases hc)
 | cons st sts=>
  have hc':corS sg m st=true/\G9 sg ms sts=true:=(by cases m<;>first | exact absurd rfl (hm _) | (unfold G9 at hc;rw[d7]at hc;exact hc));unfold evSs at h;split at h
  ·rename_i δ' q;exact z2A (ha g hc'.1 q) (hb g hc'.2 h)
  ·rename_i hne;have A:=ha g hc'.1 h;cases o with
   | nx δ'=>exact absurd h (hne δ')
   | rt d fr=>exact z7J A
   | rtt d=>exact z6q A
   | ex c δ'=>exact z9J A
end
section
variable {G:Gs} {F:Nat->List DV->Option Ou} {fu:Nat}
mutual
theorem sndS:∀m:MS,SS G F fu m
 | .set _ _ _=>y1J
 | .par _ _=>y1F
 | .app _ _=>y1R
 | .seti _ _ _=>z8U
 | .exp _=>y0R
 | .ret _=>y0E
 | .ret2 _ _=>z9h
 | .retp _=>z8i
 | .setp _ _ _=>z7B
 | .oapp _ _ _=>z7P
 | .oclr _ _=>z8R
 | .iff _ a b=>y0W (B0 a) (B0 b)
 | .fo _ _ body=>t_fo (B0 body)
 | .wh _ body=>t_wh (B0 body)
 | .sed _=>y0m
 | .dput _ _ _=>z8k
 | .retd _=>y0b
 | .rse _ _=>y0O
 | .tryc body _ _ _=>y1f (B0 body)
 | .frz _=>y0V
theorem B0:∀ms:List MS,SSs G F fu ms
 | []=>z8F
 | .frz _::ms=>z9D (B0 ms)
 | .set i o e::ms=>F0 (sndS (.set i o e)) (B0 ms) (by intro i z;cases z)
 | .par i o::ms=>F0 (sndS (.par i o)) (B0 ms) (by intro i z;cases z)
 | .app i o::ms=>F0 (sndS (.app i o)) (B0 ms) (by intro i z;cases z)
 | .seti i k o::ms=>F0 (sndS (.seti i k o)) (B0 ms) (by intro i z;cases z)
 | .exp e::ms=>F0 (sndS (.exp e)) (B0 ms) (by intro i z;cases z)
 | .ret e::ms=>F0 (sndS (.ret e)) (B0 ms) (by intro i z;cases z)
 | .retp i::ms=>F0 (sndS (.retp i)) (B0 ms) (by intro i z;cases z)
 | .ret2 a b::ms=>F0 (sndS (.ret2 a b)) (B0 ms) (by intro i z;cases z)
 | .setp i f e::ms=>F0 (sndS (.setp i f e)) (B0 ms) (by intro i z;cases z)
 | .oapp i k e::ms=>F0 (sndS (.oapp i k e)) (B0 ms) (by intro i z;cases z)
 | .oclr i k::ms=>F0 (sndS (.oclr i k)) (B0 ms) (by intro i z;cases z)
 | .iff c a b::ms=>F0 (sndS (.iff c a b)) (B0 ms) (by intro i z;cases z)
 | .fo t i b::ms=>F0 (sndS (.fo t i b)) (B0 ms) (by intro i z;cases z)
 | .wh c b::ms=>F0 (sndS (.wh c b)) (B0 ms) (by intro i z;cases z)
 | .sed i::ms=>F0 (sndS (.sed i)) (B0 ms) (by intro i z;cases z)
 | .dput i k e::ms=>F0 (sndS (.dput i k e)) (B0 ms) (by intro i z;cases z)
 | .retd i::ms=>F0 (sndS (.retd i)) (B0 ms) (by intro i z;cases z)
 | .rse c e::ms=>F0 (sndS (.rse c e)) (B0 ms) (by intro i z;cases z)
 | .tryc a b c d::ms=>F0 (sndS (.tryc a b c d)) (B0 ms) (by intro i z;cases z)
end
end
end
section
structure FunD(K:PySem.W.Frag)(x qual:Str)(st:Stmt)(f:Addr)(fd:FuncData):Prop where
 ex:∃(oc:Value) (od:Option Addr) (dV kV doc pm:Value) (an:Option Addr) (cdv ct:Value) (osl:Array (Option Value)),
  fd=PySem.W.fnOf x qual (K7 st) (E5 st) (q9 st) dV kV doc pm an cdv ct/\K.lookup f=some ⟨oc,od,.func fd,osl⟩/\PySem.W.codeIn K cdv qual=true
theorem FunD.okX{P:Program}{w:World}{K:PySem.W.Frag}{mg:Str->Option Value}{base:Heap}{x qual:Str}{st:Stmt}{f:Addr}{fd:FuncData}{N ps:List Str}{k:Nat}{sp:Sp}(F:FunD K x qual st f fd)(S:FnScope N ps (q9 st))(len:∀vs H Q E,sp vs H Q E->vs.length=ps.length)
  (hbody:∀(cdv:Value) (A:Around) (outer:List Env) (s:Shared) (H:Hp) (vs:List V) (Q:VK) (E:XK),Room k (A.deeper (envOfC qual (q9 st) s.heap.objs.size f cdv))->sp vs H Q E ->
   ∃t,PSs (cxD P w K mg base N qual (q9 st) f cdv A outer s H E) (E5 st) t/\t {nx:=λ_ H'=>Q .non H',rt:=Q} (start N vs) H):FnOk P w K mg base (CXx P w base) (k+1) f fd ps sp:=by
 obtain⟨oc,od,dV,kV,doc,pm,an,cdv,ct,osl,rfl,lk,hcd⟩:=F.ex;exact y1z lk hcd S len λA outer s H vs Q E hr hsp=>hbody cdv A outer s H vs Q E hr hsp
def popB(sg:Sg)(v:Expr):Bool:=match G3 v with
 | some (ef,[ea],[],pos)=>(match V0 ef with
  | some (o,n,apos)=>n == "pop" && (match u5 o with | some x=>L9 sg 1 x | none=>false)&&corE sg false (.int 0) ea && !j6 ea&&apos.endLine==pos.line
  | none=>false)
 | _=>false
def hunC(sg:Sg)(m:ME)(v:Expr):Bool:=match hunB sg 1 v with | some ea=>corE sg false m ea | none=>false
def hm0:ME:=.cmp .Eq (.ix (.var 0) (.int 0)) (.str "end")
def hm1:ME:=.cmp .Eq (.var 1) (.lst [])
def corH(sg:Sg)(b:List Stmt):Bool:=match b with
 | [.If c [.If c2 [.Return (some e1) _] [] _,.Return (some e2) _] [] _,.Assign [.Name x _] e3 _,.Return (some e4) _]=>
  corE sg false hm0 c&&corE sg false hm1 c2&&corE sg false (.var 0) e1&&popB sg e2&&sg.N[2]? == some x&&locB sg x && !V2 e3&&hunC sg (.ix (.var 0) (.int 3)) e3 &&
  (match F4 e4 with
   | some [a,b,c,d,e]=>corE sg false (.str "ask") a&&corE sg false (.ix (.var 0) (.int 1)) b&&corE sg false (.ix (.var 0) (.int 2)) c&&corE sg false (.var 2) d&&hunC sg (.ix (.var 0) (.int 4)) e && !j6 a && !j6 b && !j6 c && !j6 d && !j6 e
   | _=>false)
 | _=>false
def hG:Gs:={con:=[],cls:=[],hun:=true}
structure HStands(K:PySem.W.Frag)(mg:Str->Option Value)(fa:Addr)(fd:FuncData)(ps:List Str):Prop where
 mg:mg J4=some (.ref fa)
 kp:PySem.W.keepIn K (.ref fa)=true
 bi:J2 K fd ps []
 np:ps.length=2
 ex:∃qual st N,FunD K J4 qual st fa fd/\FnScope N ps (q9 st)/\N.length=3/\corH ⟨N,(q9 st).names,[],[],[],true,true⟩ (E5 st)=true
theorem z5p:q8U k R6 [d,.lst l]=(Y0 k d l).map λr=>.v r.1 false:=by
 show(if R6=R6 then _ else none)=_;exact d4 rfl
def hδ(d:DV)(ds:List DV)(x:Sv):List Sv:=[.val d,.own (.lst ds),x]
section
variable {F:Nat->List DV->Option Ou} {d:DV} {ds:List DV} {x:Sv} {s:Str}
end
section
variable {P:Program} {w:World} {K:PySem.W.Frag} {mg:Str->Option Value} {base:Heap} {fa:Addr} {fd:FuncData} {ps:List Str}
end
end
section
theorem RSt.start(hn:n=N.length)(r:RepL D (L2.wo O H) ds vs)(ho:Hdn O H):RSt D H (L2.start N vs) (o8 n ds) O []:=by
 subst hn;have ino:∀(i:Nat) ds',(o8 N.length ds)[i]? ≠ some (.own ds'):=λi ds' h=>by
  unfold o8 at h;by_cases hi:i<(ds.map Sv.val).length
  ·rw[M1 hi,m9]at h;cases q:ds[i]? with
   | none=>rw[q]at h;cases h
   | some d=>rw[q]at h;cases h
  ·rw[P7 (by omega),Z4]at h;split at h<;>cases h
 have iot:∀(i:Nat) ds',(o8 N.length ds)[i]? ≠ some (.ot ds'):=λi ds' h=>by
  unfold o8 at h;by_cases hi:i<(ds.map Sv.val).length
  ·rw[M1 hi,m9]at h;cases q:ds[i]? with
   | none=>rw[q]at h;cases h
   | some d=>rw[q]at h;cases h
  ·rw[P7 (by omega),Z4]at h;split at h<;>cases h
 have io2:∀(i:Nat) ds',(o8 N.length ds)[i]? ≠ some (.o2 ds'):=λi ds' h=>by
  unfold o8 at h;by_cases hi:i<(ds.map Sv.val).length
  ·rw[M1 hi,m9]at h;cases q:ds[i]? with
   | none=>rw[q]at h;cases h
   | some d=>rw[q]at h;cases h
  ·rw[P7 (by omega),Z4]at h;split at h<;>cases h
 have iod:∀(i:Nat) ds',(o8 N.length ds)[i]? ≠ some (.od ds'):=λi ds' h=>by
  unfold o8 at h;by_cases hi:i<(ds.map Sv.val).length
  ·rw[M1 hi,m9]at h;cases q:ds[i]? with
   | none=>rw[q]at h;cases h
   | some d=>rw[q]at h;cases h
  ·rw[P7 (by omega),Z4]at h;split at h<;>cases h
 refine⟨λi d h=>?_,λi ds' h=>absurd h (ino i ds'),λi j a d1 d2 h=>absurd h (ino i d1),RSt.noot iot,λi d h=>absurd h (io2 i d),λi d h=>absurd h (iod i d),?_,⟨λa ha=>ho.ne a (by simpa using ha),Same.refl _,λa ha=>(nomatch ha),λa ha=>(nomatch ha),ho⟩⟩
 ·unfold o8 at h;by_cases hi:i<(ds.map Sv.val).length
  ·rw[M1 hi,m9]at h;cases q:ds[i]? with
   | none=>rw[q]at h;cases h
   | some d'=>
    rw[q]at h;cases h;obtain⟨v,e1,e2⟩:=r.get q;refine⟨v,?_,by rw[M4];exact e2⟩;unfold L2.start;rw[M1 (by rw[d8];exact(w9.mp e1).1),m9,e1];rfl
  ·rw[P7 (by omega),Z4]at h;split at h<;>cases h
 ·unfold L2.start o8;rw[C5,C5,d8,d8,w2k,w2k,r.length]
def DfOk(G:Gs)(T:List FD):Prop:=(∀f ds,G.dfl.lookup f=some ds->∃d,T[f]? = some d/\d.dfl=ds/\ds≠[])/\∀f n,G.kws.lookup f=some n->∃d,T[f]? = some d/\d.kn=some n
structure Stands(K:PySem.W.Frag)(mg:Str->Option Value)(fn bl cl:List Str)(d:FD)(x:Str)(fa:Addr)(fd:FuncData)(ps:List Str):Prop where
 dk:(d.dfl≠[]->∃us dvs,J2 K fd ps us/\Vals dvs us/\∀H,RepL ⟨K,mg⟩ H d.dfl dvs)/\∀n,d.kn=some n->KBinds K fd ps [n] (N0 ps.length) (N0 ps.length)
 mg:mg x=some (.ref fa)
 kp:PySem.W.keepIn K (.ref fa)=true
 bi:J2 K fd ps []
 np:d.np=ps.length
 ex:∃qual st N,FunD K x qual st fa fd/\FnScope N ps (q9 st)/\d.n=N.length/\G9 ⟨N,(q9 st).names,fn,bl,cl,true,true⟩ d.body (E5 st)=true
section
variable {P:Program} {w:World} {K:PySem.W.Frag} {mg:Str->Option Value} {base:Heap} {G:Gs} {T:List FD} {fu:Nat} {fn bl cl:List Str}
theorem z3t(hT:T.length=fn.length)(hs:∀(i:Nat) d x,T[i]? = some d->fn[i]? = some x->∃fa fd ps,Stands K mg fn bl cl d x fa fd ps)(hbl:∀x∈bl,mg x=none)(hxf:XFacts K mg G cl)
  (hcon:∀x d,G.con.lookup x=some d->∃u v,mg x=some u/\RelV v u/\∀H,Rep ⟨K,mg⟩ H d v) (hdc:∀x kvs,G.dcs.lookup x=some kvs->z1o K w mg x kvs) (hdf:DfOk G T) (hh:G.hun=true->T.length<=R6/\∃fa fd ps,mg J4=some (.ref fa)/\PySem.W.keepIn K (.ref fa)=true/\J2 K fd ps []/\∀k,FnOk P w K mg base (CXx P w base) k fa fd ps (spH ⟨K,mg⟩ (Y0 k))):∀(k i:Nat) d x fa fd ps,T[i]? = some d->fn[i]? = some x->Stands K mg fn bl cl d x fa fd ps ->
  FnOk P w K mg base (CXx P w base) k fa fd ps (spF ⟨K,mg⟩ ps.length (run G T fu k i))
 | 0,i,d,x,fa,fd,ps,h1,h2,S=>by
  refine⟨λvs H Q E h=>?_,λA outer s H args us vs Q E hr he hb hv h=>?_⟩
  ·obtain⟨_,_,_,_,_,_,q,_⟩:=h;cases q
  ·obtain⟨_,_,_,_,_,_,q,_⟩:=h;cases q
 | k+1,i,d,x,fa,fd,ps,h1,h2,S=>by
  obtain⟨qual,st,N,F,FS,hn,hc⟩:=S.ex;refine F.okX FS (λvs H Q E h=>?_) (λcdv A outer s H vs Q E hr h=>?_)
  ·obtain⟨O,ds,o,_,e1,e2,_⟩:=h;rw[e2.length,e1]
  ·obtain⟨O,ds,o,ho,e1,e2,e3,e4⟩:=h;have e3':(match T[i]? with | none=>q8U (k+1) i ds | some fd=>if ds.length=fd.np then Ou.of (evSs G (run G T fu k) fu fd.body (o8 fd.n ds))else none)=some o:=e3;rw[h1]at e3';have e3'':(if ds.length=d.np then Ou.of (evSs G (run G T fu k) fu d.body (o8 d.n ds))else none)=some o:=e3';rw[d4 (e1.trans S.np.symm)]at e3'';have g:Good ⟨N,(q9 st).names,fn,bl,cl,true,true⟩ G (run G T fu k) (cxD P w K mg base N qual (q9 st) fa cdv A outer s H E) (λ_=>E):=by
    refine⟨rfl,FS.nd,λy hy=>?_,λy hy=>?_,λy hy=>⟨?_,.inl rfl⟩,λy hy=>hy,λy hy=>hy,rfl,hr.units,λf y hy=>?_,hbl,q8A.s,hcon,λ_=>PassesOwn.leaving,hxf,λ_=>⟨rfl,rfl,rfl,q8q⟩,hdc,λz=>by
     obtain⟨hl,fa',fd',ps',s1,s2,s3,s4⟩:=hh z;refine⟨k,fa',fd',ps',Y0 k,hr,s1,s2,s3,λd l=>?_,s4 k⟩;cases k with
     | zero=>rfl
     | succ k=>
      show(match T[R6]? with | none=>q8U (k+1) R6 [d,.lst l] | some fd=>if[d,.lst l].length=fd.np then Ou.of (evSs G (run G T fu k) fu fd.body (o8 fd.n [d,.lst l]))else none)=_;rw[Z6 hl];exact z5p⟩
    ·unfold visB at hy;simp only[J0,i8]at hy;rcases hy with(hy | hy) | hy
     ·exact .inl hy
     ·exact .inr (.inl hy)
     ·exact .inr (.inr hy)
    ·unfold gloB at hy;rw[i8]at hy;exact hy
    ·unfold locB at hy;simp only[J0,i8]at hy;exact hy
    ·have hf:f<T.length:=by rw[hT];exact(w9.mp hy).1
     obtain⟨d',hd'⟩:∃d',T[f]? = some d':=⟨_,j3 hf⟩;obtain⟨fa',fd',ps',S'⟩:=hs f d' y hd' hy;refine⟨k,fa',fd',ps',hr,S'.mg,S'.kp,S'.bi,λds o q=>?_,z3t hT hs hbl hxf hcon hdc hdf hh k f d' y fa' fd' ps' hd' hy S',?_,?_⟩
     rotate_left
     ·intro ds q;obtain⟨d2,q1,q2,q3⟩:=hdf.1 f ds q;rw[hd']at q1;cases q1;have:=S'.dk.1 (by rw[q2];exact q3);rw[q2]at this;exact this
     ·intro n q;obtain⟨d2,q1,q2⟩:=hdf.2 f n q;rw[hd']at q1;cases q1;exact S'.dk.2 n q2
     cases k with
     | zero=>cases q
     | succ k=>
      have q':(match T[f]? with | none=>q8U (k+1) f ds | some fd=>if ds.length=fd.np then Ou.of (evSs G (run G T fu k) fu fd.body (o8 fd.n ds))else none)=some o:=q;rw[hd']at q';have q'':(if ds.length=d'.np then Ou.of (evSs G (run G T fu k) fu d'.body (o8 d'.n ds))else none)=some o:=q';split at q''
      ·rename_i z;rw[z,S'.np]
      ·cases q''
   cases ho':evSs G (run G T fu k) fu d.body (o8 d.n ds)with
   | none=>rw[ho']at e3'';cases e3''
   | some oo=>
    rw[ho']at e3'';refine⟨_,B0 d.body g hc ho',H,O,[],RSt.start hn e2 ho,(λa ha=>(nomatch ha)),ho.ne,Same.refl H,?_⟩;cases oo with
    | nx δ=>cases e3'';exact λσ' H' W R fr sm=>e4 .non H' sm (show Rep ⟨K,mg⟩ (L2.wo O H') .non .non by unfold Rep;rfl)
    | rt d fr=>cases e3'';exact λv H' sm gt=>e4 v H' sm gt
    | rtt d=>cases e3'';exact λv H' sm gt=>e4 v H' sm gt
    | ex c δ=>cases e3'';exact λσ' H' W C hm R fr sm=>e4 H' C hm sm
end
end
section
def okD(fn bl cl:List Str)(d:FD)(N ps:List Str)(st:Stmt):Bool:=
 (q9 st).kind == .function && !(q9 st).isCoroutine && !(q9 st).isGenerator&&Y2 N&&(N.take ps.length==ps) &&
 ps.all (λx=>(q9 st).names.lookup x==some .local||(q9 st).names.lookup x==some .cell)&&(q9 st).names.all (λy=>!(y.2 == .free)) &&
 d.n==N.length&&d.np==ps.length&&G9 ⟨N,(q9 st).names,fn,bl,cl,true,true⟩ d.body (E5 st)
section
variable {P:Program} {w:World} {K:PySem.W.Frag} {mg:Str->Option Value} {base h:Heap} {G:Gs} {T:List FD} {fu:Nat} {fn bl cl:List Str}
theorem q8x{d:FD}{x:Str}{N ps:List Str}{st:Stmt}{f:Addr}{oc:Value}{od an:Option Addr}{osl:Array (Option Value)}{dV kV doc pm cdv ct:Value}(X:K.In h)(Ns:h.Ns mainGlobals mg)(ok:okD fn bl cl d N ps st=true)
  (a:PySem.W.nsIn K mainGlobals x=some (some (.ref f))) (l:K.lookup f=some ⟨oc,od,.func (PySem.W.fnOf x x (K7 st) (E5 st) (q9 st) dV kV doc pm an cdv ct),osl⟩)
  (c:PySem.W.codeIn K cdv x=true) (k:PySem.W.keepIn K (.ref f)=true)
  (hb:J2 K (PySem.W.fnOf x x (K7 st) (E5 st) (q9 st) dV kV doc pm an cdv ct) ps [])
  (dk:(d.dfl≠[]->∃us dvs,J2 K (PySem.W.fnOf x x (K7 st) (E5 st) (q9 st) dV kV doc pm an cdv ct) ps us/\Vals dvs us/\∀H,RepL ⟨K,mg⟩ H d.dfl dvs)/\∀n,d.kn=some n->KBinds K (PySem.W.fnOf x x (K7 st) (E5 st) (q9 st) dV kV doc pm an cdv ct) ps [n] (N0 ps.length) (N0 ps.length)) :
  Stands K mg fn bl cl d x f (PySem.W.fnOf x x (K7 st) (E5 st) (q9 st) dV kV doc pm an cdv ct) ps:=by
 unfold okD at ok;simp only[d7,i8,v9,D6,J0,C4]at ok;obtain⟨⟨⟨⟨⟨⟨⟨⟨⟨h1,h2⟩,h3⟩,h4⟩,h5⟩,h6⟩,h7⟩,h8⟩,h9⟩,h10⟩:=ok;exact⟨dk,PySem.W.mg_of X Ns a,k,hb,h9,x,st,N,⟨oc,od,dV,kV,doc,pm,an,cdv,ct,osl,rfl,l,c⟩,⟨h1,h2,h3,q2f h4,h5,h6,h7⟩,h8,h10⟩
theorem A5{d:FD}{x:Str}{N ps:List Str}{st:Stmt}{f:Addr}{oc:Value}{od an:Option Addr}{osl:Array (Option Value)}{kV doc pm cdv ct:Value}(X:K.In h)(Ns:h.Ns mainGlobals mg)(ok:okD fn bl cl d N ps st=true)
  (a:PySem.W.nsIn K mainGlobals x=some (some (.ref f))) (l:K.lookup f=some ⟨oc,od,.func (PySem.W.fnOf x x (K7 st) (E5 st) (q9 st) .none kV doc pm an cdv ct),osl⟩)
  (c:PySem.W.codeIn K cdv x=true) (k:PySem.W.keepIn K (.ref f)=true)
  (hb:∀(kV doc pm:Value) (an:Option Addr) (cdv ct:Value) (us:List Value),us.length=ps.length->bindArgs (PySem.W.fnOf x x (K7 st) (E5 st) (q9 st) .none kV doc pm an cdv ct) ⟨us,[]⟩=pure (ps.zip us)) (e1:d.dfl=[]:=by rfl) (e2:d.kn=none:=by rfl) :
  Stands K mg fn bl cl d x f (PySem.W.fnOf x x (K7 st) (E5 st) (q9 st) .none kV doc pm an cdv ct) ps:=
 q8x X Ns ok a l c k (.all (hb kV doc pm an cdv ct)) ⟨λz=>absurd e1 z,λn z=>by rw[e2]at z;cases z⟩
theorem z8m(h:∀(s:Shared) (us:List Value) (w:Value),K.In s.heap->us.length+1=ps.length->BindsTo s fd ⟨us,[(n,w)]⟩ (ps.zip (us++[w])))(hp:ps≠[]):KBinds K fd ps [n] (N0 ps.length) (N0 ps.length):=by
 refine⟨λs us ws hK hl=>?_,λr q=>z0Z r q⟩;unfold N0 at hl ⊢;split at hl
 ·rename_i c;rw[d4 c];obtain⟨w,rfl⟩:=List.length_eq_one_iff.mp c.2;exact h s us w hK c.1
 ·exact absurd (W1.mp hl.symm) hp
theorem z7e(e1:G.dfl=[]:=by rfl)(e2:G.kws=[]:=by rfl):DfOk G T:=⟨λf ds q=>(by rw[e1]at q;cases q),λf n q=>(by rw[e2]at q;cases q)⟩
theorem z2Z{G:Gs}{p:Prop}(e:G.hun=false:=by rfl):G.hun=true->p:=λz=>by rw[e]at z;cases z
def okH(N ps:List Str)(st:Stmt):Bool:=
 (q9 st).kind == .function && !(q9 st).isCoroutine && !(q9 st).isGenerator&&Y2 N&&(N.take ps.length==ps) &&
 ps.all (λx=>(q9 st).names.lookup x==some .local||(q9 st).names.lookup x==some .cell)&&(q9 st).names.all (λy=>!(y.2 == .free)) &&
 N.length==3&&ps.length==2&&corH ⟨N,(q9 st).names,[],[],[],true,true⟩ (E5 st)
theorem z7p{N ps:List Str}{st:Stmt}{f:Addr}{oc:Value}{od an:Option Addr}{osl:Array (Option Value)}{kV doc pm cdv ct:Value}(X:K.In h)(Ns:h.Ns mainGlobals mg)(ok:okH N ps st=true)
  (a:PySem.W.nsIn K mainGlobals J4=some (some (.ref f))) (l:K.lookup f=some ⟨oc,od,.func (PySem.W.fnOf J4 J4 (K7 st) (E5 st) (q9 st) .none kV doc pm an cdv ct),osl⟩)
  (c:PySem.W.codeIn K cdv J4=true) (k:PySem.W.keepIn K (.ref f)=true)
  (hb:∀(kV doc pm:Value) (an:Option Addr) (cdv ct:Value) (us:List Value),us.length=ps.length->bindArgs (PySem.W.fnOf J4 J4 (K7 st) (E5 st) (q9 st) .none kV doc pm an cdv ct) ⟨us,[]⟩=pure (ps.zip us)) :
  HStands K mg f (PySem.W.fnOf J4 J4 (K7 st) (E5 st) (q9 st) .none kV doc pm an cdv ct) ps:=by
 unfold okH at ok;simp only[d7,i8,v9,D6,J0,C4]at ok;obtain⟨⟨⟨⟨⟨⟨⟨⟨⟨h1,h2⟩,h3⟩,h4⟩,h5⟩,h6⟩,h7⟩,h8⟩,h9⟩,h10⟩:=ok;exact⟨PySem.W.mg_of X Ns a,k,.all (hb kV doc pm an cdv ct),h9,J4,st,N,⟨oc,od,.none,kV,doc,pm,an,cdv,ct,osl,rfl,l,c⟩,⟨h1,h2,h3,q2f h4,h5,h6,h7⟩,h8,h10⟩
def HS(K:PySem.W.Frag)(mg:Str->Option Value)(fn bl cl:List Str)(T:List FD)(fs:List Str):Prop:=∀(i:Nat) d x,T[i]? = some d->fs[i]? = some x->∃fa fd ps,Stands K mg fn bl cl d x fa fd ps
theorem z8e:HS K mg fn bl cl [] fs:=λi d x h=>by cases h
theorem A6(h:Stands K mg fn bl cl d x fa fd ps)(t:HS K mg fn bl cl T fs):HS K mg fn bl cl (d::T) (x::fs):=λi d' x' h1 h2=>by
 cases i with
 | zero=>cases h1;cases h2;exact⟨_,_,_,h⟩
 | succ i=>exact t i d' x' h1 h2
theorem z8W:L2.wo [] H=H:=by
 funext b
 unfold L2.wo;simp
def HC(K:PySem.W.Frag)(mg:Str->Option Value)(c:List (Str×DV)):Prop:=∀x d,c.lookup x=some d->∃u v,mg x=some u/\RelV v u/\∀H,Rep ⟨K,mg⟩ H d v
theorem z7b:HC K mg []:=λx d h=>by cases h
theorem y0j(h:∃u v,mg y=some u/\RelV v u/\∀H,Rep ⟨K,mg⟩ H d v)(t:HC K mg c):HC K mg ((y,d)::c):=λx d' q=>by
 rw[N3]at q;split at q
 ·rename_i e;cases q;rw[w3L e];exact h
 ·exact t x d' q
def OneL(K:PySem.W.Frag)(mg:Str->Option Value)(G:Gs)(cl:List Str)(l:List (Str×List Str)):Prop:=∀c,(l.lookup c).isSome=true->∃C,XOne K mg G cl c C
theorem z4S:OneL K mg G cl []:=λc h=>by cases h
theorem q4m(h:∃C,XOne K mg G cl c C)(t:OneL K mg G cl l):OneL K mg G cl ((c,b)::l):=λc' q=>by
 rw[N3]at q;split at q
 ·rename_i e;rw[w3L e];exact h
 ·exact t c' q
def AllL(mg:Str->Option Value)(l:List Str):Prop:=∀t∈l,∃Ct,mg t=some (.ref Ct)
theorem z5O:AllL mg []:=λt h=>by cases h
theorem all_cons(h:∃Ct,mg t=some (.ref Ct))(r:AllL mg l):AllL mg (t::l):=λt' q=>by
 rcases f9.mp q with e | e
 ·rw[e];exact h
 ·exact r t' e
def OwnL(K:PySem.W.Frag)(mg:Str->Option Value)(G:Gs)(c:Str)(C:Addr)(l:List Str):Prop:=∀t∈l,∀Ct,mg t=some (.ref Ct)->PySem.W.kitOne K (.ref C) (.ref Ct)=some (N7 G c t)/\(N7 G c t=true->PySem.W.exmOne K (.ref C) (.ref Ct)=some true)
theorem q5W:OwnL K mg G c C []:=λt h=>by cases h
theorem H9(m:mg t=some (.ref Ct))(h:PySem.W.kitOne K (.ref C) (.ref Ct)=some (N7 G c t)/\(N7 G c t=true->PySem.W.exmOne K (.ref C) (.ref Ct)=some true))(r:OwnL K mg G c C l):OwnL K mg G c C (t::l):=λt' q Ct' m'=>by
 rcases f9.mp q with e | e
 ·subst e;cases m.symm.trans m';exact h
 ·exact r t' e Ct' m'
def spS(K:PySem.W.Frag):Sp:=λvs H Q _=>∃(a:Addr) (ns:List Int),vs=[.ref a]/\ns.length<=63/\SqS K H a (ns.map V.int)/\∀H',Q (.bl true) H'
def DCL(K:PySem.W.Frag)(w:World)(mg:Str->Option Value)(l:List (Str×List (Str×Str))):Prop:=∀x kvs,l.lookup x=some kvs->z1o K w mg x kvs
theorem z5i:DCL K w mg []:=λx kvs h=>by cases h
theorem y0k(h:z1o K w mg y kv)(t:DCL K w mg l):DCL K w mg ((y,kv)::l):=λx kvs q=>by
 rw[N3]at q;split at q
 ·rename_i e;cases q;rw[i8.mp e];exact h
 ·exact t x kvs q
def KVL(K:PySem.W.Frag)(a:Addr)(l:List (Str×Str)):Prop:=∀k v,l.lookup k=some v->v.length<=sizeLine/\∃t,PySem.W.nsIn K a k=some (some (.str v t))
theorem y0T:KVL K a []:=λk v h=>by cases h
theorem y0i(h1:v.length<=sizeLine)(h2:PySem.W.nsIn K a k=some (some (.str v t)))(r:KVL K a l):KVL K a ((k,v)::l):=λk' v' q=>by
 rw[N3]at q;split at q
 ·rename_i e;cases q;rw[i8.mp e];exact⟨h1,t,h2⟩
 ·exact r k' v' q
theorem z3c(hT:T.length=fn.length)(hs:HS K mg fn bl cl T fn)(hbl:∀x∈bl,mg x=none)(hxf:XFacts K mg G cl)
  (hcon:∀x d,G.con.lookup x=some d->∃u v,mg x=some u/\RelV v u/\∀H,Rep ⟨K,mg⟩ H d v) (hdc:∀x kvs,G.dcs.lookup x=some kvs->z1o K w mg x kvs) (hdf:DfOk G T) (hh:G.hun=true->T.length<=R6/\∃fa fd ps,mg J4=some (.ref fa)/\PySem.W.keepIn K (.ref fa)=true/\J2 K fd ps []/\∀k,FnOk P w K mg base (CXx P w base) k fa fd ps (spH ⟨K,mg⟩ (Y0 k))) (h1:T[i]? = some d) (h2:fn[i]? = some x) (S:Stands K mg fn bl cl d x fa fd [p])
  (law:∀ns:List Int,ns.length<=63->run G T fu k i [.scr ns]=some (.v (.bl true) false)):FnOk P w K mg base CX0 k fa fd [p] (spS K):=by
 have R:=z3t (P:=P) (w:=w) (base:=base) (fu:=fu) hT hs hbl hxf hcon hdc hdf hh k i d x fa fd [p] h1 h2 S;refine⟨λvs H Q E h=>?_,λA outer s H args us vs Q E hr he hb hv h=>?_⟩
 ·obtain⟨a,ns,rfl,_⟩:=h;rfl
 ·obtain⟨a,ns,rfl,hl,hS,hq⟩:=h;refine w3u (R.run A outer s H args us [.ref a] Q E0 hr he hb hv ⟨[],[.scr ns],_,(λa ha=>(nomatch ha)),rfl,?_,law ns hl,λv H' _ g=>?_⟩) λr s' q=>?_
  ·refine RepL.one (P3.mpr ⟨a,rfl,?_⟩);rw[z8W];exact hS
  ·have g':Rep ⟨K,mg⟩ (L2.wo [] H') (.bl true) v:=g;rw[V3]at g';subst g';exact hq H'
  ·cases r with
   | error e=>
    obtain⟨_,_,_,_,_,_,_,_,_,_,z⟩:=(q:CXx P w base outer H s E0 e s');exact z.elim
   | ok fl=>cases fl<;>first | exact False.elim q | exact q
end
theorem walkE{l:PySem.W.OpenLaw}{q:Program}{loose:List Str}{XP:(Str->Option Value)->Heap->Prop}{YP:World->Heap->Prop}{d:DefRec}{K:Params->PySem.W.Frag}{k:Nat}{p:Str}(hn:l.most=some 63)(hdf:d.params.defaults=[])(hr:Room k callerA)
  (hY:∀(w:World) (h:Heap),YP w h->(K w.params).In h)
  (F:∀(w:World) (mg:Str->Option Value) (fa:Addr) (h:Heap),(K w.params).In h->h.Ns mainGlobals mg->mg d.name=some (.ref fa) ->
   ∃fd:FuncData,(∀(s:Shared) (u:Value),BindsTo s fd ⟨[u],[]⟩ [(p,u)])/\∀base:Heap,(K w.params).In base->base.Ns mainGlobals mg->FnOk l.prog w (K w.params) mg base CX0 k fa fd [p] (spS (K w.params))) :
  PySem.W.WalkO q loose XP YP l.row.toRowW d [] (λf vs=>PySem.call f vs):=
 L2.walk_of (n:=63) (k:=k) (x:=p) (CX:=λ_=>CX0) (sp:=λw=>spS (K w.params)) hn (by decide) hdf hr hY F (λ_ _ a ns hl hO hS=>⟨a,ns,rfl,hl,SqS.of hO hS,λ_=>rfl⟩) λ_ _ _ _ _ z=>z
end
end L2
end
noncomputable section
namespace rk
def sm(f:Nat->Int):Nat->Int
 | 0=>0
 | n+1=>sm f n+f n
theorem sm_congr:∀{n:Nat},(∀i,i<n->f i=g i)->sm f n=sm g n
 | 0,_=>rfl
 | n+1,h=>by show sm f n+f n=sm g n+g n;rw[sm_congr (λi hi=>h i (by omega)),h n (by omega)]
theorem q4S:∀{n:Nat} {f:Nat->Int},(∀i,i<n->f i=0)->sm f n=0
 | 0,_,_=>rfl
 | n+1,f,h=>by show sm f n+f n=0;rw[q4S (λi hi=>h i (by omega)),h n (by omega)];rfl
theorem sm_mul(a:Int)(f:Nat->Int):∀n,sm (λi=>a*f i) n=a*sm f n
 | 0=>by show(0:Int)=a*0;rw[G5]
 | n+1=>by show sm (λi=>a*f i) n+a*f n=a*(sm f n+f n);rw[sm_mul a f n,X3]
theorem z1F(f g:Nat->Int):∀n,sm (λi=>f i+g i) n=sm f n+sm g n
 | 0=>rfl
 | n+1=>by show sm (λi=>f i+g i) n+(f n+g n)=(sm f n+f n)+(sm g n+g n);rw[z1F f g n];omega
theorem q7W(f g:Nat->Int):∀n,sm (λi=>f i - g i) n=sm f n - sm g n
 | 0=>rfl
 | n+1=>by show sm (λi=>f i - g i) n+(f n - g n)=(sm f n+f n) - (sm g n+g n);rw[q7W f g n];omega
theorem q9E(f:Nat->Nat->Int)(m:Nat):∀n,sm (λi=>sm (f i) m) n=sm (λj=>sm (λi=>f i j) n) m
 | 0=>by symm;exact q4S λ_ _=>rfl
 | n+1=>by show sm (λi=>sm (f i) m) n+sm (f n) m=sm (λj=>sm (λi=>f i j) n+f n j) m;rw[q9E f m n,z1F (λj=>sm (λi=>f i j) n) (λj=>f n j)]
def sk(p i:Nat):Nat:=if i<p then i else i+1
def usk(p i:Nat):Nat:=if i<p then i else i - 1
theorem z9y(p i:Nat):sk p i≠p:=by unfold sk;split<;>omega
theorem z3U(p i:Nat):usk p (sk p i)=i:=by
 unfold usk sk;by_cases h:i<p
 ·rw[d4 h,d4 h]
 ·rw[d5 h,d5 (by omega)];omega
theorem y1k(h:i<r):sk p i<r+1:=by unfold sk;split<;>omega
theorem q9m(f:Nat->Int)(p:Nat):∀r,p<=r->sm f (r+1)=f p+sm (λi=>f (sk p i)) r
 | 0,h=>by
  have:p=0:=by omega
  subst this;show 0+f 0=f 0+0;omega
 | r+1,h=>by
  show sm f (r+1)+f (r+1)=f p+(sm (λi=>f (sk p i)) r+f (sk p r));by_cases q:p=r+1
  ·subst q;have e:sm (λi=>f (sk (r+1) i)) r=sm f r:=sm_congr λi hi=>by
    show f (sk (r+1) i)=f i;unfold sk;rw[d4 (by omega)]
   have e2:sk (r+1) r=r:=by unfold sk;rw[d4 (by omega)]
   rw[e,e2];show sm f r+f r+f (r+1)=_;omega
  ·have e2:sk p r=r+1:=by unfold sk;rw[d5 (by omega)]
   rw[q9m f p r (by omega),e2];omega
theorem dep:∀(k r:Nat) (A:Nat->Nat->Int),k<r->∃c:Nat->Int,(∃i,i<r/\c i≠0)/\∀j,j<k->sm (λi=>c i*A i j) r=0
 | 0,r,A,h=>⟨λ_=>1,⟨0,h,by decide⟩,λj hj=>absurd hj (w2c j)⟩
 | k+1,r,A,h=>by
  by_cases q:∃p,p<r/\A p k≠0
  ·obtain⟨p,hp,hA⟩:=q;obtain⟨r',rfl⟩:∃r',r=r'+1:=⟨r - 1,by omega⟩;obtain⟨c,⟨i,hi,hc⟩,hs⟩:=dep k r' (λi j=>A p k*A (sk p i) j - A (sk p i) k*A p j) (by omega);have key:∀j,sm (λi=>(if i=p then -(sm (λi=>c i*A (sk p i) k) r')else A p k*c (usk p i))*A i j) (r'+1)=sm (λi=>c i*(A p k*A (sk p i) j - A (sk p i) k*A p j)) r':=λj=>by
    rw[q9m _ p r' (by omega)];rw[d4 rfl];have e:∀i,(if sk p i=p then -(sm (λi=>c i*A (sk p i) k) r')else A p k*c (usk p (sk p i)))=A p k*c i:=λi=>by rw[d5 (z9y p i),z3U]
    rw[show(λi=>(if sk p i=p then -(sm (λi=>c i*A (sk p i) k) r')else A p k*c (usk p (sk p i)))*A (sk p i) j)=λi=>A p k*c i*A (sk p i) j from funext λi=>by rw[e i]];rw[show(λi=>c i*(A p k*A (sk p i) j - A (sk p i) k*A p j))=λi=>A p k*c i*A (sk p i) j - A p j*(c i*A (sk p i) k)from funext λi=>by
     rw[w21]
     congr 1
     ·rw[←p4,A0 (c i)]
     ·rw[←p4,A0]]
    rw[q7W (λi=>A p k*c i*A (sk p i) j) (λi=>A p j*(c i*A (sk p i) k)),sm_mul (A p j) (λi=>c i*A (sk p i) k),w2I,A0 (sm _ _) (A p j)];omega
   refine⟨λi=>if i=p then -(sm (λi=>c i*A (sk p i) k) r')else A p k*c (usk p i),⟨sk p i,y1k hi,?_⟩,λj hj=>?_⟩
   ·show(if sk p i=p then _ else A p k*c (usk p (sk p i)))≠0;rw[d5 (z9y p i),z3U];exact Int.mul_ne_zero hA hc
   ·rw[key j];by_cases z:j<k
    ·exact hs j z
    ·have:j=k:=by omega
     subst this;exact q4S λi _=>by show c i*(A p j*A (sk p i) j - A (sk p i) j*A p j)=0;rw[A0 (A p j),Int.sub_self,G5]
  ·obtain⟨c,hc,hs⟩:=dep k r A (by omega);refine⟨c,hc,λj hj=>?_⟩;by_cases z:j<k
   ·exact hs j z
   ·have:j=k:=by omega
    subst this;exact q4S λi hi=>by have:A i j=0:=w10 λn=>q ⟨i,hi,n⟩;show c i*A i j=0;rw[this,G5]
end rk
end
noncomputable section
namespace rk
structure Pr(P:Int->Prop):Prop where
 zero:P 0
 add:∀{a b},P a->P b->P (a+b)
 mul:∀c {a},P a->P (c*a)
 prime:∀{a b},P (a*b)->P a\/P b
 one:¬P 1
 dep:∀(k r:Nat) (A:Nat->Nat->Int),k<r->∃c:Nat->Int,(∃i,i<r/\¬P (c i))/\∀j,j<k->P (sm (λi=>c i*A i j) r)
def P0(a:Int):Prop:=a=0
theorem pr0:Pr P0 where
 zero:=rfl
 add:=λh g=>by show _=_;rw[show _=(0:Int)from h,show _=(0:Int)from g];rfl
 mul:=λc a h=>by show c*a=0;rw[show a=0 from h,G5]
 prime:=λh=>w3Q.mp h
 one:=by intro h;cases h
 dep:=λk r A h=>by obtain⟨c,⟨i,hi,hc⟩,hs⟩:=rk.dep k r A h;exact⟨c,⟨i,hi,hc⟩,hs⟩
section
variable {P:Int->Prop} (R:Pr P)
include R
theorem Pr.neg(h:P a):P (-a):=by have:=R.mul (-1) h;rw[w2I,D1]at this;exact this
theorem Pr.sub(h:P a)(g:P b):P (a - b):=by rw[Int.sub_eq_add_neg];exact R.add h (R.neg g)
theorem Pr.mulr(c:Int)(h:P a):P (a*c):=by rw[A0];exact R.mul c h
theorem Pr.sum(h:∀i,i<n->P (f i)):P (sm f n):=by
 induction n with
 | zero=>exact R.zero
 | succ n ih=>exact R.add (ih λi hi=>h i (by omega)) (h n (by omega))
end
def Ind(P:Int->Prop)(v:Nat->Nat->Int)(n m:Nat):Prop:=∀c:Nat->Int,(∀j,j<m->P (sm (λi=>c i*v i j) n))->∀i,i<n->P (c i)
def InSp(P:Int->Prop)(w:Nat->Nat->Int)(k m:Nat)(x:Nat->Int):Prop:=∃(d:Int) (a:Nat->Int),¬P d/\∀j,j<m->P (d*x j - sm (λs=>a s*w s j) k)
section
variable {P:Int->Prop} (R:Pr P)
include R
theorem q7N{v:Nat->Nat->Int}{b e:Nat->Nat}{n m r k:Nat}(hb:∀t,t<r->b t<n)(hv:Ind P (λt=>v (b t)) r m)(he:∀j,j<m->InSp P (λs i=>v i (e s)) k n (λi=>v i j)):Ind P (λt s=>v (b t) (e s)) r k:=by
 intro z hs t ht;refine hv z (λj hj=>?_) t ht;obtain⟨d,a,hd,ha⟩:=he j hj;have q:P (d*sm (λt=>z t*v (b t) j) r):=by
  have e:d*sm (λt=>z t*v (b t) j) r=sm (λt=>z t*(d*v (b t) j - sm (λs=>a s*v (b t) (e s)) k)) r+sm (λs=>a s*sm (λt=>z t*v (b t) (e s)) r) k:=by
   have e2:sm (λs=>a s*sm (λt=>z t*v (b t) (e s)) r) k=sm (λt=>z t*sm (λs=>a s*v (b t) (e s)) k) r:=by
    rw[sm_congr (g:=λs=>sm (λt=>a s*(z t*v (b t) (e s))) r) (λs _=>(sm_mul (a s) (λt=>z t*v (b t) (e s)) r).symm)];rw[sm_congr (f:=λt=>z t*sm (λs=>a s*v (b t) (e s)) k) (g:=λt=>sm (λs=>z t*(a s*v (b t) (e s))) k) (λt _=>(sm_mul (z t) (λs=>a s*v (b t) (e s)) k).symm)];rw[q9E (λt s=>z t*(a s*v (b t) (e s))) k r];refine sm_congr λs _=>sm_congr λt _=>?_
    rw[←p4,A0 (a s),p4]
   rw[e2,←z1F,←sm_mul d (λt=>z t*v (b t) j)];refine sm_congr λt _=>?_
   rw[w21,Int.sub_add_cancel,←p4,A0 d,p4]
  rw[e];exact R.add (R.sum λt ht=>R.mul _ (ha (b t) (hb t ht))) (R.sum λs hs'=>R.mul _ (hs s hs'))
 rcases R.prime q with q | q
 ·exact absurd q hd
 ·exact q
theorem cols{v:Nat->Nat->Int}{b e:Nat->Nat}{n m r k:Nat}(hb:∀t,t<r->b t<n)(hv:Ind P (λt=>v (b t)) r m)(he:∀j,j<m->InSp P (λs i=>v i (e s)) k n (λi=>v i j)):r<=k:=by
 refine w3t λlt=>?_;obtain⟨z,⟨t,ht,hz⟩,hs⟩:=R.dep k r (λt s=>v (b t) (e s)) lt;exact hz (q7N R hb hv he z hs t ht)
end
end rk
end
noncomputable section
namespace rk
variable {α β:Type}
def alt(f:α->List α->Int):List α->Int
 | []=>0
 | c::cs=>f c cs - alt (λd ds=>f d (c::ds)) cs
theorem N1:∀{cs:List α},(∀d ds,ds.length+1=cs.length->f d ds=g d ds)->alt f cs=alt g cs
 | [],_=>rfl
 | c::cs,h=>by unfold alt;rw[h c cs rfl,N1 (cs:=cs) λd ds hd=>h d (c::ds) (by rw[m4,m4];omega)]
theorem z0T:∀{cs:List α},alt (λd ds=>f d ds+g d ds) cs=alt f cs+alt g cs
 | []=>rfl
 | c::cs=>by unfold alt;rw[z0T];omega
theorem q5L:∀{cs:List α},alt (λd ds=>f d ds - g d ds) cs=alt f cs - alt g cs
 | []=>rfl
 | c::cs=>by unfold alt;rw[q5L];omega
theorem Z0(t:Int):∀{cs:List α},alt (λd ds=>t*f d ds) cs=t*alt f cs
 | []=>by unfold alt;omega
 | c::cs=>by unfold alt;rw[Z0 t,w21]
theorem q5P:∀{cs:List α},alt (λ_ _=>0) cs=0
 | []=>rfl
 | c::cs=>by unfold alt;rw[q5P];rfl
theorem q8c{F:α->List α->β->List β->Int}:∀{cs:List α} {rs:List β},alt (λd ds=>alt (λs ss=>F d ds s ss) rs) cs=alt (λs ss=>alt (λd ds=>F d ds s ss) cs) rs
 | [],rs=>by show 0=alt (λs ss=>0) rs;rw[q5P]
 | c::cs,rs=>by show alt (λs ss=>F c cs s ss) rs - alt (λd ds=>alt (λs ss=>F d (c::ds) s ss) rs) cs=alt (λs ss=>F c cs s ss - alt (λd ds=>F d (c::ds) s ss) cs) rs;rw[q5L,q8c (cs:=cs)]
theorem q9o(h:β->α):∀{l:List β},alt f (l.map h)=alt (λb bs=>f (h b) (bs.map h)) l
 | []=>rfl
 | b::l=>by show f (h b) (l.map h) - alt (λd ds=>f d (h b::ds)) (l.map h)=f (h b) (l.map h) - alt (λd ds=>f (h d) ((b::ds).map h)) l;rw[q9o h (l:=l)];rfl
theorem q7A{F:α->α->List α->Int}:∀{cs:List α},alt (λd ds=>alt (λd' ds'=>F d d' ds') ds) cs = - alt (λd ds=>alt (λd' ds'=>F d' d ds') ds) cs
 | []=>rfl
 | c::cs=>by show alt (λd' ds'=>F c d' ds') cs - alt (λd ds=>F d c ds - alt (λd' ds'=>F d d' (c::ds')) ds) cs = - (alt (λd' ds'=>F d' c ds') cs - alt (λd ds=>F c d ds - alt (λd' ds'=>F d' d (c::ds')) ds) cs);rw[q5L,q5L,q7A (F:=λd d' ds'=>F d d' (c::ds')) (cs:=cs)];exact(by intro p q r;omega:∀p q r:Int,p - (q - -r) = -(q - (p - r))) _ _ _
abbrev Rw:=Nat->Int
def dt:List Rw->List Nat->Int
 | [],_=>1
 | r::rs,cs=>alt (λd ds=>r d*dt rs ds) cs
def et:List Rw->List Nat->Int
 | _,[]=>1
 | rs,c::cs=>alt (λs ss=>s c*et ss cs) rs
theorem q8L:∀(n:Nat) (rs:List Rw) (cs:List Nat),rs.length=n->cs.length=n->dt rs cs=et rs cs
 | 0,rs,cs,h1,h2=>by rw[W1.mp h1,W1.mp h2];rfl
 | n+1,r::rs,c::cs,h1,h2=>by
  have l1:rs.length=n:=w2z h1;have l2:cs.length=n:=w2z h2;show r c*dt rs cs - alt (λd ds=>r d*dt rs (c::ds)) cs=r c*et rs cs - alt (λs ss=>s c*et (r::ss) cs) rs;rw[q8L n rs cs l1 l2];have e1:alt (λd ds=>r d*dt rs (c::ds)) cs=alt (λd ds=>alt (λs ss=>r d*(s c*dt ss ds)) rs) cs:=N1 λd ds hd=>by
   rw[q8L n rs (c::ds) l1 (by rw[m4];omega)];show r d*alt (λs ss=>s c*et ss ds) rs=_;rw[←Z0];refine N1 λs ss hs=>?_
   obtain⟨m,rfl⟩:∃m,n=m+1:=⟨n - 1,by omega⟩;rw[q8L m ss ds (by omega) (by omega)]
  have e2:alt (λs ss=>s c*et (r::ss) cs) rs=alt (λs ss=>alt (λd ds=>r d*(s c*dt ss ds)) cs) rs:=N1 λs ss hs=>by
   rw[←q8L n (r::ss) cs (by rw[m4];omega) l2];show s c*alt (λd ds=>r d*dt ss ds) cs=_;rw[←Z0];exact N1 λd ds hd=>by rw[U0]
  rw[e1,e2,q8c]
 | n+1,[],cs,h1,h2=>by cases h1
 | n+1,r::rs,[],h1,h2=>by cases h2
theorem q6q(h:∀cs,dt P cs=t*dt Q cs):∀(A:List Rw) (cs:List Nat),dt (A++P) cs=t*dt (A++Q) cs
 | [],cs=>h cs
 | a::A,cs=>by
  show alt (λd ds=>a d*dt (A++P) ds) cs=t*alt (λd ds=>a d*dt (A++Q) ds) cs;rw[←Z0];exact N1 λd ds _=>by rw[q6q h A ds,U0]
theorem z3D(a b:Rw)(C:List Rw)(cs:List Nat):dt (a::b::C) cs = -1*dt (b::a::C) cs:=by
 show alt (λd ds=>a d*alt (λd' ds'=>b d'*dt C ds') ds) cs = -1*alt (λd ds=>b d*alt (λd' ds'=>a d'*dt C ds') ds) cs;have e1:alt (λd ds=>a d*alt (λd' ds'=>b d'*dt C ds') ds) cs=alt (λd ds=>alt (λd' ds'=>a d*(b d'*dt C ds')) ds) cs:=N1 λd ds _=>by rw[Z0]
 have e2:alt (λd ds=>b d*alt (λd' ds'=>a d'*dt C ds') ds) cs=alt (λd ds=>alt (λd' ds'=>a d'*(b d*dt C ds')) ds) cs:=N1 λd ds _=>by
  rw[←Z0];exact N1 λd' ds' _=>by rw[U0]
 rw[e1,e2,q7A];omega
theorem q3H(a:Rw):∀(B C:List Rw) (cs:List Nat),dt (a::(B++C)) cs=(-1)^B.length*dt (B++a::C) cs
 | [],C,cs=>by show dt (a::C) cs=1*dt (a::C) cs;rw[D1]
 | b::B,C,cs=>by
  show dt (a::b::(B++C)) cs=(-1)^(B.length+1)*dt ([b]++(B++a::C)) cs;rw[z3D,show b::a::(B++C)=[b]++(a::(B++C))from rfl,q6q (q3H a B C) [b] cs,w4a,←p4]
  congr 1
  rw[A0]
theorem z3K(n:Nat):((-1:Int)^n)*(-1)^n=1:=by
 induction n with
 | zero=>rfl
 | succ n ih=>
  rw[w4a,A0 _ (-1),p4,A0 ((-1:Int)^n),←p4,←p4];show(-1 * -1*(-1)^n)*(-1)^n=1;rw[show(-1:Int) * -1=1 from rfl,D1,ih]
theorem z6H(A B C:List Rw)(x y:Rw)(cs:List Nat):dt (A++y::(B++x::C)) cs = - dt (A++x::(B++y::C)) cs:=by
 have h:∀cs,dt (y::(B++x::C)) cs = -1*dt (x::(B++y::C)) cs:=λcs=>by rw[q3H y B (x::C) cs,q3H x B (y::C) cs,q6q (z3D y x C) B cs,←p4,←p4,A0 ((-1)^B.length) (-1)]
 rw[q6q h A cs];omega
theorem z2F(A C:List Rw)(x:Rw)(t:Int)(cs:List Nat):dt (A++(λc=>t*x c)::C) cs=t*dt (A++x::C) cs:=by
 refine q6q (λcs=>?_) A cs;show alt (λd ds=>t*x d*dt C ds) cs=t*alt (λd ds=>x d*dt C ds) cs;rw[←Z0];exact N1 λd ds _=>by rw[p4]
end rk
end
noncomputable section
namespace rk
def comb:List Int->List Rw->Rw
 | a::z,r::rs=>λc=>a*r c+comb z rs c
 | _,_=>λ_=>0
theorem q4o(z:List Int):comb z []=λ_=>0:=by cases z<;>rfl
theorem q3u:∀(z:List Int) (rs:List Rw) (z':List Int) (rs':List Rw) (c:Nat),z.length=rs.length->comb (z++z') (rs++rs') c=comb z rs c+comb z' rs' c
 | [],[],z',rs',c,_=>by show comb z' rs' c=0+comb z' rs' c;rw[U4]
 | a::z,r::rs,z',rs',c,h=>by show a*r c+comb (z++z') (rs++rs') c=a*r c+comb z rs c+comb z' rs' c;rw[q3u z rs z' rs' c (w2z h),Int.add_assoc]
theorem q7v(x y:Rw)(C:List Rw)(cs:List Nat):dt ((λc=>x c+y c)::C) cs=dt (x::C) cs+dt (y::C) cs:=by
 show alt (λd ds=>(x d+y d)*dt C ds) cs=alt (λd ds=>x d*dt C ds) cs+alt (λd ds=>y d*dt C ds) cs;rw[←z0T];exact N1 λd ds _=>by rw[w22]
theorem q2O(x:Rw)(t:Int)(C:List Rw)(cs:List Nat):dt ((λc=>t*x c)::C) cs=t*dt (x::C) cs:=z2F [] C x t cs
theorem z1s(C:List Rw)(cs:List Nat):dt ((λ_=>0)::C) cs=0:=by
 show alt (λd ds=>0*dt C ds) cs=0;rw[N1 (g:=λ_ _=>0) λd ds _=>by rw[K5]];exact q5P
theorem z3W(h:x∈C)(cs:List Nat):dt (x::C) cs=0:=by
 obtain⟨B,D,rfl⟩:=List.append_of_mem h;have:=z6H [] B D x x cs;have e:dt (x::(B++x::D)) cs = - dt (x::(B++x::D)) cs:=this;omega
theorem q9R:∀(z:List Int) (B:List Rw) {C:List Rw} (cs:List Nat),(∀r∈B,r∈C)->dt (comb z B::C) cs=0
 | z,[],C,cs,_=>by rw[q4o];exact z1s C cs
 | [],r::B,C,cs,_=>z1s C cs
 | a::z,r::B,C,cs,h=>by show dt ((λc=>(λc=>a*r c) c+comb z B c)::C) cs=0;rw[q7v (λc=>a*r c) (comb z B),q2O,z3W (h r j5),q9R z B cs λq hq=>h q (i6 _ hq)];rw[G5];rfl
section
variable {P:Int->Prop} (R:Pr P)
include R
theorem z7t:∀{cs:List α} {f:α->List α->Int},(∀d∈cs,∀ds,P (f d ds))->P (alt f cs):=by
 intro cs
 induction cs with
 | nil=>intro f _;exact R.zero
 | cons c cs ih=>
  intro f h;exact R.sub (h c j5 cs) (ih λd hd ds=>h d (i6 _ hd) (c::ds))
theorem fr_P(h:∀c∈cs,P (x c)):P (dt (x::C) cs):=z7t R λd hd ds=>R.mulr _ (h d hd)
theorem y1D:P (dt (A++x::C) cs)↔P (dt (x::(A++C)) cs):=by
 constructor
 ·intro h;rw[q3H];exact R.mul _ h
 ·intro h;rw[q3H]at h;have:=R.mul ((-1)^A.length) h;rw[←p4,z3K,D1]at this;exact this
def Dpd(P:Int->Prop)(rs:List Rw)(cs:List Nat):Prop:=∃z:List Int,z.length=rs.length/\(∃a∈z,¬P a)/\∀c∈cs,P (comb z rs c)
end
theorem q7S(f:Nat->Int):∀n,sm f (n+1)=f 0+sm (λi=>f (i+1)) n
 | 0=>by show 0+f 0=f 0+0;omega
 | n+1=>by show sm f (n+1)+f (n+1)=f 0+(sm (λi=>f (i+1)) n+f (n+1));rw[q7S f n];omega
theorem z1D(c:Nat):∀(rs:List Rw) (z:Nat->Int),comb ((List.range rs.length).map z) rs c=sm (λi=>z i*(rs.getD i λ_=>0) c) rs.length:=by
 intro rs
 induction rs with
 | nil=>intro z;rfl
 | cons r rs ih=>
  intro z;rw[m4,q7S,Z5,p7,j9];show z 0*r c+comb ((List.range rs.length).map λi=>z (i+1)) rs c=_;rw[ih λi=>z (i+1)];rfl
def elim(c:Nat)(x y:Rw):Rw:=λd=>x c*y d + -(y c)*x d
theorem z6n(c:Nat)(x y:Rw):elim c x y c=0:=by
 show x c*y c + -(y c)*x c=0;rw[A0 (x c),←w22,Int.add_right_neg,K5]
theorem z0J(B D:List Rw)(y:Rw)(cs:List Nat):dt (B++y::D) cs=(-1)^B.length*dt (y::(B++D)) cs:=by
 rw[q3H,←p4,z3K,D1]
theorem z2i(c:Nat)(x y:Rw)(B D:List Rw)(cs:List Nat):dt (x::(B++elim c x y::D)) cs=x c*dt (x::(B++y::D)) cs:=by
 have e:∀w,dt (x::(B++w::D)) cs=(-1)^(x::B).length*dt (w::((x::B)++D)) cs:=λw=>z0J (x::B) D w cs;rw[e,e];have e2:dt (elim c x y::((x::B)++D)) cs=x c*dt (y::((x::B)++D)) cs:=by show dt ((λd=>(λd=>x c*y d) d+(λd=>-(y c)*x d) d)::((x::B)++D)) cs=_;rw[q7v (λd=>x c*y d) (λd=>-(y c)*x d),q2O,q2O,z3W (x:=x) (by exact u4 _ j5),G5,X2]
 rw[e2,U0]
theorem z0B(c:Nat)(x:Rw)(cs:List Nat):∀(D B:List Rw),dt (x::(B++D.map (elim c x))) cs=x c^D.length*dt (x::(B++D)) cs
 | [],B=>by show dt (x::(B++[])) cs=x c^0*_;rw[Int.pow_zero,D1]
 | y::D,B=>by have e:=z0B c x cs D (B++[elim c x y]);rw[Q3,Q3]at e;show dt (x::(B++([elim c x y]++D.map (elim c x)))) cs=_;rw[e];show _*dt (x::(B++elim c x y::D)) cs=_;rw[z2i,m4,w4a,p4]
theorem q6m(c:Nat)(x:Rw)(d:Nat):∀(z:List Int) (D:List Rw),comb z (D.map (elim c x)) d=x c*comb z D d + -(comb z D c)*x d
 | z,[]=>by show comb z [] d=_;rw[q4o];show(0:Int)=x c*0 + -0*x d;rw[G5,Int.neg_zero,K5];rfl
 | [],y::D=>by show(0:Int)=x c*0 + -0*x d;rw[G5,Int.neg_zero,K5];rfl
 | a::z,y::D=>by
  show a*(x c*y d + -(y c)*x d)+comb z (D.map (elim c x)) d=x c*(a*y d+comb z D d) + -(a*y c+comb z D c)*x d;rw[q6m c x d z D,X3,X3,Int.neg_add,w22];have e1:a*(x c*y d)=x c*(a*y d):=U0 ..;have e2:a*(-(y c)*x d) = -(a*y c)*x d:=by rw[←p4,Int.mul_neg]
  rw[e1,e2];omega
theorem q3D(t:Int)(d:Nat):∀(z:List Int) (D:List Rw),comb (z.map (t * ·)) D d=t*comb z D d
 | z,[]=>by rw[q4o,q4o,G5]
 | [],y::D=>by show(0:Int)=t*0;rw[G5]
 | a::z,y::D=>by show t*a*y d+comb (z.map (t * ·)) D d=t*(a*y d+comb z D d);rw[q3D t d z D,X3,p4]
section
variable {P:Int->Prop} (R:Pr P)
include R
theorem z8v:∀(k:Nat) (rs:List Rw) (cs:List Nat),rs.length=k->cs.length=k->P (dt rs cs)->Dpd P rs cs:=by
 intro k
 induction k with
 | zero=>
  intro rs cs h1 h2 h;rw[W1.mp h1]at h;exact absurd h R.one
 | succ k ih=>
  intro rs cs h1 h2 h;obtain⟨c,cs',rfl⟩:∃c cs',cs=c::cs':=by
   cases cs with
   | nil=>cases h2
   | cons c cs'=>exact⟨c,cs',rfl⟩
  have l2:cs'.length=k:=w2z h2;by_cases q:∀r∈rs,P (r c)
  ·obtain⟨z,⟨i,hi,hz⟩,hs⟩:=R.dep k rs.length (λi j=>(rs.getD i λ_=>0) (cs'.getD j 0)) (by omega);refine⟨(List.range rs.length).map z,by rw[d8,A8],⟨z i,o7.mpr ⟨i,p0.mpr hi,rfl⟩,hz⟩,λd hd=>?_⟩;rw[z1D];rcases f9.mp hd with e | hd
   ·subst e;refine R.sum λi hi=>R.mul _ ?_
    rw[i7,j3 hi];exact q _ (F6 hi)
   ·obtain⟨j,hj,e⟩:=W3 hd;have:=hs j (by omega);rw[i7 (l:=cs'),j3 hj]at this;rw[←e];exact this
  ·obtain⟨x,hx,nx⟩:∃x,x∈rs/\¬P (x c):=by
    refine w10 λn=>q λr hr=>w10 λm=>n ⟨r,hr,m⟩
   obtain⟨A,C,rfl⟩:=List.append_of_mem hx;have l1:(A++C).length=k:=by rw[C5]at h1 ⊢;rw[m4]at h1;omega
   have h3:P (dt (x::(A++C)) (c::cs')):=(y1D R).mp h;have e:=z0B c x (c::cs') (A++C) [];have h4:P (dt (x::(A++C).map (elim c x)) (c::cs')):=(by show P (dt (x::([]++(A++C).map (elim c x))) (c::cs'));rw[e];exact R.mul _ h3);have l3:((A++C).map (elim c x)).length=k:=by rw[d8];exact l1
   have e5:dt (x::(A++C).map (elim c x)) (c::cs')=x c*dt ((A++C).map (elim c x)) cs':=by
    rw[q8L (k+1) _ _ (by rw[m4,l3]) (by rw[m4,l2])];show x c*et ((A++C).map (elim c x)) cs' - alt (λs ss=>s c*et (x::ss) cs') ((A++C).map (elim c x))=_;have z:alt (λs ss=>s c*et (x::ss) cs') ((A++C).map (elim c x))=0:=z7t pr0 λs hs ss=>by obtain⟨y,_,rfl⟩:=o7.mp hs;show elim c x y c*_=0;rw[z6n,K5]
    rw[z,Int.sub_zero,←q8L k _ _ l3 l2]
   rw[e5]at h4;have h6:P (dt ((A++C).map (elim c x)) cs'):=by
    rcases R.prime h4 with w | w
    ·exact absurd w nx
    ·exact w
   obtain⟨z,lz,⟨a,ha,na⟩,hs⟩:=ih _ cs' l3 l2 h6;rw[l3]at lz;have key:∀d∈c::cs',P (-(comb z (A++C) c)*x d+x c*comb z (A++C) d):=λd hd=>by
    rcases f9.mp hd with e | hd
    ·subst e;rw[A0 (x d),←w22,Int.add_left_neg,K5];exact R.zero
    ·have:=hs d hd;rw[q6m,Int.add_comm]at this;exact this
   have lA:((z.take A.length).map (x c * ·)).length=A.length:=(by rw[d8,Q4,lz,←l1,C5];omega);have lA':(z.take A.length).length=A.length:=by rw[d8]at lA;exact lA
   refine⟨(z.take A.length).map (x c * ·) ++ -(comb z (A++C) c)::(z.drop A.length).map (x c * ·),?_,⟨x c*a,?_,λw=>?_⟩,λd hd=>?_⟩
   ·rw[C5,lA,m4,d8,w12,lz,C5,m4];rw[C5]at l1;omega
   ·have:a∈z.take A.length++z.drop A.length:=by rw[w32];exact ha
    rcases y0.mp this with w | w
    ·exact u4 _ (o7.mpr ⟨a,w,rfl⟩)
    ·exact u7 _ (i6 _ (o7.mpr ⟨a,w,rfl⟩))
   ·rcases R.prime w with w | w
    ·exact nx w
    ·exact na w
   ·have q:=key d hd;rw[q3u _ _ _ _ d lA];show P (comb ((z.take A.length).map (x c * ·)) A d+(-(comb z (A++C) c)*x d+comb ((z.drop A.length).map (x c * ·)) C d));rw[q3D,q3D];have e7:comb z (A++C) d=comb (z.take A.length) A d+comb (z.drop A.length) C d:=(by rw[←q3u _ _ _ _ d lA',w32]);rw[e7,X3]at q;have e8:∀p q r:Int,p+(q+r)=q+(p+r):=by intro p q r;omega
    rw[e8];exact q
end
end rk
end
noncomputable section
namespace rk
def stz(q:Nat×Rw)(x:Rw):Rw:=λj=>x j*q.2 q.1 - x q.1*q.2 j
def rz(K:List (Nat×Rw))(x:Rw):Rw:=K.foldl (λx q=>stz q x) x
theorem z6F(q:Nat×Rw)(K:List (Nat×Rw))(x:Rw):rz (q::K) x=rz K (stz q x):=rfl
theorem z3P(q:Nat×Rw)(K:List (Nat×Rw))(x:Rw):rz (K++[q]) x=stz q (rz K x):=by unfold rz;rw[List.foldl_append];rfl
theorem z5R(q:Nat×Rw)(c:Nat->Int)(v:Nat->Rw)(n:Nat):stz q (λj=>sm (λi=>c i*v i j) n)=λj=>sm (λi=>c i*stz q (v i) j) n:=by
 funext j
 show sm (λi=>c i*v i j) n*q.2 q.1 - sm (λi=>c i*v i q.1) n*q.2 j=sm (λi=>c i*(v i j*q.2 q.1 - v i q.1*q.2 j)) n;rw[A0,←sm_mul (q.2 q.1) (λi=>c i*v i j),A0 (sm _ _),←sm_mul (q.2 j) (λi=>c i*v i q.1),←q7W];refine sm_congr λi _=>?_
 rw[w21,U0,A0 (q.2 q.1),U0 (q.2 j),A0 (q.2 j)]
theorem z8A(K:List (Nat×Rw)):∀(c:Nat->Int) (v:Nat->Rw) (n:Nat),rz K (λj=>sm (λi=>c i*v i j) n)=λj=>sm (λi=>c i*rz K (v i) j) n:=by
 induction K with
 | nil=>intro c v n;rfl
 | cons q K ih=>
  intro c v n;rw[z6F,z5R,ih];rfl
def Nil(m:Nat)(x:Rw):Prop:=∀j,j<m->x j=0
theorem q9d(hq:q.1<m)(h:Nil m x):Nil m (stz q x):=λj hj=>by
 show x j*_ - x q.1*_=0;rw[h j hj,h q.1 hq,K5,K5];rfl
theorem z3b:Nil m (stz q q.2):=λj _=>by
 show q.2 j*q.2 q.1 - q.2 q.1*q.2 j=0;rw[A0,Int.sub_self]
def ld(m:Nat)(x:Rw):Nat:=((List.range m).find? λj=>decide (x j≠0)).getD 0
theorem ld_ok(h:¬Nil m x):ld m x<m/\x (ld m x)≠0:=by
 cases q:(List.range m).find? λj=>decide (x j≠0)with
 | none=>
  refine absurd (λj hj=>?_) h;have:=w3b.mp q j (p0.mpr hj);simpa using this
 | some j=>
  have e:ld m x=j:=by unfold ld;rw[q];rfl
  rw[e];refine⟨p0.mp (w3o q),?_⟩;have:=List.find?_some q;simpa using this
instance (m:Nat) (x:Rw):Decidable (Nil m x):=inferInstanceAs (Decidable (∀j,j<m->x j=0))
def kz(v:Nat->Rw)(m:Nat):Nat->List (Nat×(Nat×Rw))
 | 0=>[]
 | n+1=>
  let y:=rz ((kz v m n).map (·.2)) (v n)
  if Nil m y then kz v m n else kz v m n++[(n,(ld m y,y))]
def rkz(v:Nat->Rw)(m n:Nat)(x:Rw):Rw:=rz ((kz v m n).map (·.2)) x
def bz(v:Nat->Rw)(m n:Nat):List Nat:=(kz v m n).map (·.1)
theorem kz_succ(v:Nat->Rw)(m n:Nat):kz v m (n+1)=if Nil m (rkz v m n (v n))then kz v m n else kz v m n++[(n,(ld m (rkz v m n (v n)),rkz v m n (v n)))]:=rfl
theorem q4I(v:Nat->Rw)(m n:Nat):bz v m (n+1)=if Nil m (rkz v m n (v n))then bz v m n else bz v m n++[n]:=by
 unfold bz;rw[kz_succ];split
 ·rfl
 ·rw[E4];rfl
structure Kz(v:Nat->Rw)(m n:Nat):Prop where
 ld:∀q∈kz v m n,q.2.1<m/\q.2.2 q.2.1≠0
 all:∀i,i<n->Nil m (rkz v m n (v i))
 lt:∀i∈bz v m n,i<n
 up:(bz v m n).Pairwise (· < ·)
theorem q8K(v:Nat->Rw)(m:Nat):∀n,Kz v m n
 | 0=>⟨λq h=>absurd h (by simp[kz]),λi h=>absurd h (w2c i),λi h=>absurd h (by simp[bz,kz]),.nil⟩
 | n+1=>by
  have I:=q8K v m n;by_cases z:Nil m (rkz v m n (v n))
  ·have e:kz v m (n+1)=kz v m n:=by rw[kz_succ,d4 z]
   have eb:bz v m (n+1)=bz v m n:=by unfold bz;rw[e]
   have er:∀x,rkz v m (n+1) x=rkz v m n x:=λx=>by unfold rkz;rw[e]
   refine⟨by rw[e];exact I.ld,λi hi=>?_,λi hi=>?_,by rw[eb];exact I.up⟩
   ·rw[er];by_cases q:i<n
    ·exact I.all i q
    ·have:i=n:=by omega
     subst this;exact z
   ·rw[eb]at hi;have:=I.lt i hi;omega
  ·have e:kz v m (n+1)=kz v m n++[(n,(rk.ld m (rkz v m n (v n)),rkz v m n (v n)))]:=by rw[kz_succ,d5 z]
   have eb:bz v m (n+1)=bz v m n++[n]:=by rw[q4I,d5 z]
   have er:∀x,rkz v m (n+1) x=stz (rk.ld m (rkz v m n (v n)),rkz v m n (v n)) (rkz v m n x):=λx=>by unfold rkz;rw[e,E4];exact z3P ..
   refine⟨λq hq=>?_,λi hi=>?_,λi hi=>?_,?_⟩
   ·rw[e]at hq;rcases y0.mp hq with w | w
    ·exact I.ld q w
    ·have:=D0.mp w;subst this;exact ld_ok z
   ·rw[er];by_cases q:i<n
    ·exact q9d (ld_ok z).1 (I.all i q)
    ·have:i=n:=by omega
     subst this;exact z3b (q:=(rk.ld m (rkz v m i (v i)),rkz v m i (v i)))
   ·rw[eb]at hi;rcases y0.mp hi with w | w
    ·have:=I.lt i w;omega
    ·have:=D0.mp w;omega
   ·rw[eb,List.pairwise_append];exact⟨I.up,List.pairwise_singleton ..,λa ha b hb=>by
     have:=D0.mp hb;subst this;exact I.lt a ha⟩
theorem z3y(v:Nat->Rw)(m:Nat):∀n,Ind P0 (λt=>v ((bz v m n).getD t 0)) (bz v m n).length m
 | 0=>λc _ i hi=>absurd hi (w2c i)
 | n+1=>by
  have I:=z3y v m n;have K:=q8K v m n;by_cases z:Nil m (rkz v m n (v n))
  ·rw[q4I,d4 z];exact I
  ·rw[q4I,d5 z];intro c hs;have lo:∀t,t<(bz v m n).length->(bz v m n++[n]).getD t 0=(bz v m n).getD t 0:=λt ht=>by rw[i7,i7,M1 ht]
   have hi:(bz v m n++[n]).getD (bz v m n).length 0=n:=(by rw[i7,P7 (j2 _),w4b];rfl);have hs':∀j,j<m->sm (λt=>c t*v ((bz v m n).getD t 0) j) (bz v m n).length+c (bz v m n).length*v n j=0:=λj hj=>by have:=hs j hj;rw[C5,T9]at this;have q:sm (λt=>c t*v ((bz v m n++[n]).getD t 0) j) (bz v m n).length+c (bz v m n).length*v ((bz v m n++[n]).getD (bz v m n).length 0) j=0:=this;rw[hi,sm_congr (g:=λt=>c t*v ((bz v m n).getD t 0) j) λt ht=>by rw[lo t ht]]at q;exact q
   have last:c (bz v m n).length=0:=by
    have e1:Nil m (rkz v m n λj=>sm (λt=>c t*v (if t<(bz v m n).length then(bz v m n).getD t 0 else n) j) ((bz v m n).length+1)):=by
     have:Nil m (λj=>sm (λt=>c t*v (if t<(bz v m n).length then(bz v m n).getD t 0 else n) j) ((bz v m n).length+1)):=λj hj=>by show sm _ (bz v m n).length+c (bz v m n).length*v (if(bz v m n).length<(bz v m n).length then _ else n) j=0;rw[d5 (M5 _),sm_congr (g:=λt=>c t*v ((bz v m n).getD t 0) j) λt ht=>by rw[d4 ht]];exact hs' j hj
     have gen:∀(K:List (Nat×Rw)) (x:Rw),(∀q∈K,q.1<m)->Nil m x->Nil m (rz K x):=by
      intro K
      induction K with
      | nil=>intro x _ h;exact h
      | cons q K ih=>intro x hq h;exact ih _ (λr hr=>hq r (i6 _ hr)) (q9d (hq q j5) h)
     exact gen _ _ (λq hq=>by
      obtain⟨q',h1,rfl⟩:=o7.mp hq;exact(K.ld q' h1).1) this
    have e2:=z8A ((kz v m n).map (·.2)) c (λt=>v (if t<(bz v m n).length then(bz v m n).getD t 0 else n)) ((bz v m n).length+1);have e3:∀j,j<m->c (bz v m n).length*rkz v m n (v n) j=0:=λj hj=>by
     have:=e1 j hj;unfold rkz at this;rw[e2]at this;have q:sm (λt=>c t*rz ((kz v m n).map (·.2)) (v (if t<(bz v m n).length then(bz v m n).getD t 0 else n)) j) (bz v m n).length+c (bz v m n).length*rz ((kz v m n).map (·.2)) (v (if(bz v m n).length<(bz v m n).length then(bz v m n).getD (bz v m n).length 0 else n)) j=0:=this;rw[d5 (M5 _),q4S λt ht=>?_,U4]at q
     ·exact q
     ·rw[d4 ht];have hb:(bz v m n).getD t 0∈bz v m n:=by rw[i7,j3 ht];exact F6 ht
      have:=K.all _ (K.lt _ hb) j hj;unfold rkz at this;rw[this,G5]
    have p:=ld_ok z;rcases w3Q.mp (e3 _ p.1)with w | w
    ·exact w
    ·exact absurd w p.2
   intro i hi';rw[C5,T9]at hi';by_cases q:i<(bz v m n).length
   ·refine I c (λj hj=>?_) i q;have:=hs' j hj;rw[last,K5,X2]at this;exact this
   ·have:i=(bz v m n).length:=by omega
    rw[this];exact last
theorem z6g(ht:t<l.length):(l++[n]).getD t 0=l.getD t 0:=by
 rw[i7,i7,M1 ht]
theorem z6S:(l++[n]).getD l.length 0=n:=by
 rw[i7,P7 (j2 _),w4b];rfl
theorem y0G(c:Nat->Int)(v:Nat->Rw)(j:Nat):sm (λt=>c t*v ((l++[n]).getD t 0) j) (l++[n]).length=sm (λt=>c t*v (l.getD t 0) j) l.length+c l.length*v n j:=by
 rw[C5,T9];show sm (λt=>c t*v ((l++[n]).getD t 0) j) l.length+c l.length*v ((l++[n]).getD l.length 0) j=_;rw[z6S,sm_congr (g:=λt=>c t*v (l.getD t 0) j) λt ht=>by rw[z6g ht]]
theorem q5U(v:Nat->Rw)(m:Nat):∀(n:Nat) (x:Rw),∃(D:Int) (b:Nat->Int),D≠0/\∀j,rkz v m n x j=D*x j - sm (λt=>b t*v ((bz v m n).getD t 0) j) (bz v m n).length
 | 0,x=>⟨1,λ_=>0,by decide,λj=>by show x j=1*x j - 0;omega⟩
 | n+1,x=>by
  by_cases z:Nil m (rkz v m n (v n))
  ·have e:kz v m (n+1)=kz v m n:=by rw[kz_succ,d4 z]
   obtain⟨D,b,hD,h⟩:=q5U v m n x;refine⟨D,b,hD,λj=>?_⟩;unfold rkz bz;rw[e];exact h j
  ·have e:kz v m (n+1)=kz v m n++[(n,(rk.ld m (rkz v m n (v n)),rkz v m n (v n)))]:=by rw[kz_succ,d5 z]
   have er:rkz v m (n+1) x=stz (rk.ld m (rkz v m n (v n)),rkz v m n (v n)) (rkz v m n x):=by unfold rkz;rw[e,E4];exact z3P ..
   obtain⟨D,b,hD,h⟩:=q5U v m n x;obtain⟨D',b',hD',h'⟩:=q5U v m n (v n);obtain⟨p,hp⟩:∃p,rk.ld m (rkz v m n (v n))=p:=⟨_,rfl⟩;have hy:=(ld_ok z).2;rw[hp]at er hy;obtain⟨Y,hY⟩:∃Y,rkz v m n (v n) p=Y:=⟨_,rfl⟩;obtain⟨U,hU⟩:∃U,rkz v m n x p=U:=⟨_,rfl⟩;rw[hY]at hy;refine⟨Y*D,λt=>if t<(bz v m n).length then Y*b t - U*b' t else U*D',Int.mul_ne_zero hy hD,λj=>?_⟩;rw[er];show rkz v m n x j*rkz v m n (v n) p - rkz v m n x p*rkz v m n (v n) j=_;rw[hY,hU,h j,h' j,q4I,d5 z,y0G,d5 (M5 _)];have e9:sm (λt=>(if t<(bz v m n).length then Y*b t - U*b' t else U*D')*v ((bz v m n).getD t 0) j) (bz v m n).length=Y*sm (λt=>b t*v ((bz v m n).getD t 0) j) (bz v m n).length - U*sm (λt=>b' t*v ((bz v m n).getD t 0) j) (bz v m n).length:=by
    rw[←sm_mul Y (λt=>b t*v ((bz v m n).getD t 0) j),←sm_mul U (λt=>b' t*v ((bz v m n).getD t 0) j),←q7W];exact sm_congr λt ht=>by rw[d4 ht,Int.sub_mul,p4,p4]
   rw[e9];obtain⟨S,hS⟩:∃S,sm (λt=>b t*v ((bz v m n).getD t 0) j) (bz v m n).length=S:=⟨_,rfl⟩;obtain⟨S',hS'⟩:∃S',sm (λt=>b' t*v ((bz v m n).getD t 0) j) (bz v m n).length=S':=⟨_,rfl⟩;rw[hS,hS',Int.sub_mul,w21,A0 (D*x j),A0 S,←p4,←p4 U];omega
theorem z8V(v:Nat->Rw)(m n i:Nat)(hi:i<n):InSp P0 (λs=>v ((bz v m n).getD s 0)) (bz v m n).length m (v i):=by
 obtain⟨D,b,hD,h⟩:=q5U v m n (v i);exact⟨D,b,hD,λj hj=>by rw[←h j];exact(q8K v m n).all i hi j hj⟩
structure Bas(P:Int->Prop)(v:Nat->Rw)(n m:Nat)(b:List Nat):Prop where
 lt:∀i∈b,i<n
 up:b.Pairwise (· < ·)
 ind:Ind P (λt=>v (b.getD t 0)) b.length m
 sp:∀i,i<n->InSp P (λs=>v (b.getD s 0)) b.length m (v i)
theorem bas0(v:Nat->Rw)(n m:Nat):Bas P0 v n m (bz v m n):=⟨(q8K v m n).lt,(q8K v m n).up,z3y v m n,λi hi=>z8V v m n i hi⟩
section
variable {P:Int->Prop} (R:Pr P)
include R
theorem Bas.at(B:Bas P v n m b):∀t,t<b.length->b.getD t 0<n:=λt ht=>B.lt _ (by
 rw[i7,j3 ht];exact F6 ht)
theorem Bas.len(B:Bas P v n m b)(C:Bas P (λj i=>v i j) m n e):b.length=e.length:=by
 apply Nat.le_antisymm
 ·exact cols R (v:=v) (b:=λt=>b.getD t 0) (e:=λs=>e.getD s 0) (B.at R) B.ind λj hj=>C.sp j hj
 ·exact cols R (v:=λj i=>v i j) (b:=λt=>e.getD t 0) (e:=λs=>b.getD s 0) (C.at R) C.ind λj hj=>B.sp j hj
theorem q6n{v:Nat->Rw}{b:List Nat}{z:List Int}(hz:z.length=b.length)(c:Nat):comb z (b.map v) c=sm (λt=>z.getD t 0*v (b.getD t 0) c) b.length:=by
 have hz':z=(List.range (b.map v).length).map λt=>z.getD t 0:=by
  apply w2K
  ·rw[d8,A8,d8,hz]
  ·intro i h1 h2;rw[w2L,w3c,i7,j3 h1];rfl
 rw[hz',z1D,d8];refine sm_congr λt ht=>?_
 rw[←d8 (f:=v),←hz']
 congr 1
 rw[i7,i7,m9,j3 ht];rfl
theorem Bas.det(B:Bas P v n m b)(C:Bas P (λj i=>v i j) m n e):¬P (dt (b.map v) e):=by
 intro h;obtain⟨z,hl,⟨a,ha,na⟩,hs⟩:=z8v R b.length (b.map v) e (by rw[d8]) (B.len R C).symm h;rw[d8]at hl;have I:=q7N R (v:=v) (b:=λt=>b.getD t 0) (e:=λs=>e.getD s 0) (n:=n) (m:=m) (k:=e.length) (B.at R) B.ind (λj hj=>C.sp j hj);obtain⟨t,ht,et⟩:=W3 ha;have q:=I (λt=>z.getD t 0) (λs hs'=>?_) t (by omega)
 ·rw[i7,j3 ht]at q;rw[←et]at na;exact na q
 ·have:=hs (e.getD s 0) (by rw[i7,j3 hs'];exact F6 hs');rw[q6n R hl]at this;exact this
end
end rk
end
noncomputable section
namespace rk
theorem fr0(h:∀c∈cs,x c=0):dt (x::C) cs=0:=fr_P pr0 (P:=P0) h
theorem cram(hA:zA.length=A.length)(h:∀c∈cs,d*x c=comb (zA++w::zC) (A++y::C) c):d*dt (A++x::C) cs=w*dt (A++y::C) cs:=by
 rw[z0J,z0J];have e0:dt ((λc=>d*x c+((-w)*y c+(-1)*comb (zA++zC) (A++C) c))::(A++C)) cs=0:=fr0 λc hc=>by rw[h c hc,q3u _ _ _ _ _ hA,q3u _ _ _ _ _ hA];show comb zA A c+(w*y c+comb zC C c)+(-w*y c + -1*(comb zA A c+comb zC C c))=0;have : -w*y c = -(w*y c):=w2I ..;omega
 rw[q7v (λc=>d*x c) (λc=>(-w)*y c+(-1)*comb (zA++zC) (A++C) c),q7v (λc=>(-w)*y c) (λc=>(-1)*comb (zA++zC) (A++C) c),q2O,q2O,q2O,q9R _ _ _ (λr h=>h),G5,X2,w2I]at e0;have e1:d*dt (x::(A++C)) cs=w*dt (y::(A++C)) cs:=by omega
 rw[←p4,A0 d,p4,e1,←p4,←p4,A0 w]
theorem q5H{α:Type}(d:α):∀(l:List α) (s:Nat),s<l.length->l=l.take s++l.getD s d::l.drop (s+1)
 | [],s,h=>absurd h (w2c s)
 | a::l,0,_=>rfl
 | a::l,s+1,h=>by show a::l=a::(l.take s++l.getD s d::l.drop (s+1));rw[←q5H d l s (by simpa using h)]
theorem set_split{α:Type}:∀(l:List α) (s:Nat) (x:α),s<l.length->l.set s x=l.take s++x::l.drop (s+1)
 | [],s,_,h=>absurd h (w2c s)
 | a::l,0,_,_=>rfl
 | a::l,s+1,x,h=>by show a::l.set s x=a::(l.take s++x::l.drop (s+1));rw[set_split l s x (by simpa using h)]
def ds(v:Nat->Rw)(b e:List Nat)(x:Rw)(s:Nat):Int:=dt ((b.map v).set s x) e
theorem z7n{v:Nat->Rw}{b e:List Nat}{x:Rw}{m:Nat}{d:Int}{a:Nat->Int}(he:∀c∈e,c<m)(h:∀j,j<m->d*x j=sm (λt=>a t*v (b.getD t 0) j) b.length){s:Nat}(hs:s<b.length):d*ds v b e x s=a s*dt (b.map v) e:=by
 have hl:((List.range b.length).map a).length=b.length:=by rw[d8,A8]
 have hs':s<(b.map v).length:=by rw[d8];exact hs
 have sp:=q5H (λ_=>0) (b.map v) s hs'
 have sz:=q5H 0 ((List.range b.length).map a) s (by rw[hl];exact hs)
 have ga:((List.range b.length).map a).getD s 0=a s:=by
  rw[i7,m9,w1N hs];rfl
 rw[ga]at sz
 unfold ds
 rw[set_split _ _ _ hs']
 conv=>rhs;rw[sp]
 refine cram (zA:=((List.range b.length).map a).take s) (zC:=((List.range b.length).map a).drop (s+1)) (by rw[Q4,Q4,hl,d8]) λc hc=>?_
 rw[←sz,←sp,q6n pr0 hl,h c (he c hc)]
 refine sm_congr λt ht=>?_
 rw[i7 (l:=List.map a _),m9,w1N ht]
 rfl
theorem z5V(f:Nat->Int)(a:Int)(n:Nat):sm (λi=>f i*a) n=sm f n*a:=by
 rw[A0,←sm_mul];exact sm_congr λi _=>A0 ..
theorem ds_sum(B:Bas P0 v n m b)(he:∀c∈e,c<m)(hi:i<n)(hc:c<m):sm (λs=>ds v b e (v i) s*v (b.getD s 0) c) b.length=dt (b.map v) e*v i c:=by
 obtain⟨d,a,hd,q⟩:=B.sp i hi;have q':∀j,j<m->d*v i j=sm (λt=>a t*v (b.getD t 0) j) b.length:=λj hj=>by have:d*v i j - sm (λs=>a s*v (b.getD s 0) j) b.length=0:=q j hj;omega
 have e1:d*sm (λs=>ds v b e (v i) s*v (b.getD s 0) c) b.length=d*(dt (b.map v) e*v i c):=by
  rw[←sm_mul,A0 (dt _ _),←p4,q' c hc,←z5V];refine sm_congr λs hs=>?_
  rw[←p4,z7n he q' hs,p4,A0 (dt _ _),←p4]
 exact w3r hd e1
theorem q8d(v:Nat->Rw)(m k:Nat):∀n,k<=n->∃r,bz v m n=bz v m k++r/\∀x∈r,k<=x
 | 0,h=>⟨[],by rw[show k=0 by omega,M4],λx h=>by cases h⟩
 | n+1,h=>by
  by_cases z:k=n+1
  ·exact⟨[],by rw[z,M4],λx h=>by cases h⟩
  ·obtain⟨r,e,q⟩:=q8d v m k n (by omega);rw[q4I];split
   ·exact⟨r,e,q⟩
   ·refine⟨r++[n],by rw[e,Q3],λx hx=>?_⟩;rcases y0.mp hx with w | w
    ·exact q x w
    ·rw[D0.mp w];omega
theorem ds_ahead(he:∀c∈e,c<m)(hi:i<n)(hs:s<(bz v m n).length)(h:i<(bz v m n).getD s 0):ds v (bz v m n) e (v i) s=0:=by
 obtain⟨r,er,hr⟩:=q8d v m (i+1) n (by omega);obtain⟨d,a,hd,q⟩:=z8V v m (i+1) i (w3y i);have ls:(bz v m (i+1)).length<=s:=w3t λw=>by rw[er,i7,M1 w,j3 w]at h;have:=(q8K v m (i+1)).lt _ (F6 w);have h':i<(bz v m (i+1))[s]:=h;omega
 have q':∀j,j<m->d*v i j=sm (λt=>(if t<(bz v m (i+1)).length then a t else 0)*v ((bz v m n).getD t 0) j) (bz v m n).length:=λj hj=>by
  have e1:d*v i j - sm (λs=>a s*v ((bz v m (i+1)).getD s 0) j) (bz v m (i+1)).length=0:=q j hj;have e2:∀k,sm (λt=>(if t<(bz v m (i+1)).length then a t else 0)*v ((bz v m n).getD t 0) j) ((bz v m (i+1)).length+k)=sm (λs=>a s*v ((bz v m (i+1)).getD s 0) j) (bz v m (i+1)).length:=λk=>by
   induction k with
   | zero=>
    refine sm_congr λt ht=>?_;have ht:t<(bz v m (i+1)).length:=ht;rw[d4 ht,er,i7,M1 ht,i7]
   | succ k ih=>
    show sm _ ((bz v m (i+1)).length+k)+(if(bz v m (i+1)).length+k<(bz v m (i+1)).length then a ((bz v m (i+1)).length+k)else 0)*v ((bz v m n).getD ((bz v m (i+1)).length+k) 0) j=_;rw[ih,d5 (by omega),K5,X2]
  have e3:=e2 r.length;rw[←C5,←er]at e3;omega
 have:=z7n he q' hs;rw[d5 (by omega),K5]at this;rcases w3Q.mp this with z | z
 ·exact absurd z hd
 ·exact z
theorem ds_own(he:∀c∈e,c<m)(ht:t<b.length)(hs:s<b.length):ds v b e (v (b.getD t 0)) s=if s=t then dt (b.map v) e else 0:=by
 have q:∀j,j<m->1*v (b.getD t 0) j=sm (λu=>(if u=t then 1 else 0)*v (b.getD u 0) j) b.length:=λj _=>by
  have gen:∀n,sm (λu=>(if u=t then 1 else 0)*v (b.getD u 0) j) n=if t<n then v (b.getD t 0) j else 0:=λn=>by
   induction n with
   | zero=>rfl
   | succ n ih=>
    show sm _ n+(if n=t then 1 else 0)*v (b.getD n 0) j=_;rw[ih];by_cases z:n=t
    ·rw[d4 z,z,d5 (by omega),d4 (by omega),D1,U4]
    ·rw[d5 z,K5,X2];by_cases w:t<n
     ·rw[d4 w,d4 (by omega)]
     ·rw[d5 w,d5 (by omega)]
  rw[gen,d4 ht,D1]
 have:=z7n he q hs;rw[D1]at this;rw[this];split
 ·rw[D1]
 ·rw[K5]
end rk
end
noncomputable section
namespace rk
def sg(k:Nat):Int:=if k%2=0 then 1 else -1
theorem z5T(k:Nat):sg (k+1) = - sg k:=by
 unfold sg;by_cases h:k%2=0
 ·rw[d4 h,d5 (by omega)]
 ·rw[d5 h,d4 (by omega)];rfl
theorem q4K{α:Type}{f:α->Int}(t:Int):∀{l:List α},(l.map λa=>t*f a).sum=t*(l.map f).sum
 | []=>by simp
 | a::l=>by simp only[p7,N5];rw[q4K t,X3]
theorem q4Q{α:Type}{f:α->Int}:∀{l:List α},(l.map λa=>- f a).sum = - (l.map f).sum
 | []=>by simp
 | a::l=>by simp only[p7,N5];rw[q4Q];omega
theorem q9B:∀(l:List Nat) (f:Nat->List Nat->Int),alt f l=((List.range l.length).map λk=>sg k*f (l.getD k 0) (l.eraseIdx k)).sum
 | [],f=>rfl
 | c::cs,f=>by
  show f c cs - alt (λd ds=>f d (c::ds)) cs=_;rw[q9B cs,m4,Z5,p7,N5,j9];show _=sg 0*f c cs+((List.range cs.length).map λk=>sg (k+1)*f (cs.getD k 0) (c::cs.eraseIdx k)).sum;have e:((List.range cs.length).map λk=>sg (k+1)*f (cs.getD k 0) (c::cs.eraseIdx k))=(List.range cs.length).map λk=>- (sg k*f (cs.getD k 0) (c::cs.eraseIdx k)):=by apply C9;intro k _;rw[z5T,w2I]
  rw[e,q4Q,show sg 0=1 from rfl,D1];omega
theorem q8f(g:Nat->Int):∀(l:List Nat),(l.map g).sum=((List.range l.length).map λk=>g (l.getD k 0)).sum
 | []=>rfl
 | c::cs=>by rw[p7,N5,m4,Z5,p7,N5,j9,q8f g cs];rfl
theorem q5o{p:Nat->Bool}{g:Nat->Int}:∀(l:List Nat),(l.map λc=>if p c=true then 0 else g c).sum=((l.filter λc=>!p c).map g).sum
 | []=>rfl
 | c::l=>by
  rw[p7,N5,q5o l];cases h:p c with
  | true=>rw[w2E (by rw[h];decide)];simp
  | false=>rw[w2F (by rw[h];decide),p7,N5];simp
def J8(n T:Nat):List Nat:=(List.range n).filter λc=>!T.testBit c
def psg:Nat->Nat->Int
 | 0,_=>1
 | f+1,g=>if g=0 then 1 else if g%2=1 then - psg f (g/2)else psg f (g/2)
def tsgn(T c:Nat):Int:=psg 8 (T/2^(c+1))
def cnt(n T:Nat):Nat:=((List.range n).map λt=>if T.testBit t then((List.range t).filter λu=>!T.testBit u).length else 0).sum
def eps(n T:Nat):Int:=sg (cnt n T)
def okK(n T k:Nat):Bool:=let l:=J8 n T;let c:=l.getD k 0
 (tsgn T c*eps n (T+2^c)==eps n T*sg k)&&(l.eraseIdx k==J8 n (T+2^c))&&decide (T+2^c<2^n)
theorem z6p:((List.range 9).all λn=>(List.range (2^n)).all λT=>((List.range (J8 n T).length).all λk=>okK n T k)&&(!(J8 n T).isEmpty||(decide (T=2^n - 1)&&eps n T==1)))=true:=by decide +kernel
theorem chk(hn:n<=8)(hT:T<2^n):(∀k,k<(J8 n T).length->okK n T k=true)/\(J8 n T=[]->T=2^n - 1/\eps n T=1):=by
 have h1:=D6.mp z6p n (p0.mpr (by omega));have h2:=D6.mp h1 T (p0.mpr hT);rw[d7]at h2;refine⟨λk hk=>D6.mp h2.1 k (p0.mpr hk),λe=>?_⟩;have h3:=h2.2;rw[e]at h3;simpa using h3
def psi(n:Nat):List Rw->Nat->Int
 | [],T=>if T=2^n - 1 then 1 else 0
 | r::rs,T=>((List.range n).map λc=>if T.testBit c=true then 0 else tsgn T c*r c*psi n rs (T+2^c)).sum
theorem z4n(hn:n<=8):∀(rs:List Rw) (T:Nat),T<2^n->(J8 n T).length=rs.length->psi n rs T=eps n T*dt rs (J8 n T)
 | [],T,hT,hl=>by obtain⟨e1,e2⟩:=(chk hn hT).2 (W1.mp hl);show(if T=2^n - 1 then 1 else 0)=eps n T*1;rw[d4 e1,e2];rfl
 | r::rs,T,hT,hl=>by
  show((List.range n).map λc=>if T.testBit c=true then 0 else tsgn T c*r c*psi n rs (T+2^c)).sum=eps n T*alt (λd ds=>r d*dt rs ds) (J8 n T);rw[q5o (p:=λc=>T.testBit c),show(List.range n).filter (λc=>!T.testBit c)=J8 n T from rfl,q8f,q9B,←q4K]
  congr 1
  apply C9;intro k hk;have hk':=p0.mp hk;have ok:=(chk hn hT).1 k hk';unfold okK at ok;simp only[d7,i8,L3]at ok;obtain⟨⟨o1,o2⟩,o3⟩:=ok;have hlen:(J8 n (T+2^(J8 n T).getD k 0)).length=rs.length:=by rw[←o2,List.length_eraseIdx,d4 hk',hl,m4];rfl
  rw[z4n hn rs _ o3 hlen,←o2];generalize (J8 n T).getD k 0=c at o1 ⊢;generalize dt rs ((J8 n T).eraseIdx k)=D;have g1:tsgn T c*r c*(eps n (T+2^c)*D)=(tsgn T c*eps n (T+2^c))*(r c*D):=(by rw[p4,p4,U0 (r c)]);rw[g1,o1,p4]
theorem z7d(hn:n<=8)(rs:List Rw)(h:rs.length=n):psi n rs 0=dt rs (List.range n):=by
 have e:∀n,n<=8->J8 n 0=List.range n/\eps n 0=1:=by decide +kernel
 rw[z4n hn rs 0 (W7 n) (by rw[(e n hn).1,A8,h]),(e n hn).1,(e n hn).2,D1]
abbrev Tb:=List (Int×Int)
def lin(L:Tb)(φ:Nat->Int):Int:=(L.map λp=>p.2*φ p.1.toNat).sum
def getL(L:Tb)(k:Int):Int:=((L.find? λp=>decide (p.1=k)).map (·.2)).getD 0
def putT(L:Tb)(k z:Int):Tb:=if(L.any λp=>decide (p.1=k))=true then L.map (λp=>if p.1=k then(p.1,z)else p)else L++[(k,z)]
def keys(L:Tb):List Int:=L.map (·.1)
theorem q8a:(L.any λp=>decide (p.1=k))=true↔k∈keys L:=by
 unfold keys;rw[w13,o7];constructor
 ·rintro⟨p,h1,h2⟩;exact⟨p,h1,w2j h2⟩
 ·rintro⟨p,h1,h2⟩;exact⟨p,h1,B9 h2⟩
theorem q4e:keys (putT L k z)=if k∈keys L then keys L else keys L++[k]:=by
 unfold putT;by_cases h:k∈keys L
 ·rw[d4 (q8a.mpr h),d4 h];unfold keys;rw[j9];apply C9;intro p _;show(if p.1=k then(p.1,z)else p).1=p.1;split<;>rfl
 ·rw[d5 (λz=>h (q8a.mp z)),d5 h];unfold keys;rw[E4];rfl
theorem q9H(h:(keys L).Nodup):(keys (putT L k z)).Nodup:=by
 rw[q4e];split
 ·exact h
 ·rename_i hk;rw[List.nodup_append];exact⟨h,by simp,λa ha b hb e=>hk (by rw[←D0.mp hb,←e];exact ha)⟩
theorem z4T:(putT L k z).length<=L.length+1:=by
 unfold putT;split
 ·rw[d8];omega
 ·rw[C5];exact j2 _
theorem q9t:∀{L:Tb},(keys L).Nodup->lin (putT L k (getL L k+w)) φ=lin L φ+w*φ k.toNat
 | [],_=>by show((0+w)*φ k.toNat+0:Int)=0+w*φ k.toNat;rw[U4,U4,X2]
 | (k1,v1)::L,h=>by
  have hn:k1∉keys L/\(keys L).Nodup:=O4.mp h;by_cases e:k1=k
  ·subst e;have h1:putT ((k1,v1)::L) k1 (getL ((k1,v1)::L) k1+w)=(k1,v1+w)::L:=by
    have g:getL ((k1,v1)::L) k1=v1:=by unfold getL;rw[O5];simp
    rw[g];unfold putT;rw[d4 (by simp)];rw[p7,d4 rfl]
    congr 1
    have:∀p∈L,(if p.1=k1 then(p.1,v1+w)else p)=p:=λp hp=>d5 λz=>hn.1 (by rw[←z];exact o7.mpr ⟨p,hp,rfl⟩);exact(C9 this).trans (List.map_id' L)
   rw[h1];show(v1+w)*φ k1.toNat+lin L φ=v1*φ k1.toNat+lin L φ+w*φ k1.toNat;rw[w22];omega
  ·have h1:putT ((k1,v1)::L) k (getL ((k1,v1)::L) k+w)=(k1,v1)::putT L k (getL L k+w):=by
    have g:getL ((k1,v1)::L) k=getL L k:=by unfold getL;rw[w2h (by simpa using e)]
    rw[g];unfold putT;rw[J1,show decide (k1=k)=false from C6 e,w36];split
    ·rw[p7,d5 e]
    ·rfl
   rw[h1];show v1*φ k1.toNat+lin (putT L k (getL L k+w)) φ=v1*φ k1.toNat+lin L φ+w*φ k.toNat;rw[q9t hn.2];omega
theorem z1U(h:j∈keys L):j∈keys (putT L k z):=by
 rw[q4e];split
 ·exact h
 ·exact u4 _ h
theorem z7F:k∈keys (putT L k z):=by
 rw[q4e];split
 ·assumption
 ·exact u7 _ (D0.mpr rfl)
theorem z6R(h:j∈keys (putT L k z)):j∈keys L\/j=k:=by
 rw[q4e]at h;split at h
 ·exact .inl h
 ·rcases y0.mp h with z | z
  ·exact .inl z
  ·exact .inr (D0.mp z)
def sab(L:Tb):Nat:=(L.map λp=>p.2.natAbs).sum
theorem q9D:∀{L:Tb},(keys L).Nodup->sab (putT L k (getL L k+w))<=sab L+w.natAbs
 | [],_=>by show(0+w).natAbs+0<=0+w.natAbs;rw[U4];omega
 | (k1,v1)::L,h=>by
  have hn:k1∉keys L/\(keys L).Nodup:=O4.mp h;by_cases e:k1=k
  ·subst e;have h1:putT ((k1,v1)::L) k1 (getL ((k1,v1)::L) k1+w)=(k1,v1+w)::L:=by
    have g:getL ((k1,v1)::L) k1=v1:=by unfold getL;rw[O5];simp
    rw[g];unfold putT;rw[d4 (by simp),p7,d4 rfl]
    congr 1
    have:∀p∈L,(if p.1=k1 then(p.1,v1+w)else p)=p:=λp hp=>d5 λz=>hn.1 (by rw[←z];exact o7.mpr ⟨p,hp,rfl⟩);exact(C9 this).trans (List.map_id' L)
   rw[h1];show(v1+w).natAbs+sab L<=v1.natAbs+sab L+w.natAbs;omega
  ·have h1:putT ((k1,v1)::L) k (getL ((k1,v1)::L) k+w)=(k1,v1)::putT L k (getL L k+w):=by
    have g:getL ((k1,v1)::L) k=getL L k:=by unfold getL;rw[w2h (by simpa using e)]
    rw[g];unfold putT;rw[J1,show decide (k1=k)=false from C6 e,w36];split
    ·rw[p7,d5 e]
    ·rfl
   rw[h1];have:=q9D (k:=k) (w:=w) hn.2;show v1.natAbs+sab (putT L k (getL L k+w))<=v1.natAbs+sab L+w.natAbs;omega
theorem z5j(h:p∈L):p.2.natAbs<=sab L:=by
 unfold sab
 induction L with
 | nil=>cases h
 | cons q L ih=>
  rw[p7,N5];rcases f9.mp h with z | z
  ·rw[z];omega
  ·have:=ih z;omega
def stp(r:Rw)(T:Nat)(v:Int)(L:Tb)(c:Nat):Tb:=if T.testBit c=true then L else putT L ((T+2^c:Nat):Int) (getL L ((T+2^c:Nat):Int)+tsgn T c*v*r c)
def inn(r:Rw)(T:Nat)(v:Int)(cs:List Nat)(L:Tb):Tb:=cs.foldl (stp r T v) L
def wrG(n:Nat)(r:Rw)(Ls L:Tb):Tb:=Ls.foldl (λL p=>inn r p.1.toNat p.2 (List.range n) L) L
def Gd(n:Nat)(L:Tb):Prop:=(keys L).Nodup/\∀k∈keys L,∃T:Nat,k=(T:Int)/\T<2^n
theorem q9N:∀f g,psg f g=1\/psg f g = -1
 | 0,_=>.inl rfl
 | f+1,g=>by
  unfold psg;split
  ·exact .inl rfl
  ·rcases q9N f (g/2)with h | h<;>rw[h]<;>split<;>simp
theorem q5E(T c:Nat):tsgn T c=1\/tsgn T c = -1:=q9N _ _
theorem z8H(hn:n<=8)(hT:T<2^n)(hc:c<n)(h:¬T.testBit c=true):T+2^c<2^n:=by
 have e:((List.range 9).all λn=>(List.range (2^n)).all λT=>(List.range n).all λc=>T.testBit c||decide (T+2^c<2^n))=true:=by decide +kernel
 have h1:=D6.mp e n (p0.mpr (by omega));have h2:=D6.mp h1 T (p0.mpr hT);have h3:=D6.mp h2 c (p0.mpr hc);rcases J0 _ _▸h3 with z | z
 ·exact absurd z h
 ·exact w2j z
theorem z3Z(hn:n<=8)(hT:T<2^n)(hc:c<n)(h:Gd n L):Gd n (stp r T v L c):=by
 unfold stp;split
 ·exact h
 ·rename_i hb;refine⟨q9H h.1,λk hk=>?_⟩;rcases z6R hk with z | z
  ·exact h.2 k z
  ·exact⟨_,z,z8H hn hT hc hb⟩
theorem z7g(h:(keys L).Nodup):lin (stp r T v L c) φ=lin L φ+v*(if T.testBit c=true then 0 else tsgn T c*r c*φ (T+2^c)):=by
 unfold stp;split
 ·rw[G5,X2]
 ·rw[q9t h,B8]
  congr 1
  rw[A0 (tsgn T c) v,p4,p4,p4 (tsgn T c)]
theorem z5I(h:(keys L).Nodup):sab (stp r T v L c)<=sab L+v.natAbs*(r c).natAbs:=by
 unfold stp;split
 ·omega
 ·refine m6 (q9D h) (Nat.add_le_add_left ?_ _);rw[Q7,Q7];rcases q5E T c with z | z<;>rw[z]<;>simp
theorem q9y:(stp r T v L c).length<=L.length+1:=by
 unfold stp;split
 ·omega
 ·exact z4T
theorem q7j(hn:n<=8)(hT:T<2^n):∀(cs:List Nat) (L:Tb),(∀c∈cs,c<n)->Gd n L ->
  Gd n (inn r T v cs L)/\(∀φ,lin (inn r T v cs L) φ=lin L φ+v*(cs.map λc=>if T.testBit c=true then 0 else tsgn T c*r c*φ (T+2^c)).sum)/\sab (inn r T v cs L)<=sab L+v.natAbs*(cs.map λc=>(r c).natAbs).sum/\(inn r T v cs L).length<=L.length+cs.length/\(∀j∈keys L,j∈keys (inn r T v cs L))/\∀c∈cs,¬T.testBit c=true->((T+2^c:Nat):Int)∈keys (inn r T v cs L)
 | [],L,_,h=>⟨h,λφ=>by show lin L φ=lin L φ+v*0;omega,by show sab L<=sab L+v.natAbs*0;omega,j2 _,λj hj=>hj,λc hc=>absurd hc (F7)⟩
 | c::cs,L,hc,h=>by
  have hc0:=hc c (j5 ..);obtain⟨a1,a2,a3,a4,a5,a6⟩:=q7j (r:=r) (v:=v) hn hT cs (stp r T v L c) (λd hd=>hc d (i6 _ hd)) (z3Z hn hT hc0 h);have s1:∀j∈keys L,j∈keys (stp r T v L c):=λj hj=>by
   unfold stp;split
   ·exact hj
   ·exact z1U hj
  refine⟨a1,λφ=>?_,?_,?_,λj hj=>a5 j (s1 j hj),λd hd hb=>?_⟩
  ·show lin (inn r T v cs (stp r T v L c)) φ=_;rw[a2 φ,z7g h.1,p7,N5,X3];omega
  ·show sab (inn r T v cs (stp r T v L c))<=_;have:=z5I (r:=r) (T:=T) (v:=v) (c:=c) h.1;rw[p7,N5,Nat.mul_add];omega
  ·show(inn r T v cs (stp r T v L c)).length<=_;have:=q9y (r:=r) (T:=T) (v:=v) (c:=c) (L:=L);rw[m4];omega
  ·rcases f9.mp hd with z | z
   ·subst z;refine a5 _ ?_;unfold stp;rw[d5 hb];exact z7F
   ·exact a6 d z hb
theorem z3O(hn:n<=8):∀(Ls L:Tb),(∀k∈keys Ls,∃T:Nat,k=(T:Int)/\T<2^n)->Gd n L ->
  Gd n (wrG n r Ls L)/\(∀φ,lin (wrG n r Ls L) φ=lin L φ+lin Ls (λT=>((List.range n).map λc=>if T.testBit c=true then 0 else tsgn T c*r c*φ (T+2^c)).sum))/\sab (wrG n r Ls L)<=sab L+sab Ls*((List.range n).map λc=>(r c).natAbs).sum/\(wrG n r Ls L).length<=L.length+Ls.length*n/\(∀j∈keys L,j∈keys (wrG n r Ls L))/\∀T:Nat,((T:Nat):Int)∈keys Ls->∀c<n,¬T.testBit c=true->((T+2^c:Nat):Int)∈keys (wrG n r Ls L)
 | [],L,_,h=>⟨h,λφ=>by show lin L φ=lin L φ+0;omega,by show sab L<=sab L+0*_;omega,by show L.length<=L.length+0*n;omega,λj hj=>hj,λT hT=>absurd hT (F7)⟩
 | (k,v)::Ls,L,hk,h=>by
  obtain⟨T,eT,hT⟩:=hk k (j5 ..);subst eT;obtain⟨b1,b2,b3,b4,b5,b6⟩:=q7j (r:=r) (v:=v) hn hT (List.range n) L (λc hc=>p0.mp hc) h;obtain⟨a1,a2,a3,a4,a5,a6⟩:=z3O (r:=r) hn Ls (inn r T v (List.range n) L) (λj hj=>hk j (i6 _ hj)) b1;have e:wrG n r ((((T:Nat):Int),v)::Ls) L=wrG n r Ls (inn r T v (List.range n) L):=by show wrG n r Ls (inn r ((T:Nat):Int).toNat v (List.range n) L)=_;rw[B8]
  rw[e];refine⟨a1,λφ=>?_,?_,?_,λj hj=>a5 j (b5 j hj),λT' hT' c hc hb=>?_⟩
  ·rw[a2 φ,b2 φ];have e2:∀ψ:Nat->Int,lin ((((T:Nat):Int),v)::Ls) ψ=v*ψ T+lin Ls ψ:=λψ=>by
    show v*ψ ((T:Nat):Int).toNat+lin Ls ψ=_;rw[B8]
   rw[e2,Int.add_assoc]
  ·show _<=sab L+(v.natAbs+sab Ls)*_;rw[X4];omega
  ·rw[A8]at b4;rw[m4,X4];omega
  ·rcases f9.mp hT' with z | z
   ·have z':((T':Nat):Int)=((T:Nat):Int):=z;have:T'=T:=Int.ofNat.inj z';subst this;exact a5 _ (b6 c (p0.mpr hc) hb)
   ·exact a6 T' z c hc hb
end rk
end
noncomputable section
namespace rk
def dets(n:Nat):List Rw->Tb->Tb
 | [],L=>L
 | r::rs,L=>dets n rs (wrG n r L [])
theorem z4j:Gd n []:=⟨List.nodup_nil,λk hk=>absurd hk (F7)⟩
theorem wr0(hn:n<=8)(h:Gd n L):Gd n (wrG n r L [])/\(∀rs,lin (wrG n r L []) (psi n rs)=lin L (psi n (r::rs)))/\sab (wrG n r L [])<=sab L*((List.range n).map λc=>(r c).natAbs).sum/\(wrG n r L []).length<=L.length*n/\∀T:Nat,((T:Nat):Int)∈keys L->∀c<n,¬T.testBit c=true->((T+2^c:Nat):Int)∈keys (wrG n r L []):=by
 obtain⟨a1,a2,a3,a4,a5,a6⟩:=z3O (r:=r) hn L [] h.2 z4j;refine⟨a1,λrs=>?_,?_,?_,a6⟩
 ·rw[a2 (psi n rs)];show 0+lin L _=_;rw[U4];rfl
 ·have:sab ([]:Tb)=0:=rfl;omega
 ·have:([]:Tb).length=0:=rfl;omega
theorem z7k(i:Nat):¬(2^i - 1).testBit i=true:=by
 rw[Nat.testBit_two_pow_sub_one];simp
theorem z1b(hn:n<=8):∀(rs:List Rw) (L:Tb) (i:Nat),Gd n L->((2^i - 1:Nat):Int)∈keys L->i+rs.length<=n->Gd n (dets n rs L)/\lin (dets n rs L) (psi n [])=lin L (psi n rs)/\((2^(i+rs.length) - 1:Nat):Int)∈keys (dets n rs L)
 | [],L,i,h,hk,_=>⟨h,rfl,hk⟩
 | r::rs,L,i,h,hk,hl=>by
  rw[m4]at hl;obtain⟨a1,a2,a3,a4,a5⟩:=wr0 (r:=r) hn h;have k1:=a5 (2^i - 1) hk i (by omega) (z7k i);have e:2^i - 1+2^i=2^(i+1) - 1:=by have:=W7 i;rw[U5];omega
  rw[e]at k1;obtain⟨b1,b2,b3⟩:=z1b hn rs (wrG n r L []) (i+1) a1 k1 (by omega);refine⟨b1,b2.trans (a2 rs),?_⟩;rw[show i+(r::rs).length=i+1+rs.length by rw[m4];omega];exact b3
theorem q9x:∀{L:Tb},(keys L).Nodup->(∀k∈keys L,∃T:Nat,k=(T:Int))->lin L (λT=>if T=K then 1 else 0)=getL L (K:Int)
 | [],_,_=>rfl
 | (k1,v1)::L,h,hk=>by
  have hn:k1∉keys L/\(keys L).Nodup:=O4.mp h;obtain⟨T,eT⟩:=hk k1 (j5 ..);have ih:=q9x (K:=K) hn.2 λk hk'=>hk k (i6 _ hk');show v1*(if k1.toNat=K then 1 else 0)+lin L (λT=>if T=K then 1 else 0)=_;rw[ih];subst eT;rw[B8];by_cases e:T=K
  ·subst e;have g:getL ((((T:Nat):Int),v1)::L) T=v1:=by unfold getL;rw[O5];simp
   have g2:getL L ((T:Nat):Int)=0:=by
    unfold getL;rw[w3b.mpr λp hp=>by
     rw[L3];exact λz=>hn.1 (by rw[←z];exact o7.mpr ⟨p,hp,rfl⟩)]
    rfl
   rw[g,g2,d4 rfl];omega
  ·have g:getL ((((T:Nat):Int),v1)::L) (K:Int)=getL L (K:Int):=by
    unfold getL;rw[w2h (by rw[L3];exact λz=>e (Int.ofNat.inj z))]
   rw[g,d5 e];omega
theorem z2b(hn:n<=8)(rs:List Rw)(h:rs.length=n):Gd n (dets n rs [(0,1)])/\((2^n - 1:Nat):Int)∈keys (dets n rs [(0,1)])/\getL (dets n rs [(0,1)]) ((2^n - 1:Nat):Int)=dt rs (List.range n):=by
 have g0:Gd n [(0,1)]:=⟨by decide,λk hk=>⟨0,by rw[D0.mp hk];rfl,W7 n⟩⟩;obtain⟨b1,b2,b3⟩:=z1b hn rs [(0,1)] 0 g0 (D0.mpr rfl) (by omega);rw[X1,h]at b3;refine⟨b1,b3,?_⟩;rw[←q9x b1.1 λk hk=>by obtain⟨T,e,_⟩:=b1.2 k hk;exact⟨T,e⟩];have e:(λT=>if T=2^n - 1 then(1:Int)else 0)=psi n []:=rfl;rw[e,b2];show 1*psi n rs (0:Int).toNat+0=_;rw[show(0:Int).toNat=0 from rfl,z7d hn rs h];omega
theorem z4h:∀(n:Nat) (l:List Nat),l.Nodup->(∀x∈l,x<n)->l.length<=n
 | 0,l,_,h=>by
  cases l with
  | nil=>exact j2 0
  | cons a l=>exact absurd (h a (j5 ..)) (w2c a)
 | n+1,l,nd,h=>by
  have q:=z4h n (l.erase n) (nd.erase n) λx hx=>by have:=(nd.mem_erase_iff).mp hx;have:=h x this.2;omega
  by_cases z:n∈l
  ·rw[List.length_erase_of_mem z]at q;omega
  ·rw[List.erase_of_not_mem z]at q;omega
theorem z8z(h:Gd n L):L.length<=2^n:=by
 have q:=z4h (2^n) ((keys L).map Int.toNat) (List.pairwise_map.mpr (h.1.imp_of_mem λ{a b} ha hb ne=>by
  obtain⟨A,ea,_⟩:=h.2 a ha;obtain⟨B,eb,_⟩:=h.2 b hb;omega)) λx hx=>by obtain⟨k,hk,e⟩:=o7.mp hx;obtain⟨T,eT,hT⟩:=h.2 k hk;omega
 rw[d8,show(keys L).length=L.length from d8 ..]at q;exact q
theorem dt_abs:∀(rs:List Rw) (cs:List Nat),(∀r∈rs,∀c<n,(r c).natAbs<=B)->(∀c∈cs,c<n)->(dt rs cs).natAbs<=(B*(cs.length+1))^rs.length
 | [],cs,_,_=>by show(1:Int).natAbs<=1;decide
 | r::rs,cs,h,hc=>by
  have key:∀(cs:List Nat) (f:Nat->List Nat->Int) (M:Nat),(∀d ds,d∈cs->(∀x∈ds,x∈cs)->ds.length+1=cs.length->(f d ds).natAbs<=M)->(alt f cs).natAbs<=cs.length*M:=by
   intro cs
   induction cs with
   | nil=>intro f M _;show(0:Int).natAbs<=_;omega
   | cons c cs ih=>
    intro f M hf;have h1:=hf c cs (j5 ..) (λx hx=>i6 _ hx) rfl;have h2:=ih (λd ds=>f d (c::ds)) M λd ds h3 h4 h5=>hf d (c::ds) (i6 _ h3) (λx hx=>by
     rcases f9.mp hx with z | z
     ·rw[z];exact j5 ..
     ·exact i6 _ (h4 x z)) (by rw[m4,m4];omega)
    show(f c cs - alt (λd ds=>f d (c::ds)) cs).natAbs<=_;rw[m4,X4];omega
  have k1:=key cs (λd ds=>r d*dt rs ds) (B*(B*(cs.length+1))^rs.length) λd ds h3 h4 h5=>by rw[Q7];refine w2Y (h r (j5 ..) d (hc d h3)) (m6 (dt_abs rs ds (λr' hr'=>h r' (i6 _ hr')) λc hcc=>hc c (h4 c hcc)) (Nat.pow_le_pow_left (w2V _ (by omega)) _))
  show(alt (λd ds=>r d*dt rs ds) cs).natAbs<=_;rw[m4,U5];refine m6 k1 ?_;rw[w3s _ (B*(cs.length+1)),w3l B,←w3l,w3s cs.length B,w3l];exact w2V _ (w11 _ (by omega))
theorem z4r:∀(l:List Nat),(∀c∈l,f c<=B)->(l.map f).sum<=l.length*B
 | [],_=>by simp
 | c::l,h=>by
  rw[p7,N5,m4,X4];have h1:=h c (j5 ..);have h2:=z4r l λd hd=>h d (i6 _ hd)
  omega
end rk
end
noncomputable section
namespace rk
theorem z4g:∀{cs:List α} {f g:α->List α->Int},(∀d ds,d∈cs->(∀x∈ds,x∈cs)->f d ds=g d ds)->alt f cs=alt g cs
 | [],_,_,_=>rfl
 | c::cs,f,g,h=>by
  show f c cs - alt (λd ds=>f d (c::ds)) cs=g c cs - alt (λd ds=>g d (c::ds)) cs;rw[h c cs (j5 ..) λx hx=>i6 _ hx,z4g (f:=λd ds=>f d (c::ds)) (g:=λd ds=>g d (c::ds)) λd ds h1 h2=>h d (c::ds) (i6 _ h1) λx hx=>by
   rcases f9.mp hx with z | z
   ·rw[z];exact j5 ..
   ·exact i6 _ (h2 x z)]
def pc(B:List Nat)(r:Rw):Rw:=λc=>(B.map r).getD c 0
theorem y0K(h:c<B.length):pc B r c=r (B.getD c 0):=by
 unfold pc;rw[i7,m9,j3 h,i7,j3 h];rfl
theorem y0f(B:List Nat):∀(rs:List Rw) (cs:List Nat),(∀c∈cs,c<B.length)->dt (rs.map (pc B)) cs=dt rs (cs.map λc=>B.getD c 0)
 | [],_,_=>rfl
 | r::rs,cs,h=>by
  show alt (λd ds=>pc B r d*dt (rs.map (pc B)) ds) cs=alt (λd ds=>r d*dt rs ds) (cs.map λc=>B.getD c 0);rw[q9o];refine z4g λd ds h1 h2=>?_
  rw[y0K (h d h1),y0f B rs ds λc hc=>h c (h2 c hc)]
theorem z2Y(B:List Nat):(List.range B.length).map (λc=>B.getD c 0)=B:=by
 apply w2K
 ·rw[d8,A8]
 ·intro j h1 h2;rw[w2L,w3c,i7,j3 h2];rfl
theorem dt_sq(rs:List Rw)(B:List Nat):dt (rs.map (pc B)) (List.range B.length)=dt rs B:=by
 rw[y0f B rs _ λc hc=>p0.mp hc,z2Y]
def gf(g:Nat)(x:Int):Nat:=Nat.gcd g x.natAbs
def gl(l:List Int):Nat:=l.foldl gf 0
theorem z4d:∀(l:List Int) (g:Nat),l.foldl gf g ∣ g/\∀x∈l,((l.foldl gf g:Nat):Int) ∣ x
 | [],g=>⟨Nat.dvd_refl _,λx h=>by cases h⟩
 | a::l,g=>by
  have q:=z4d l (gf g a);refine⟨Nat.dvd_trans q.1 (Nat.gcd_dvd_left ..),λx hx=>?_⟩;rcases f9.mp hx with z | z
  ·rw[z];exact Int.ofNat_dvd_left.mpr (Nat.dvd_trans q.1 (Nat.gcd_dvd_right ..))
  ·exact q.2 x z
theorem gl_dvd(h:x∈l):((gl l:Nat):Int) ∣ x:=(z4d l 0).2 x h
theorem z0A(g:Nat)(q:Int->Int)(hq:∀x,(q x).natAbs=x.natAbs):∀(l:List Int) (a:Nat),(l.map λx=>(g:Int)*q x).foldl gf (g*a)=g*l.foldl gf a
 | [],a=>rfl
 | x::l,a=>by have e:gf (g*a) ((g:Int)*q x)=g*gf a x:=(by unfold gf;rw[Q7,w2d,hq,Nat.gcd_mul_left]);show(l.map λx=>(g:Int)*q x).foldl gf (gf (g*a) ((g:Int)*q x))=g*l.foldl gf (gf a x);rw[e];exact z0A g q hq l _
def qz(D:Int)(g:Nat)(x:Int):Int:=if D<0 then -(x/(g:Int))else x/(g:Int)
theorem qz_mul{D x:Int}{g:Nat}(h:(g:Int) ∣ x):(g:Int)*qz D g x=if D<0 then -x else x:=by
 unfold qz;split
 ·rw[Int.mul_neg,Int.mul_ediv_cancel' h]
 ·rw[Int.mul_ediv_cancel' h]
theorem gl_qz(h:0<gl l):gl (l.map (qz D (gl l)))=1:=by
 have e:l.map (λx=>if D<0 then -x else x)=(l.map (qz D (gl l))).map λx=>((gl l:Nat):Int)*x:=by
  rw[j9];exact C9 λx hx=>(qz_mul (gl_dvd hx)).symm
 have e1:=z0A 1 (λx=>if D<0 then -x else x) (λx=>by split<;>simp) l 0;have e2:=z0A (gl l) (λx=>x) (λx=>rfl) (l.map (qz D (gl l))) 0;rw[←e]at e2;simp only[w23,Int.natCast_one,D1,Nat.mul_zero]at e1 e2;have e3:gl l=gl l*gl (l.map (qz D (gl l))):=e1.symm.trans e2;have e4:gl l*1=gl l*gl (l.map (qz D (gl l))):=by rw[Nat.mul_one];exact e3
 exact(Nat.eq_of_mul_eq_mul_left h e4).symm
theorem qz_pos{D:Int}{g:Nat}(h:(g:Int) ∣ D)(hD:D≠0):1<=qz D g D:=by
 have e:=qz_mul (D:=D) h;have g0:(0:Int)<=(g:Int):=K3 g;have p:0<(g:Int)*qz D g D:=by rw[e];split<;>omega
 rcases Int.lt_or_le 0 (qz D g D)with z | z
 ·omega
 ·have:=Int.mul_nonpos_of_nonneg_of_nonpos g0 z;omega
theorem gf_fix{p:Nat}:∀(l:List Int),(∀x∈l,x=(p:Int)\/x=0)->l.foldl gf p=p
 | [],_=>rfl
 | x::l,h=>by
  have e:gf p x=p:=by
   unfold gf;rcases h x (j5 ..)with z | z<;>rw[z]
   ·rw[w2d,Nat.gcd_self]
   ·exact w2A p
  show l.foldl gf (gf p x)=p;rw[e];exact gf_fix l λx hx=>h x (i6 _ hx)
end rk
end
noncomputable section
namespace k42
open PySem L2
section
def q2M:FD:={n:=3,np:=3,dfl:=[],body:=[.ret (.and [.isi (.var 0) ["int"],.not (.isi (.var 0) ["bool"]),.chain .LtE .LtE (.var 1) (.var 0) (.var 2)])]}
def q1c:FD:={n:=3,np:=1,dfl:=[],body:=[.set 1 false (.int 0),.fo (.one 2) (.var 0) [.set 1 false (.call 2 [.var 1,.bi .abs [.var 2]])],.ret (.comp (.bin .FloorDiv (.var 0) (.var 1)) (.one 0) (.var 0) [none,some 1])]}
def q1e:FD:={n:=5,np:=2,dfl:=[],body:=[.set 2 false (.var 0),.set 3 false (.var 1),.wh (.cmp .NotEq (.var 3) (.int 0)) [.set 4 false (.bin .Mod (.var 2) (.var 3)),.set 2 false (.var 3),.set 3 false (.var 4)],.ret (.var 2)]}
def q3w:FD:={n:=1,np:=1,dfl:=[],body:=[.ret (.bi .tuple [.comp (.bi .tuple [.comp (.ix (.var 0) (.var 1)) (.one 0) (.var 1) [none,some 0]]) (.one 0) (.rng [.bi .len [.ix (.var 0) (.int 0)]]) [none,some 0]])]}
def q1V:FD:={n:=2,np:=2,dfl:=[],body:=[.iff (.not (.call 0 [.var 0,.int 0,.bin .Sub (.var 1) (.int 1)])) [.rse "NoCard" (.str "a card is an int from 0 on, less than the number of its side's cards")] []]}
def q1G:FD:={n:=3,np:=1,dfl:=[],body:=[.set 1 false (.dct 0 (.int 1)),.fo (.one 2) (.var 0) [.set 1 false (.call 6 [.var 1,.var 2])],.ret (.dix (.var 1) (.bin .Sub (.bin .LShift (.int 1) (.bi .len [.var 0])) (.int 1)))]}
def q2S:FD:={n:=8,np:=2,dfl:=[],body:=[.sed 2,.fo (.many [3,4]) (.itm (.var 0)) [.fo (.many [5,6]) (.enu (.var 1)) [.iff (.cmp .Eq (.bin .BitAnd (.bin .RShift (.var 3) (.var 5)) (.int 1)) (.int 0)) [.set 7 false (.bin .BitOr (.var 3) (.bin .LShift (.int 1) (.var 5))),.dput 2 (.var 7) (.bin .Add (.dgt 2 (.var 7) (.int 0)) (.bin .Mult (.bin .Mult (.call 7 [.var 3,.var 5]) (.var 4)) (.var 6)))] []]],.retd 2]}
def q7z:FD:={n:=4,np:=2,dfl:=[],body:=[.set 2 false (.int 1),.set 3 false (.bin .RShift (.var 0) (.bin .Add (.var 1) (.int 1))),.wh (.cmp .NotEq (.var 3) (.int 0)) [.iff (.cmp .Eq (.bin .BitAnd (.var 3) (.int 1)) (.int 1)) [.set 2 false (.neg (.var 2))] [],.set 3 false (.bin .RShift (.var 3) (.int 1))],.ret (.var 2)]}
def q7K:FD:={n:=1,np:=1,dfl:=[],body:=[.ret2 (.call 10 [.var 0]) (.call 10 [.call 3 [.var 0]])]}
def z0D:FD:={n:=1,np:=1,dfl:=[],body:=[.ret (.bi .len [.call 10 [.var 0]])]}
def q2D:FD:={n:=6,np:=1,dfl:=[],body:=[.set 1 true (.lst []),.set 2 true (.lst []),.fo (.many [3,4]) (.enu (.var 0)) [.set 5 false (.call 11 [.var 4,.var 2]),.iff (.bi .any [.comp (.cmp .NotEq (.var 0) (.int 0)) (.one 0) (.var 5) [none]]) [.app 1 (.var 3),.app 2 (.var 5)] []],.ret (.var 1)]}
def q4H:FD:={n:=6,np:=2,dfl:=[],body:=[.set 2 true (.bi .list [.var 0]),.fo (.one 3) (.var 1) [.set 4 false (.call 12 [.var 3]),.set 5 false (.ix (.var 2) (.var 4)),.set 2 true (.comp (.bin .Sub (.bin .Mult (.var 0) (.ix (.var 2) (.var 3))) (.bin .Mult (.var 4) (.var 1))) (.many [0,1]) (.zp (.var 2) (.var 3)) [none,none,some 3,some 4,some 5])],.ret (.var 2)]}
def q1O:FD:={n:=1,np:=1,dfl:=[],body:=[.ret (.ix (.compi (.var 0) (.many [0,1]) (.enu (.var 0)) (.cmp .NotEq (.var 1) (.int 0)) [none,none]) (.int 0))]}
def V8:FD:={n:=8,np:=2,dfl:=[],body:=[.exp (.call 4 [.var 1,.bi .len [.var 0]]),.set 2 false (.call 8 [.var 0]),.set 3 false (.comp (.comp (.ix (.ix (.var 1) (.var 2)) (.var 0)) (.one 0) (.ix (.var 1) (.int 1)) [none,some 2,some 0]) (.one 0) (.ix (.var 2) (.int 0)) [none,some 2,some 0]),.set 4 false (.comp (.ix (.ix (.var 1) (.var 2)) (.var 0)) (.one 0) (.ix (.var 2) (.int 1)) [none,some 0,some 1]),.set 5 false (.call 5 [.var 3]),.set 6 false (.comp (.call 5 [.bin .Add (.bin .Add (.slt (.var 1) (.var 0)) (.lst [.var 2])) (.slf (.var 1) (.bin .Add (.var 0) (.int 1)))]) (.one 0) (.rng [.bi .len [.var 3]]) [none,some 3,some 4]),.set 7 false (.call 1 [.bin .Add (.lst [.var 5]) (.var 6)]),.iff (.cmp .Lt (.var 5) (.int 0)) [.set 7 false (.comp (.neg (.var 0)) (.one 0) (.var 7) [none])] [],.ret2 (.ix (.var 7) (.int 0)) (.slf (.var 7) (.int 1))]}
def q3M:FD:={n:=1,np:=1,dfl:=[],body:=[.ret (.and [.isi (.var 0) ["int"],.not (.isi (.var 0) ["bool"])])]}
def q1q:FD:={n:=2,np:=2,dfl:=[],body:=[.iff (.cmp .Lt (.var 1) (.bi .len [.var 0])) [.ret (.ix (.var 0) (.var 1))] [],.ret (.int 0)]}
def q1C:FD:={n:=5,np:=2,dfl:=[],body:=[.set 2 true (.lst []),.set 3 false (.bin .Add (.bin .Mod (.var 0) (.int 2147483647)) (.int 48271)),.fo (.one 4) (.rng [.var 1]) [.set 3 false (.bin .Mod (.bin .Add (.bin .Add (.bin .Mult (.var 3) (.int 48271)) (.bin .Mult (.var 4) (.var 4))) (.int 11)) (.int 2147483647)),.app 2 (.bin .FloorDiv (.var 3) (.int 7))],.ret (.var 2)]}
def q1R:FD:={n:=8,np:=3,dfl:=[],body:=[.set 3 false (.call 16 [.call 15 [.var 0,.int 0],.int 3]),.set 4 false (.bin .Add (.int 1) (.bin .Mod (.ix (.var 3) (.int 0)) (.int 8))),.set 5 false (.bin .Add (.int 1) (.bin .Mod (.ix (.var 3) (.int 1)) (.int 8))),.set 6 true (.comp (.bin .Mod (.var 0) (.var 1)) (.one 0) (.call 16 [.call 15 [.var 0,.int 1],.bin .Mult (.var 4) (.var 5)]) [none,some 2]),.fo (.one 7) (.rng [.bi .min [.bin .Mult (.var 4) (.var 5),.bin .Sub (.bi .len [.var 0]) (.var 1)]]) [.seti 6 (.var 7) (.bin .Mod (.ix (.var 0) (.bin .Add (.var 1) (.var 7))) (.var 2))],.ret (.comp (.sl (.var 1) (.bin .Mult (.var 0) (.var 2)) (.bin .Add (.bin .Mult (.var 0) (.var 2)) (.var 2))) (.one 0) (.rng [.var 4]) [none,some 6,some 5])]}
def q1i:FD:={n:=1,np:=1,dfl:=[],body:=[.ret (.bi .tuple [.comp (.bi .tuple [.var 0]) (.one 0) (.var 0) [none]])]}
def q2I:FD:={n:=7,np:=2,dfl:=[],body:=[.set 0 true (.comp (.bi .list [.var 0]) (.one 0) (.var 0) [none]),.fo (.one 2) (.rng [.bin .Mod (.ix (.var 1) (.int 0)) (.int 4)]) [.set 3 false (.bin .Mod (.ix (.var 1) (.bin .Add (.int 1) (.var 2))) (.bi .len [.var 0])),.set 4 false (.ix (.var 0) (.bin .Mod (.ix (.var 1) (.bin .Add (.int 5) (.var 2))) (.bi .len [.var 0]))),.set 5 false (.ix (.var 0) (.bin .Mod (.ix (.var 1) (.bin .Add (.int 9) (.var 2))) (.bi .len [.var 0]))),.set 6 false (.bin .Mod (.ix (.var 1) (.bin .Add (.int 13) (.var 2))) (.int 4)),.iff (.cmp .Eq (.var 6) (.int 0)) [.seti 0 (.var 3) (.bi .list [.var 4])] [],.iff (.and [.cmp .Eq (.var 6) (.int 1),.cmp .Lt (.bin .Add (.bi .max [.var 4]) (.bi .max [.var 5])) (.int 10)]) [.seti 0 (.var 3) (.comp (.bin .Add (.var 0) (.var 1)) (.many [0,1]) (.zp (.var 4) (.var 5)) [none,none])] [],.iff (.and [.cmp .Eq (.var 6) (.int 2),.cmp .Lt (.bi .max [.var 4]) (.int 5)]) [.seti 0 (.var 3) (.comp (.bin .Mult (.int 2) (.var 0)) (.one 0) (.var 4) [none])] [],.iff (.cmp .Eq (.var 6) (.int 3)) [.seti 0 (.var 3) (.bin .Mult (.lst [.int 0]) (.bi .len [.var 4]))] []],.ret (.var 0)]}
def q1r:FD:={n:=2,np:=2,dfl:=[],body:=[.wh (.cmp .NotEq (.var 1) (.int 0)) [.par [0,1] [.var 1,.bin .Mod (.var 0) (.var 1)]],.ret (.bi .abs [.var 0])]}
def q1D:FD:={n:=4,np:=2,dfl:=[],body:=[.iff (.not (.isi (.var 0) ["list"])) [.ret (.bl false)] [],.set 2 false (.neg (.int 1)),.fo (.one 3) (.var 0) [.iff (.or [.not (.call 14 [.var 3]),.cmp .LtE (.var 3) (.var 2),.cmp .GtE (.var 3) (.var 1)]) [.ret (.bl false)] [],.set 2 false (.var 3)],.ret (.bl true)]}
def q2p:FD:={n:=8,np:=4,dfl:=[],body:=[.iff (.or [.not (.isi (.var 0) ["tuple"]),.cmp .NotEq (.bi .len [.var 0]) (.int 2),.not (.call 14 [.ix (.var 0) (.int 0)]),.cmp .Lt (.ix (.var 0) (.int 0)) (.int 1)]) [.ret (.bl false)] [],.iff (.or [.not (.isi (.ix (.var 0) (.int 1)) ["list"]),.cmp .NotEq (.bi .len [.ix (.var 0) (.int 1)]) (.bi .len [.var 2])]) [.ret (.bl false)] [],.set 4 false (.ix (.var 0) (.int 0)),.fo (.one 5) (.ix (.var 0) (.int 1)) [.iff (.not (.call 14 [.var 5])) [.ret (.bl false)] [],.set 4 false (.call 20 [.var 4,.var 5])],.fo (.one 6) (.rng [.bi .len [.ix (.var 1) (.int 0)]]) [.set 7 false (.bi .sum [.comp (.bin .Mult (.var 0) (.ix (.ix (.var 2) (.var 1)) (.var 3))) (.many [0,1]) (.zp (.ix (.var 0) (.int 1)) (.var 2)) [none,none,some 1,some 6]]),.iff (.cmp .NotEq (.var 7) (.bin .Mult (.ix (.var 0) (.int 0)) (.ix (.ix (.var 1) (.var 3)) (.var 6)))) [.ret (.bl false)] []],.ret (.cmp .Eq (.var 4) (.int 1))]}
def q1Q:FD:={n:=5,np:=3,dfl:=[],body:=[.fo (.many [3,4]) (.zp (.ix (.var 0) (.int 1)) (.var 1)) [.iff (.and [.cmp .Gt (.var 4) (.var 2),.cmp .NotEq (.var 3) (.int 0)]) [.ret (.bl false)] []],.ret (.or [.cmp .NotIn (.var 2) (.var 1),.cmp .Eq (.var 0) (.tup [.int 1,.comp (.bi .int [.cmp .Eq (.var 0) (.var 1)]) (.one 0) (.var 1) [none,some 2]])])]}
def q1t:FD:={n:=4,np:=2,dfl:=[],body:=[.set 2 false (.non),.tryc [.exp (.call 13 [.var 0,.var 1])] "TalkError" 3 2,.iff (.or [.cmp .Is (.var 2) (.non),.not (.isx (.var 2) "NoCard"),.not (.isx (.var 2) "ValueError")]) [.ret (.bl false)] [],.ret (.and [.not (.isx (.var 2) "NoTable"),.not (.isx (.var 2) "TooGreat")])]}
def q1x:FD:={n:=4,np:=2,dfl:=[],body:=[.setp 2 8 [.var 1],.set 3 false (.call 9 [.var 1]),.iff (.or [.not (.isi (.var 2) ["tuple"]),.cmp .NotEq (.bi .len [.var 2]) (.int 2),.not (.call 14 [.var 3])]) [.ret (.non)] [],.iff (.or [.not (.call 21 [.ix (.var 2) (.int 0),.bi .len [.var 0]]),.not (.call 21 [.ix (.var 2) (.int 1),.bi .len [.ix (.var 0) (.int 0)]])]) [.ret (.non)] [],.iff (.or [.cmp .NotEq (.bi .len [.ix (.var 2) (.int 0)]) (.var 3),.cmp .NotEq (.bi .len [.ix (.var 2) (.int 1)]) (.var 3)]) [.ret (.non)] [],.retp 2]}
def V9:FD:={n:=10,np:=1,dfl:=[],body:=[.set 1 false (.call 16 [.call 15 [.var 0,.int 2],.int 20]),.set 2 false (.call 17 [.var 0,.int 4,.ix (.lst [.int 2,.int 4,.int 10]) (.bin .Mod (.ix (.var 1) (.int 17)) (.int 3))]),.iff (.cmp .Gt (.bin .Mod (.ix (.var 1) (.int 18)) (.int 3)) (.int 0)) [.set 2 false (.call 19 [.var 2,.var 1])] [],.iff (.cmp .Eq (.bin .Mod (.ix (.var 1) (.int 18)) (.int 3)) (.int 2)) [.set 2 false (.comp (.comp (.ix (.var 0) (.var 1)) (.one 0) (.var 1) [none,some 0]) (.one 0) (.rng [.bi .len [.ix (.var 2) (.int 0)]]) [none,some 2])] [],.set 3 false (.call 18 [.var 2]),.setp 4 25 [.var 2,.var 3],.iff (.cmp .Is (.var 4) (.non)) [.ret (.bl false)] [],.set 5 false (.tup [.bi .lsti [.ix (.var 4) (.int 0)],.bi .lsti [.ix (.var 4) (.int 1)]]),.fo (.one 6) (.rng [.bi .len [.var 2]]) [.setp 7 13 [.var 3,.var 6],.iff (.or [.not (.call 22 [.var 7,.var 2,.ix (.var 5) (.int 0),.var 6]),.not (.call 23 [.var 7,.ix (.var 5) (.int 0),.var 6])]) [.ret (.bl false)] [],.set 8 false (.tup [.ix (.var 7) (.int 0),.bi .lsti [.ix (.var 7) (.int 1)]]),.oapp 7 1 (.int 0),.iff (.cmp .NotEq (.call 13 [.var 3,.var 6]) (.var 8)) [.ret (.bl false)] []],.oapp 4 0 (.int 0),.oclr 4 1,.set 9 false (.ix (.lst [.bi .len [.var 2],.neg (.int 1),.int 10000,.bl true,.non,.str "0",.lst [.int 0],.bl false]) (.bin .Mod (.ix (.var 1) (.int 19)) (.int 8))),.iff (.or [.not (.call 24 [.var 3,.var 9]),.cmp .NotEq (.call 8 [.var 3]) (.var 5)]) [.ret (.bl false)] [],.ret (.cmp .Eq (.call 8 [.call 3 [.var 3]]) (.tup [.ix (.var 5) (.int 1),.ix (.var 5) (.int 0)]))]}
def T:List FD:=[q2M,q1c,q1e,q3w,q1V,q1G,q2S,q7z,q7K,z0D,q2D,q4H,q1O,V8,q3M,q1q,q1C,q1R,q1i,q2I,q1r,q1D,q2p,q1Q,q1t,q1x,V9]
def G:Gs:={con:=[],cls:=[("TalkError",["ValueError","Exception","BaseException","object"]),("NoTable",["TalkError","ValueError","Exception","BaseException","object"]),("NoCard",["TalkError","ValueError","Exception","BaseException","object"]),("TooGreat",["TalkError","ValueError","Exception","BaseException","object"])]}
end
section
variable {fu k:Nat} {F:Nat->List DV->Option Ou} {δ:List Sv} {ds:List DV} {cl:Cl} {N M:Nat} {R:List (List Int)}
theorem q9Q(ns:List Int)(j:Nat):∃v:Int,run G T fu (k+1) 15 [.scr ns,.int j]=some (.v (.int v) false):=by
 rw[y7 (fd:=q1q) rfl rfl];unfold q1q;by_cases h:j<ns.length
 ·refine⟨ns[j],C3 (z7y (o9 (cl:=.strong) ?_) (B4 ?_))⟩
  ·simp[evE,evEs,y9,q3P,o8,biOk,biD,lenD,cmpD,h]
  ·simp[evS,evE,y9,o8,ixD,F2,h,Re.thnS,frD,retD,Cl.item]
 ·refine⟨0,C3 (B5 (o9 (cl:=.strong) ?_) (B4 rfl))⟩;simp[evE,evEs,y9,q3P,o8,biOk,biD,lenD,cmpD];omega
theorem z2S(xs:List Int)(v:Int):xs.map DV.int++[.int v]=(xs++[v]).map DV.int:=by rw[E4];rfl
theorem z3h{F:Nat->List DV->Option Ou}{δ:List Sv}{e:ME}{n:Nat}{cl:Cl}(h:evE G F e δ=some (.ok (.int n) cl))(hn:n<=1000):o5 (evE G F (.rng [e]) δ)=some (.ok (upTo 0 n) .fresh):=by
 show o5 (Rs.thn (evEs G F [e] δ) (λl=>(rngD l).map λds=>.ok (.lst ds) .fresh))=_;rw[d9 h j1,q3P];have hs:(R5 (n:Int)&&decide ((n:Int)<=(mostLen:Int)))=true:=by rw[d7,w1U];refine⟨?_,w3D (show(n:Int)<=1000 by omega) (by decide)⟩;unfold R5;rw[d7,w1U,w1U];exact⟨w3D (by decide) (K3 n),Int.lt_of_le_of_lt (show(n:Int)<=1000 by omega) (by decide)⟩
 show o5 ((if R5 (n:Int)&&decide ((n:Int)<=(mostLen:Int))then some (upTo 0 (n:Int).toNat)else none).map λds=>.ok (.lst ds) .fresh)=_;rw[d4 hs,B8];rfl
theorem y0J{j:Nat}(hj:j<1000):E7 (j:Int) (j:Int)=true:=by unfold E7;simp;omega
theorem m48(x:Int):E7 x 48271=true:=by unfold E7;simp
theorem q4k(h:evE G F e δ=some (.ok (.lst ds) c)):evE G F (.bi .tuple [e]) δ=some (.ok (.tup ds) c.item):=by
 show Rs.thn (evEs G F [e] δ) (λl=>q5e l)=_;rw[d9 h j1];rfl
theorem Z1(h:evE G F e δ=some (.ok (.lst ds) c)):evE G F (.bi .len [e]) δ=some (.ok (.int ds.length) .strong):=by
 show Rs.thn (evEs G F [e] δ) (λl=>lenD l)=_;rw[d9 h j1];rfl
theorem q5M(h:evE G F e δ=some (.ok (.tup ds) c)):evE G F (.bi .len [e]) δ=some (.ok (.int ds.length) .strong):=by
 show Rs.thn (evEs G F [e] δ) (λl=>lenD l)=_;rw[d9 h j1];rfl
def iD(r:List Int):List DV:=r.map DV.int
def rL(rows:List (List Int)):DV:=.lst (rows.map λr=>.lst (iD r))
def tT(rows:List (List Int)):DV:=.tup (rows.map λr=>.tup (iD r))
def Rect(n m:Nat)(rows:List (List Int)):Prop:=rows.length=n/\∀r∈rows,r.length=m
def col(rows:List (List Int))(j:Nat):List Int:=rows.map λr=>r.getD j 0
def flip(m:Nat)(rows:List (List Int)):List (List Int):=(List.range m).map (col rows)
theorem q9i{r:List Int}{j:Nat}(h:j<r.length):ixD (.tup (iD r)) (.int j)=some (.int (r.getD j 0)):=by
 have hh:(j:Int)<((r.map DV.int).length:Int):=by rw[d8];exact_mod_cast h
 unfold iD;simp only[ixD,atD,F2,d4 (K3 j),d4 hh,O3,B8,m9,j3 h,Q6,i7,w2J]
theorem N2{r:List Int}{j:Nat}(h:j<r.length):ixD (.lst (iD r)) (.int j)=some (.int (r.getD j 0)):=by
 have hh:(j:Int)<((r.map DV.int).length:Int):=by rw[d8];exact_mod_cast h
 unfold iD;simp only[ixD,atD,F2,d4 (K3 j),d4 hh,O3,B8,m9,j3 h,Q6,i7,w2J]
def sub(rows:List (List Int))(I J:List Nat):List (List Int):=I.map λi=>J.map λj=>(rows.getD i []).getD j 0
theorem z3C{rows:List (List Int)}{i:Nat}(h:i<rows.length):ixD (tT rows) (.int i)=some (.tup (iD (rows.getD i []))):=by
 have hh:(i:Int)<((rows.map λr=>DV.tup (iD r)).length:Int):=by rw[d8];exact_mod_cast h
 simp only[tT,ixD,atD,F2,d4 (K3 i),d4 hh,O3,B8,m9,j3 h,Q6,i7,w2J]
theorem W0{rows:List (List Int)}{i:Nat}(h:i<rows.length):rows.getD i []∈rows:=by
 rw[i7,j3 h];exact F6 h
theorem q3f(n:Nat):∀r:List Int,DV.plains n (iD r)=true
 | []=>by unfold iD;simp[DV.plains]
 | a::r=>by have q:=q3f n r;unfold iD at q ⊢;rw[p7];unfold DV.plains;rw[q];cases n<;>rfl
theorem z3l(hw:o5 (evE G F it δ)=some (.ok ds cl))(hc:cl ≠ .weak)(hl:ds.length<=mostLen)
  (h:∀d∈ds,∃δ' c,tg.bind d (A2 fr δ)=some δ'/\evE G F elt δ'=some (.ok (f d) c)/\stro (f d) c=true):evE G F (.comp elt tg it fr) δ=some (.ok (.lst (ds.map f)) .fresh):=by
 show Ri.thn (o5 (evE G F it δ)) (λds c=>if c=.weak\/mostLen<ds.length then none else M7 (A3 (λd=>(tg.bind d (A2 fr δ)).bind λδ'=>Rc.of (evE G F elt δ')) ds))=_;rw[hw,q5D,d5 (by rintro(z | z);exact hc z;omega),q3K (f:=f) (λd hd=>?_)]
 ·rfl
 ·obtain⟨δ',c,e1,e2,e3⟩:=h d hd;rw[e1,O3,e2];show(if stro (f d) c then some (Rc.item (f d))else none)=_;rw[d4 e3]
theorem y1T(h:evE G F e δ=some (.ok (.int i) cl))(h1:i<=1000)(h2 : -1000<=i):o5 (evE G F (.rng [e]) δ)=some (.ok (upTo 0 i.toNat) .fresh):=by
 show o5 (Rs.thn (evEs G F [e] δ) (λl=>(rngD l).map λds=>.ok (.lst ds) .fresh))=_;rw[d9 h j1,q3P];have hs:(R5 i&&decide (i<=(mostLen:Int)))=true:=by rw[d7,w1U];refine⟨?_,w3D h1 (by decide)⟩;unfold R5;rw[d7,w1U,w1U];exact⟨w3D (by decide) h2,Int.lt_of_le_of_lt h1 (by decide)⟩
 show o5 ((if R5 i&&decide (i<=(mostLen:Int))then some (upTo 0 i.toNat)else none).map λds=>.ok (.lst ds) .fresh)=_;rw[d4 hs];rfl
def q6i(n m:Nat)(ws:List Int):List (List Int):=(List.range n).map λj=>(ws.drop (j*m)).take m
theorem z0R(h:ws.length=n*m):Rect n m (q6i n m ws):=by
 unfold q6i;refine⟨by rw[d8,A8],λr hr=>?_⟩;obtain⟨j,hj,rfl⟩:=o7.mp hr;have hj':=p0.mp hj;rw[Q4,w12,h];have:(j+1)*m<=n*m:=w11 m hj';rw[X4,w23]at this;omega
theorem y1j(ha:evE G F a δ=some (.ok (.lst ds) c))(hl:evE G F lo δ=some (.ok (.int l) c1))(hh:evE G F hi δ=some (.ok (.int h) c2)):evE G F (.sl a lo hi) δ=some (.ok (.lst (cutD ds (some l) (some h))) (Cl.anew c c)):=by
 unfold evE;rw[ha,y9,hl,y9];show Re.thn (evE G F hi δ) _=_;rw[hh];rfl
theorem z5k{ws:List Int}{n m j:Nat}(h:ws.length=n*m)(hj:j<n):cutD (iD ws) (some ((j:Int)*m)) (some ((j:Int)*m+m))=iD ((ws.drop (j*m)).take m):=by
 have e1:((j:Int)*m)=((j*m:Nat):Int):=by push_cast;rfl
 have e2:((j:Int)*m+m)=((j*m+m:Nat):Int):=by push_cast;rfl
 have le:j*m+m<=n*m:=(by have:(j+1)*m<=n*m:=w11 m hj;rw[X4,w23]at this;exact this);have len:(iD ws).length=n*m:=by unfold iD;rw[d8,h]
 unfold cutD slIx;rw[e2,e1];simp only[len];rw[d5 (by omega),d5 (by omega),B8,B8,w2R le,w2R (show j*m<=n*m by omega),show j*m+m - j*m=m by omega];unfold iD;rw[←List.map_drop,←List.map_take]
theorem z2n(h:j<n):F2 n (j:Int)=some j:=by
 unfold F2;rw[d4 (K3 j),d4 (by omega),B8]
theorem z7r(h:evEs G F es δ=some (.ok l)):evE G F (.bi .min es) δ=minD l:=by
 have e:evE G F (.bi .min es) δ=Rs.thn (evEs G F es δ) (λl=>minD l):=rfl;rw[e,h];rfl
theorem q8g(h:evEs G F es δ=some (.ok l))(hl:l.length<=mostLen)(hs:stros l=true):evE G F (.lst es) δ=some (.ok (.lst (l.map (·.1))) .fresh):=by
 have e:evE G F (.lst es) δ=Rs.thn (evEs G F es δ) (λl=>if l.length<=mostLen then some (.ok (.lst (l.map (·.1))) (if stros l then .fresh else .weak))else none):=rfl;rw[e,h,q3P,d4 hl,hs];rfl
def nD(l:List Nat):List DV:=l.map λ(j:Nat)=>DV.int (j:Int)
theorem z1f:∀a b:List Int,deqs (iD a) (iD b)=(a==b)
 | [],[]=>rfl
 | [],_::_=>rfl
 | _::_,[]=>rfl
 | x::a,y::b=>by have ih:=z1f a b;unfold iD at ih ⊢;rw[p7,p7];unfold deqs;rw[ih];unfold deq;rfl
theorem z7m(a b:List Int):deq (.lst (iD a)) (.lst (iD b))=(a==b):=z1f a b
theorem q4w:∀{l:List DV},(∀d∈l,d.plain n=true)->DV.plains n l=true
 | [],_=>by unfold DV.plains;rfl
 | d::r,h=>by unfold DV.plains;rw[h d (j5 ..),q4w λx hx=>h x (i6 _ hx)];rfl
theorem z0k(n:Nat)(a:List Int):DV.plain (n+1) (.lst (iD a))=true:=q3f n a
theorem z6o(n:Nat)(a:Int):DV.plain n (.int a)=true:=by cases n<;>(unfold DV.plain;rfl)
theorem q4F{α:Type}{g:DV->Option Rc}{h f:α->DV}:∀{l:List α},(∀a∈l,g (h a)=some (.item (f a)))->A3 g (l.map h)=some (l.map f)
 | [],_=>rfl
 | a::r,q=>by rw[p7,p7];unfold A3;rw[q a (j5 ..)];show(match A3 g (r.map h)with | none=>none | some xs=>some (f a::xs))=_;rw[q4F λx hx=>q x (i6 _ hx)]
theorem J9{α:Type}{l:List α}{h f:α->DV}{elt it:ME}{tg:Tg}{fr:List (Option Nat)}(hw:o5 (evE G F it δ)=some (.ok (l.map h) cl))(hc:cl ≠ .weak)(hl:l.length<=mostLen)
  (q:∀a∈l,∃δ' c,tg.bind (h a) (A2 fr δ)=some δ'/\evE G F elt δ'=some (.ok (f a) c)/\stro (f a) c=true):evE G F (.comp elt tg it fr) δ=some (.ok (.lst (l.map f)) .fresh):=by
 show Ri.thn (o5 (evE G F it δ)) (λds c=>if c=.weak\/mostLen<ds.length then none else M7 (A3 (λd=>(tg.bind d (A2 fr δ)).bind λδ'=>Rc.of (evE G F elt δ')) ds))=_;rw[hw,q5D,d5 (by rintro(z | z);exact hc z;rw[d8]at z;omega),q4F (f:=f) (λa ha=>?_)]
 ·rfl
 ·obtain⟨δ',c,e1,e2,e3⟩:=q a ha;rw[e1,O3,e2];show(if stro (f a) c then some (Rc.item (f a))else none)=_;rw[d4 e3]
theorem z4a{rows:List (List Int)}{j:Nat}{d:DV}{h:List Int->DV}(hl:rows.length<=1000)(w:o5 (evE G F (.var 1) [.val (.int (j:Int)),.val d])=some (.ok (rows.map h) .strong))(hh:∀r∈rows,ixD (h r) (.int j)=some (.int (r.getD j 0))):evE G F (.comp (.ix (.var 0) (.var 1)) (.one 0) (.var 1) [none,some 0]) [.val (.int j),.val d]=some (.ok (.lst (iD (col rows j))) .fresh):=by
 rw[J9 (h:=h) (f:=λr=>.int (r.getD j 0)) w (by decide) (m6 hl (by decide)) λr hr=>⟨[.val (h r),.val (.int j)],.strong,rfl,o6 (cx:=.strong) (b8 rfl) (b8 rfl) (hh r hr),rfl⟩];unfold iD col;rw[j9];rfl
theorem y0Q(rows:List (List Int))(m j:Nat)(hm:∀r∈rows,r.length=m)(hj:j<m)(hl:rows.length<=1000):evE G F (.comp (.ix (.var 0) (.var 1)) (.one 0) (.var 1) [none,some 0]) [.val (.int j),.val (tT rows)]=some (.ok (.lst (iD (col rows j))) .fresh):=z4a hl rfl λr hr=>q9i (by rw[hm r hr];exact hj)
theorem z9j(rows:List (List Int))(m j:Nat)(hm:∀r∈rows,r.length=m)(hj:j<m)(hl:rows.length<=1000):evE G F (.comp (.ix (.var 0) (.var 1)) (.one 0) (.var 1) [none,some 0]) [.val (.int j),.val (rL rows)]=some (.ok (.lst (iD (col rows j))) .fresh):=z4a hl rfl λr hr=>N2 (by rw[hm r hr];exact hj)
theorem z0I{e:ME}{c:Cl}{n:Nat}(h:evE G F e δ=some (.ok (.int (n:Int)) c))(hn:n<=1000):o5 (evE G F (.rng [e]) δ)=some (.ok ((List.range n).map λ(j:Nat)=>DV.int (j:Int)) .fresh):=by
 rw[z3h h hn];unfold L2.upTo
 congr 2
 apply C9;intro j _
 congr 1
 omega
theorem q6e(rows:List (List Int))(n m:Nat)(R:Rect n m rows)(hn:0<n)(hn2:n<=1000)(hm2:m<=1000):run G T fu (k+1) 3 [tT rows]=some (.v (tT (flip m rows)) false):=by
 rw[y7 (fd:=q3w) rfl rfl];have r0:0<rows.length:=by rw[R.1];exact hn
 have hl:=q5M (F:=run G T fu k) (δ:=o8 1 [tT rows]) (o6 (a:=.var 0) (b:=.int 0) (cx:=.strong) (b8 rfl) (f7 (i:=((0:Nat):Int))) (z3C r0));rw[show(iD (rows.getD 0 [])).length=m by unfold iD;rw[d8];exact R.2 _ (W0 r0)]at hl;have cm:=J9 (elt:=.bi .tuple [.comp (.ix (.var 0) (.var 1)) (.one 0) (.var 1) [none,some 0]]) (tg:=.one 0) (fr:=[none,some 0]) (f:=λj=>.tup (iD (col rows j))) (z0I hl hm2) (by decide) (by rw[A8];exact m6 hm2 (by decide)) λj hj=>
  ⟨[.val (.int j),.val (tT rows)],.strong,rfl,q4k (y0Q rows m j R.2 (p0.mp hj) (by rw[R.1];exact hn2)),rfl⟩
 unfold q3w;refine C3 (B4 (F3 (cl:=.strong) ((q4k cm).trans ?_)));unfold tT flip;rw[j9];rfl
theorem q4J:∀r:List Int,ints? (iD r)=some r
 | []=>rfl
 | x::r=>by show(ints? (iD r)).map (x :: ·)=_;rw[q4J r];rfl
section
variable {G:Gs} {a b:ME} {r:List ME} {cx:Cl} {o:Option Re}
end
section
variable {G:Gs} {a b:ME} {r:List ME} {cx:Cl} {o:Option Re}
end
section
variable {G:Gs} {a b:ME} {r:List ME} {cx:Cl} {o:Option Re}
end
section
variable {G:Gs} {a b:ME} {r:List ME} {cx:Cl} {o:Option Re}
theorem q2N{tg:Tg}{body:List Sv->Option Out}{d:DV}{r:List DV}{δ1 δ2:List Sv}(h1:tg.bind d δ=some δ1)(h2:body δ1=some (.nx δ2)):p6 tg body (d::r) δ=p6 tg body r δ2:=by
 show(match tg.bind d δ with | none=>none | some δ1=>match body δ1 with | some (.nx δ2)=>p6 tg body r δ2 | o=>o)=_;rw[h1];show(match body δ1 with | some (.nx δ2)=>p6 tg body r δ2 | o=>o)=_;rw[h2]
end
section
variable {G:Gs} {a b:ME} {r:List ME} {cx:Cl} {o:Option Re}
end
section
variable {G:Gs} {a b:ME} {r:List ME} {cx:Cl} {o:Option Re}
end
theorem b_le(ha:evE G F a δ=some (.ok (.int i) cx))(hb:evE G F b δ=some (.ok (.int j) cy)):evE G F (.cmp .LtE a b) δ=some (.ok (.bl (decide (i<=j))) .strong):=E8 ha hb rfl
def sm(a b:Nat):Bool:=decide (a<6)&&decide (b<6)
theorem q6H{α:Type}{g:DV->Option Rc}{h f:α->DV}{p:α->Bool}:∀{l:List α},(∀a∈l,g (h a)=some (if p a then .item (f a)else .skip))->A3 g (l.map h)=some ((l.filter p).map f)
 | [],_=>rfl
 | a::l,q=>by
  have h0:=q a (j5 ..);have ih:=q6H (g:=g) (h:=h) (f:=f) (p:=p) (l:=l) λb hb=>q b (i6 _ hb);cases e:p a with
  | true=>
   rw[e]at h0;show(match g (h a)with | none=>none | some .skip=>A3 g (l.map h) | some (.item x)=>match A3 g (l.map h)with | none=>none | some xs=>some (x::xs))=_;rw[h0,w2F e,p7];show(match A3 g (l.map h)with | none=>none | some xs=>some (f a::xs))=_;rw[ih]
  | false=>
   rw[e]at h0;show(match g (h a)with | none=>none | some .skip=>A3 g (l.map h) | some (.item x)=>match A3 g (l.map h)with | none=>none | some xs=>some (x::xs))=_;rw[h0,w2E (by rw[e];simp)];exact ih
theorem q9I{α:Type}{l:List α}{h f:α->DV}{p:α->Bool}{elt it cd:ME}{tg:Tg}{fr:List (Option Nat)}(hw:o5 (evE G F it δ)=some (.ok (l.map h) cl))(hc:cl ≠ .weak)(hl:l.length<=mostLen)
  (q:∀a∈l,∃δ',tg.bind (h a) (A2 fr δ)=some δ'/\tstD (evE G F cd δ')=some (.ok (p a))/\∃c,evE G F elt δ'=some (.ok (f a) c)/\stro (f a) c=true):evE G F (.compi elt tg it cd fr) δ=some (.ok (.lst ((l.filter p).map f)) .fresh):=by
 show Ri.thn (o5 (evE G F it δ)) (λds c=>if c=.weak\/mostLen<ds.length then none else M7 (A3 (λd=>(tg.bind d (A2 fr δ)).bind λδ'=>Rc.test (tstD (evE G F cd δ')) (Rc.of (evE G F elt δ'))) ds))=_;rw[hw,q5D,d5 (by rintro(z | z);exact hc z;rw[d8]at z;omega),q6H (f:=f) (p:=p) (λa ha=>?_)]
 ·rfl
 ·obtain⟨δ',e1,e2,c,e3,e4⟩:=q a ha;rw[e1,O3,e2,e3];cases p a with
  | false=>rfl
  | true=>
   show(if stro (f a) c then some (Rc.item (f a))else none)=_;rw[d4 e4];rfl
theorem q4y:isiD G (.int x) ["int"]=some true:=rfl
theorem q3R:isiD G (.int x) ["bool"]=some false:=rfl
theorem q4g:run G T fu (k+1) 0 [.int x,.int a,.int b]=some (.v (.bl (decide (a<=x)&&decide (x<=b))) false):=by
 rw[y7 (fd:=q2M) rfl rfl];by_cases h1:a<=x
 ·simp[q2M,o8,evSs,evS,evE,M8,Re.thnS,y9,q4y,q3R,andD,E6,cmpD,h1,Ou.of,frD,retD,Cl.item]
 ·simp[q2M,o8,evSs,evS,evE,M8,Re.thnS,y9,q4y,q3R,andD,E6,cmpD,h1,Ou.of,frD,retD,Cl.item]
def cs(c:Nat):List Nat:=(List.range (c.log2+1)).filter c.testBit
def cd(n:Nat):Nat->List Int
 | 0=>[]
 | l+1=>((n/2^l%2:Nat):Int)::cd n l
def lin(m:Nat)(rows:List (List Int))(s:Bool):List (List Int):=if s then rows else flip m rows
def hd(l:List Nat):DV:=match l with | []=>.non | c::_=>.int c
theorem z1j(h:evE G F e δ=some (.ok (.lst ds) .strong)):evE G F (.bi .list [e]) δ=some (.ok (.lst ds) .fresh):=by
 have q:evE G F (.bi .list [e]) δ=Rs.thn (evEs G F [e] δ) (λl=>q8v l):=rfl;rw[q,d9 h j1];rfl
section
variable {G:Gs} {F:Nat->List DV->Option Ou} {δ:List Sv} {fu:Nat} {d:DV} {r:List MS}
theorem z7j(ha:evE G F a δ=some (.ok (.bl false) cx))(hb:evE G F b δ=some (.ok (.bl false) cy))(hc:evE G F c δ=o):evE G F (.or [a,b,c]) δ=o:=by
 have e:evE G F (.or [a,b,c]) δ=Re.thn (evE G F a δ) (λx cc=>orD x cc (Re.thn (evE G F b δ) λy cd=>orD y cd (evE G F c δ))):=(by rw[evE,evOr,evOr,evOr];rfl);rw[e,ha,y9];show Re.thn (evE G F b δ) (λy cd=>orD y cd (evE G F c δ))=_;rw[hb,y9];exact hc
end
theorem z3V(r:List Int):(iD r).length=r.length:=by unfold iD;rw[d8]
end
section
theorem q7e:∀l:List Nat,ints? (nD l)=some (l.map λ(j:Nat)=>(j:Int))
 | []=>rfl
 | a::l=>by show(ints? (nD l)).map ((a:Int) :: ·)=_;rw[q7e l];rfl
end
section
variable {G:Gs} {F:Nat->List DV->Option Ou} {fu k:Nat} {δ:List Sv}
abbrev rw'(r:List Int):rk.Rw:=λj=>r.getD j 0
theorem q7O{α:Type}(h:α->DV):∀(l:List α) (n:Nat),enuD n (l.map h)=(List.range l.length).map λi=>.tup [.int ((n+i:Nat):Int),(l.map h).getD i .non]:=by
 intro l
 induction l with
 | nil=>intro n;rfl
 | cons a l ih=>
  intro n;rw[m4,Z5,p7,p7,j9];show .tup [.int (n:Int),h a]::enuD (n+1) (l.map h)=_;rw[ih (n+1)]
  congr 1
  refine C9 λi _=>?_;show _=DV.tup [.int ((n+(i+1):Nat):Int),_];rw[show n+1+i=n+(i+1) by omega];rfl
theorem z8u(h:evE G F e δ=some (.ok (.lst (iD r)) .strong)):o5 (evE G F (.enu e) δ)=some (.ok ((List.range r.length).map λ(i:Nat)=>.tup [.int (i:Int),.int (r.getD i 0)]) .strong):=by
 have q:evE G F (.enu e) δ=Re.thn (evE G F e δ) (λx c=>X8 x c):=by rw[evE]
 rw[q,h];show some (Ri.ok (enuD 0 (iD r)) .strong)=_;unfold iD;rw[q7O]
 congr 2
 refine C9 λi hi=>?_;have:=p0.mp hi;rw[X1,i7,i7,m9,j3 this];rfl
theorem q6X:∀{l:List Nat} {a:Nat} {r:List Nat},l.filter p=a::r->l.find? p=some a:=by
 intro l
 induction l with
 | nil=>intro a r h;cases h
 | cons x l ih=>
  intro a r h;rw[O5];cases q:p x with
  | true=>rw[w2F q]at h;cases h;rfl
  | false=>rw[w2E (by rw[q];decide)]at h;exact ih h
theorem z9T(hl:r.length<=1000)(h0:¬rk.Nil r.length (rw' r)):run k42.G T fu (k+1) 12 [.lst (iD r)]=some (.v (.int (rk.ld r.length (rw' r):Nat)) false):=by
 have c1:∀F:Nat->List DV->Option Ou,evE k42.G F (.compi (.var 0) (.many [0,1]) (.enu (.var 0)) (.cmp .NotEq (.var 1) (.int 0)) [none,none]) [.val (.lst (iD r))]=some (.ok (.lst (((List.range r.length).filter λj=>decide (rw' r j≠0)).map λ(j:Nat)=>DV.int (j:Int))) .fresh):=λF=>
  q9I (h:=λ(i:Nat)=>DV.tup [.int (i:Int),.int (r.getD i 0)]) (f:=λ(j:Nat)=>DV.int (j:Int)) (p:=λj=>decide (rw' r j≠0)) (z8u (b8 rfl)) (by decide) (by rw[A8];exact m6 hl (by decide)) λi hi=>⟨[.val (.int (i:Int)),.val (.int (r.getD i 0))],rfl,by
   rw[o9 (x:=decide (rw' r i≠0)) (E8 (b8 rfl) f7 ?_)];show some (!decide (r.getD i 0=0))=some (decide (r.getD i 0≠0));rw[decide_not],.strong,b8 rfl,rfl⟩
 obtain⟨h1,h2⟩:=rk.ld_ok h0;have hm:rk.ld r.length (rw' r)∈(List.range r.length).filter λj=>decide (rw' r j≠0):=M3.mpr ⟨p0.mpr h1,by rw[L3];exact h2⟩
 cases q:(List.range r.length).filter λj=>decide (rw' r j≠0)with
 | nil=>rw[q]at hm;cases hm
 | cons a t=>
  have e:rk.ld r.length (rw' r)=a:=by unfold rk.ld;rw[q6X q];rfl
  rw[y7 (fd:=q1O) rfl rfl];refine C3 (B4 (F3 (cl:=Cl.item .fresh) (o6 (c1 _) f7 ?_)));rw[q,e];have:=N2 (r:=(a::t).map λ(j:Nat)=>(j:Int)) (j:=0) (by rw[d8,m4];omega);unfold iD at this;rw[j9]at this;exact this
theorem z3H(h1:i.natAbs<2^2000)(h2:j.natAbs<2^2000):E7 i j=true:=by
 unfold E7;rw[B9 h1,B9 h2,w3k,w4c]
def stL(w x:List Int):List Int:=(List.range x.length).map λj=>rk.stz (rk.ld w.length (rw' w),rw' w) (rw' x) j
def rdL(K:List (List Int))(x:List Int):List Int:=K.foldl (λx w=>stL w x) x
theorem q4U(w x:List Int):(stL w x).length=x.length:=by unfold stL;rw[d8,A8]
theorem q9v:∀(x w:List Int),x.length=w.length->zpD (iD x) (iD w)=(List.range x.length).map λ(i:Nat)=>DV.tup [.int (x.getD i 0),.int (w.getD i 0)]:=by
 intro x
 induction x with
 | nil=>intro w h;rfl
 | cons a x ih=>
  intro w h;cases w with
  | nil=>cases h
  | cons b w=>
   rw[m4,Z5,p7,j9];show DV.tup [.int a,.int b]::zpD (iD x) (iD w)=_;rw[ih w (w2z h)];rfl
def Bd(e:Nat)(x:List Int):Prop:=∀a∈x,a.natAbs<2^e
theorem Bd.at(h:Bd e x)(j:Nat):(x.getD j 0).natAbs<2^e:=by
 rw[i7];cases q:x[j]? with
 | none=>exact W7 e
 | some a=>exact h a (P9 q)
theorem z7W{a b c d:Int}{e f:Nat}(ha:a.natAbs<2^e)(hb:b.natAbs<2^f)(hc:c.natAbs<2^e)(hd:d.natAbs<2^f):(a*b - c*d).natAbs<2^(e+f+1):=by
 have h1:(a*b).natAbs<=2^(e+f):=(by rw[Q7,Nat.pow_add];exact w2Y (w2O ha) (w2O hb));have h2:(c*d).natAbs<2^(e+f):=(by rw[Q7,Nat.pow_add];exact Nat.mul_lt_mul'' hc hd);have h3:=Int.natAbs_sub_le (a*b) (c*d);rw[U5];omega
theorem z8S(hw:Bd f w)(hx:Bd e x):Bd (e+f+1) (stL w x):=λa ha=>by
 obtain⟨j,_,rfl⟩:=o7.mp ha;exact z7W (hx.at j) (hw.at _) (hx.at _) (hw.at j)
end
section
variable {G:Gs} {F:Nat->List DV->Option Ou} {fu k:Nat} {δ:List Sv}
def RdOk:List (List Int)->List Int->Prop
 | [],_=>True
 | w::K,x=>(w.length=x.length/\¬rk.Nil w.length (rw' w)/\Bd 2000 x/\Bd 2000 w)/\RdOk K (stL w x)
theorem z1Y(h:evE G F e δ=some (.ok (.tup ds) .strong)):evE G F (.bi .list [e]) δ=some (.ok (.lst ds) .fresh):=by
 show Rs.thn (evEs G F [e] δ) (λl=>biD .list l)=_;rw[d9 h j1];rfl
theorem zp_w(ha:evE G F a δ=some (.ok (.lst (iD x)) .top))(hb:evE G F b δ=some (.ok (.lst (iD w)) .strong))(h:x.length=w.length):o5 (evE G F (.zp a b) δ)=some (.ok ((List.range x.length).map λ(i:Nat)=>DV.tup [.int (x.getD i 0),.int (w.getD i 0)]) .top):=by
 have q:evE G F (.zp a b) δ=Re.thn (evE G F a δ) (λx c=>Re.thn (evE G F b δ) λy c'=>zipD x y c c'):=by rw[evE]
 rw[q,ha,y9,hb,y9];show some (Ri.ok (zpD (iD x) (iD w)) .top)=_;rw[q9v x w h]
abbrev rS(l:DV)(K:List (List Int))(x:List Int)(a b c:Sv):List Sv:=[.val l,.val (rL K),.own (.lst (iD x)),a,b,c]
def rB:List MS:=[.set 4 false (.call 12 [.var 3]),.set 5 false (.ix (.var 2) (.var 4)),.set 2 true (.comp (.bin .Sub (.bin .Mult (.var 0) (.ix (.var 2) (.var 3))) (.bin .Mult (.var 4) (.var 1))) (.many [0,1]) (.zp (.var 2) (.var 3)) [none,none,some 3,some 4,some 5])]
theorem r_in(hl:x.length<=1000)(h:w.length=x.length/\¬rk.Nil w.length (rw' w)/\Bd 2000 x/\Bd 2000 w):∃b' c',evSs k42.G (run k42.G T fu (k+1)) fu rB (rS l K x (.val (.lst (iD w))) b c)=some (.nx (rS l K (stL w x) (.val (.lst (iD w))) b' c')):=by
 obtain⟨h1,h2,h3,h4⟩:=h;obtain⟨p,hp⟩:∃p,rk.ld w.length (rw' w)=p:=⟨_,rfl⟩;have pl:=rk.ld_ok h2;rw[hp]at pl;have c1:evE k42.G (run k42.G T fu (k+1)) (.call 12 [.var 3]) (rS l K x (.val (.lst (iD w))) b c)=some (.ok (.int (p:Nat)) .strong):=by have:=z9T (fu:=fu) (k:=k) (r:=w) (by omega) h2;rw[hp]at this;exact x5 (d9 (b8 rfl) j1) rfl this
 have c2:evE k42.G (run k42.G T fu (k+1)) (.ix (.var 2) (.var 4)) (rS l K x (.val (.lst (iD w))) (.val (.int (p:Nat))) c)=some (.ok (.int (x.getD p 0)) (Cl.item .top)):=o6 (P1 rfl) (b8 rfl) (N2 (by omega));have c3:evE k42.G (run k42.G T fu (k+1)) (.comp (.bin .Sub (.bin .Mult (.var 0) (.ix (.var 2) (.var 3))) (.bin .Mult (.var 4) (.var 1))) (.many [0,1]) (.zp (.var 2) (.var 3)) [none,none,some 3,some 4,some 5]) (rS l K x (.val (.lst (iD w))) (.val (.int (p:Nat))) (.val (.int (x.getD p 0))))=some (.ok (.lst (iD (stL w x))) .fresh):=(by have:=J9 (F:=run k42.G T fu (k+1)) (it:=.zp (.var 2) (.var 3)) (δ:=rS l K x (.val (.lst (iD w))) (.val (.int (p:Nat))) (.val (.int (x.getD p 0)))) (l:=List.range x.length) (h:=λ(i:Nat)=>DV.tup [.int (x.getD i 0),.int (w.getD i 0)]) (f:=λ(i:Nat)=>DV.int (x.getD i 0*w.getD p 0 - x.getD p 0*w.getD i 0)) (elt:=.bin .Sub (.bin .Mult (.var 0) (.ix (.var 2) (.var 3))) (.bin .Mult (.var 4) (.var 1))) (tg:=.many [0,1]) (fr:=[none,none,some 3,some 4,some 5]) (zp_w (P1 rfl) (b8 rfl) h1.symm) (by decide) (by rw[A8];exact m6 hl (by decide)) λi hi=>⟨[.val (.int (x.getD i 0)),.val (.int (w.getD i 0)),.val (.lst (iD w)),.val (.int (p:Nat)),.val (.int (x.getD p 0))],.strong,rfl,z2W (L8 (b8 rfl) (o6 (b8 rfl) (b8 rfl) (N2 pl.1)) (z3H (h3.at i) (h4.at p))) (L8 (b8 rfl) (b8 rfl) (z3H (h3.at p) (h4.at i))),rfl⟩;rw[this];unfold stL iD;rw[hp,j9];rfl);exact⟨_,_,f8 (m7 c1 rfl) (f8 (m7 c2 rfl) (f8 (Y1 c3) rfl))⟩
theorem z3Y:∀(K:List (List Int)) (x:List Int) (a b c:Sv),x.length<=1000->RdOk K x->∃a' b' c',p6 (.one 3) (λδ'=>evSs k42.G (run k42.G T fu (k+1)) fu rB δ') (K.map λw=>.lst (iD w)) (rS l K0 x a b c)=some (.nx (rS l K0 (rdL K x) a' b' c'))
 | [],x,a,b,c,_,_=>⟨a,b,c,rfl⟩
 | w::K,x,a,b,c,hl,h=>by obtain⟨b1,c1,e⟩:=r_in (fu:=fu) (k:=k) (l:=l) (K:=K0) (b:=b) (c:=c) hl h.1;obtain⟨a',b',c',e'⟩:=z3Y K (stL w x) (.val (.lst (iD w))) b1 c1 (by rw[q4U];exact hl) h.2;refine⟨a',b',c',?_⟩;show p6 (.one 3) _ (.lst (iD w)::K.map λw=>.lst (iD w)) _=_;rw[q2N (δ1:=rS l K0 x (.val (.lst (iD w))) b c) rfl e];exact e'
theorem z0r(hl:x.length<=1000)(h:RdOk K x):run k42.G T fu (k+2) 11 [.tup (iD x),rL K]=some (.v (.lst (iD (rdL K x))) true):=by
 obtain⟨a',b',c',e⟩:=z3Y (fu:=fu) (k:=k) (l:=.tup (iD x)) (K0:=K) K x .no .no .no hl h;rw[y7 (fd:=q4H) rfl rfl];refine C3 (f8 (Y1 (z1Y (b8 rfl))) ?_);exact K8 (ds:=K.map λw=>.lst (iD w)) (cl:=.strong) rfl (.inl rfl) e (B4 (F3 (cl:=.top) (P1 rfl)))
end
section
variable {F:Nat->List DV->Option Ou} {fu k:Nat} {δ:List Sv}
theorem y0B(h:w.length=x.length):rw' (stL w x)=rk.stz (rk.ld w.length (rw' w),rw' w) (rw' x):=by
 funext j
 show(stL w x).getD j 0=rk.stz (rk.ld w.length (rw' w),rw' w) (rw' x) j;by_cases q:j<x.length
 ·rw[i7];unfold stL;rw[m9,w1N q];rfl
 ·have e1:(stL w x).getD j 0=0:=by rw[i7,Z6 (by rw[q4U];omega)];rfl
  have e2:x.getD j 0=0:=by rw[i7,Z6 (by omega)];rfl
  have e3:w.getD j 0=0:=by rw[i7,Z6 (by omega)];rfl
  rw[e1];show 0=x.getD j 0*_ - _*w.getD j 0;rw[e2,e3,K5,G5];rfl
theorem q5x:∀(K:List (List Int)) (x:List Int),(rdL K x).length=x.length
 | [],x=>rfl
 | w::K,x=>by show(rdL K (stL w x)).length=_;rw[q5x K,q4U]
def kq(w:List Int):Nat×rk.Rw:=(rk.ld w.length (rw' w),rw' w)
theorem z7T:∀(K:List (List Int)) (x:List Int),(∀w∈K,w.length=x.length)->rw' (rdL K x)=rk.rz (K.map kq) (rw' x)
 | [],x,_=>rfl
 | w::K,x,h=>by show rw' (rdL K (stL w x))=rk.rz (K.map kq) (rk.stz (kq w) (rw' x));rw[z7T K (stL w x) λw' hw=>by rw[q4U];exact h w' (i6 _ hw),y0B (h w j5)];rfl
def ex(s:Nat):Nat:=5*2^s - 1
theorem z4K(s:Nat):ex s+ex s+1=ex (s+1):=by
 unfold ex;have:=W7 s;rw[U5];omega
theorem q7Q(h:s<=8):ex s<=2000:=by
 unfold ex;have:2^s<=2^8:=Z9 (by decide) h;have e:2^8=256:=by decide
 omega
theorem Bd.mono(h:Bd e x)(q:e<=f):Bd f x:=λa ha=>x4 (h a ha) (Z9 (by decide) q)
theorem z7x:∀(K:List (List Int)) (s:Nat) (x:List Int),Bd (ex s) x->(∀i w,K[i]? = some w->w.length=x.length/\¬rk.Nil w.length (rw' w)/\Bd (ex (s+i)) w)->s+K.length<=8->RdOk K x/\Bd (ex (s+K.length)) (rdL K x)
 | [],s,x,hx,_,_=>⟨trivial,hx⟩
 | w::K,s,x,hx,h,hs=>by
  obtain⟨h1,h2,h3⟩:=h 0 w rfl;rw[m4]at hs;have I:=z7x K (s+1) (stL w x) (by rw[←z4K];exact z8S h3 hx) (λi w' hw=>by
   obtain⟨q1,q2,q3⟩:=h (i+1) w' hw;rw[q4U];exact⟨q1,q2,by rw[show s+1+i=s+(i+1) by omega];exact q3⟩) (by omega)
  refine⟨⟨⟨h1,h2,hx.mono (q7Q (by omega)),h3.mono (q7Q (by omega))⟩,I.1⟩,?_⟩;have:=I.2;rw[m4,show s+(K.length+1)=s+1+K.length by omega];exact this
def kl(rows:List (List Int))(m:Nat):Nat->List (Nat×List Int)
 | 0=>[]
 | n+1=>
  let y:=rdL ((kl rows m n).map (·.2)) (rows.getD n [])
  if rk.Nil m (rw' y)then kl rows m n else kl rows m n++[(n,y)]
def vv(rows:List (List Int)):Nat->rk.Rw:=λi=>rw' (rows.getD i [])
structure Kl(rows:List (List Int))(m n:Nat):Prop where
 len:(kl rows m n).length<=n
 ok:∀(i:Nat) q,(kl rows m n)[i]? = some q->q.2.length=m/\¬rk.Nil m (rw' q.2)/\Bd (ex i) q.2
 eq:rk.kz (vv rows) m n=(kl rows m n).map λq=>(q.1,kq q.2)
theorem Kl.all(I:Kl rows m n):∀q∈kl rows m n,q.2.length=m:=λq hq=>by
 obtain⟨i,hi,e⟩:=W3 hq;exact(I.ok i q (by rw[j3 hi,e])).1
theorem q6o(R:Rect N m rows)(h:n<N):rows.getD n []∈rows/\(rows.getD n []).length=m:=by
 have hn:n<rows.length:=by rw[R.1];exact h
 have:rows.getD n []∈rows:=by rw[i7,j3 hn];exact F6 hn
 exact⟨this,R.2 _ this⟩
theorem Kl.red(R:Rect N m rows)(h9:∀r∈rows,∀x∈r,0<=x/\x<=9)(I:Kl rows m n)(hn:n<N)(h8:N<=8):RdOk ((kl rows m n).map (·.2)) (rows.getD n [])/\Bd (ex (kl rows m n).length) (rdL ((kl rows m n).map (·.2)) (rows.getD n []))/\rw' (rdL ((kl rows m n).map (·.2)) (rows.getD n []))=rk.rkz (vv rows) m n (vv rows n):=by
 obtain⟨r1,r2⟩:=q6o R hn;have:=z7x ((kl rows m n).map (·.2)) 0 (rows.getD n []) (λa ha=>by
  have:=h9 _ r1 a ha;show a.natAbs<2^4;have e:2^4=16:=by decide
  omega) (λi w hw=>by
   rw[m9]at hw;obtain⟨q,hq,rfl⟩:=x8.mp hw;obtain⟨q1,q2,q3⟩:=I.ok i q hq;rw[r2,X1];exact⟨q1,by rw[q1];exact q2,q3⟩) (by rw[d8];have:=I.len;omega)
 rw[d8,X1]at this;refine⟨this.1,this.2,?_⟩;rw[z7T _ _ λw hw=>by
  obtain⟨q,hq,rfl⟩:=o7.mp hw;rw[r2];exact I.all q hq]
 unfold rk.rkz;rw[I.eq,j9,j9];rfl
theorem q5R(rows:List (List Int))(m n:Nat):kl rows m (n+1)=if rk.Nil m (rw' (rdL ((kl rows m n).map (·.2)) (rows.getD n [])))then kl rows m n else kl rows m n++[(n,rdL ((kl rows m n).map (·.2)) (rows.getD n []))]:=rfl
theorem z6k(R:Rect N m rows)(h9:∀r∈rows,∀x∈r,0<=x/\x<=9)(h8:N<=8):∀n,n<=N->Kl rows m n
 | 0,_=>⟨j2 _,λi q h=>(by have h':([]:List (Nat×List Int))[i]? = some q:=h;rw[List.getElem?_nil]at h';cases h'),rfl⟩
 | n+1,hn=>by
  have I:=z6k R h9 h8 n (by omega);obtain⟨_,b,e⟩:=I.red R h9 (by omega) h8;obtain⟨_,r2⟩:=q6o (n:=n) R (by omega);by_cases z:rk.Nil m (rw' (rdL ((kl rows m n).map (·.2)) (rows.getD n [])))
  ·have k1:kl rows m (n+1)=kl rows m n:=by rw[q5R,d4 z]
   refine⟨by rw[k1];have:=I.len;omega,by rw[k1];exact I.ok,?_⟩;rw[k1,rk.kz_succ,d4 (by rw[←e];exact z)];exact I.eq
  ·have k1:kl rows m (n+1)=kl rows m n++[(n,rdL ((kl rows m n).map (·.2)) (rows.getD n []))]:=by rw[q5R,d5 z]
   refine⟨by rw[k1,C5,T9];have:=I.len;omega,λi q h=>?_,?_⟩
   ·rw[k1]at h;by_cases w:i<(kl rows m n).length
    ·rw[M1 w]at h;exact I.ok i q h
    ·rw[P7 (by omega)]at h;have hi:i=(kl rows m n).length:=by
      refine w10 λne=>?_;rw[Z6 (by rw[T9];omega)]at h;cases h
     subst hi;rw[w4b]at h;cases h;exact⟨by rw[q5x,r2],z,b⟩
   ·rw[k1,rk.kz_succ,d5 (by rw[←e];exact z),E4,I.eq,←e];show _++[(n,(rk.ld m (rw' _),rw' _))]=_++[(n,kq _)];unfold kq;rw[q5x,r2]
end
section
variable {F:Nat->List DV->Option Ou} {fu k:Nat} {δ:List Sv}
theorem z3I:∀(y:List Int),DV.immuts (iD y)=true
 | []=>rfl
 | a::y=>by show(DV.immut (.int a)&&DV.immuts (iD y))=true;rw[z3I y];rfl
theorem q5p{α:Type}(f:α->Bool):∀(l:List α),bools? (l.map λa=>DV.bl (f a))=some (l.map f)
 | []=>rfl
 | a::l=>by show(bools? (l.map λa=>DV.bl (f a))).map (f a :: ·)=_;rw[q5p f l];rfl
theorem z5a{α:Type}{f:α->Bool}{l:List α}{e:ME}{c:Cl}(h:evE G F e δ=some (.ok (.lst (l.map λa=>.bl (f a))) c)):evE G F (.bi .any [e]) δ=some (.ok (.bl (l.any f)) .strong):=by
 show Rs.thn (evEs G F [e] δ) (λl=>anyD l)=_;rw[d9 h j1];show(bools? (l.map λa=>DV.bl (f a))).map (λbs=>Re.ok (.bl (bs.any id)) .strong)=_;rw[q5p];show some (Re.ok (.bl ((l.map f).any id)) .strong)=_;rw[List.any_map];rfl
theorem any_nil(hy:y.length=m):y.any (λa=>decide (a≠0)) = !decide (rk.Nil m (rw' y)):=by
 by_cases z:rk.Nil m (rw' y)
 ·rw[B9 z];show _=false;rw[List.any_eq_false];intro a ha;obtain⟨j,hj,e⟩:=W3 ha;have:=z j (by omega);have this:y.getD j 0=0:=this;rw[i7,j3 hj]at this;have:y[j]=0:=this;rw[e]at this;simp[this]
 ·rw[C6 z];show _=true;rw[w13];obtain⟨h1,h2⟩:=rk.ld_ok z;have hj:rk.ld m (rw' y)<y.length:=by omega
  refine⟨y[rk.ld m (rw' y)],F6 hj,?_⟩;rw[L3];have h2:y.getD (rk.ld m (rw' y)) 0≠0:=h2;rw[i7,j3 hj]at h2;exact h2
abbrev bS(rows:List (List Int))(m n:Nat)(a b c:Sv):List Sv:=[.val (tT rows),.own (.lst (nD ((kl rows m n).map (·.1)))),.own (rL ((kl rows m n).map (·.2))),a,b,c]
def bB:List MS:=[.set 5 false (.call 11 [.var 4,.var 2]),.iff (.bi .any [.comp (.cmp .NotEq (.var 0) (.int 0)) (.one 0) (.var 5) [none]]) [.app 1 (.var 3),.app 2 (.var 5)] []]
theorem b_in(R:Rect N m rows)(h9:∀r∈rows,∀x∈r,0<=x/\x<=9)(h8:N<=8)(m8:m<=1000)(hn:n<N)(c:Sv):∃c',evSs G (run G T fu (k+2)) fu bB (bS rows m n (.val (.int (n:Int))) (.val (.tup (iD (rows.getD n [])))) c)=some (.nx (bS rows m (n+1) (.val (.int (n:Int))) (.val (.tup (iD (rows.getD n [])))) c')):=by
 have I:=z6k R h9 h8 n (by omega);obtain⟨r1,_,_⟩:=I.red R h9 hn h8;obtain⟨_,r2⟩:=q6o R hn;have len:=I.len;obtain⟨y,hy⟩:∃y,rdL ((kl rows m n).map (·.2)) (rows.getD n [])=y:=⟨_,rfl⟩;have ly:y.length=m:=by rw[←hy,q5x,r2]
 have c1:evE G (run G T fu (k+2)) (.call 11 [.var 4,.var 2]) (bS rows m n (.val (.int (n:Int))) (.val (.tup (iD (rows.getD n [])))) c)=some (.ok (.lst (iD y)) .fresh):=(by have e:=z0r (fu:=fu) (k:=k) (by rw[r2];exact m8) r1;rw[hy]at e;exact z3m (d9 (b8 rfl) (d9 (P1 rfl) j1)) e (z3I y));have c2:evE G (run G T fu (k+2)) (.bi .any [.comp (.cmp .NotEq (.var 0) (.int 0)) (.one 0) (.var 5) [none]]) (bS rows m n (.val (.int (n:Int))) (.val (.tup (iD (rows.getD n [])))) (.val (.lst (iD y))))=some (.ok (.bl (!decide (rk.Nil m (rw' y)))) .strong):=(by rw[←any_nil ly];refine z5a (f:=λa=>decide (a≠0)) (l:=y) (c:=.fresh) (J9 (h:=DV.int) (f:=λa=>DV.bl (decide (a≠0))) (cl:=.strong) rfl (by decide) (by rw[ly];exact m6 m8 (by decide)) λa _=>⟨[.val (.int a)],.strong,rfl,E8 (b8 rfl) f7 ?_,rfl⟩);show some (!decide (a=0))=some (decide (a≠0));rw[decide_not]);refine⟨.val (.lst (iD y)),f8 (m7 c1 rfl) ?_⟩;by_cases z:rk.Nil m (rw' y)
 ·rw[B9 z]at c2;refine B5 (o9 c2) ?_;have e:kl rows m (n+1)=kl rows m n:=by rw[q5R,hy,d4 z]
  show _=some (Out.nx (bS rows m (n+1) _ _ _));unfold bS;rw[e];rfl
 ·rw[C6 z]at c2;have e:kl rows m (n+1)=kl rows m n++[(n,y)]:=by rw[q5R,hy,d5 z]
  have e1:nD ((kl rows m (n+1)).map (·.1))=nD ((kl rows m n).map (·.1))++[.int (n:Int)]:=(by unfold nD;rw[e,E4,E4];rfl);have e2:rL ((kl rows m (n+1)).map (·.2))=.lst (((kl rows m n).map (·.2)).map (λr=>DV.lst (iD r))++[.lst (iD y)]):=(by unfold rL;rw[e,E4,E4];rfl);have l1:(nD ((kl rows m n).map (·.1))).length<mostLen:=(by unfold nD;rw[d8,d8];exact G4 (show _<=8 by omega) (by decide));have l2:(((kl rows m n).map (·.2)).map (λr=>DV.lst (iD r))).length<mostLen:=(by rw[d8,d8];exact G4 (show _<=8 by omega) (by decide));refine q5b (o9 c2) (f8 (z0N (ds:=nD ((kl rows m n).map (·.1))) rfl (b8 rfl) rfl l1) (f8 (z0N (ds:=((kl rows m n).map (·.2)).map λr=>DV.lst (iD r)) rfl (b8 rfl) rfl l2) rfl)) ?_;show _=some (Out.nx (bS rows m (n+1) _ _ _));unfold bS;rw[e1,e2];rfl
theorem z3S(R:Rect N m rows)(h9:∀r∈rows,∀x∈r,0<=x/\x<=9)(h8:N<=8)(m8:m<=1000):∀n,n<=N->∃a b c,p6 (.many [3,4]) (λδ'=>evSs G (run G T fu (k+2)) fu bB δ') ((List.range n).map λ(i:Nat)=>DV.tup [.int (i:Int),.tup (iD (rows.getD i []))]) (bS rows m 0 .no .no .no)=some (.nx (bS rows m n a b c))
 | 0,_=>⟨_,_,_,rfl⟩
 | n+1,hn=>by obtain⟨a,b,c,e⟩:=z3S R h9 h8 m8 n (by omega);obtain⟨c',e'⟩:=b_in (fu:=fu) (k:=k) R h9 h8 m8 (n:=n) (by omega) c;refine⟨.val (.int (n:Int)),.val (.tup (iD (rows.getD n []))),c',?_⟩;rw[List.range_succ,E4,q3T e];exact q8V (δ1:=bS rows m n (.val (.int (n:Int))) (.val (.tup (iD (rows.getD n [])))) c) rfl e'
theorem z9q(h:evE G F e δ=some (.ok (tT rows) .strong)):o5 (evE G F (.enu e) δ)=some (.ok ((List.range rows.length).map λ(i:Nat)=>DV.tup [.int (i:Int),.tup (iD (rows.getD i []))]) .strong):=by
 have q:evE G F (.enu e) δ=Re.thn (evE G F e δ) (λx c=>X8 x c):=by rw[evE]
 rw[q,h];show some (Ri.ok (enuD 0 (rows.map λr=>DV.tup (iD r))) .strong)=_;rw[q7O]
 congr 2
 refine C9 λi hi=>?_;have:=p0.mp hi;rw[X1,i7,i7,m9,j3 this];rfl
def bl0(rows:List (List Int))(m:Nat):List Nat:=rk.bz (vv rows) m rows.length
theorem q2L(R:Rect N m rows)(h9:∀r∈rows,∀x∈r,0<=x/\x<=9)(h8:N<=8)(m8:m<=1000):run G T fu (k+3) 10 [tT rows]=some (.v (.lst (nD (bl0 rows m))) true):=by
 obtain⟨a,b,c,e⟩:=z3S (fu:=fu) (k:=k) R h9 h8 m8 N (j2 _);have I:=z6k R h9 h8 N (j2 _);have eb:bl0 rows m=(kl rows m N).map (·.1):=by unfold bl0 rk.bz;rw[R.1,I.eq,j9];rfl
 rw[y7 (fd:=q2D) rfl rfl,eb];refine C3 (f8 (Y1 (d:=.lst []) rfl) (f8 (Y1 (d:=.lst []) rfl) ?_));refine K8 (ds:=(List.range N).map λ(i:Nat)=>DV.tup [.int (i:Int),.tup (iD (rows.getD i []))]) (cl:=.strong) ?_ (.inl rfl) e (B4 (F3 (cl:=.top) (P1 rfl)));have:=z9q (F:=run G T fu (k+2)) (δ:=bS rows m 0 .no .no .no) (rows:=rows) (e:=.var 0) (b8 rfl);rw[R.1]at this;exact this
end
section
variable {F:Nat->List DV->Option Ou} {fu k:Nat} {δ:List Sv}
def W9(rows:List (List Int)):Prop:=∀r∈rows,∀x∈r,0<=x/\x<=9
theorem q7E(R:Rect n m rows):Rect m n (flip m rows):=by
 refine⟨by unfold flip;rw[d8,A8],λr hr=>?_⟩;obtain⟨j,_,rfl⟩:=o7.mp hr;unfold col;rw[d8];exact R.1
theorem q9J(h:W9 rows):W9 (flip m rows):=λr hr x hx=>by
 obtain⟨j,_,rfl⟩:=o7.mp hr;obtain⟨q,hq,rfl⟩:=o7.mp hx;rw[i7];cases w:q[j]? with
 | none=>exact⟨w20 _,by decide⟩
 | some a=>exact h q hq a (P9 w)
theorem z9p(R:Rect n m rows)(h9:W9 rows)(h8:n<=8)(m8:m<=1000):run G T fu (k+4) 9 [tT rows]=some (.v (.int ((bl0 rows m).length:Nat)) false):=by
 rw[y7 (fd:=z0D) rfl rfl];have e:=Z1 (F:=run G T fu (k+3)) (δ:=[.val (tT rows)]) (x5 (d9 (b8 (n:=0) rfl) j1) rfl (q2L (fu:=fu) (k:=k) R h9 h8 m8));have l:(nD (bl0 rows m)).length=(bl0 rows m).length:=by unfold nD;rw[d8]
 rw[l]at e;exact C3 (B4 (F3 e))
end
section
variable {F:Nat->List DV->Option Ou} {fu k:Nat} {δ:List Sv}
theorem z5B(h:evE G F e δ=some (.ok (.lst (iD r)) c)):evE G F (.bi .sum [e]) δ=some (.ok (.int r.sum) .strong):=by
 show Rs.thn (evEs G F [e] δ) (λl=>sumD l)=_;rw[d9 h j1];show(ints? (iD r)).map (λns=>Re.ok (.int ns.sum) .strong)=_;rw[q4J];rfl
theorem z8B(R:Rect n m rows):rk.Bas rk.P0 (vv rows) n m (bl0 rows m):=by
 unfold bl0;rw[R.1];exact rk.bas0 ..
end
section
variable {fu k:Nat} {F:Nat->List DV->Option Ou} {δ:List Sv} {ds:List DV} {cl:Cl}
theorem q5J(c:Int)(n:Nat)(hn:n<=1000):∃xs:List Int,xs.length=n/\run G T fu (k+1) 16 [.int c,.int n]=some (.v (.lst (xs.map DV.int)) true):=by
 rw[y7 (fd:=q1C) rfl rfl];obtain⟨δ1,h1,xs,num,z,hl,rfl⟩:=q3y (i:=4) (I:=λj δ=>∃(xs:List Int) (num:Int) (z:Sv),xs.length=j/\δ=[.val (.int c),.val (.int n),.own (.lst (xs.map DV.int)),.val (.int num),z])
  (body:=λδ'=>evSs G (run G T fu k) fu [.set 3 false (.bin .Mod (.bin .Add (.bin .Add (.bin .Mult (.var 3) (.int 48271)) (.bin .Mult (.var 4) (.var 4))) (.int 11)) (.int 2147483647)),.app 2 (.bin .FloorDiv (.var 3) (.int 7))] δ') n 0 (δ:=[.val (.int c),.val (.int n),.own (.lst []),.val (.int (c%2147483647+48271)),.no])
  (λj hj δ I=>by
   obtain⟨xs,num,z,hl,rfl⟩:=I;rw[show(0:Int)+(j:Int)=j by omega];obtain⟨N,hN⟩:∃N:Int,(num*48271+(j:Int)*j+11)%2147483647=N:=⟨_,rfl⟩;obtain⟨D,hD⟩:∃D:Int,N/7=D:=⟨_,rfl⟩;refine⟨_,f8 (m7 (d:=.int N) (cl:=.strong) ?_ rfl) (f8 (z0N (d:=.int D) (cl:=.strong) rfl ?_ rfl (by rw[d8,hl];exact x4 (x4 hj hn) (by decide))) rfl),xs++[D],N,.val (.int j),by rw[C5,hl];rfl,?_⟩
   ·rw[←hN];exact G6 (L7 (L7 (L8 (b8 rfl) f7 (m48 _)) (L8 (b8 rfl) (b8 rfl) (y0J (by omega)))) f7) f7 (by decide)
   ·rw[←hD];exact y1C (b8 rfl) f7 (by decide)
   ·rw[←z2S];rfl) ⟨[],_,.no,rfl,rfl⟩
 refine⟨xs,hl,?_⟩;unfold q1C;exact C3 (f8 (Y1 rfl) (f8 (m7 (d:=.int (c%2147483647+48271)) (cl:=.strong) (L7 (G6 (b8 rfl) f7 (by decide)) f7) rfl) (K8 (z3h (n:=n) (b8 rfl) hn) (.inr rfl) h1 (B4 rfl))))
theorem q8s(rows:List (List Int))(h:rows.length<=1000):run G T fu (k+1) 18 [rL rows]=some (.v (tT rows) false):=by
 rw[y7 (fd:=q1i) rfl rfl];have cm:=q9M (G:=G) (F:=run G T fu k) (δ:=o8 1 [rL rows]) (elt:=.bi .tuple [.var 0]) (tg:=.one 0) (it:=.var 0) (fr:=[none]) (f:=λd=>match d with | .lst ds=>.tup ds | d=>d) (ds:=rows.map λr=>.lst (iD r)) (cl:=.strong) rfl (by decide)
  (by rw[d8];exact m6 h (by decide)) (λd hd=>by
   obtain⟨r,hr,rfl⟩:=o7.mp hd;exact⟨[.val (.lst (iD r))],rfl,q4k (b8 rfl)⟩)
 rw[j9]at cm;unfold q1i;exact C3 (B4 (F3 (q4k cm)))
theorem q7F(ha:evEs G F es δ=some (.ok l))(h:F f (l.map (·.1))=some (.x c)):evE G F (.call f es) δ=some (.ex c):=by
 show Rs.thn (evEs G F es δ) (λl=>E2 F f l)=_;rw[ha];show E2 F f l=_;unfold E2;rw[h]
theorem z0j(h:evE G F e δ=some (.ex c)):evS G F fu (.exp e) δ=some (.ex c δ):=by
 show Re.thnS δ (evE G F e δ) (λ_ _=>some (.nx δ))=_;rw[h];rfl
theorem z5y(h:evS G F fu m δ=some (.ex c δ')):evSs G F fu (m::r) δ=some (.ex c δ'):=by
 unfold evSs;rw[h]
theorem z8D(h:evSs G F fu r δ=some (.ex c δ')):Ou.of (evSs G F fu r δ)=some (.x c):=by rw[h];rfl
theorem z5S(ns:List Int)(hns:ns.length<=63)(tp:Int)(htp:0<tp):∃(n m:Nat) (rows:List (List Int)),0<n/\n<=8/\0<m/\m<=8/\Rect n m rows/\(∀r∈rows,∀x∈r,0<=x/\x<tp)/\run G T fu (k+2) 17 [.scr ns,.int 4,.int tp]=some (.v (rL rows) true):=by
 obtain⟨v0,c0⟩:=q9Q (fu:=fu) (k:=k) ns 0;obtain⟨v1,c1⟩:=q9Q (fu:=fu) (k:=k) ns 1;obtain⟨xs,hx,st0⟩:=q5J (fu:=fu) (k:=k) v0 3 (by decide);obtain⟨a0,h0⟩:=z3X (l:=xs) (i:=0) (by omega) (by rw[hx];omega);obtain⟨a1,h1⟩:=z3X (l:=xs) (i:=1) (by omega) (by rw[hx];omega);obtain⟨n,hn⟩:∃n:Nat,1+a0%8=(n:Int):=⟨(1+a0%8).toNat,by omega⟩;obtain⟨m,hm⟩:∃m:Nat,1+a1%8=(m:Int):=⟨(1+a1%8).toNat,by omega⟩;have n8:n<=8:=by omega
 have m8:m<=8:=by omega
 have nm:n*m<=64:=m6 (w2Y n8 m8) (by decide);obtain⟨ws0,hw0,st1⟩:=q5J (fu:=fu) (k:=k) v1 (n*m) (by omega);have mk1:E7 (n:Int) (m:Int)=true:=by unfold E7;simp;omega
 have cm:=q9M (G:=G) (F:=run G T fu (k+1)) (δ:=[.val (.scr ns),.val (.int 4),.val (.int tp),.val (.lst (xs.map DV.int)),.val (.int n),.val (.int m),.no,.no]) (elt:=.bin .Mod (.var 0) (.var 1)) (tg:=.one 0) (it:=.call 16 [.call 15 [.var 0,.int 1],.bin .Mult (.var 4) (.var 5)]) (fr:=[none,some 2]) (f:=λd=>match d with | .int x=>.int (x%tp) | d=>d) (ds:=ws0.map DV.int) (cl:=.fresh)
  (by
   have q:=x5 (G:=G) (F:=run G T fu (k+1)) (δ:=[.val (.scr ns),.val (.int 4),.val (.int tp),.val (.lst (xs.map DV.int)),.val (.int n),.val (.int m),.no,.no]) (f:=16) (d9 (x5 (f:=15) (d9 (b8 (n:=0) (d:=.scr ns) rfl) (d9 (f7 (i:=1)) j1)) rfl c1) (d9 (L8 (b8 (n:=4) (d:=.int n) rfl) (b8 (n:=5) (d:=.int m) rfl) mk1) j1)) rfl (by rw[show((n:Int)*(m:Int))=((n*m:Nat):Int) by push_cast;rfl];exact st1);rw[q];rfl) (by decide) (by rw[d8,hw0];exact m6 nm (by decide)) (λd hd=>by
   obtain⟨x,hx,rfl⟩:=o7.mp hd;exact⟨[.val (.int x),.val (.int tp)],rfl,G6 (b8 rfl) (b8 rfl) htp⟩)
 rw[j9,show((λd=>match d with | DV.int x=>DV.int (x%tp) | d=>d) ∘ DV.int)=DV.int ∘ (λx:Int=>x%tp)from rfl,←j9]at cm;obtain⟨b,hb,hb1,hb2⟩:∃b:Int,(if(ns.length:Int) - 4<(n:Int)*m then(ns.length:Int) - 4 else(n:Int)*m)=b/\b<=((n*m:Nat):Int)/\b<=(ns.length:Int) - 4:=by refine⟨_,rfl,?_,?_⟩<;>split<;>push_cast<;>omega
 have hb3 : -1000<=b:=(by rw[←hb];have:(0:Int)<=(n:Int)*m:=Int.mul_nonneg (K3 n) (K3 m);split<;>omega);obtain⟨δ1,l1,ws,z,⟨hw,hwb⟩,rfl⟩:=q3y (i:=7) (I:=λ_ δ=>∃(ws:List Int) (z:Sv),(ws.length=n*m/\∀x∈ws,0<=x/\x<tp)/\δ=[.val (.scr ns),.val (.int 4),.val (.int tp),.val (.lst (xs.map DV.int)),.val (.int n),.val (.int m),.own (.lst (ws.map DV.int)),z])
  (body:=λδ'=>evSs G (run G T fu (k+1)) fu [.seti 6 (.var 7) (.bin .Mod (.ix (.var 0) (.bin .Add (.var 1) (.var 7))) (.var 2))] δ') b.toNat 0 (δ:=[.val (.scr ns),.val (.int 4),.val (.int tp),.val (.lst (xs.map DV.int)),.val (.int n),.val (.int m),.own (.lst ((ws0.map λx=>x%tp).map DV.int)),.no])
  (λj hj δ I=>by
   obtain⟨ws,z,⟨hw,hwb⟩,rfl⟩:=I;rw[show(0:Int)+(j:Int)=j by omega];have h3:4+j<ns.length:=by omega
   have hv:ixD (.scr ns) (.int (4+(j:Int)))=some (.int ns[4+j]):=(by rw[show(4:Int)+(j:Int)=((4+j:Nat):Int) by push_cast;rfl];show((F2 ns.length ((4+j:Nat):Int)).bind λj=>ns[j]?).map DV.int=_;rw[z2n h3,O3,j3 h3];rfl);refine⟨_,f8 (z0P (d:=.int (ns[4+j]%tp)) (cl:=.strong) (n:=j) (cx:=.strong) (j:=j) rfl (G6 (o6 (b8 rfl) (L7 (b8 rfl) (b8 rfl)) hv) (b8 rfl) htp) (b8 rfl) rfl (z2n (by rw[d8,hw];omega))) rfl,ws.set j (ns[4+j]%tp),.val (.int j),⟨by rw[u0];exact hw,λx hx=>(w1H hx).elim (hwb x) (λe=>by rw[e];exact⟨w3R _ (by omega),w3d _ htp⟩)⟩,?_⟩;rw[U3];rfl) ⟨ws0.map λx=>x%tp,.no,⟨by rw[d8];exact hw0,λx hx=>by obtain⟨y,_,rfl⟩:=o7.mp hx;exact⟨w3R _ (by omega),w3d _ htp⟩⟩,rfl⟩
 have em:evE G (run G T fu (k+1)) (.bi .min [.bin .Mult (.var 4) (.var 5),.bin .Sub (.bi .len [.var 0]) (.var 1)]) [.val (.scr ns),.val (.int 4),.val (.int tp),.val (.lst (xs.map DV.int)),.val (.int n),.val (.int m),.own (.lst ((ws0.map λx=>x%tp).map DV.int)),.no]=some (.ok (.int b) .strong):=(by have e1:evE G (run G T fu (k+1)) (.bi .len [.var 0]) [.val (.scr ns),.val (.int 4),.val (.int tp),.val (.lst (xs.map DV.int)),.val (.int n),.val (.int m),.own (.lst ((ws0.map λx=>x%tp).map DV.int)),.no]=some (.ok (.int ns.length) .strong):=rfl;rw[z7r (d9 (L8 (b8 (n:=4) (d:=.int n) rfl) (b8 (n:=5) (d:=.int m) rfl) mk1) (d9 (z2W e1 (b8 (n:=1) (d:=.int 4) rfl)) j1)),←hb];rfl);have rt:=z3l (F:=run G T fu (k+1)) (δ:=[.val (.scr ns),.val (.int 4),.val (.int tp),.val (.lst (xs.map DV.int)),.val (.int n),.val (.int m),.own (.lst (ws.map DV.int)),z]) (elt:=.sl (.var 1) (.bin .Mult (.var 0) (.var 2)) (.bin .Add (.bin .Mult (.var 0) (.var 2)) (.var 2))) (tg:=.one 0) (it:=.rng [.var 4]) (fr:=[none,some 6,some 5]) (f:=λd=>match d with | .int j=>.lst (iD ((ws.drop (j.toNat*m)).take m)) | d=>d) (ds:=upTo 0 n) (cl:=.fresh)
  (z3h (b8 rfl) (by omega)) (by decide) (by unfold L2.upTo;rw[d8,A8];exact m6 n8 (by decide)) (λd hd=>by
   obtain⟨j,hj,rfl⟩:=z1S hd;rw[show(0:Int)+(j:Int)=j by omega];have mk2:E7 (j:Int) (m:Int)=true:=by unfold E7;simp;omega
   refine⟨[.val (.int j),.own (.lst (iD ws)),.val (.int m)],.fresh,rfl,?_,rfl⟩;show _=some (Re.ok (.lst (iD ((ws.drop ((j:Int).toNat*m)).take m))) .fresh);rw[B8,←z5k hw hj];exact y1j (P1 rfl) (L8 (b8 rfl) (b8 rfl) mk2) (L7 (L8 (b8 rfl) (b8 rfl) mk2) (b8 rfl)))
 have hf:(upTo 0 n).map (λd=>match d with | .int j=>DV.lst (iD ((ws.drop (j.toNat*m)).take m)) | d=>d)=(q6i n m ws).map λr=>.lst (iD r):=by unfold L2.upTo q6i;rw[j9,j9];apply C9;intro j _;show DV.lst (iD ((ws.drop (((0:Int)+(j:Int)).toNat*m)).take m))=_;rw[show((0:Int)+(j:Int)).toNat=j by omega];rfl
 rw[hf]at rt;refine⟨n,m,q6i n m ws,by omega,n8,by omega,m8,z0R hw,λr hr x hx=>by obtain⟨j,_,rfl⟩:=o7.mp hr;exact hwb x (List.mem_of_mem_drop (List.mem_of_mem_take hx)),?_⟩;rw[y7 (fd:=q1R) rfl rfl];unfold q1R;exact C3 (f8 (m7 (x5 (d9 (x5 (d9 (b8 rfl) (d9 f7 j1)) rfl c0) (d9 f7 j1)) rfl st0) rfl) (f8 (m7 (d:=.int n) (cl:=.strong) (by rw[←hn];exact L7 f7 (G6 (o6 (b8 rfl) f7 h0) f7 (by decide))) rfl) (f8 (m7 (d:=.int m) (cl:=.strong) (by rw[←hm];exact L7 f7 (G6 (o6 (b8 rfl) f7 h1) f7 (by decide))) rfl) (f8 (Y1 cm) (K8 (y1T em (by omega) hb3) (.inr rfl) l1 (B4 (F3 rt)))))))
section
variable {F:Nat->List DV->Option Ou} {δ:List Sv}
theorem and2(ha:evE G F a δ=some (.ok (.bl s) .strong))(hb:evE G F b δ=some (.ok (.bl t) .strong)):evE G F (.and [a,b]) δ=some (.ok (.bl (s&&t)) .strong):=by
 cases s with
 | true=>exact q7P ha hb
 | false=>exact q7M (t:=true) ha
theorem q6w(h:evE G F e δ=some (.ok (.lst (iD r)) c)):evE G F (.bi .len [e]) δ=some (.ok (.int (r.length:Nat)) .strong):=by
 have:=Z1 h;unfold iD at this;rw[d8]at this;exact this
theorem q6L(h:evE G F e δ=some (.ok (rL rows) c)):evE G F (.bi .len [e]) δ=some (.ok (.int (rows.length:Nat)) .strong):=by
 have:=Z1 (ds:=rows.map λr=>DV.lst (iD r)) h;rw[d8]at this;exact this
theorem Z2{rows:List (List Int)}{i:Nat}(h:i<rows.length):ixD (rL rows) (.int (i:Int))=some (.lst (iD (rows.getD i []))):=by
 show atD (rows.map λr=>.lst (iD r)) (i:Int)=_;unfold atD;rw[d8,z2n h,O3,m9,j3 h,i7,j3 h];rfl
theorem z5H(h1 : -(2^62)<j)(h2:j<2^62):E7 i j=true:=by
 unfold E7;have e1:(2:Int)^62=4611686018427387904:=(by decide);have e2:(2:Int)^64=18446744073709551616:=(by decide);rw[B9 (show -(2^64)<j by omega),B9 (show j<2^64 by omega)];rw[w3k,w4c,Bool.true_or]
end
end
section
variable {F:Nat->List DV->Option Ou} {fu k:Nat} {δ:List Sv} {cl:Cl}
theorem z5n(h:evE G F e δ=some (.ok (.lst (iD (n::ns))) cl)):evE G F (.bi .max [e]) δ=some (.ok (.int (maxI n ns)) .strong):=by
 show Rs.thn (evEs G F [e] δ) (λl=>maxD l)=_;rw[d9 h j1];show(match ints? (iD (n::ns))with
  | some (n::r)=>some (Re.ok (.int (maxI n r)) .strong)
  | _=>none)=_
 rw[q4J]
theorem q7f:∀(r:List Int) (m:Int),m<=maxI m r/\∀x∈r,x<=maxI m r
 | [],m=>⟨w20 _,λx h=>absurd h (by simp)⟩
 | y::r,m=>by
  have I:=q7f r (if m<y then y else m);show m<=maxI (if m<y then y else m) r/\_;refine⟨?_,λx hx=>?_⟩
  ·have:=I.1;split at this<;>omega
  ·show x<=maxI (if m<y then y else m) r;rcases f9.mp hx with q | q
   ·have:=I.1;rw[q];split at this<;>omega
   ·exact I.2 x q
theorem z5N(h0:0<r.length)(h:evE G F e δ=some (.ok (.lst (iD r)) cl)):∃M,evE G F (.bi .max [e]) δ=some (.ok (.int M) .strong)/\∀x∈r,x<=M:=by
 cases r with
 | nil=>cases h0
 | cons a r=>exact⟨_,z5n h,λx hx=>by
   rcases f9.mp hx with q | q
   ·rw[q];exact(q7f r a).1
   ·exact(q7f r a).2 x q⟩
theorem z4N(ha:evE G F a δ=some (.ok (.lst (iD x)) .strong))(hb:evE G F b δ=some (.ok (.lst (iD w)) .strong))(h:x.length=w.length):o5 (evE G F (.zp a b) δ)=some (.ok ((List.range x.length).map λ(i:Nat)=>DV.tup [.int (x.getD i 0),.int (w.getD i 0)]) .strong):=by
 have q:evE G F (.zp a b) δ=Re.thn (evE G F a δ) (λx c=>Re.thn (evE G F b δ) λy c'=>zipD x y c c'):=by rw[evE]
 rw[q,ha,y9,hb,y9];show some (Ri.ok (zpD (iD x) (iD w)) .strong)=_;rw[q9v x w h]
def Rw9(n m:Nat)(rows:List (List Int)):Prop:=Rect n m rows/\W9 rows
theorem z7S(h:Rw9 n m rows)(hy:y.length=m)(h9:∀x∈y,0<=x/\x<=9):Rw9 n m (rows.set i y):=by
 refine⟨⟨by rw[u0];exact h.1.1,λr hr=>?_⟩,λr hr=>?_⟩
 ·rcases w1H hr with q | q
  ·exact h.1.2 r q
  ·rw[q];exact hy
 ·rcases w1H hr with q | q
  ·exact h.2 r q
  ·rw[q];exact h9
abbrev xS(rows:List (List Int))(xs:List Int)(a:Sv)(i:Nat)(r r':List Int)(w:Int):List Sv:=[.own (rL rows),.val (.lst (iD xs)),a,.val (.int (i:Int)),.val (.lst (iD r)),.val (.lst (iD r')),.val (.int w)]
theorem x_if(h:Rw9 n m rows)(hi:i<n)(hc:evE G F c (xS rows xs a i r r' w)=some (.ok (.bl t) .strong))(he:t=true->∃y,evE G F e (xS rows xs a i r r' w)=some (.ok (.lst (iD y)) .fresh)/\y.length=m/\∀x∈y,0<=x/\x<=9):∃rows',Rw9 n m rows'/\evS G F fu (.iff c [.seti 0 (.var 3) e] []) (xS rows xs a i r r' w)=some (.nx (xS rows' xs a i r r' w)):=by
 cases t with
 | false=>exact⟨rows,h,by rw[q8z (o9 hc)];rfl⟩
 | true=>
  obtain⟨y,e1,e2,e3⟩:=he rfl;refine⟨rows.set i y,z7S h e2 e3,?_⟩;rw[q8z (o9 hc),d4 rfl];have st:=z0P (fu:=fu) (G:=G) (F:=F) (i:=0) (k:=.var 3) (δ:=xS rows xs a i r r' w) (ds:=rows.map λr=>DV.lst (iD r)) (n:=(i:Int)) (j:=i) rfl e1 (b8 rfl) rfl (z2n (by rw[d8,h.1.1];exact hi));refine f8 st ?_;have es:(rows.map λr=>DV.lst (iD r)).set i (.lst (iD y))=(rows.set i y).map λr=>DV.lst (iD r):=by rw[U3]
  show some (Out.nx ((xS rows xs a i r r' w).set 0 (.own (.lst ((rows.map λr=>DV.lst (iD r)).set i (.lst (iD y)))))))=_;rw[es];rfl
theorem y0N(h:Rw9 n m rows)(m0:0<m)(m8:m<=8)(hi:i<n)(hr:r.length=m)(hr':r'.length=m)(r9:∀x∈r,0<=x/\x<=9)(r9':∀x∈r',0<=x/\x<=9):∃rows',Rw9 n m rows'/\evSs G F fu [.iff (.cmp .Eq (.var 6) (.int 0)) [.seti 0 (.var 3) (.bi .list [.var 4])] [],.iff (.and [.cmp .Eq (.var 6) (.int 1),.cmp .Lt (.bin .Add (.bi .max [.var 4]) (.bi .max [.var 5])) (.int 10)]) [.seti 0 (.var 3) (.comp (.bin .Add (.var 0) (.var 1)) (.many [0,1]) (.zp (.var 4) (.var 5)) [none,none])] [],.iff (.and [.cmp .Eq (.var 6) (.int 2),.cmp .Lt (.bi .max [.var 4]) (.int 5)]) [.seti 0 (.var 3) (.comp (.bin .Mult (.int 2) (.var 0)) (.one 0) (.var 4) [none])] [],.iff (.cmp .Eq (.var 6) (.int 3)) [.seti 0 (.var 3) (.bin .Mult (.lst [.int 0]) (.bi .len [.var 4]))] []] (xS rows xs a i r r' w)=some (.nx (xS rows' xs a i r r' w)):=by
 have e62:(2:Int)^62=4611686018427387904:=(by decide);obtain⟨rows1,h1,s1⟩:=x_if (fu:=fu) (F:=F) (rows:=rows) (xs:=xs) (r:=r) (r':=r') (w:=w) (a:=a) (c:=.cmp .Eq (.var 6) (.int 0)) (e:=.bi .list [.var 4]) h hi (b_eq (b8 rfl) f7) λ_=>⟨r,z1j (b8 rfl),hr,r9⟩;obtain⟨rows2,h2,s2⟩:∃rows',Rw9 n m rows'/\evS G F fu (.iff (.and [.cmp .Eq (.var 6) (.int 1),.cmp .Lt (.bin .Add (.bi .max [.var 4]) (.bi .max [.var 5])) (.int 10)]) [.seti 0 (.var 3) (.comp (.bin .Add (.var 0) (.var 1)) (.many [0,1]) (.zp (.var 4) (.var 5)) [none,none])] []) (xS rows1 xs a i r r' w)=some (.nx (xS rows' xs a i r r' w)):=by
  obtain⟨M,q1,q2⟩:=z5N (F:=F) (e:=.var 4) (δ:=xS rows1 xs a i r r' w) (r:=r) (by omega) (cl:=.strong) (b8 rfl);obtain⟨M',q3,q4⟩:=z5N (F:=F) (e:=.var 5) (δ:=xS rows1 xs a i r r' w) (r:=r') (by omega) (cl:=.strong) (b8 rfl);refine x_if h1 hi (and2 (b_eq (b8 rfl) f7) (b_lt (L7 q1 q3) f7)) λht=>?_
  rw[d7,L3]at ht;have c:=J9 (F:=F) (δ:=xS rows1 xs a i r r' w) (it:=.zp (.var 4) (.var 5)) (l:=List.range r.length) (h:=λ(i:Nat)=>DV.tup [.int (r.getD i 0),.int (r'.getD i 0)]) (f:=λ(i:Nat)=>DV.int (r.getD i 0+r'.getD i 0)) (elt:=.bin .Add (.var 0) (.var 1)) (tg:=.many [0,1]) (fr:=[none,none]) (cl:=.strong) (z4N (b8 rfl) (b8 rfl) (by omega)) (by decide) (by rw[A8,hr];exact m6 m8 (by decide)) λj _=>⟨[.val (.int (r.getD j 0)),.val (.int (r'.getD j 0))],.strong,rfl,L7 (b8 rfl) (b8 rfl),rfl⟩
  refine⟨(List.range r.length).map λi=>r.getD i 0+r'.getD i 0,by rw[c];unfold iD;rw[j9];rfl,by rw[d8,A8,hr],λx hx=>?_⟩;obtain⟨j,hj,rfl⟩:=o7.mp hx;have hj:=p0.mp hj;have g1:r.getD j 0∈r:=by rw[i7,j3 hj];exact F6 hj
  have g2:r'.getD j 0∈r':=by rw[i7,j3 (show j<r'.length by omega)];exact F6 _
  have:=q2 _ g1;have:=q4 _ g2;have:=r9 _ g1;have:=r9' _ g2;have:=ht.2;omega
 obtain⟨rows3,h3,s3⟩:∃rows',Rw9 n m rows'/\evS G F fu (.iff (.and [.cmp .Eq (.var 6) (.int 2),.cmp .Lt (.bi .max [.var 4]) (.int 5)]) [.seti 0 (.var 3) (.comp (.bin .Mult (.int 2) (.var 0)) (.one 0) (.var 4) [none])] []) (xS rows2 xs a i r r' w)=some (.nx (xS rows' xs a i r r' w)):=by
  obtain⟨M,q1,q2⟩:=z5N (F:=F) (e:=.var 4) (δ:=xS rows2 xs a i r r' w) (r:=r) (by omega) (cl:=.strong) (b8 rfl);refine x_if h2 hi (and2 (b_eq (b8 rfl) f7) (b_lt q1 f7)) λht=>?_
  rw[d7,L3]at ht;have c:=J9 (F:=F) (δ:=xS rows2 xs a i r r' w) (it:=.var 4) (l:=r) (h:=DV.int) (f:=λx=>DV.int (2*x)) (elt:=.bin .Mult (.int 2) (.var 0)) (tg:=.one 0) (fr:=[none]) (cl:=.strong) rfl (by decide) (by rw[hr];exact m6 m8 (by decide)) λx hx=>⟨[.val (.int x)],.strong,rfl,L8 f7 (b8 rfl) (z5H (by have:=r9 x hx;omega) (by have:=r9 x hx;omega)),rfl⟩
  refine⟨r.map λx=>2*x,by rw[c];unfold iD;rw[j9];rfl,by rw[d8,hr],λx hx=>?_⟩;obtain⟨y,hy,rfl⟩:=o7.mp hx;have:=q2 _ hy;have:=r9 _ hy;have:=ht.2;omega
 obtain⟨rows4,h4,s4⟩:∃rows',Rw9 n m rows'/\evS G F fu (.iff (.cmp .Eq (.var 6) (.int 3)) [.seti 0 (.var 3) (.bin .Mult (.lst [.int 0]) (.bi .len [.var 4]))] []) (xS rows3 xs a i r r' w)=some (.nx (xS rows' xs a i r r' w)):=by
  refine x_if h3 hi (b_eq (b8 rfl) f7) λ_=>⟨List.replicate m 0,?_,w2k,λx hx=>by rw[(List.mem_replicate.mp hx).2];exact⟨w20 _,by decide⟩⟩;have l:=q6w (F:=F) (e:=.var 4) (r:=r) (c:=.strong) (δ:=xS rows3 xs a i r r' w) (b8 rfl);rw[hr]at l;have ls:=q8g (F:=F) (δ:=xS rows3 xs a i r r' w) (d9 (f7 (i:=0)) j1) (show(1:Nat)<=mostLen by decide) rfl;refine(L6 ls l (show binD .Mult (.lst [.int 0]) (.int (m:Int)) .fresh .strong=some (Re.ok (.lst (List.replicate (m:Int).toNat [DV.int 0]).flatten) (Cl.anew .fresh .fresh))from d4 ⟨?_,by omega,by omega⟩)).trans ?_
  ·rw[B8];have:∀q:Nat,(List.replicate q [DV.int 0]).flatten=iD (List.replicate q 0):=λq=>by
    induction q with
    | zero=>rfl
    | succ q ih=>rw[Q0,W4,ih,Q0];rfl
   rw[this];rfl
  ·rw[B8];show 1*m<=mostLen;exact m6 (show 1*m<=8 by omega) (by decide)
 exact⟨rows4,h4,f8 s1 (f8 s2 (f8 s3 (f8 s4 rfl)))⟩
end
section
variable {F:Nat->List DV->Option Ou} {fu k:Nat} {δ:List Sv} {cl:Cl}
abbrev yS(rows:List (List Int))(xs:List Int)(a b c d e:Sv):List Sv:=[.own (rL rows),.val (.lst (iD xs)),a,b,c,d,e]
theorem z4Q(h:Rw9 n m rows)(n0:0<n)(n8:n<=8)(m0:0<m)(m8:m<=8)(hx:xs.length=20):∃rows',Rw9 n m rows'/\run G T fu (k+1) 19 [rL rows,.lst (iD xs)]=some (.v (rL rows') true):=by
 have c0:=J9 (F:=run G T fu k) (δ:=o8 7 [rL rows,.lst (iD xs)]) (it:=.var 0) (l:=rows) (h:=λr=>DV.lst (iD r)) (f:=λr=>DV.lst (iD r)) (elt:=.bi .list [.var 0]) (tg:=.one 0) (fr:=[none]) (cl:=.strong) rfl (by decide) (by rw[h.1.1];exact m6 n8 (by decide)) λr _=>⟨[.val (.lst (iD r))],.fresh,rfl,z1j (b8 rfl),rfl⟩;have atx:∀(i:Nat) (j:Nat),i+j<20->∀{F:Nat->List DV->Option Ou} {δ:List Sv},evE G F (.var 1) δ=some (.ok (.lst (iD xs)) .strong)->evE G F (.var 2) δ=some (.ok (.int (j:Int)) .strong)->evE G F (.ix (.var 1) (.bin .Add (.int (i:Int)) (.var 2))) δ=some (.ok (.int (xs.getD (i+j) 0)) .strong):=λi j hij F δ h1 h2=>by have:=N2 (r:=xs) (j:=i+j) (by omega);rw[Int.natCast_add]at this;exact o6 (cx:=.strong) h1 (L7 f7 h2) this
 have pick:∀(v:Int) (rows:List (List Int)),Rw9 n m rows->∃j:Nat,v%(n:Int)=(j:Int)/\j<n:=λv rows _=>by have h1:=w3R v (b:=(n:Int)) (by omega);have h2:=w3d v (b:=(n:Int)) (by omega);exact⟨(v%n).toNat,by omega,by omega⟩
 have hq0:0<=xs.getD 0 0%4/\xs.getD 0 0%4<4:=by omega
 obtain⟨q,hq,hq4⟩:∃q:Nat,xs.getD 0 0%4=(q:Int)/\q<4:=⟨(xs.getD 0 0%4).toNat,by omega,by omega⟩;have w:o5 (evE G (run G T fu k) (.rng [.bin .Mod (.ix (.var 1) (.int 0)) (.int 4)]) (yS rows xs .no .no .no .no .no))=some (.ok (upTo 0 q) .fresh):=by have a0:=N2 (r:=xs) (j:=0) (by omega);have:=G6 (o6 (G:=G) (F:=run G T fu k) (cx:=.strong) (δ:=yS rows xs .no .no .no .no .no) (b8 (n:=1) (d:=.lst (iD xs)) rfl) (f7 (i:=((0:Nat):Int))) a0) (f7 (i:=4)) (by decide);rw[hq]at this;exact z3h this (by omega)
 have loop:∃δ',p6 (.one 2) (λδ'=>evSs G (run G T fu k) fu ([.set 3 false (.bin .Mod (.ix (.var 1) (.bin .Add (.int 1) (.var 2))) (.bi .len [.var 0])),.set 4 false (.ix (.var 0) (.bin .Mod (.ix (.var 1) (.bin .Add (.int 5) (.var 2))) (.bi .len [.var 0]))),.set 5 false (.ix (.var 0) (.bin .Mod (.ix (.var 1) (.bin .Add (.int 9) (.var 2))) (.bi .len [.var 0]))),.set 6 false (.bin .Mod (.ix (.var 1) (.bin .Add (.int 13) (.var 2))) (.int 4)),.iff (.cmp .Eq (.var 6) (.int 0)) [.seti 0 (.var 3) (.bi .list [.var 4])] [],.iff (.and [.cmp .Eq (.var 6) (.int 1),.cmp .Lt (.bin .Add (.bi .max [.var 4]) (.bi .max [.var 5])) (.int 10)]) [.seti 0 (.var 3) (.comp (.bin .Add (.var 0) (.var 1)) (.many [0,1]) (.zp (.var 4) (.var 5)) [none,none])] [],.iff (.and [.cmp .Eq (.var 6) (.int 2),.cmp .Lt (.bi .max [.var 4]) (.int 5)]) [.seti 0 (.var 3) (.comp (.bin .Mult (.int 2) (.var 0)) (.one 0) (.var 4) [none])] [],.iff (.cmp .Eq (.var 6) (.int 3)) [.seti 0 (.var 3) (.bin .Mult (.lst [.int 0]) (.bi .len [.var 4]))] []]:List MS) δ') (upTo 0 q) (yS rows xs .no .no .no .no .no)=some (.nx δ')/\∃rows' a b c d e,Rw9 n m rows'/\δ'=yS rows' xs a b c d e:=by
  refine q3y (i:=2) (I:=λ_ δ=>∃rows' a b c d e,Rw9 n m rows'/\δ=yS rows' xs a b c d e) q 0 (λj hj δ Iv=>?_) ⟨rows,_,_,_,_,_,h,rfl⟩;obtain⟨rw1,a,b,c,d,e,h1,rfl⟩:=Iv;rw[U4];have ln:∀(a b c d e:Sv),evE G (run G T fu k) (.bi .len [.var 0]) (yS rw1 xs a b c d e)=some (.ok (.int (n:Int)) .strong):=λa b c d e=>by have:=q6L (F:=run G T fu k) (rows:=rw1) (e:=.var 0) (c:=.top) (δ:=yS rw1 xs a b c d e) (P1 rfl);rw[h1.1.1]at this;exact this
  obtain⟨i1,p1,l1⟩:=pick (xs.getD (1+j) 0) rw1 h1;obtain⟨i5,p5,l5⟩:=pick (xs.getD (5+j) 0) rw1 h1;obtain⟨i9,p9,l9⟩:=pick (xs.getD (9+j) 0) rw1 h1;have g1:=G6 (atx 1 j (by omega) (F:=run G T fu k) (δ:=yS rw1 xs (.val (.int (j:Int))) b c d e) (b8 rfl) (b8 rfl)) (ln _ _ _ _ _) (by omega);rw[p1]at g1;have g5:=G6 (atx 5 j (by omega) (F:=run G T fu k) (δ:=yS rw1 xs (.val (.int (j:Int))) (.val (.int (i1:Int))) c d e) (b8 rfl) (b8 rfl)) (ln _ _ _ _ _) (by omega);rw[p5]at g5;obtain⟨r5,r5'⟩:=q6o h1.1 l5;obtain⟨r9,r9'⟩:=q6o h1.1 l9;have k5:=o6 (cx:=.top) (P1 (G:=G) (F:=run G T fu k) (n:=0) (d:=rL rw1) (δ:=yS rw1 xs (.val (.int (j:Int))) (.val (.int (i1:Int))) c d e) rfl) g5 (Z2 (by rw[h1.1.1];exact l5));have g9:=G6 (atx 9 j (by omega) (F:=run G T fu k) (δ:=yS rw1 xs (.val (.int (j:Int))) (.val (.int (i1:Int))) (.val (.lst (iD (rw1.getD i5 [])))) d e) (b8 rfl) (b8 rfl)) (ln _ _ _ _ _) (by omega);rw[p9]at g9;have k9:=o6 (cx:=.top) (P1 (G:=G) (F:=run G T fu k) (n:=0) (d:=rL rw1) (δ:=yS rw1 xs (.val (.int (j:Int))) (.val (.int (i1:Int))) (.val (.lst (iD (rw1.getD i5 [])))) d e) rfl) g9 (Z2 (by rw[h1.1.1];exact l9));have g13:=G6 (atx 13 j (by omega) (F:=run G T fu k) (δ:=yS rw1 xs (.val (.int (j:Int))) (.val (.int (i1:Int))) (.val (.lst (iD (rw1.getD i5 [])))) (.val (.lst (iD (rw1.getD i9 [])))) e) (b8 rfl) (b8 rfl)) (f7 (i:=4)) (by decide);obtain⟨rw2,h2,s⟩:=y0N (F:=run G T fu k) (fu:=fu) (rows:=rw1) (xs:=xs) (i:=i1) (r:=rw1.getD i5 []) (r':=rw1.getD i9 []) (w:=xs.getD (13+j) 0%4) (a:=.val (.int (j:Int))) h1 m0 m8 l1 r5' r9' (h1.2 _ r5) (h1.2 _ r9);exact⟨_,f8 (m7 g1 rfl) (f8 (m7 k5 rfl) (f8 (m7 k9 rfl) (f8 (m7 g13 rfl) s))),rw2,_,_,_,_,_,h2,rfl⟩
 obtain⟨δ',e,rows',a,b,c,d,e',h',rfl⟩:=loop;refine⟨rows',h',?_⟩;rw[y7 (fd:=q2I) rfl rfl];exact C3 (f8 (Y1 c0) (K8 w (.inr rfl) e (B4 (F3 (cl:=.top) (P1 rfl)))))
end
section
variable {F:Nat->List DV->Option Ou} {δ:List Sv} {fu k:Nat} {cl:Cl}
theorem z2w:run G T fu (k+1) 14 [.int x]=some (.v (.bl true) false):=by
 rw[y7 (fd:=q3M) rfl rfl];rfl
theorem b_ge(ha:evE G F a δ=some (.ok (.int i) cx))(hb:evE G F b δ=some (.ok (.int j) cy)):evE G F (.cmp .GtE a b) δ=some (.ok (.bl (decide (j<=i))) .strong):=E8 ha hb rfl
def gB:List MS:=[.iff (.or [.not (.call 14 [.var 3]),.cmp .LtE (.var 3) (.var 2),.cmp .GtE (.var 3) (.var 1)]) [.ret (.bl false)] [],.set 2 false (.var 3)]
theorem z3u:∀(l:List Nat) (last:Int) (a:Sv),l.Pairwise (· < ·)->(∀x∈l,last<(x:Int)/\x<most)->∃δ',p6 (.one 3) (λδ'=>evSs G (run G T fu (k+1)) fu gB δ') (nD l) [.val d,.val (.int (most:Int)),.val (.int last),a]=some (.nx δ')
 | [],last,a,_,_=>⟨_,rfl⟩
 | x::l,last,a,up,h=>by
  have hx:=h x j5;have up':=List.pairwise_cons.mp up;obtain⟨δ',e⟩:=z3u (d:=d) (most:=most) l (x:Int) (.val (.int (x:Int))) up'.2 λy hy=>⟨by have:=up'.1 y hy;omega,(h y (i6 _ hy)).2⟩;refine⟨δ',?_⟩;have o:evE G (run G T fu (k+1)) (.or [.not (.call 14 [.var 3]),.cmp .LtE (.var 3) (.var 2),.cmp .GtE (.var 3) (.var 1)]) [.val d,.val (.int (most:Int)),.val (.int last),.val (.int (x:Int))]=some (.ok (.bl false) .strong):=by have q1:=b_le (F:=run G T fu (k+1)) (δ:=[.val d,.val (.int (most:Int)),.val (.int last),.val (.int (x:Int))]) (a:=.var 3) (b:=.var 2) (b8 rfl) (b8 rfl);rw[C6 (by omega)]at q1;have q2:=b_ge (F:=run G T fu (k+1)) (δ:=[.val d,.val (.int (most:Int)),.val (.int last),.val (.int (x:Int))]) (a:=.var 3) (b:=.var 1) (b8 rfl) (b8 rfl);rw[C6 (by omega)]at q2;exact z7j (L5 (x5 (d9 (b8 rfl) j1) rfl z2w)) q1 q2
  have s:evSs G (run G T fu (k+1)) fu gB [.val d,.val (.int (most:Int)),.val (.int last),.val (.int (x:Int))]=some (.nx [.val d,.val (.int (most:Int)),.val (.int (x:Int)),.val (.int (x:Int))]):=B5 (o9 o) (f8 (m7 (b8 rfl) rfl) rfl);show(match evSs G (run G T fu (k+1)) fu gB [.val d,.val (.int (most:Int)),.val (.int last),.val (.int (x:Int))]with | some (.nx δ2)=>p6 (.one 3) (λδ'=>evSs G (run G T fu (k+1)) fu gB δ') (nD l) δ2 | o=>o)=_;rw[s];exact e
theorem q8b{l:List Nat}{most:Nat}(up:l.Pairwise (· < ·))(h:∀x∈l,x<most):run G T fu (k+2) 21 [.lst (nD l),.int (most:Int)]=some (.v (.bl true) false):=by
 obtain⟨δ',e⟩:=z3u (fu:=fu) (k:=k) (d:=.lst (nD l)) (most:=most) l (-1) .no up λx hx=>⟨by omega,h x hx⟩
 rw[y7 (fd:=q1D) rfl rfl];unfold q1D;have c:evE G (run G T fu (k+1)) (.isi (.var 0) ["list"]) (o8 4 [.lst (nD l),.int (most:Int)])=some (.ok (.bl true) .strong):=rfl;exact C3 (B5 (o9 (L5 c)) (f8 (m7 (d:=.int (-1)) (cl:=.strong) rfl rfl) (K8 (ds:=nD l) (cl:=.strong) rfl (.inl rfl) e (B4 (F3 (cl:=.strong) rfl)))))
end
section
variable {F:Nat->List DV->Option Ou} {δ:List Sv} {fu k:Nat} {cl:Cl}
theorem q8n(P:List Nat):(nD P).length=P.length:=by unfold nD;rw[d8]
theorem z8E:∀(n:Nat) (b:List Nat),b.Pairwise (· < ·)->(∀i∈b,i<n)->b.length<=n:=λn b up h=>by
 have:=List.Nodup.length_le_of_subset (up.imp λh=>B3 h) (λi hi=>p0.mpr (h i hi));rw[A8]at this;exact this
variable {F:Nat->List DV->Option Ou} {δ:List Sv} {fu k:Nat} {cl:Cl}
theorem z0G(h:∀i,i<n->∀j,j<m->v i j=w i j)(B:rk.Bas P v n m b):rk.Bas P w n m b:=by
 have at':∀t,t<b.length->b.getD t 0<n:=λt ht=>B.lt _ (by
  rw[i7,j3 ht];exact F6 ht)
 refine⟨B.lt,B.up,λc hs i hi=>B.ind c (λj hj=>?_) i hi,λi hi=>?_⟩
 ·have:=hs j hj;rw[rk.sm_congr (g:=λt=>c t*v (b.getD t 0) j) λt ht=>by rw[h _ (at' t ht) j hj]]at this;exact this
 ·obtain⟨d,a,hd,q⟩:=B.sp i hi;refine⟨d,a,hd,λj hj=>?_⟩;have:=q j hj;rw[h i hi j hj,rk.sm_congr (g:=λs=>a s*w (b.getD s 0) j) λt ht=>by show a t*v (b.getD t 0) j=_;rw[h _ (at' t ht) j hj]]at this;exact this
theorem z4s(R:Rect n m rows):∀j,j<m->∀i,i<n->vv (flip m rows) j i=vv rows i j:=λj hj i hi=>by
 have hi':i<rows.length:=by rw[R.1];exact hi
 have e:(flip m rows).getD j []=col rows j:=(by unfold flip;rw[i7,m9,w1N hj];rfl);show((flip m rows).getD j []).getD i 0=(rows.getD i []).getD j 0;rw[e];unfold col;rw[i7,m9,j3 hi',i7 (l:=rows),j3 hi'];rfl
section
variable {rows:List (List Int)} {n m:Nat} (R:Rect n m rows)
include R
end
theorem q7B(l:List Nat):M9 (.lst (nD l)) .fresh=true:=by
 show newI (.lst (nD l)) .fresh=true;show(ints? (nD l)).isSome=true;rw[q7e];rfl
theorem q4f(ha:evEs G F es δ=some (.ok l))(h:F f (l.map (·.1))=some (.t (.dct ks ds))):evE G F (.call f es) δ=some (.ok (.tup ds) .strong):=by
 show Rs.thn (evEs G F es δ) (λl=>E2 F f l)=_;rw[ha];show E2 F f l=_;unfold E2;rw[h]
theorem z8L(hc:tstD (evE G F c δ)=some (.ok true))(h:evSs G F fu a δ=some (.ex x δ')):evSs G F fu (.iff c a b::r) δ=some (.ex x δ'):=by
 have e:evS G F fu (.iff c a b) δ=some (.ex x δ'):=(q8z hc).trans h;unfold evSs;rw[e]
theorem q9e{s:Nat}(h:run G T fu (k+1) 0 [d,.int 0,.int ((s:Int) - 1)]=some (.v (.bl b) false)):run G T fu (k+2) 4 [d,.int (s:Int)]=(if b then some (.v .non false)else some (.x "NoCard")):=by
 rw[y7 (fd:=q1V) rfl rfl];unfold q1V;have c:=L5 (x5 (G:=G) (F:=run G T fu (k+1)) (δ:=o8 2 [d,.int (s:Int)]) (f:=0) (es:=[.var 0,.int 0,.bin .Sub (.var 1) (.int 1)]) (d9 (b8 rfl) (d9 f7 (d9 (z2W (b8 rfl) f7) j1))) rfl h);cases b with
 | true=>rw[d4 rfl];exact y0H (B5 (o9 c) rfl)
 | false=>rw[d5 K2];exact z8D (z8L (o9 c) (z5y rfl))
theorem q8y{i s:Nat}(h:i<s):run G T fu (k+2) 4 [.int (i:Int),.int (s:Int)]=some (.v .non false):=by
 have q:=q9e (fu:=fu) (k:=k) (q4g (fu:=fu) (k:=k) (x:=(i:Int)) (a:=0) (b:=(s:Int) - 1));rw[B9 (by omega),B9 (by omega)]at q;exact q
theorem lenT(R:Rect n m rows)(h:evE G F e δ=some (.ok (tT rows) .strong)):evE G F (.bi .len [e]) δ=some (.ok (.int (n:Int)) .strong):=by
 have q:=q5M (ds:=rows.map λr=>.tup (iD r)) h;rw[d8,R.1]at q;exact q
variable {F:Nat->List DV->Option Ou} {δ:List Sv} {fu k:Nat} {cl:Cl}
theorem Z3(l:List Nat):nD l=iD (l.map λ(j:Nat)=>(j:Int)):=by unfold nD iD;rw[j9];rfl
theorem z1G(I:List Nat):DV.plains 60 (nD I)=true:=by rw[Z3];exact q3f 60 _
theorem z4c(r:Nat):∀I:List Nat,((nD I).any λd=>deq d (.int (r:Int)))=I.contains r
 | []=>rfl
 | a::I=>by
  show(deq (.int (a:Int)) (.int (r:Int))||(nD I).any λd=>deq d (.int (r:Int)))=_;rw[z4c r I,List.contains_cons]
  congr 1
  show((a:Int)==(r:Int))=(r==a);rw[w3O,i8,i8];omega
theorem z2J(r:Nat)(I:List Nat):cmpD .NotIn (.int (r:Int)) (.lst (nD I))=some (!I.contains r):=by
 show(if(DV.plain 60 (.int (r:Int))&&DV.plains 60 (nD I))=true then some (!(nD I).any λd=>deq d (.int (r:Int)))else none)=_;rw[z1G,z4c];rfl
variable {F:Nat->List DV->Option Ou} {δ:List Sv} {fu k:Nat} {cl:Cl}
theorem q6C{α:Type}(d:α)(l:List α):(List.range l.length).map (λi=>l.getD i d)=l:=by
 apply w2K
 ·rw[d8,A8]
 ·intro j h1 h2;rw[w2L,w3c,i7,j3 h2];rfl
theorem z0i(R:Rect n m rows):flip n (flip m rows)=rows:=by
 have e:∀i∈List.range n,col (flip m rows) i=rows.getD i []:=λi hi=>by
  have hir:i<rows.length:=by rw[R.1];exact p0.mp hi
  have q:=q6C (0:Int) (rows.getD i []);rw[R.2 _ (W0 hir)]at q;refine Eq.trans ?_ q;unfold col flip;rw[j9];apply C9;intro j _;show((rows.map λr=>r.getD j 0).getD i 0)=_;rw[i7,m9,j3 hir,i7 (l:=rows),j3 hir];rfl
 rw[show flip n (flip m rows)=(List.range n).map (col (flip m rows))from rfl,C9 e,←R.1];exact q6C [] rows
def bads(n:Nat):List DV:=[.int (n:Int),.int (-1),.int 10000,.bl true,.non,.str "0",.lst [.int 0],.bl false]
theorem z9z(n8:n<=8):∀d∈bads n,run G T fu (k+1) 0 [d,.int 0,.int ((n:Int) - 1)]=some (.v (.bl false) false):=by
 intro d hd;unfold bads at hd;simp only[f9,F7,K6]at hd;rcases hd with h | h | h | h | h | h | h | h<;>subst h
 ·rw[q4g,C6 (show ¬(n:Int)<=(n:Int) - 1 by omega),w2W]
 ·rw[q4g,C6 (show ¬(0:Int) <= -1 by omega),N4]
 ·rw[q4g,C6 (show ¬(10000:Int)<=(n:Int) - 1 by omega),w2W]
 all_goals (rw[y7 (fd:=q2M) rfl rfl];rfl)
theorem z1c(h:δ[i]? = some (.ot d)):evE G F (.var i) δ=some (.ok (otD d) .weak):=by unfold evE;rw[h]
theorem z1r(h:evE G F e δ=some (.ok (.lst (nD l)) c)):evE G F (.bi .lsti [e]) δ=some (.ok (.lst (nD l)) .fresh):=by
 show Rs.thn (evEs G F [e] δ) (λl=>X7 l)=_;rw[d9 h j1];show(match ints? (nD l)with | some _=>some (Re.ok (.lst (nD l)) .fresh) | none=>none)=_;rw[q7e]
theorem q6R(ha:evEs G F es δ=some (.ok l))(hn:noO2 i δ=true)(h:F f (l.map (·.1))=some (.t (.dct ks ds))):evS G F fu (.setp i f es) δ=some (.nx (δ.set i (.ot (.dct ks ds)))):=by
 unfold evS;rw[ha];show(if noO2 i δ=true then(match F f (l.map (·.1))with | some (.t (.dct ks ds))=>some (Out.nx (δ.set i (.ot (.dct ks ds)))) | _=>none)else none)=_;rw[d4 hn,h]
theorem z1g(a b:List Nat):DV.plain 60 (.tup [.lst (nD a),.lst (nD b)])=true:=by
 rw[Z3,Z3];show DV.plains 59 [.lst (iD _),.lst (iD _)]=true;exact q4w λd hd=>by
  simp only[f9,F7,K6]at hd;rcases hd with h | h<;>rw[h]<;>exact z0k 58 _
theorem z9U(a b:List Nat):deq (.tup [.lst (nD a),.lst (nD b)]) (.tup [.lst (nD a),.lst (nD b)])=true:=by
 rw[Z3,Z3];show(deq (.lst (iD _)) (.lst (iD _))&&(deq (.lst (iD _)) (.lst (iD _))&&true))=true;rw[z7m,z7m];simp
theorem eq_2(a b:List Nat):cmpD .Eq (.tup [.lst (nD a),.lst (nD b)]) (.tup [.lst (nD a),.lst (nD b)])=some true:=by
 show(if(DV.plain 60 _&&DV.plain 60 _)=true then some (deq _ _)else none)=_;rw[z1g,z9U];rfl
theorem ne_2(a b:List Nat):cmpD .NotEq (.tup [.lst (nD a),.lst (nD b)]) (.tup [.lst (nD a),.lst (nD b)])=some false:=by
 show(if(DV.plain 60 _&&DV.plain 60 _)=true then some (!deq _ _)else none)=_;rw[z1g,z9U];rfl
theorem y0P(ha:evE G F a δ=some (.ok (.bl false) c1))(hb:evE G F b δ=some (.ok (.bl false) c2))(hc:evE G F c δ=some (.ok (.bl false) c3))(hd:evE G F d δ=o):evE G F (.or [a,b,c,d]) δ=o:=by
 have e:=z7j (F:=F) hb hc hd;unfold evE at e ⊢;unfold evOr;rw[ha];exact e
theorem z7L(rows:List (List Int))(n m:Nat)(R:Rect n m rows)(hn:0<n)(hn2:n<=1000)(hm2:m<=1000)(h:δ[2]? = some (.val (rL rows))):evE G F (.comp (.comp (.ix (.var 0) (.var 1)) (.one 0) (.var 1) [none,some 0]) (.one 0) (.rng [.bi .len [.ix (.var 2) (.int 0)]]) [none,some 2]) δ=some (.ok (rL (flip m rows)) .fresh):=by
 have h0:0<rows.length:=by rw[R.1];exact hn
 have l:=q6w (F:=F) (δ:=δ) (o6 (a:=.var 2) (b:=.int 0) (cx:=.strong) (b8 h) (f7 (i:=((0:Nat):Int))) (Z2 h0));rw[show(rows.getD 0 []).length=m from R.2 _ (W0 h0)]at l;have cm:=J9 (F:=F) (δ:=δ) (elt:=.comp (.ix (.var 0) (.var 1)) (.one 0) (.var 1) [none,some 0]) (tg:=.one 0) (fr:=[none,some 2]) (f:=λj=>.lst (iD (col rows j))) (z0I l hm2) (by decide) (by rw[A8];exact m6 hm2 (by decide)) λj hj=>by refine⟨[.val (.int j),.val (rL rows)],.fresh,?_,z9j rows m j R.2 (p0.mp hj) (by rw[R.1];exact hn2),rfl⟩;show some [Sv.val (.int j),(δ.getD 2 .no).plain]=_;rw[i7,h];rfl
 rw[cm];unfold rL flip;rw[j9];rfl
end
end k42
end
noncomputable section
namespace k42
open PySem L2 rk
section
variable {fu k:Nat} {F:Nat->List DV->Option Ou} {δ:List Sv} {ds:List DV} {cl:Cl}
theorem band(r o:Nat):Builtin.bitAnd r o=((r &&& o:Nat):Int):=by
 unfold Builtin.bitAnd;rw[B9 (K3 r),B9 (K3 o)];rfl
theorem z4o{a:ME}{g:Nat}{cx:Cl}(ha:evE G F a δ=some (.ok (.int (g:Int)) cx)):evE G F (.bin .BitAnd a (.int 1)) δ=some (.ok (.int ((g%2:Nat):Int)) .strong):=by
 have:=L6 (op:=.BitAnd) ha (f7 (i:=1)) (r:=some (.ok (.int (Builtin.bitAnd g 1)) .strong)) rfl;rw[show(1:Int)=((1:Nat):Int)from rfl,band,Nat.and_one_is_mod]at this;exact this
theorem z6W{a b:ME}{g j:Nat}{cx cy:Cl}(ha:evE G F a δ=some (.ok (.int (g:Int)) cx))(hb:evE G F b δ=some (.ok (.int (j:Int)) cy)):evE G F (.bin .RShift a b) δ=some (.ok (.int ((g/2^j:Nat):Int)) .strong):=by
 refine L6 ha hb ?_;show(if(0:Int)<=(j:Int)then some (Re.ok (DV.int ((g:Int)/2^(j:Int).toNat)) Cl.strong)else none)=_;rw[d4 (K3 j),B8]
 congr 3
theorem z9W{a b:ME}{j:Nat}{cx cy:Cl}(ha:evE G F a δ=some (.ok (.int 1) cx))(hb:evE G F b δ=some (.ok (.int (j:Int)) cy))(hj:j<=100):evE G F (.bin .LShift a b) δ=some (.ok (.int ((2^j:Nat):Int)) .strong):=by
 refine L6 ha hb ?_;show(if(0:Int)<=(j:Int)/\(j:Int)<=1000000/\(1:Int).natAbs<2^64 then some (Re.ok (DV.int (1*2^(j:Int).toNat)) Cl.strong)else none)=_;rw[d4 ⟨K3 j,by omega,by decide⟩,B8,D1]
 congr 3
def tnC:ME:=.cmp .NotEq (.var 3) (.int 0)
def tnB:List MS:=[.iff (.cmp .Eq (.bin .BitAnd (.var 3) (.int 1)) (.int 1)) [.set 2 false (.neg (.var 2))] [],.set 3 false (.bin .RShift (.var 3) (.int 1))]
theorem b_ne(ha:evE G F a δ=some (.ok (.int i) cx))(hb:evE G F b δ=some (.ok (.int j) cy)):evE G F (.cmp .NotEq a b) δ=some (.ok (.bl (!(i==j))) .strong):=E8 ha hb rfl
theorem tn_s{x y:Sv}{s:Int}{g:Nat}:evSs G F fu tnB [x,y,.val (.int s),.val (.int (g:Int))]=some (.nx [x,y,.val (.int (if g%2=1 then -s else s)),.val (.int ((g/2:Nat):Int))]):=by
 have c0:=b_eq (z4o (b8 (G:=G) (F:=F) (n:=3) (d:=.int (g:Int)) (δ:=[x,y,.val (.int s),.val (.int (g:Int))]) rfl)) (f7 (i:=1));have st:∀s:Int,evS G F fu (.set 3 false (.bin .RShift (.var 3) (.int 1))) [x,y,.val (.int s),.val (.int (g:Int))]=some (.nx [x,y,.val (.int s),.val (.int ((g/2:Nat):Int))]):=λs=>by have:=z6W (b8 (G:=G) (F:=F) (n:=3) (d:=.int (g:Int)) (δ:=[x,y,.val (.int s),.val (.int (g:Int))]) rfl) (f7 (i:=((1:Nat):Int)));rw[Nat.pow_one]at this;exact m7 this rfl
 unfold tnB;by_cases h:g%2=1
 ·rw[show(((g%2:Nat):Int)==1)=true by rw[h];rfl]at c0;rw[d4 h];refine q5b (o9 c0) (f8 (m7 (d:=.int (-s)) (cl:=.strong) ?_ rfl) rfl) (f8 (st (-s)) rfl);rfl
 ·rw[show(((g%2:Nat):Int)==1)=false by rw[C4];omega]at c0;rw[d5 h];exact B5 (o9 c0) (f8 (st s) rfl)
theorem z9w(x y:Sv):∀(f g:Nat) (s:Int) (N:Nat),g<2^f->f<N->J3 (λδ'=>tstD (evE G F tnC δ')) (λδ'=>evSs G F fu tnB δ') N [x,y,.val (.int s),.val (.int (g:Int))]=some (.nx [x,y,.val (.int (s*psg f g)),.val (.int ((0:Nat):Int))])
 | f,0,s,N+1,_,_=>by
  have e:psg f 0=1:=by cases f<;>rfl
  rw[e,Int.mul_one];exact q4r (o9 (b_ne (i:=((0:Nat):Int)) (b8 rfl) f7))
 | 0,g+1,s,_,h,_=>by simp at h
 | f+1,g+1,s,N+1,h,hN=>by
  have ih:=z9w x y f ((g+1)/2) (if(g+1)%2=1 then -s else s) N ((Nat.div_lt_iff_lt_mul (by decide)).mpr (by rw[←U5];exact h)) (by omega);have c:=b_ne (b8 (G:=G) (F:=F) (n:=3) (d:=.int ((g+1:Nat):Int)) (δ:=[x,y,.val (.int s),.val (.int ((g+1:Nat):Int))]) rfl) (f7 (i:=0));rw[show(!(((g+1:Nat):Int)==0))=true by rw[show(((g+1:Nat):Int)==0)=false by rw[C4];omega];rfl]at c;have ep:s*psg (f+1) (g+1)=(if(g+1)%2=1 then -s else s)*psg f ((g+1)/2):=by
   show s*(if g+1=0 then 1 else if(g+1)%2=1 then - psg f ((g+1)/2)else psg f ((g+1)/2))=_;rw[d5 (by omega)];by_cases hh:(g+1)%2=1
   ·rw[d4 hh,d4 hh,w2I,Int.mul_neg]
   ·rw[d5 hh,d5 hh]
  rw[ep];exact U9 (o9 c) tn_s ih
theorem z8d{T c:Nat}(hT:T<256)(hf:10<=fu):run G k42.T fu (k+1) 7 [.int (T:Int),.int (c:Int)]=some (.v (.int (tsgn T c)) false):=by
 rw[y7 (fd:=q7z) rfl rfl];unfold q7z;have g0:=z6W (b8 (G:=G) (F:=run G k42.T fu k) (n:=0) (d:=.int (T:Int)) (δ:=[.val (.int (T:Int)),.val (.int (c:Int)),.val (.int 1),.no]) rfl) (b:=.bin .Add (.var 1) (.int 1)) (j:=c+1) (cy:=.strong) (by
  have:=L7 (b8 (G:=G) (F:=run G k42.T fu k) (n:=1) (d:=.int (c:Int)) (δ:=[.val (.int (T:Int)),.val (.int (c:Int)),.val (.int 1),.no]) rfl) (f7 (i:=1));rw[show(c:Int)+1=((c+1:Nat):Int) by push_cast;rfl]at this;exact this)
 have lp:=z9w (F:=run G k42.T fu k) (fu:=fu) (.val (.int (T:Int))) (.val (.int (c:Int))) 8 (T/2^(c+1)) 1 fu (G4 (Nat.div_le_self _ _) hT) (by omega);rw[D1]at lp;exact C3 (f8 (m7 (d:=.int 1) (cl:=.strong) rfl rfl) (f8 (m7 (cl:=.strong) g0 rfl) (z1N lp (B4 (F3 (b8 rfl))))))
end
section
variable {fu k:Nat} {F:Nat->List DV->Option Ou} {δ:List Sv} {ds:List DV} {cl:Cl}
def kD(L:rk.Tb):List DKey:=L.map λp=>.i p.1
def vD(L:rk.Tb):List DV:=L.map λp=>.int p.2
def dDi(L:rk.Tb):DV:=.dct (kD L) (vD L)
theorem z3v:∀L:rk.Tb,kvs? (kD L) (vD L)=some L
 | []=>rfl
 | (a,b)::L=>by show(kvs? (kD L) (vD L)).map ((a,b) :: ·)=_;rw[z3v L];rfl
theorem q7h(j:Int):∀L:rk.Tb,G2 (.i j) (kD L) (vD L)=(L.find? λp=>decide (p.1=j)).map λp=>.int p.2
 | []=>rfl
 | (a,b)::L=>by
  show(if DKey.i a=.i j then some (DV.int b)else G2 (.i j) (kD L) (vD L))=_;by_cases h:a=j
  ·rw[d4 (by rw[h]),List.find?_cons_of_pos (by simpa using h)];rfl
  ·rw[d5 (by intro z;exact h (DKey.i.inj z)),w2h (by simpa using h),q7h j L]
theorem q8e{α β γ:Type}(f:α->β)(g:α->γ):∀L:List α,List.zip (L.map f) (L.map g)=L.map λp=>(f p,g p)
 | []=>rfl
 | a::L=>by rw[p7,p7,w29,q8e f g L];rfl
theorem z8J(L:rk.Tb)(j z:Int):putD (.i j) (.int z) (kD L) (vD L)=(kD (putT L j z),vD (putT L j z)):=by
 have e:(DKey.i j∈kD L)↔(L.any λp=>decide (p.1=j))=true:=by
  unfold kD;rw[o7,w13];constructor
  ·rintro⟨p,h1,h2⟩;exact⟨p,h1,B9 (DKey.i.inj h2)⟩
  ·rintro⟨p,h1,h2⟩;exact⟨p,h1,by rw[w2j h2]⟩
 unfold putD putT;by_cases h:(L.any λp=>decide (p.1=j))=true
 ·rw[d4 (e.mpr h),d4 h];unfold kD vD;rw[q8e,j9,j9,j9];refine Prod.ext ?_ ?_
  ·apply C9;intro p _;show DKey.i p.1=DKey.i (if p.1=j then(p.1,z)else p).1;split<;>rfl
  ·apply C9;intro p _;show(if DKey.i p.1=DKey.i j then DV.int z else DV.int p.2)=DV.int (if p.1=j then(p.1,z)else p).2;by_cases h:p.1=j
   ·rw[d4 (by rw[h]),d4 h]
   ·rw[d5 (by intro z;exact h (DKey.i.inj z)),d5 h]
 ·rw[d5 (λz=>h (e.mp z)),d5 h];unfold kD vD;rw[E4,E4];rfl
theorem z9b(h0:δ[i]? = some (.od (dDi L)))(ha:evE G F a δ=some (.ok (.int j) cx)):evE G F (.dgt i a (.int 0)) δ=some (.ok (.int (getL L j)) .strong):=by
 have e:evE G F (.dgt i a (.int 0)) δ=(match δ[i]? with
  | some (.od x)=>Re.thn (evE G F a δ) λy _=>Re.thn (evE G F (.int 0) δ) λz _=>dgtD x y z
  | _=>none):=by rw[evE]<;>rfl
 rw[e,h0];show Re.thn (evE G F a δ) (λy _=>dgtD (dDi L) y (.int 0))=_;rw[ha,y9];show(match(G2 (.i j) (kD L) (vD L)).getD (.int 0)with | .int v=>some (Re.ok (.int v) Cl.strong) | _=>none)=_;rw[q7h];unfold getL;cases L.find? λp=>decide (p.1=j)<;>rfl
theorem z4I(h0:δ[i]? = some (.od (dDi L)))(hb:evE G F b δ=some (.ok (.int z) cy))(ha:evE G F a δ=some (.ok (.int j) cx))(hl:L.length<mostLen):evS G F fu (.dput i a b) δ=some (.nx (δ.set i (.od (dDi (putT L j z))))):=by
 have e:evS G F fu (.dput i a b) δ=(match δ[i]? with
  | some (.od (.dct ks vs))=>Re.thnS δ (evE G F b δ) λd _=>Re.thnS δ (evE G F a δ) λk _=>(match k,d with
   | .int k,.int z=>if ks.length<mostLen then some (.nx (δ.set i (.od (.dct (putD (.i k) (.int z) ks vs).1 (putD (.i k) (.int z) ks vs).2))))else none
   | _,_=>none)
  | _=>none):=by rw[evS]<;>rfl
 rw[e,h0];show Re.thnS δ (evE G F b δ) (λd _=>Re.thnS δ (evE G F a δ) λk _=>(match k,d with
   | .int k,.int z=>if(kD L).length<mostLen then some (.nx (δ.set i (.od (.dct (putD (.i k) (.int z) (kD L) (vD L)).1 (putD (.i k) (.int z) (kD L) (vD L)).2))))else none
   | _,_=>none))=_
 rw[hb,q5v,ha,q5v];show(if(kD L).length<mostLen then _ else none)=_;rw[d4 (by unfold kD;rw[d8];exact hl),z8J];rfl
theorem z9n(ha:evE G F a δ=some (.ok (dDi L) cx))(hb:evE G F b δ=some (.ok (.int j) cy))(h:j∈keys L):evE G F (.dix a b) δ=some (.ok (.int (getL L j)) .strong):=by
 have e:evE G F (.dix a b) δ=Re.thn (evE G F a δ) (λx _=>Re.thn (evE G F b δ) λy _=>dixD x y):=by rw[evE]
 rw[e,ha,y9,hb,y9];show(match G2 (.i j) (kD L) (vD L)with | some (.int v)=>some (Re.ok (.int v) Cl.strong) | _=>none)=_;rw[q7h];unfold getL;cases hz:L.find? λp=>decide (p.1=j)with
 | none=>
  exfalso;obtain⟨p,hp,e⟩:=o7.mp h;have:=w3b.mp hz p hp;rw[L3]at this;exact this e
 | some p=>rfl
theorem y1g(h:evE G F e δ=some (.ok (dDi L) .strong)):o5 (evE G F (.itm e) δ)=some (.ok (L.map λp=>.tup [.int p.1,.int p.2]) .strong):=by
 have q:evE G F (.itm e) δ=Re.thn (evE G F e δ) (λx c=>itmD x c):=by rw[evE]
 rw[q,h,y9];have z:itmD (dDi L) .strong=some (.ok (.lst (L.map λp=>.tup [.int p.1,.int p.2])) .strong):=by unfold itmD dDi;dsimp only;rw[d4 rfl,z3v]
 rw[z];rfl
theorem y0I(h:evE G F e δ=some (.ok (.lst ds) .strong)):o5 (evE G F (.enu e) δ)=some (.ok (enuD 0 ds) .strong):=by
 have q:evE G F (.enu e) δ=Re.thn (evE G F e δ) (λx c=>X8 x c):=by rw[evE]
 rw[q,h,y9];rfl
theorem y0r(T c:Nat):T/2^c%2=if T.testBit c then 1 else 0:=by
 rw[Nat.testBit_eq_decide_div_mod_eq];by_cases h:T/2^c%2=1
 ·rw[h];rfl
 ·rw[show T/2^c%2=0 by omega];rfl
theorem z7u{T c:Nat}(hT:T<256)(hc:c<8)(h:¬T.testBit c=true):Builtin.bitOr (T:Int) ((2^c:Nat):Int)=((T+2^c:Nat):Int):=by
 have e:((List.range 256).all λT=>(List.range 8).all λc=>T.testBit c||decide (Builtin.bitOr (T:Int) ((2^c:Nat):Int)=((T+2^c:Nat):Int)))=true:=by decide +kernel
 have h2:=D6.mp e T (p0.mpr hT);have h3:=D6.mp h2 c (p0.mpr hc);rcases J0 _ _▸h3 with z | z
 ·exact absurd z h
 ·exact w2j z
theorem z6v(h1:i.natAbs<2^2000)(h2:j.natAbs<2^2000):E7 i j=true:=by
 unfold E7;rw[B9 h1,B9 h2,w3k,w4c]
theorem z9V(h:i=1\/i = -1):E7 i j=true:=by
 unfold E7;rcases h with h | h<;>rw[h]<;>rfl
abbrev Sw(s r:DV)(L:rk.Tb)(a b c d e:Sv):List Sv:=[.val s,.val r,.od (dDi L),a,b,c,d,e]
def wrB:List MS:=[.iff (.cmp .Eq (.bin .BitAnd (.bin .RShift (.var 3) (.var 5)) (.int 1)) (.int 0)) [.set 7 false (.bin .BitOr (.var 3) (.bin .LShift (.int 1) (.var 5))),.dput 2 (.var 7) (.bin .Add (.dgt 2 (.var 7) (.int 0)) (.bin .Mult (.bin .Mult (.call 7 [.var 3,.var 5]) (.var 4)) (.var 6)))] []]
theorem wr_s{s r:DV}{L:rk.Tb}{T c:Nat}{v a:Int}{f:Rw}{e:Sv}(hT:T<256)(hc:c<8)(hf:10<=fu)(ha:f c=a)(hv:v.natAbs<2^1000)(hab:a.natAbs<2^1000)(hl:L.length<mostLen) :
  ∃e',evSs G (run G k42.T fu (k+1)) fu wrB (Sw s r L (.val (.int (T:Int))) (.val (.int v)) (.val (.int (c:Int))) (.val (.int a)) e)=some (.nx (Sw s r (stp f T v L c) (.val (.int (T:Int))) (.val (.int v)) (.val (.int (c:Int))) (.val (.int a)) e')):=by
 have c0:=b_eq (z4o (z6W (b8 (G:=G) (F:=run G k42.T fu (k+1)) (n:=3) (d:=.int (T:Int)) (δ:=Sw s r L (.val (.int (T:Int))) (.val (.int v)) (.val (.int (c:Int))) (.val (.int a)) e) rfl) (b8 (n:=5) (d:=.int (c:Int)) rfl))) (f7 (i:=0));rw[y0r]at c0;unfold wrB stp;by_cases h:T.testBit c=true
 ·rw[d4 h]at c0 ⊢;exact⟨e,B5 (o9 c0) rfl⟩
 ·rw[d5 h]at c0 ⊢;have p1:(2:Nat)^1000<=2^2000:=Z9 (by decide) (by decide);have w1:=L6 (op:=.BitOr) (b8 (G:=G) (F:=run G k42.T fu (k+1)) (n:=3) (d:=.int (T:Int)) (δ:=Sw s r L (.val (.int (T:Int))) (.val (.int v)) (.val (.int (c:Int))) (.val (.int a)) e) rfl) (z9W (f7 (i:=1)) (b8 (n:=5) (d:=.int (c:Int)) rfl) (by omega)) (r:=some (.ok (.int (Builtin.bitOr (T:Int) ((2^c:Nat):Int))) .strong)) rfl;rw[z7u hT hc h]at w1;have tn:=x5 (G:=G) (F:=run G k42.T fu (k+1)) (δ:=Sw s r L (.val (.int (T:Int))) (.val (.int v)) (.val (.int (c:Int))) (.val (.int a)) (.val (.int ((T+2^c:Nat):Int)))) (f:=7) (d9 (b8 (n:=3) (d:=.int (T:Int)) rfl) (d9 (b8 (n:=5) (d:=.int (c:Int)) rfl) j1)) rfl (z8d (k:=k) (c:=c) hT hf);have m1:=L8 tn (b8 (n:=4) (d:=.int v) rfl) (z9V (q5E T c));have ht:(tsgn T c*v).natAbs<2^2000:=by
   rw[Q7];rcases q5E T c with z | z<;>rw[z]<;>simp only[Int.natAbs_neg,Int.natAbs_one,w23]<;>exact x4 hv p1
  have m2:=L8 m1 (b8 (n:=6) (d:=.int a) rfl) (z6v ht (x4 hab p1));have m3:=L7 (z9b (F:=run G k42.T fu (k+1)) (i:=2) (δ:=Sw s r L (.val (.int (T:Int))) (.val (.int v)) (.val (.int (c:Int))) (.val (.int a)) (.val (.int ((T+2^c:Nat):Int)))) (a:=.var 7) (j:=((T+2^c:Nat):Int)) rfl (b8 rfl)) m2;rw[ha];exact⟨.val (.int ((T+2^c:Nat):Int)),q5b (o9 c0) (f8 (m7 (cl:=.strong) w1 rfl) (f8 (z4I rfl m3 (b8 rfl) hl) rfl)) rfl⟩
theorem z9X{s r:DV}{n T:Nat}{v:Int}{f:Rw}(hn:n<=8)(hT:T<2^n)(hf:10<=fu)(hv:v.natAbs<2^1000):∀(as:List Int) (j:Nat) (L:rk.Tb) (c d e:Sv),j+as.length=n->(∀i (h:i<as.length),f (j+i)=as[i]/\(as[i]).natAbs<2^1000)->rk.Gd n L->L.length+as.length<=900000 ->
  ∃c' d' e',p6 (.many [5,6]) (λδ'=>evSs G (run G k42.T fu (k+1)) fu wrB δ') (enuD j (as.map DV.int)) (Sw s r L (.val (.int (T:Int))) (.val (.int v)) c d e)=some (.nx (Sw s r (inn f T v (List.range' j as.length) L) (.val (.int (T:Int))) (.val (.int v)) c' d' e'))
 | [],j,L,c,d,e,_,_,_,_=>⟨c,d,e,rfl⟩
 | a::as,j,L,c,d,e,hj,ha,hg,hl=>by
  rw[m4]at hj hl;have h64:2^n<=256:=Z9 (n:=2) (by decide) hn;have h0:=ha 0 (by rw[m4];omega);rw[Nat.add_zero]at h0;obtain⟨e1,st⟩:=wr_s (fu:=fu) (k:=k) (s:=s) (r:=r) (L:=L) (T:=T) (c:=j) (v:=v) (a:=a) (f:=f) (e:=e) (by omega) (by omega) hf h0.1 hv h0.2 (G4 (by omega:L.length<=900000) (by decide));have hs:=q9y (r:=f) (T:=T) (v:=v) (L:=L) (c:=j);obtain⟨c',d',e',g⟩:=z9X hn hT hf hv as (j+1) (stp f T v L j) (.val (.int (j:Int))) (.val (.int a)) e1 (by omega) (λi hi=>by
   have:=ha (i+1) (by rw[m4];omega);rw[show j+1+i=j+(i+1) by omega];exact this) (z3Z hn hT (by omega) hg) (by omega)
  refine⟨c',d',e',?_⟩;have hb:(Tg.many [5,6]).bind (.tup [.int (j:Int),.int a]) (Sw s r L (.val (.int (T:Int))) (.val (.int v)) c d e)=some (Sw s r L (.val (.int (T:Int))) (.val (.int v)) (.val (.int (j:Int))) (.val (.int a)) e):=rfl;exact(q2N hb st).trans g
abbrev lI(as:List Int):DV:=.lst (as.map DV.int)
def rw1(as:List Int):Rw:=λc=>as.getD c 0
def wrO:List MS:=[.fo (.many [5,6]) (.enu (.var 1)) wrB]
theorem z3L(hn:n<=8)(hf:10<=fu)(ha:as.length=n)(hab:∀a∈as,a.natAbs<2^1000):∀(Ls L:rk.Tb) (a b c d e:Sv),(∀k∈keys Ls,∃T:Nat,k=(T:Int)/\T<2^n)->(∀p∈Ls,p.2.natAbs<2^1000)->rk.Gd n L->L.length+Ls.length*n<=900000 ->
  ∃a' b' c' d' e',p6 (.many [3,4]) (λδ'=>evSs G (run G k42.T fu (k+1)) fu wrO δ') (Ls.map λp=>.tup [.int p.1,.int p.2]) (Sw s (lI as) L a b c d e)=some (.nx (Sw s (lI as) (wrG n (rw1 as) Ls L) a' b' c' d' e'))
 | [],L,a,b,c,d,e,_,_,_,_=>⟨a,b,c,d,e,rfl⟩
 | (kk,v)::Ls,L,a,b,c,d,e,hk,hv,hg,hl=>by
  obtain⟨T,eT,hT⟩:=hk kk (j5 ..);subst eT;rw[m4,X4]at hl;obtain⟨c1,d1,e1,g1⟩:=z9X (fu:=fu) (k:=k) (s:=s) (r:=lI as) (n:=n) (T:=T) (v:=v) (f:=rw1 as) hn hT hf (hv _ (j5 ..)) as 0 L c d e (by omega) (λi hi=>by
   refine⟨?_,hab _ (F6 hi)⟩;unfold rw1;rw[X1,i7,j3 hi];rfl) hg (by omega)
  rw[ha,←List.range_eq_range']at g1;have ia:=q7j (r:=rw1 as) (v:=v) hn hT (List.range n) L (λc hc=>p0.mp hc) hg;have hlen:=ia.2.2.2.1;rw[A8]at hlen;obtain⟨a',b',c',d',e',g⟩:=z3L hn hf ha hab Ls (inn (rw1 as) T v (List.range n) L) (.val (.int (T:Int))) (.val (.int v)) c1 d1 e1 (λj hj=>hk j (i6 _ hj)) (λp hp=>hv p (i6 _ hp)) ia.1 (by omega);refine⟨a',b',c',d',e',?_⟩;have hb:(Tg.many [3,4]).bind (.tup [.int (T:Int),.int v]) (Sw s (lI as) L a b c d e)=some (Sw s (lI as) L (.val (.int (T:Int))) (.val (.int v)) c d e):=rfl;have st:evSs G (run G k42.T fu (k+1)) fu wrO (Sw s (lI as) L (.val (.int (T:Int))) (.val (.int v)) c d e)=some (.nx (Sw s (lI as) (inn (rw1 as) T v (List.range n) L) (.val (.int (T:Int))) (.val (.int v)) c1 d1 e1)):=K8 (y0I (b8 rfl)) (.inl rfl) g1 rfl;have eq:wrG n (rw1 as) ((((T:Nat):Int),v)::Ls) L=wrG n (rw1 as) Ls (inn (rw1 as) T v (List.range n) L):=by show wrG n (rw1 as) Ls (inn (rw1 as) ((T:Nat):Int).toNat v (List.range n) L)=_;rw[B8]
  rw[eq];exact(q2N hb st).trans g
theorem q8O(hn:n<=8)(hf:10<=fu)(ha:as.length=n)(hab:∀a∈as,a.natAbs<2^1000)(hg:rk.Gd n Ls)(hv:sab Ls<2^1000)(hl:Ls.length*n<=900000) :
  run G k42.T fu (k+2) 6 [dDi Ls,lI as]=some (.v (dDi (wrG n (rw1 as) Ls [])) false):=by
 rw[y7 (fd:=q2S) rfl rfl];unfold q2S;obtain⟨a,b,c,d,e,g⟩:=z3L (fu:=fu) (k:=k) (s:=dDi Ls) hn hf ha hab Ls [] .no .no .no .no .no hg.2 (λp hp=>G4 (z5j hp) hv) z4j (by show 0+_<=_;omega);refine C3 (f8 (δ':=Sw (dDi Ls) (lI as) [] .no .no .no .no .no) rfl (K8 (y1g (b8 rfl)) (.inl rfl) g (B4 rfl)))
end
end k42
end
noncomputable section
set_option exponentiation.threshold 3000
namespace k42
open PySem L2 rk
section
variable {fu k:Nat} {F:Nat->List DV->Option Ou} {δ:List Sv} {ds:List DV} {cl:Cl}
def Bn:Nat:=10
def Sqr(n:Nat)(rows:List (List Int)):Prop:=rows.length=n/\∀r∈rows,r.length=n/\∀x∈r,x.natAbs<=Bn
abbrev rLs(rows:List (List Int)):DV:=.lst (rows.map lI)
theorem z3M:0<8*Bn:=by decide
theorem y0S:Bn<2^1000:=by decide +kernel
theorem z7H(hn:n<=8)(h:r.length=n)(hx:∀x∈r,x.natAbs<=Bn):((List.range n).map λc=>(rw1 r c).natAbs).sum<=8*Bn:=by
 refine m6 (z4r (B:=Bn) (List.range n) λc hc=>?_) ?_
 ·have hc':=p0.mp hc;unfold rw1;rw[i7,j3 (by omega)];exact hx _ (F6 _)
 ·rw[A8];exact w11 _ hn
def dtB:List MS:=[.set 1 false (.call 6 [.var 1,.var 2])]
theorem z9L(hn:n<=8)(hf:10<=fu):∀(rs:List (List Int)) (L:rk.Tb) (z:Sv),(∀r∈rs,r.length=n/\∀x∈r,x.natAbs<=Bn)->rk.Gd n L->sab L*(8*Bn)^rs.length<2^1000 ->
  ∃z',p6 (.one 2) (λδ'=>evSs G (run G k42.T fu (k+2)) fu dtB δ') (rs.map lI) [.val q,.val (dDi L),z]=some (.nx [.val q,.val (dDi (dets n (rs.map rw1) L)),z'])
 | [],L,z,_,_,_=>⟨z,rfl⟩
 | r::rs,L,z,hr,hg,hs=>by
  obtain⟨h1,h2⟩:=hr r (j5 ..);rw[m4,U5]at hs;have p1:0<(8*Bn)^rs.length:=Nat.pow_pos z3M;have hs0:sab L<2^1000:=G4 (w3I _ (Nat.mul_pos p1 z3M)) hs;have hl0:L.length*n<=900000:=by have a:=z8z hg;have:2^n<=256:=Z9 (n:=2) (by decide) hn;have:L.length*n<=256*8:=w2Y (m6 a this) hn;omega
  have w:=wr0 (r:=rw1 r) hn hg;have e:=q8O (fu:=fu) (k:=k) hn hf h1 (λa ha=>G4 (h2 a ha) y0S) hg hs0 hl0;obtain⟨z',g⟩:=z9L (q:=q) hn hf rs (wrG n (rw1 r) L []) (.val (lI r)) (λr' hr'=>hr r' (i6 _ hr')) w.1 (by
   refine G4 (w11 _ (m6 w.2.2.1 (w2V _ (z7H hn h1 h2)))) ?_;rw[w3l,w3s (8*Bn)];exact hs)
  refine⟨z',?_⟩;have hb:(Tg.one 2).bind (lI r) [.val q,.val (dDi L),z]=some [.val q,.val (dDi L),.val (lI r)]:=rfl;have st:evSs G (run G k42.T fu (k+2)) fu dtB [.val q,.val (dDi L),.val (lI r)]=some (.nx [.val q,.val (dDi (wrG n (rw1 r) L [])),.val (lI r)]):=f8 (m7 (cl:=.strong) (x5 (d9 (b8 rfl) (d9 (b8 rfl) j1)) rfl e) rfl) rfl;exact(q2N hb st).trans g
def dv(rows:List (List Int)):Int:=dt (rows.map rw1) (List.range rows.length)
theorem z8X:∀n,n<=8->1*(8*Bn)^n<2^1000:=by decide +kernel
theorem q3l(hn:n<=8)(hf:10<=fu)(h:Sqr n rows):run G k42.T fu (k+3) 5 [rLs rows]=some (.v (.int (dv rows)) false):=by
 rw[y7 (fd:=q1G) rfl rfl];unfold q1G;obtain⟨h1,h2⟩:=h;have g0:rk.Gd n [(0,1)]:=⟨by decide,λk hk=>⟨0,by rw[D0.mp hk];rfl,W7 n⟩⟩;obtain⟨z',g⟩:=z9L (fu:=fu) (k:=k) (q:=rLs rows) hn hf rows [(0,1)] .no h2 g0 (by rw[h1];exact z8X n hn);obtain⟨d1,d2,d3⟩:=z2b hn (rows.map rw1) (by rw[d8,h1]);have w:o5 (evE G (run G k42.T fu (k+2)) (.var 0) [.val (rLs rows),.val (dDi [(0,1)]),.no])=some (.ok (rows.map lI) .strong):=by rw[b8 (d:=rLs rows) rfl];rfl
 have sh:=z9W (f7 (G:=G) (F:=run G k42.T fu (k+2)) (i:=1) (δ:=[.val (rLs rows),.val (dDi (dets n (rows.map rw1) [(0,1)])),z'])) (b:=.bi .len [.var 0]) (j:=n) (cy:=.strong) (by
  have:=Z1 (F:=run G k42.T fu (k+2)) (e:=.var 0) (δ:=[.val (rLs rows),.val (dDi (dets n (rows.map rw1) [(0,1)])),z']) (b8 rfl);rw[d8,h1]at this;exact this) (by omega)
 have ky:=z2W sh (f7 (i:=1));rw[show((2^n:Nat):Int) - 1=((2^n - 1:Nat):Int) by have:=W7 n;omega]at ky;have rt:=F3 (fu:=fu) (z9n (F:=run G k42.T fu (k+2)) (a:=.var 1) (L:=dets n (rows.map rw1) [(0,1)]) (cx:=.strong) (b8 rfl) ky d2);rw[d3]at rt;unfold dv;rw[h1];exact C3 (f8 (δ':=[.val (rLs rows),.val (dDi [(0,1)]),.no]) rfl (K8 w (.inl rfl) g (B4 rt)))
theorem z4i{a b:ME}{c c1:Cl}{h:Nat}(ha:evE G F a δ=some (.ok (.lst ds) c))(hh:evE G F b δ=some (.ok (.int (h:Int)) c1)):evE G F (.slf a b) δ=some (.ok (.lst (ds.drop h)) (Cl.anew c c)):=by
 have e:evE G F (.slf a b) δ=Re.thn (evE G F a δ) (λx cx=>Re.thn (evE G F b δ) λl _=>match l with | .int l=>(slD x (some l) none).map (λd=>Re.ok d (slCl x cx)) | _=>none):=by rw[evE]<;>rfl
 rw[e,ha,y9,hh,y9];show some (Re.ok (.lst (cutD ds (some (h:Int)) none)) (Cl.anew c c))=_
 congr 3
 unfold cutD slIx;dsimp only;rw[d5 (by omega),B8];by_cases z:h<=ds.length
 ·rw[w2R z,w2G (by rw[w12];exact j2 _)]
 ·rw[Nat.min_eq_right (by omega),w3X (j2 _),w3X (by omega),List.take_nil]
theorem z7G{a b:ME}{c c1:Cl}{h:Nat}(ha:evE G F a δ=some (.ok (.lst ds) c))(hh:evE G F b δ=some (.ok (.int (h:Int)) c1)):evE G F (.slt a b) δ=some (.ok (.lst (ds.take h)) (Cl.anew c c)):=by
 have e:evE G F (.slt a b) δ=Re.thn (evE G F a δ) (λx cx=>Re.thn (evE G F b δ) λl _=>match l with | .int l=>(slD x none (some l)).map (λd=>Re.ok d (slCl x cx)) | _=>none):=by rw[evE]<;>rfl
 rw[e,ha,y9,hh,y9];show some (Re.ok (.lst (cutD ds none (some (h:Int)))) (Cl.anew c c))=_
 congr 3
 unfold cutD slIx;dsimp only;rw[d5 (by omega),B8,w33,Nat.sub_zero];by_cases z:h<=ds.length
 ·rw[w2R z]
 ·rw[Nat.min_eq_right (by omega),List.take_length,w2G (by omega)]
theorem z6j(ha:evE G F a δ=some (.ok (.lst x) cx))(hb:evE G F b δ=some (.ok (.lst y) cy))(h:x.length+y.length<=1000):evE G F (.bin .Add a b) δ=some (.ok (.lst (x++y)) (Cl.anew cx cy)):=
 L6 ha hb (d4 (m6 h (by decide)))
end
end k42
end
noncomputable section
namespace k42
open PySem L2
section
variable {fu k:Nat} {F:Nat->List DV->Option Ou} {δ:List Sv} {ds:List DV} {cl:Cl} {n m:Nat}
theorem q7U(hr:0<r)(hl:r<l):2*(l%r)<l:=by
 have h1:=w35 l hr;have h2:=Nat.div_add_mod l r;have h3:1<=l/r:=Nat.div_pos (by omega) hr;have h4:r<=r*(l/r):=w3I r h3;omega
theorem z9o{a b:ME}{i j:Nat}{cx cy:Cl}(ha:evE G F a δ=some (.ok (.int (i:Int)) cx))(hb:evE G F b δ=some (.ok (.int (j:Int)) cy))(h:0<j):evE G F (.bin .Mod a b) δ=some (.ok (.int ((i%j:Nat):Int)) .strong):=by
 have q:=G6 ha hb (by omega);rw[show((i%j:Nat):Int)=(i:Int)%(j:Int)from rfl];exact q
def gdC:ME:=.cmp .NotEq (.var 3) (.int 0)
def gdB:List MS:=[.set 4 false (.bin .Mod (.var 2) (.var 3)),.set 2 false (.var 3),.set 3 false (.var 4)]
theorem gd_f{g:Nat}:tstD (evE G F gdC [x,y,.val (.int (g:Int)),.val (.int ((0:Nat):Int)),c])=some (.ok false):=o9 (cl:=.strong) (E8 (b8 rfl) f7 rfl)
theorem gd_t{g l:Nat}(h:0<l):tstD (evE G F gdC [x,y,.val (.int (g:Int)),.val (.int (l:Int)),c])=some (.ok true):=by
 have q:evE G F gdC [x,y,.val (.int (g:Int)),.val (.int (l:Int)),c]=some (.ok (.bl (!((l:Int)==0))) .strong):=E8 (b8 rfl) f7 rfl;rw[show((l:Int)==0)=false by rw[C4];omega]at q;exact o9 q
theorem gd_s{x y:Sv}{g l:Nat}{c:Sv}(h:0<l):evSs G F fu gdB [x,y,.val (.int (g:Int)),.val (.int (l:Int)),c]=some (.nx [x,y,.val (.int (l:Int)),.val (.int ((g%l:Nat):Int)),.val (.int ((g%l:Nat):Int))]):=
 f8 (m7 (z9o (b8 rfl) (b8 rfl) h) rfl) (f8 (m7 (cl:=.strong) (b8 rfl) rfl) (f8 (m7 (cl:=.strong) (b8 rfl) rfl) rfl))
theorem z3G(x y:Sv):∀(m g l N:Nat) (c:Sv),l<2^m->2*m+1<=N->∃c',J3 (λδ'=>tstD (evE G F gdC δ')) (λδ'=>evSs G F fu gdB δ') N [x,y,.val (.int (g:Int)),.val (.int (l:Int)),c]=some (.nx [x,y,.val (.int ((Nat.gcd g l:Nat):Int)),.val (.int ((0:Nat):Int)),c'])
 | m,g,0,N+1,c,_,_=>⟨c,by rw[w2A];exact q4r gd_f⟩
 | 0,g,l+1,_,_,h,_=>by simp at h
 | m+1,g,l+1,N+2,c,h,hN=>by
  rw[w2B,w24];by_cases hr:g%(l+1)=0
  ·rw[hr,w3m];have st:=gd_s (F:=F) (fu:=fu) (x:=x) (y:=y) (g:=g) (l:=l+1) (c:=c) (by omega);rw[hr]at st;exact⟨_,U9 (gd_t (by omega)) st (q4r gd_f)⟩
  ·have hr0:0<g%(l+1):=by omega
   have hlt:g%(l+1)<l+1:=w35 g (by omega);have hh:=q7U hr0 hlt;have hb:(l+1)%(g%(l+1))<2^m:=by rw[U5]at h;omega
   obtain⟨c',e⟩:=z3G x y m (g%(l+1)) ((l+1)%(g%(l+1))) N (.val (.int (((l+1)%(g%(l+1)):Nat):Int))) hb (by omega);rw[w2B,←w24]at e;exact⟨c',U9 (gd_t (by omega)) (gd_s (by omega)) (U9 (gd_t hr0) (gd_s hr0) e)⟩
theorem y0A(a b:Nat)(hb:b<2^190)(hf:400<=fu):run G T fu (k+1) 2 [.int (a:Int),.int (b:Int)]=some (.v (.int ((Nat.gcd a b:Nat):Int)) false):=by
 obtain⟨c',e⟩:=z3G (fu:=fu) (F:=run G T fu k) (.val (.int (a:Int))) (.val (.int (b:Int))) 190 a b fu .no hb (by omega);rw[y7 (fd:=q1e) rfl rfl];unfold q1e;exact C3 (f8 (m7 (cl:=.strong) (b8 rfl) rfl) (f8 (m7 (cl:=.strong) (b8 rfl) rfl) (z1N e (B4 (F3 (cl:=.strong) (b8 rfl))))))
end
section
variable {F:Nat->List DV->Option Ou} {δ:List Sv} {fu k:Nat} {cl:Cl}
def pD(rows:List (List Int))(n m:Nat):List DV:=[.lst (nD (bl0 rows m)),.lst (nD (bl0 (flip m rows) n))]
theorem q7s(R:Rect n m rows)(h9:W9 rows)(n0:0<n)(hn:n<=8)(hm:m<=8):run G T fu (k+4) 8 [tT rows]=some (.t (.dct [] (pD rows n m))):=by
 rw[y7 (fd:=q7K) rfl rfl];unfold q7K;have a:evE G (run G T fu (k+3)) (.call 10 [.var 0]) (o8 1 [tT rows])=some (.ok (.lst (nD (bl0 rows m))) .fresh):=x5 (d9 (b8 rfl) j1) rfl (q2L (fu:=fu) (k:=k) R h9 hn (by omega));have b:evE G (run G T fu (k+3)) (.call 10 [.call 3 [.var 0]]) (o8 1 [tT rows])=some (.ok (.lst (nD (bl0 (flip m rows) n))) .fresh):=x5 (d9 (x5 (d9 (b8 rfl) j1) rfl (q6e (fu:=fu) (k:=k+2) rows n m R n0 (by omega) (by omega))) j1) rfl (q2L (fu:=fu) (k:=k) (q7E R) (q9J h9) hm (by omega));have s:evS G (run G T fu (k+3)) fu (.ret2 (.call 10 [.var 0]) (.call 10 [.call 3 [.var 0]])) (o8 1 [tT rows])=some (.rtt (.dct [] (pD rows n m))):=by unfold evS;rw[a,b];show(if M9 (.lst (nD (bl0 rows m))) .fresh=true/\M9 (.lst (nD (bl0 (flip m rows) n))) .fresh=true then _ else none)=_;rw[d4 ⟨q7B _,q7B _⟩];rfl
 show Ou.of (evSs G (run G T fu (k+3)) fu [.ret2 (.call 10 [.var 0]) (.call 10 [.call 3 [.var 0]])] (o8 1 [tT rows]))=_;unfold evSs;rw[s];rfl
theorem z3Q(h:evE G F e δ=some (.ok (.int i) c)):evE G F (.bi .abs [e]) δ=some (.ok (.int ((i.natAbs:Nat):Int)) .strong):=by
 show Rs.thn (evEs G F [e] δ) (λl=>absD l)=_;rw[d9 h j1];show some (Re.ok (.int (if i<0 then -i else i)) .strong)=_
 congr 3
 split<;>omega
theorem z9k{j:Nat}(ha:evE G F a δ=some (.ok (.int i) cx))(hb:evE G F b δ=some (.ok (.int (j:Int)) cy))(h:0<j)(h2:j<2^200):evE G F (.bin .FloorDiv a b) δ=some (.ok (.int (i/(j:Int))) .strong):=by
 refine L6 ha hb ?_;show(if(0:Int)<(j:Int)/\(j:Int)<2^200 then some (Re.ok (.int (i/(j:Int))) .strong)else none)=_;rw[d4 ⟨by omega,by omega⟩]
def lwB:List MS:=[.set 1 false (.call 2 [.var 1,.bi .abs [.var 2]])]
theorem z4b(hf:400<=fu):∀(l:List Int) (g:Nat) (z:Sv),(∀x∈l,x.natAbs<2^190)->∃z',p6 (.one 2) (λδ'=>evSs G (run G T fu (k+1)) fu lwB δ') (iD l) [.val d,.val (.int (g:Int)),z]=some (.nx [.val d,.val (.int ((l.foldl rk.gf g:Nat):Int)),z'])
 | [],g,z,_=>⟨z,rfl⟩
 | x::l,g,z,h=>by
  obtain⟨z',e⟩:=z4b (d:=d) hf l (rk.gf g x) (.val (.int x)) λy hy=>h y (i6 _ hy)
  have c:=x5 (G:=G) (F:=run G T fu (k+1)) (δ:=[.val d,.val (.int (g:Int)),.val (.int x)]) (f:=2) (d9 (b8 (n:=1) (d:=.int (g:Int)) rfl) (d9 (z3Q (b8 (n:=2) (d:=.int x) rfl)) j1)) rfl (y0A (fu:=fu) (k:=k) g x.natAbs (h x (j5 ..)) hf);exact⟨z',(q2N (δ1:=[.val d,.val (.int (g:Int)),.val (.int x)]) rfl (f8 (m7 (cl:=.strong) c rfl) rfl)).trans e⟩
theorem y1u(h:∀x∈l,x.natAbs<2^190)(hl:l.length<=1000)(h0:0<rk.gl l)(h2:rk.gl l<2^200)(hf:400<=fu):run G T fu (k+2) 1 [.lst (iD l)]=some (.v (.lst (iD (l.map λx=>x/((rk.gl l:Nat):Int)))) true):=by
 rw[y7 (fd:=q1c) rfl rfl];unfold q1c;obtain⟨z',e⟩:=z4b (fu:=fu) (k:=k) (d:=.lst (iD l)) hf l 0 .no h;have cm:=J9 (F:=run G T fu (k+1)) (δ:=[.val (.lst (iD l)),.val (.int ((rk.gl l:Nat):Int)),z']) (it:=.var 0) (elt:=.bin .FloorDiv (.var 0) (.var 1)) (tg:=.one 0) (fr:=[none,some 1]) (l:=l) (h:=DV.int) (f:=λx=>.int (x/((rk.gl l:Nat):Int))) (cl:=.strong) rfl (by decide) (m6 hl (by decide)) λx hx=>⟨[.val (.int x),.val (.int ((rk.gl l:Nat):Int))],.strong,rfl,z9k (b8 rfl) (b8 rfl) h0 h2,rfl⟩
 have cm':evE G (run G T fu (k+1)) (.comp (.bin .FloorDiv (.var 0) (.var 1)) (.one 0) (.var 0) [none,some 1]) [.val (.lst (iD l)),.val (.int ((rk.gl l:Nat):Int)),z']=some (.ok (.lst (iD (l.map λx=>x/((rk.gl l:Nat):Int)))) .fresh):=(by rw[cm];unfold iD;rw[j9];rfl);exact C3 (f8 (m7 (d:=.int 0) (cl:=.strong) rfl rfl) (K8 (ds:=iD l) (cl:=.strong) rfl (.inl rfl) e (B4 (F3 cm'))))
theorem z8Q(ha:evE G F a δ=some (.ok (.int i) cx))(hb:evE G F b δ=some (.ok (.int j) cy))(h:j≠0):evE G F (.bin .Mod a b) δ=some (.ok (.int (i.fmod j)) .strong):=by
 refine L6 ha hb ?_;show(if 0<j then some (Re.ok (.int (i%j)) .strong)else if j≠0 then some (.ok (.int (i.fmod j)) .strong)else none)=_;by_cases z:0<j
 ·rw[d4 z,w2q _ (by omega)]
 ·rw[d5 z,d4 h]
def dgC:ME:=.cmp .NotEq (.var 1) (.int 0)
def dgB:List MS:=[.par [0,1] [.var 1,.bin .Mod (.var 0) (.var 1)]]
theorem dg_f:tstD (evE G F dgC [a,.val (.int 0)])=some (.ok false):=o9 (cl:=.strong) (E8 (b8 rfl) f7 rfl)
theorem dg_t(h:y≠0):tstD (evE G F dgC [a,.val (.int y)])=some (.ok true):=by
 have q:evE G F dgC [a,.val (.int y)]=some (.ok (.bl (!(y==0))) .strong):=E8 (b8 rfl) f7 rfl;rw[show(y==0)=false by rw[C4];exact h]at q;exact o9 q
theorem dg_s(h:y≠0):evSs G F fu dgB [.val (.int x),.val (.int y)]=some (.nx [.val (.int y),.val (.int (x.fmod y))]):=by
 refine f8 (δ':=[.val (.int y),.val (.int (x.fmod y))]) ?_ rfl;unfold evS;rw[d9 (b8 (n:=1) (d:=.int y) rfl) (d9 (z8Q (b8 (n:=0) (d:=.int x) rfl) (b8 (n:=1) (d:=.int y) rfl) h) j1)];rfl
theorem fm_s(hs:s=1\/s = -1)(x y:Nat):(s*(x:Int)).fmod (s*(y:Int))=s*((x%y:Nat):Int):=by
 have e:(x:Int).fmod (y:Int)=((x%y:Nat):Int):=by rw[w2q _ (by omega)];rfl
 rcases hs with z | z<;>rw[z]
 ·rw[D1,D1,D1,e]
 ·rw[w2e,w2e,w2e,Int.neg_fmod_neg,e]
theorem z6r(hs:s=1\/s = -1):∀(m g l N:Nat),l<2^m->2*m+1<=N->J3 (λδ'=>tstD (evE G F dgC δ')) (λδ'=>evSs G F fu dgB δ') N [.val (.int (s*(g:Int))),.val (.int (s*(l:Int)))]=some (.nx [.val (.int (s*((Nat.gcd g l:Nat):Int))),.val (.int 0)])
 | m,g,0,N+1,_,_=>by rw[w2A,show s*((0:Nat):Int)=0 from G5 s];exact q4r dg_f
 | 0,g,l+1,_,h,_=>by simp at h
 | m+1,g,l+1,N+2,h,hN=>by
  have nz:∀y:Nat,0<y->s*(y:Int)≠0:=λy hy=>by rcases hs with z | z<;>rw[z]<;>omega
  rw[w2B,w24];have st:=dg_s (F:=F) (fu:=fu) (x:=s*(g:Int)) (y:=s*((l+1:Nat):Int)) (nz (l+1) (by omega));rw[fm_s hs]at st;by_cases hr:g%(l+1)=0
  ·rw[hr,show s*((0:Nat):Int)=0 from G5 s]at st;rw[hr,w3m];exact U9 (dg_t (nz (l+1) (by omega))) st (q4r dg_f)
  ·have hr0:0<g%(l+1):=by omega
   have hlt:g%(l+1)<l+1:=w35 g (by omega);have hh:=q7U hr0 hlt;have hb:(l+1)%(g%(l+1))<2^m:=by rw[U5]at h;omega
   have e:=z6r hs m (g%(l+1)) ((l+1)%(g%(l+1))) N hb (by omega);rw[w2B,←w24]at e;have st2:=dg_s (F:=F) (fu:=fu) (x:=s*((l+1:Nat):Int)) (y:=s*((g%(l+1):Nat):Int)) (nz _ hr0);rw[fm_s hs]at st2;exact U9 (dg_t (nz (l+1) (by omega))) st (U9 (dg_t (nz _ hr0)) st2 e)
theorem z8w(a y:Nat)(h:0<y):∃z:Nat,(a:Int).fmod (-(y:Int)) = -(z:Int)/\z<y/\Nat.gcd y z=Nat.gcd a y:=by
 have q:=Int.fmod_eq_emod (a:=(a:Int)) (b:=-(y:Int));rw[Int.emod_neg]at q;have m:=w35 a h;by_cases d : -(y:Int) ∣ (a:Int)
 ·rw[d4 (.inr d)]at q;have d':y ∣ a:=w3J.mp (Int.neg_dvd.mp d);refine⟨0,?_,h,?_⟩
  ·rw[q,show(a:Int)%(y:Int)=((a%y:Nat):Int)from rfl,Nat.mod_eq_zero_of_dvd d'];rfl
  ·rw[w2A,Nat.gcd_eq_right d']
 ·rw[d5 (by rintro(z | z);omega;exact d z)]at q;refine⟨y - a%y,?_,?_,?_⟩
  ·rw[q,show(a:Int)%(y:Int)=((a%y:Nat):Int)from rfl];omega
  ·have:a%y≠0:=λz=>d (Int.neg_dvd.mpr (w3J.mpr (Nat.dvd_of_mod_eq_zero z)));omega
  ·rw[Nat.gcd_self_sub_right (by omega),w2B a,w2B y,←w24]
theorem z1p(a:Nat)(b:Int)(hb:b.natAbs<2^190)(hf:400<=fu):run G T fu (k+1) 20 [.int (a:Int),.int b]=some (.v (.int ((rk.gf a b:Nat):Int)) false):=by
 rw[y7 (fd:=q1r) rfl rfl];unfold q1r;have fin:∀s:Int,(s=1\/s = -1)->∀g:Nat,evE G (run G T fu k) (.bi .abs [.var 0]) [.val (.int (s*(g:Int))),.val (.int 0)]=some (.ok (.int (g:Int)) .strong):=λs hs g=>by
  have:=z3Q (b8 (G:=G) (F:=run G T fu k) (δ:=[.val (.int (s*(g:Int))),.val (.int 0)]) (n:=0) (d:=.int (s*(g:Int))) rfl);rw[this]
  congr 3
  rcases hs with z | z<;>rw[z]<;>omega
 unfold rk.gf;by_cases z:0<=b
 ·obtain⟨y,e⟩:∃y:Nat,b=(y:Int):=⟨b.natAbs,by omega⟩;subst e;have g:=z6r (F:=run G T fu k) (fu:=fu) (s:=1) (.inl rfl) 190 a y fu (by omega) (by omega);rw[D1,D1]at g;rw[w2d];exact C3 (z1N g (B4 (F3 (fin 1 (.inl rfl) _))))
 ·obtain⟨y,e⟩:∃y:Nat,b = -(y:Int):=⟨b.natAbs,by omega⟩;subst e;rw[Int.natAbs_neg,w2d]at hb ⊢;obtain⟨c,e1,e2,e3⟩:=z8w a y (by omega);obtain⟨N,rfl⟩:∃N,fu=N+1:=⟨fu - 1,by omega⟩;have g:=z6r (F:=run G T (N+1) k) (fu:=N+1) (s:=-1) (.inr rfl) 190 y c N (by omega) (by omega);have st:=dg_s (F:=run G T (N+1) k) (fu:=N+1) (x:=(a:Int)) (y:=-(y:Int)) (by omega);rw[e1]at st;rw[w2e,w2e,e3]at g;have g2:=U9 (dg_t (by omega)) st g;exact C3 (z1N g2 (B4 (F3 (fin (-1) (.inr rfl) _))))
end
section
variable {F:Nat->List DV->Option Ou} {δ:List Sv} {fu k:Nat} {cl:Cl}
structure Bs(rows:List (List Int))(n m:Nat)(A B:List Nat):Prop where
 R:Rect n m rows
 h9:W9 rows
 n0:0<n
 n8:n<=8
 m0:0<m
 m8:m<=8
 eA:bl0 rows m=A
 eB:bl0 (flip m rows) n=B
variable {rows:List (List Int)} {n m i:Nat} {A B:List Nat}
theorem Bs.bA(S:Bs rows n m A B):rk.Bas rk.P0 (vv rows) n m A:=S.eA▸z8B S.R
theorem Bs.bB(S:Bs rows n m A B):rk.Bas rk.P0 (λj i=>vv rows i j) m n B:=S.eB▸z0G (z4s S.R) (z8B (q7E S.R))
theorem Bs.len(S:Bs rows n m A B):A.length=B.length:=S.bA.len rk.pr0 S.bB
theorem Bs.l8(S:Bs rows n m A B):A.length<=8:=m6 (z8E n A S.bA.up S.bA.lt) S.n8
theorem Bs.at(S:Bs rows n m A B)(hi:i<n)(hj:j<m):0<=vv rows i j/\vv rows i j<=9:=by
 have hi':i<rows.length:=by rw[S.R.1];exact hi
 have hm:=W0 hi';have hl:j<(rows.getD i []).length:=by rw[S.R.2 _ hm];exact hj
 refine S.h9 _ hm _ ?_;show(rows.getD i []).getD j 0∈_;generalize rows.getD i []=r at hl;rw[i7,j3 hl];exact F6 hl
def dV(rows:List (List Int))(A B:List Nat):Int:=rk.dt (A.map (vv rows)) B
def dI(rows:List (List Int))(A B:List Nat)(i s:Nat):Int:=rk.ds (vv rows) A B (vv rows i) s
def dL(rows:List (List Int))(A B:List Nat)(i:Nat):List Int:=(List.range A.length).map (dI rows A B i)
def lD(rows:List (List Int))(A B:List Nat)(i:Nat):List Int:=dV rows A B::dL rows A B i
def qq(rows:List (List Int))(A B:List Nat)(i:Nat)(x:Int):Int:=rk.qz (dV rows A B) (rk.gl (lD rows A B i)) x
def muP(rows:List (List Int))(A B:List Nat)(i:Nat):Int:=qq rows A B i (dV rows A B)
def muQ(rows:List (List Int))(A B:List Nat)(i:Nat):List Int:=(dL rows A B i).map (qq rows A B i)
theorem Bs.dV0(S:Bs rows n m A B):dV rows A B≠0:=S.bA.det rk.pr0 S.bB
theorem Bs.dt_lt(S:Bs rows n m A B)(h:∀r∈rs,∀c,c<m->(r c).natAbs<=9)(hl:rs.length<=8):(rk.dt rs B).natAbs<2^60:=by
 have q:=rk.dt_abs (B:=9) (n:=m) rs B h S.bB.lt;have lB:B.length<=8:=S.len▸S.l8;have q2:(9*(B.length+1))^rs.length<=81^8:=m6 (Nat.pow_le_pow_left (show 9*(B.length+1)<=81 by omega) _) (Z9 (by decide) hl);exact G4 (m6 q q2) (by decide)
theorem Bs.row9(S:Bs rows n m A B)(hi:i<n):∀c,c<m->(vv rows i c).natAbs<=9:=λc hc=>by
 have:=S.at hi hc;omega
theorem Bs.vA(S:Bs rows n m A B):∀r∈A.map (vv rows),∀c,c<m->(r c).natAbs<=9:=λr hr=>by
 obtain⟨a,ha,rfl⟩:=o7.mp hr;exact S.row9 (S.bA.lt a ha)
theorem Bs.lt_l(S:Bs rows n m A B)(hi:i<n):∀x∈lD rows A B i,x.natAbs<2^60:=λx hx=>by
 rcases f9.mp hx with z | z
 ·rw[z];exact S.dt_lt S.vA (by rw[d8];exact S.l8)
 ·obtain⟨s,hs,rfl⟩:=o7.mp z;refine S.dt_lt (rs:=(A.map (vv rows)).set s (vv rows i)) (λr hr=>?_) (by rw[u0,d8];exact S.l8);rcases w1H hr with w | w
  ·exact S.vA r w
  ·rw[w];exact S.row9 hi
theorem Bs.gl0(S:Bs rows n m A B):0<rk.gl (lD rows A B i):=Nat.pos_of_ne_zero λz=>by
 have:=rk.gl_dvd (l:=lD rows A B i) (x:=dV rows A B) (j5 ..);rw[z]at this;exact S.dV0 (Int.zero_dvd.mp this)
theorem Bs.gl_lt(S:Bs rows n m A B)(hi:i<n):rk.gl (lD rows A B i)<2^60:=by
 have d:=rk.gl_dvd (l:=lD rows A B i) (x:=dV rows A B) (j5 ..);have:=Nat.le_of_dvd (Int.natAbs_pos.mpr S.dV0) (Int.ofNat_dvd_left.mp d);have:=S.lt_l hi _ (j5 (a:=dV rows A B));omega
theorem z4f(I:List Nat)(r:List (List Nat)):(sub rows I B).map rw1=(I.map (vv rows)).map (rk.pc B):=by
 unfold sub;rw[j9,j9];rfl
theorem Bs.dv0(S:Bs rows n m A B):dv (sub rows A B)=dV rows A B:=by
 unfold dv dV;rw[z4f A [],show(sub rows A B).length=B.length by unfold sub;rw[d8,S.len]];exact rk.dt_sq _ _
def wnt(rows:List (List Int))(B:List Nat)(i:Nat):List Int:=B.map λj=>(rows.getD i []).getD j 0
theorem Bs.dvs(S:Bs rows n m A B)(s:Nat):dv ((sub rows A B).set s (wnt rows B i))=dI rows A B i s:=by
 unfold dv dI rk.ds;rw[U3,z4f A [],u0,show(sub rows A B).length=B.length by unfold sub;rw[d8,S.len],show rw1 (wnt rows B i)=rk.pc B (vv rows i)from rfl,←U3];exact rk.dt_sq _ _
theorem Bs.wnt_ok(S:Bs rows n m A B)(hi:i<n):(wnt rows B i).length=A.length/\∀x∈wnt rows B i,x.natAbs<=Bn:=by
 refine⟨by unfold wnt;rw[d8,S.len],λx hx=>?_⟩;obtain⟨j,hj,rfl⟩:=o7.mp hx;exact m6 (S.row9 hi j (S.bB.lt j hj)) (by decide)
theorem Bs.sq0(S:Bs rows n m A B):Sqr A.length (sub rows A B):=⟨by unfold sub;rw[d8],λr hr=>by
 obtain⟨a,ha,rfl⟩:=o7.mp hr;exact S.wnt_ok (S.bA.lt a ha)⟩
theorem Bs.sqs(S:Bs rows n m A B)(hi:i<n)(s:Nat):Sqr A.length ((sub rows A B).set s (wnt rows B i)):=⟨by unfold sub;rw[u0,d8],λr hr=>by
 rcases w1H hr with w | w
 ·exact S.sq0.2 r w
 ·rw[w];exact S.wnt_ok hi⟩
theorem z0y{d:DV}(hi:i<n)(R:Rect n m rows)(hJ:∀j∈J,j<m)(lJ:J.length<=8)(he:o5 (evE G F e δ)=some (.ok (nD J) .strong))(hfr:∀j:Nat,(Tg.one 0).bind (.int (j:Int)) (A2 fr δ)=some [.val (.int (j:Int)),.val (tT rows),.val (.int (i:Int))]):evE G F (.comp (.ix (.ix (.var 1) (.var 2)) (.var 0)) (.one 0) e fr) δ=some (.ok (.lst (iD (wnt rows J i))) .fresh):=by
 have hi':i<rows.length:=by rw[R.1];exact hi
 have cm:=J9 (F:=F) (δ:=δ) (it:=e) (elt:=.ix (.ix (.var 1) (.var 2)) (.var 0)) (tg:=.one 0) (fr:=fr) (l:=J) (h:=λ(j:Nat)=>DV.int (j:Int)) (f:=λj=>.int ((rows.getD i []).getD j 0)) (cl:=.strong) he (by decide) (m6 lJ (by decide)) λj hj=>⟨_,.strong,hfr j,o6 (cx:=.strong) (o6 (cx:=.strong) (b8 rfl) (b8 rfl) (z3C hi')) (b8 rfl) (q9i (by rw[R.2 _ (W0 hi')];exact hJ j hj)),rfl⟩;rw[cm];unfold iD wnt;rw[j9];rfl
abbrev fD(A B:List Nat):DV:=.tup [.lst (nD A),.lst (nD B)]
theorem Bs.square(S:Bs rows n m A B):evE G F (.comp (.comp (.ix (.ix (.var 1) (.var 2)) (.var 0)) (.one 0) (.ix (.var 1) (.int 1)) [none,some 2,some 0]) (.one 0) (.ix (.var 2) (.int 0)) [none,some 2,some 0]) [.val (tT rows),.val (.int (i:Int)),.val (fD A B),.no,.no,.no,.no,.no]=some (.ok (rL (sub rows A B)) .fresh):=by
 have cm:=J9 (F:=F) (δ:=[.val (tT rows),.val (.int (i:Int)),.val (fD A B),.no,.no,.no,.no,.no]) (it:=.ix (.var 2) (.int 0)) (elt:=.comp (.ix (.ix (.var 1) (.var 2)) (.var 0)) (.one 0) (.ix (.var 1) (.int 1)) [none,some 2,some 0]) (tg:=.one 0) (fr:=[none,some 2,some 0]) (l:=A) (h:=λ(j:Nat)=>DV.int (j:Int)) (f:=λa=>.lst (iD (wnt rows B a))) (cl:=.strong) rfl (by decide) (m6 S.l8 (by decide)) λa ha=>⟨[.val (.int (a:Int)),.val (fD A B),.val (tT rows)],.fresh,rfl,z0y (d:=.non) (S.bA.lt a ha) S.R S.bB.lt (S.len▸S.l8) rfl λj=>rfl,rfl⟩;rw[cm];unfold rL sub;rw[j9];rfl
theorem Bs.ints(S:Bs rows n m A B)(hi:i<n)(hf:10<=fu):evE G (run G T fu (k+3)) (.comp (.call 5 [.bin .Add (.bin .Add (.slt (.var 1) (.var 0)) (.lst [.var 2])) (.slf (.var 1) (.bin .Add (.var 0) (.int 1)))]) (.one 0) (.rng [.bi .len [.var 3]]) [none,some 3,some 4]) [.val (tT rows),.val (.int (i:Int)),.val (fD A B),.val (rL (sub rows A B)),.val (.lst (iD (wnt rows B i))),t,.no,.no]=some (.ok (.lst (iD (dL rows A B i))) .fresh):=by
 have l:=q6L (F:=run G T fu (k+3)) (δ:=[.val (tT rows),.val (.int (i:Int)),.val (fD A B),.val (rL (sub rows A B)),.val (.lst (iD (wnt rows B i))),t,.no,.no]) (e:=.var 3) (rows:=sub rows A B) (c:=.strong) (b8 rfl);rw[S.sq0.1]at l;have cm:=J9 (F:=run G T fu (k+3)) (elt:=.call 5 [.bin .Add (.bin .Add (.slt (.var 1) (.var 0)) (.lst [.var 2])) (.slf (.var 1) (.bin .Add (.var 0) (.int 1)))]) (tg:=.one 0) (fr:=[none,some 3,some 4]) (f:=λs=>.int (dI rows A B i s)) (z0I l (by have:=S.l8;omega)) (by decide) (by rw[A8];exact m6 S.l8 (by decide)) λs hs=>by
  have hs:=p0.mp hs;refine⟨[.val (.int (s:Int)),.val (rL (sub rows A B)),.val (.lst (iD (wnt rows B i)))],.strong,rfl,?_,rfl⟩;obtain⟨D,hD⟩:∃D:List Sv,[.val (.int (s:Int)),.val (rL (sub rows A B)),.val (.lst (iD (wnt rows B i)))]=D:=⟨_,rfl⟩;have v0:evE G (run G T fu (k+3)) (.var 0) D=some (.ok (.int (s:Int)) .strong):=by rw[←hD];exact b8 rfl
  have v1:evE G (run G T fu (k+3)) (.var 1) D=some (.ok (.lst ((sub rows A B).map λr=>.lst (iD r))) .strong):=by rw[←hD];exact b8 rfl
  have v2:evE G (run G T fu (k+3)) (.var 2) D=some (.ok (.lst (iD (wnt rows B i))) .strong):=by rw[←hD];exact b8 rfl
  have a:=L7 v0 (f7 (i:=1));rw[show(s:Int)+1=((s+1:Nat):Int) by omega]at a;have l8:=S.l8;have ls:(sub rows A B).length=A.length:=S.sq0.1;have x1:=z6j (z7G v1 v0) (q8g (d9 v2 j1) (show 1<=mostLen by decide) rfl) (by rw[Q4,d8];show _+1<=1000;omega);have x2:=z6j x1 (z4i v1 a) (by rw[C5,Q4,w12,d8];show _+1+_<=1000;omega);have e:((((sub rows A B).map λr=>DV.lst (iD r)).take s++[DV.lst (iD (wnt rows B i))])++((sub rows A B).map λr=>DV.lst (iD r)).drop (s+1))=((sub rows A B).set s (wnt rows B i)).map λr=>DV.lst (iD r):=by rw[U3,rk.set_split _ _ _ (by rw[d8,ls];exact hs),Q3];rfl
  have x3:=x2;rw[show(((sub rows A B).map λr=>DV.lst (iD r)).take s++List.map (λx=>x.fst) [(DV.lst (iD (wnt rows B i)),Cl.strong)]++((sub rows A B).map λr=>DV.lst (iD r)).drop (s+1))=((sub rows A B).set s (wnt rows B i)).map λr=>DV.lst (iD r)from e]at x3;have d:=q3l (fu:=fu) (k:=k) (n:=A.length) l8 hf (S.sqs hi s);rw[S.dvs s]at d;rw[hD];exact x5 (d9 x3 j1) rfl d
 rw[cm];unfold iD dL;rw[j9];rfl
theorem z2U(l:List Int):M9 (.lst (iD l)) .fresh=true:=by
 show(ints? (iD l)).isSome=true;rw[q4J];rfl
theorem z2j(S:Bs rows n m A B)(hi:i<n)(hf:400<=fu):run G T fu (k+5) 13 [tT rows,.int (i:Int)]=some (.t (.dct [] [.int (muP rows A B i),.lst (iD (muQ rows A B i))])):=by
 rw[y7 (fd:=V8) rfl rfl];unfold V8;have l8:=S.l8;have eb:=q7s (fu:=fu) (k:=k) S.R S.h9 S.n0 S.n8 S.m8;rw[show pD rows n m=[.lst (nD A),.lst (nD B)] by unfold pD;rw[S.eA,S.eB]]at eb;have c1:evE G (run G T fu (k+4)) (.call 4 [.var 1,.bi .len [.var 0]]) (o8 8 [tT rows,.int (i:Int)])=some (.ok .non .strong):=x5 (d9 (b8 rfl) (d9 (lenT S.R (b8 rfl)) j1)) rfl (q8y (fu:=fu) (k:=k+2) hi);have c2:evE G (run G T fu (k+4)) (.call 8 [.var 0]) (o8 8 [tT rows,.int (i:Int)])=some (.ok (fD A B) .strong):=q4f (d9 (b8 rfl) j1) eb;have c3:=S.square (F:=run G T fu (k+4)) (i:=i);have c4:evE G (run G T fu (k+4)) (.comp (.ix (.ix (.var 1) (.var 2)) (.var 0)) (.one 0) (.ix (.var 2) (.int 1)) [none,some 0,some 1]) [.val (tT rows),.val (.int (i:Int)),.val (fD A B),.val (rL (sub rows A B)),.no,.no,.no,.no]=some (.ok (.lst (iD (wnt rows B i))) .fresh):=z0y (d:=.non) hi S.R S.bB.lt (S.len▸l8) rfl λj=>rfl
 have d0:=q3l (fu:=fu) (k:=k+1) (n:=A.length) l8 (by omega) S.sq0;rw[S.dv0]at d0;have c5:evE G (run G T fu (k+4)) (.call 5 [.var 3]) [.val (tT rows),.val (.int (i:Int)),.val (fD A B),.val (rL (sub rows A B)),.val (.lst (iD (wnt rows B i))),.no,.no,.no]=some (.ok (.int (dV rows A B)) .strong):=x5 (d9 (b8 rfl) j1) rfl d0;have c6:=S.ints (fu:=fu) (k:=k+1) hi (by omega) (t:=.val (.int (dV rows A B)));obtain⟨D,hD⟩:∃D,[Sv.val (tT rows),.val (.int (i:Int)),.val (fD A B),.val (rL (sub rows A B)),.val (.lst (iD (wnt rows B i))),.val (.int (dV rows A B)),.val (.lst (iD (dL rows A B i))),.no]=D:=⟨_,rfl⟩;have v5:evE G (run G T fu (k+4)) (.var 5) D=some (.ok (.int (dV rows A B)) .strong):=by rw[←hD];exact b8 rfl
 have v6:evE G (run G T fu (k+4)) (.var 6) D=some (.ok (.lst (iD (dL rows A B i))) .strong):=by rw[←hD];exact b8 rfl
 have ll:(lD rows A B i).length=A.length+1:=by unfold lD dL;rw[m4,d8,A8]
 have c7:evE G (run G T fu (k+4)) (.bin .Add (.lst [.var 5]) (.var 6)) D=some (.ok (.lst (iD (lD rows A B i))) .fresh):=z6j (q8g (d9 v5 j1) (show 1<=mostLen by decide) rfl) v6 (by show 1+(iD (dL rows A B i)).length<=1000;rw[z3V];unfold dL;rw[d8,A8];omega);have el:=y1u (fu:=fu) (k:=k+2) (l:=lD rows A B i) (λx hx=>w3B (S.lt_l hi x hx) (by decide)) (by omega) S.gl0 (w3B (S.gl_lt hi) (by decide)) hf;have c8:=x5 (G:=G) (F:=run G T fu (k+4)) (f:=1) (d9 c7 j1) rfl el;have lt:=b_lt v5 (f7 (i:=0));have fin:∀l':List Int,l'=(lD rows A B i).map (qq rows A B i)->evSs G (run G T fu (k+4)) fu [.ret2 (.ix (.var 7) (.int 0)) (.slf (.var 7) (.int 1))] (D.set 7 (.val (.lst (iD l'))))=some (.rtt (.dct [] [.int (muP rows A B i),.lst (iD (muQ rows A B i))])):=λl' hl=>by
  have v7:evE G (run G T fu (k+4)) (.var 7) (D.set 7 (.val (.lst (iD l'))))=some (.ok (.lst (iD l')) .strong):=by rw[←hD];exact b8 rfl
  have hl2:l'=muP rows A B i::muQ rows A B i:=hl;rw[hl2]at v7 ⊢;have a:evE G (run G T fu (k+4)) (.ix (.var 7) (.int 0)) (D.set 7 (.val (.lst (iD (muP rows A B i::muQ rows A B i)))))=some (.ok (.int (muP rows A B i)) .strong):=o6 (cx:=.strong) v7 (f7 (i:=((0:Nat):Int))) (N2 (r:=muP rows A B i::muQ rows A B i) (j:=0) (Nat.succ_pos _));have b:evE G (run G T fu (k+4)) (.slf (.var 7) (.int 1)) (D.set 7 (.val (.lst (iD (muP rows A B i::muQ rows A B i)))))=some (.ok (.lst (iD (muQ rows A B i))) .fresh):=z4i (h:=1) v7 (f7 (i:=((1:Nat):Int)));have s:evS G (run G T fu (k+4)) fu (.ret2 (.ix (.var 7) (.int 0)) (.slf (.var 7) (.int 1))) (D.set 7 (.val (.lst (iD (muP rows A B i::muQ rows A B i)))))=some (.rtt (.dct [] [.int (muP rows A B i),.lst (iD (muQ rows A B i))])):=(by unfold evS;rw[a,b];show(if M9 (.int _) .strong=true/\M9 (.lst (iD (muQ rows A B i))) .fresh=true then _ else none)=_;rw[d4 ⟨rfl,z2U _⟩]);unfold evSs;rw[s]
 have tail:evSs G (run G T fu (k+4)) fu [.iff (.cmp .Lt (.var 5) (.int 0)) [.set 7 false (.comp (.neg (.var 0)) (.one 0) (.var 7) [none])] [],.ret2 (.ix (.var 7) (.int 0)) (.slf (.var 7) (.int 1))] (D.set 7 (.val (.lst (iD ((lD rows A B i).map λx=>x/((rk.gl (lD rows A B i):Nat):Int))))))=some (.rtt (.dct [] [.int (muP rows A B i),.lst (iD (muQ rows A B i))])):=by
  have lt':evE G (run G T fu (k+4)) (.cmp .Lt (.var 5) (.int 0)) (D.set 7 (.val (.lst (iD ((lD rows A B i).map λx=>x/((rk.gl (lD rows A B i):Nat):Int))))))=some (.ok (.bl (decide (dV rows A B<0))) .strong):=b_lt (by rw[←hD];exact b8 rfl) (f7 (i:=0));by_cases z:dV rows A B<0
  ·rw[B9 z]at lt';have cm:=J9 (F:=run G T fu (k+4)) (δ:=D.set 7 (.val (.lst (iD ((lD rows A B i).map λx=>x/((rk.gl (lD rows A B i):Nat):Int)))))) (it:=.var 7) (elt:=.neg (.var 0)) (tg:=.one 0) (fr:=[none]) (l:=(lD rows A B i).map λx=>x/((rk.gl (lD rows A B i):Nat):Int)) (h:=DV.int) (f:=λx=>.int (-x)) (cl:=.strong) (by rw[←hD];rfl) (by decide) (by rw[d8,ll];exact m6 (show A.length+1<=9 by omega) (by decide)) λx hx=>⟨[.val (.int x)],.strong,rfl,rfl,rfl⟩
   refine q5b (o9 lt') (f8 (m7 cm rfl) rfl) ?_;have e:(D.set 7 (.val (.lst (iD ((lD rows A B i).map λx=>x/((rk.gl (lD rows A B i):Nat):Int)))))).set 7 (.val (.lst (((lD rows A B i).map λx=>x/((rk.gl (lD rows A B i):Nat):Int)).map λx=>DV.int (-x))))=D.set 7 (.val (.lst (iD (((lD rows A B i).map λx=>x/((rk.gl (lD rows A B i):Nat):Int)).map λx=>-x)))):=(by rw[w38];unfold iD;rw[j9 (g:=DV.int)];rfl);rw[e];refine fin _ ?_;rw[j9];apply C9;intro x _;show -(x/_)=if dV rows A B<0 then -(x/_)else x/_
   rw[d4 z]
  ·rw[C6 z]at lt';refine B5 (o9 lt') (fin _ ?_);apply C9;intro x _;show x/_=if dV rows A B<0 then -(x/_)else x/_
   rw[d5 z]
 have all:evSs G (run G T fu (k+4)) fu V8.body (o8 8 [tT rows,.int (i:Int)])=some (.rtt (.dct [] [.int (muP rows A B i),.lst (iD (muQ rows A B i))])):=(by unfold V8;refine f8 (z9s c1) (f8 (m7 c2 rfl) (f8 (m7 c3 rfl) (f8 (m7 c4 rfl) (f8 (m7 c5 rfl) (f8 (m7 c6 rfl) (f8 (δ':=D.set 7 (.val (.lst (iD ((lD rows A B i).map λx=>x/((rk.gl (lD rows A B i):Nat):Int)))))) ?_ tail))))));have q:=m7 (fu:=fu) (i:=7) c8 rfl;rw[←hD]at q ⊢;exact q);have of:Ou.of (some (Out.rtt (.dct [] [.int (muP rows A B i),.lst (iD (muQ rows A B i))])))=some (.t (.dct [] [.int (muP rows A B i),.lst (iD (muQ rows A B i))])):=rfl;exact(congrArg Ou.of all).trans of
end
section
variable {F:Nat->List DV->Option Ou} {δ:List Sv} {fu k:Nat} {cl:Cl}
variable {rows:List (List Int)} {n m i:Nat} {A B:List Nat}
theorem z8O(S:Bs rows n m A B):1<=muP rows A B i:=rk.qz_pos (rk.gl_dvd (j5 ..)) S.dV0
theorem T6:(muQ rows A B i).length=A.length:=by unfold muQ dL;rw[d8,d8,A8]
theorem z0l(h:s<A.length):(muQ rows A B i).getD s 0=qq rows A B i (dI rows A B i s):=by
 unfold muQ dL;rw[i7,m9,m9,w1N h];rfl
theorem z3w(S:Bs rows n m A B):(muQ rows A B i).foldl rk.gf (muP rows A B i).natAbs=1:=by
 have q:=rk.gl_qz (D:=dV rows A B) (S.gl0 (i:=i));have e:rk.gl ((lD rows A B i).map (rk.qz (dV rows A B) (rk.gl (lD rows A B i))))=(muQ rows A B i).foldl rk.gf (rk.gf 0 (muP rows A B i)):=rfl;rw[e,show rk.gf 0 (muP rows A B i)=(muP rows A B i).natAbs from w3m _]at q;exact q
def ep(D:Int):Int:=if D<0 then -1 else 1
theorem z1H(h:x∈lD rows A B i):((rk.gl (lD rows A B i):Nat):Int)*qq rows A B i x=ep (dV rows A B)*x:=by
 unfold qq ep;rw[rk.qz_mul (rk.gl_dvd h)];split
 ·rw[w2e]
 ·rw[D1]
theorem y1E(h:s<A.length):dI rows A B i s∈lD rows A B i:=i6 _ (o7.mpr ⟨s,p0.mpr h,rfl⟩)
theorem y1o(S:Bs rows n m A B)(hi:i<n):∀x∈muQ rows A B i,x.natAbs<2^190:=λx hx=>by
 obtain⟨y,hy,rfl⟩:=o7.mp hx;have hy':y∈lD rows A B i:=i6 _ hy;have e:=congrArg Int.natAbs (z1H hy');rw[Q7,Q7,w2d,show(ep (dV rows A B)).natAbs=1 by unfold ep;split<;>rfl,w23]at e;have l:=S.lt_l hi y hy';have g:=S.gl0 (i:=i);have:(qq rows A B i y).natAbs<=rk.gl (lD rows A B i)*(qq rows A B i y).natAbs:=Nat.le_mul_of_pos_left _ g;exact w3B (G4 (m6 this (Nat.le_of_eq e)) l) (by decide)
theorem z7K(S:Bs rows n m A B)(hi:i<n)(hc:c<m):rk.sm (λs=>(muQ rows A B i).getD s 0*vv rows (A.getD s 0) c) A.length=muP rows A B i*vv rows i c:=by
 have g:=S.gl0 (i:=i);have q:=rk.ds_sum S.bA S.bB.lt hi hc;refine w3r (a:=((rk.gl (lD rows A B i):Nat):Int)) (by omega) ?_;rw[←rk.sm_mul,←p4,show((rk.gl (lD rows A B i):Nat):Int)*muP rows A B i=ep (dV rows A B)*dV rows A B from z1H (j5 ..),p4,show dV rows A B*vv rows i c=rk.sm (λs=>rk.ds (vv rows) A B (vv rows i) s*vv rows (A.getD s 0) c) A.length from q.symm,←rk.sm_mul];refine rk.sm_congr λs hs=>?_;rw[z0l hs,←p4,z1H (y1E hs),p4];rfl
theorem z3B(f:Nat->Int):∀n,((List.range n).map f).sum=rk.sm f n
 | 0=>rfl
 | n+1=>by rw[List.range_succ,E4,List.sum_append,z3B f n];show _+(f n+0)=rk.sm f n+f n;omega
abbrev tQ(rows:List (List Int))(A B:List Nat)(i:Nat):DV:=.tup [.int (muP rows A B i),.lst (iD (muQ rows A B i))]
abbrev mS(rows:List (List Int))(A B:List Nat)(i:Nat)(a b c d:Sv):List Sv:=[.val (tQ rows A B i),.val (rL rows),.val (.lst (nD A)),.val (.int (i:Int)),a,b,c,d]
def mB1:List MS:=[.iff (.not (.call 14 [.var 5])) [.ret (.bl false)] [],.set 4 false (.call 20 [.var 4,.var 5])]
theorem q9U(hf:400<=fu):∀(l:List Int) (g:Nat) (b:Sv),(∀x∈l,x.natAbs<2^190)->∃b',p6 (.one 5) (λδ'=>evSs G (run G T fu (k+1)) fu mB1 δ') (iD l) [.val x,y,z,w,.val (.int (g:Int)),b,c,d]=some (.nx [.val x,y,z,w,.val (.int ((l.foldl rk.gf g:Nat):Int)),b',c,d])
 | [],g,b,_=>⟨b,rfl⟩
 | a::l,g,b,h=>by
  obtain⟨b',e⟩:=q9U hf (x:=x) (y:=y) (z:=z) (w:=w) (c:=c) (d:=d) l (rk.gf g a) (.val (.int a)) λy hy=>h y (i6 _ hy)
  have t:evE G (run G T fu (k+1)) (.call 14 [.var 5]) [.val x,y,z,w,.val (.int (g:Int)),.val (.int a),c,d]=some (.ok (.bl true) .strong):=x5 (d9 (b8 (n:=5) (d:=.int a) rfl) j1) rfl z2w;have q:=x5 (G:=G) (F:=run G T fu (k+1)) (δ:=[.val x,y,z,w,.val (.int (g:Int)),.val (.int a),c,d]) (f:=20) (d9 (b8 (n:=4) (d:=.int (g:Int)) rfl) (d9 (b8 (n:=5) (d:=.int a) rfl) j1)) rfl (z1p (fu:=fu) (k:=k) g a (h a (j5 ..)) hf);exact⟨b',(q2N (δ1:=[.val x,y,z,w,.val (.int (g:Int)),.val (.int a),c,d]) rfl (B5 (o9 (L5 t)) (f8 (m7 (cl:=.strong) q rfl) rfl))).trans e⟩
def mB2:List MS:=[.set 7 false (.bi .sum [.comp (.bin .Mult (.var 0) (.ix (.ix (.var 2) (.var 1)) (.var 3))) (.many [0,1]) (.zp (.ix (.var 0) (.int 1)) (.var 2)) [none,none,some 1,some 6]]),.iff (.cmp .NotEq (.var 7) (.bin .Mult (.ix (.var 0) (.int 0)) (.ix (.ix (.var 1) (.var 3)) (.var 6)))) [.ret (.bl false)] []]
theorem z5Y(S:Bs rows n m A B)(hi:i<n)(hc:c<m)(a b d:Sv):evSs G F fu mB2 (mS rows A B i a b (.val (.int (c:Int))) d)=some (.nx (mS rows A B i a b (.val (.int (c:Int))) (.val (.int (muP rows A B i*vv rows i c))))):=by
 have hrow:∀{r:Nat},r<n->r<rows.length/\c<(rows.getD r []).length:=λ{r} hr=>by
  have h1:r<rows.length:=by rw[S.R.1];exact hr
  exact⟨h1,by rw[S.R.2 _ (W0 h1)];exact hc⟩
 have cast_at:∀s,s<A.length->(A.map λ(j:Nat)=>(j:Int)).getD s 0=((A.getD s 0:Nat):Int):=λs hs=>by rw[i7,m9,j3 hs,i7,j3 hs];rfl
 have x1:evE G F (.ix (.var 0) (.int 1)) (mS rows A B i a b (.val (.int (c:Int))) d)=some (.ok (.lst (iD (muQ rows A B i))) .strong):=o6 (cx:=.strong) (b8 (d:=tQ rows A B i) rfl) (f7 (i:=1)) rfl;have x2:evE G F (.var 2) (mS rows A B i a b (.val (.int (c:Int))) d)=some (.ok (.lst (iD (A.map λ(j:Nat)=>(j:Int)))) .strong):=by rw[←Z3];exact b8 rfl
 have w:=z4N x1 x2 (by rw[T6,d8]);rw[T6]at w;have cm:=J9 (F:=F) (δ:=mS rows A B i a b (.val (.int (c:Int))) d) (elt:=.bin .Mult (.var 0) (.ix (.ix (.var 2) (.var 1)) (.var 3))) (tg:=.many [0,1]) (fr:=[none,none,some 1,some 6]) (f:=λs=>.int ((muQ rows A B i).getD s 0*vv rows (A.getD s 0) c)) w (by decide) (by rw[A8];exact m6 S.l8 (by decide)) λs hs=>by
  have hs:=p0.mp hs;refine⟨[.val (.int ((muQ rows A B i).getD s 0)),.val (.int ((A.getD s 0:Nat):Int)),.val (rL rows),.val (.int (c:Int))],.strong,?_,?_,rfl⟩
  ·rw[←cast_at s hs];rfl
  ·have hr:A.getD s 0<n:=S.bA.at rk.pr0 s hs;have v:=S.at hr hc;exact L8 (b8 rfl) (o6 (cx:=.strong) (o6 (cx:=.strong) (b8 rfl) (b8 rfl) (Z2 (hrow hr).1)) (b8 rfl) (N2 (hrow hr).2)) (z5H (by show _<vv rows (A.getD s 0) c;omega) (by show vv rows (A.getD s 0) c<_;omega))
 have cm':evE G F (.comp (.bin .Mult (.var 0) (.ix (.ix (.var 2) (.var 1)) (.var 3))) (.many [0,1]) (.zp (.ix (.var 0) (.int 1)) (.var 2)) [none,none,some 1,some 6]) (mS rows A B i a b (.val (.int (c:Int))) d)=some (.ok (.lst (iD ((List.range A.length).map λs=>(muQ rows A B i).getD s 0*vv rows (A.getD s 0) c))) .fresh):=(by rw[cm];unfold iD;rw[j9];rfl);have sm:=z5B cm';rw[z3B,z7K S hi hc]at sm;have v:=S.at hi hc;obtain⟨D,hD⟩:∃D,mS rows A B i a b (.val (.int (c:Int))) (.val (.int (muP rows A B i*vv rows i c)))=D:=⟨_,rfl⟩;have p1:evE G F (.bin .Mult (.ix (.var 0) (.int 0)) (.ix (.ix (.var 1) (.var 3)) (.var 6))) D=some (.ok (.int (muP rows A B i*vv rows i c)) .strong):=(by rw[←hD];exact L8 (o6 (cx:=.strong) (d:=.int (muP rows A B i)) (b8 (d:=tQ rows A B i) rfl) (f7 (i:=0)) rfl) (o6 (cx:=.strong) (o6 (cx:=.strong) (b8 rfl) (b8 rfl) (Z2 (hrow hi).1)) (b8 rfl) (N2 (hrow hi).2)) (z5H (by show _<vv rows i c;omega) (by show vv rows i c<_;omega)));have p2:=b_ne (show evE G F (.var 7) D=some (.ok (.int (muP rows A B i*vv rows i c)) .strong) by rw[←hD];exact b8 rfl) p1;rw[W5]at p2;refine f8 (δ':=D) ?_ (B5 (o9 p2) (by rw[←hD];rfl));rw[←hD];exact m7 sm rfl
theorem z7Q(S:Bs rows n m A B)(hi:i<n)(hf:400<=fu):run G T fu (k+2) 22 [tQ rows A B i,rL rows,.lst (nD A),.int (i:Int)]=some (.v (.bl true) false):=by
 rw[y7 (fd:=q2p) rfl rfl];unfold q2p;have p1:=z8O (i:=i) S;have h0:0<rows.length:=by rw[S.R.1];exact S.n0
 have x0:∀a b c d,evE G (run G T fu (k+1)) (.ix (.var 0) (.int 0)) (mS rows A B i a b c d)=some (.ok (.int (muP rows A B i)) .strong):=λa b c d=>o6 (cx:=.strong) (b8 (d:=tQ rows A B i) rfl) (f7 (i:=0)) rfl;have x1:∀a b c d,evE G (run G T fu (k+1)) (.ix (.var 0) (.int 1)) (mS rows A B i a b c d)=some (.ok (.lst (iD (muQ rows A B i))) .strong):=λa b c d=>o6 (cx:=.strong) (b8 (d:=tQ rows A B i) rfl) (f7 (i:=1)) rfl;have o1:evE G (run G T fu (k+1)) (.or [.not (.isi (.var 0) ["tuple"]),.cmp .NotEq (.bi .len [.var 0]) (.int 2),.not (.call 14 [.ix (.var 0) (.int 0)]),.cmp .Lt (.ix (.var 0) (.int 0)) (.int 1)]) (mS rows A B i .no .no .no .no)=some (.ok (.bl false) .strong):=by have l:=b_lt (x0 .no .no .no .no) (f7 (i:=1));rw[C6 (by omega)]at l;exact y0P (c1:=.strong) rfl (E8 (op:=.NotEq) (t:=false) (q5M (b8 (d:=tQ rows A B i) rfl)) (f7 (i:=2)) rfl) (L5 (x5 (d9 (x0 .no .no .no .no) j1) rfl z2w)) l
 have o2:evE G (run G T fu (k+1)) (.or [.not (.isi (.ix (.var 0) (.int 1)) ["list"]),.cmp .NotEq (.bi .len [.ix (.var 0) (.int 1)]) (.bi .len [.var 2])]) (mS rows A B i .no .no .no .no)=some (.ok (.bl false) .strong):=(by have l1:=q6w (x1 .no .no .no .no);rw[T6]at l1;have l2:=Z1 (F:=run G T fu (k+1)) (δ:=mS rows A B i .no .no .no .no) (e:=.var 2) (ds:=nD A) (b8 rfl);rw[q8n]at l2;have q:=b_ne l1 l2;rw[W5]at q;have i1:evE G (run G T fu (k+1)) (.isi (.ix (.var 0) (.int 1)) ["list"]) (mS rows A B i .no .no .no .no)=some (.ok (.bl true) .strong):=(by unfold evE;rw[x1];rfl);exact q3N (L5 i1) q);obtain⟨b',lp⟩:=q9U (fu:=fu) (k:=k) hf (x:=tQ rows A B i) (y:=.val (rL rows)) (z:=.val (.lst (nD A))) (w:=.val (.int (i:Int))) (c:=.no) (d:=.no) (muQ rows A B i) (muP rows A B i).natAbs .no (y1o S hi);rw[z3w S,show(((muP rows A B i).natAbs:Nat):Int)=muP rows A B i by omega]at lp;have lm:evE G (run G T fu (k+1)) (.bi .len [.ix (.var 1) (.int 0)]) (mS rows A B i (.val (.int ((1:Nat):Int))) b' .no .no)=some (.ok (.int (m:Nat)) .strong):=by have:=q6w (o6 (F:=run G T fu (k+1)) (δ:=mS rows A B i (.val (.int ((1:Nat):Int))) b' .no .no) (a:=.var 1) (b:=.int 0) (cx:=.strong) (b8 rfl) (f7 (i:=((0:Nat):Int))) (Z2 h0));rw[show(rows.getD 0 []).length=m from S.R.2 _ (W0 h0)]at this;exact this
 obtain⟨δ',e,c',d',hδ⟩:=q3r (tg:=.one 6) (body:=λδ'=>evSs G (run G T fu (k+1)) fu mB2 δ') (I:=λδ=>∃c d,δ=mS rows A B i (.val (.int ((1:Nat):Int))) b' c d) (ds:=(List.range m).map λ(j:Nat)=>DV.int (j:Int)) (δ:=mS rows A B i (.val (.int ((1:Nat):Int))) b' .no .no) (λd hd δ ⟨a,b,hδ⟩=>by
  obtain⟨c,hc,rfl⟩:=o7.mp hd;subst hδ;exact⟨_,_,rfl,z5Y S hi (p0.mp hc) _ _ b,_,_,rfl⟩) ⟨.no,.no,rfl⟩
 subst hδ;have w1:o5 (evE G (run G T fu (k+1)) (.ix (.var 0) (.int 1)) (mS rows A B i (.val (.int (muP rows A B i))) .no .no .no))=some (.ok (iD (muQ rows A B i)) .strong):=by rw[x1];rfl
 exact C3 (B5 (o9 o1) (B5 (o9 o2) (f8 (m7 (x0 .no .no .no .no) rfl) (K8 w1 (.inl rfl) lp (K8 (z0I lm (by have:=S.m8;omega)) (.inr rfl) e (B4 (F3 (cl:=.strong) rfl)))))))
end
section
variable {F:Nat->List DV->Option Ou} {δ:List Sv} {fu k:Nat} {cl:Cl}
variable {rows:List (List Int)} {n m i:Nat} {A B:List Nat}
theorem qq_0:qq rows A B i 0=0:=by
 unfold qq rk.qz;rw[Int.zero_ediv];split<;>rfl
theorem z2d(S:Bs rows n m A B)(hi:i<n)(hs:s<A.length)(h:i<A.getD s 0):(muQ rows A B i).getD s 0=0:=by
 rw[z0l hs];have e:dI rows A B i s=0:=by
  have eA:rk.bz (vv rows) m n=A:=by have:=S.eA;unfold bl0 at this;rw[S.R.1]at this;exact this
  subst eA;exact rk.ds_ahead S.bB.lt hi hs h
 rw[e];exact qq_0
theorem y1a(up:A.Pairwise (· < ·))(hs:s<A.length)(ht:t<A.length)(h:A.getD s 0=A.getD t 0):s=t:=by
 rw[i7,j3 hs,i7,j3 ht]at h;have h':A[s]=A[t]:=h;have q:=List.pairwise_iff_getElem.mp up;rcases Nat.lt_trichotomy s t with z | z | z
 ·have:=q s t hs ht z;omega
 ·exact z
 ·have:=q t s ht hs z;omega
theorem z9O(S:Bs rows n m A B)(h:i∈A):muP rows A B i=1/\muQ rows A B i=A.map λ(r:Nat)=>if((r:Int)==(i:Int))=true then(1:Int)else 0:=by
 obtain⟨t,ht,et⟩:=W3 h;have et':A.getD t 0=i:=by rw[i7,j3 ht];exact et
 have q:∀s,s<A.length->dI rows A B i s=if s=t then dV rows A B else 0:=λs hs=>by have:=rk.ds_own (v:=vv rows) (m:=m) (b:=A) (e:=B) S.bB.lt ht hs;rw[et']at this;exact this
 have q2:∀s,s<A.length->(muQ rows A B i).getD s 0=if s=t then muP rows A B i else 0:=λs hs=>by
  rw[z0l hs,q s hs];split
  ·rfl
  ·exact qq_0
 have p1:=z8O (i:=i) S;have g:=z3w (i:=i) S;rw[rk.gf_fix (p:=(muP rows A B i).natAbs) (muQ rows A B i) λx hx=>by
  obtain⟨s,hs,es⟩:=W3 hx;have e1:=q2 s (by rw[T6]at hs;exact hs);rw[i7,j3 hs]at e1;have e2:(muQ rows A B i)[s]=if s=t then muP rows A B i else 0:=e1
  rw[es]at e2;rw[e2];split
  ·left;omega
  ·right;rfl]at g
 have pe:muP rows A B i=1:=by omega
 refine⟨pe,?_⟩;apply w2K
 ·rw[T6,d8]
 ·intro s h1 h2;have hs:s<A.length:=by rw[T6]at h1;exact h1
  have e1:=q2 s hs;rw[i7,j3 h1]at e1;have e2:(muQ rows A B i)[s]=if s=t then muP rows A B i else 0:=e1
  rw[e2,w2L,pe];have as:A[s]=A.getD s 0:=by rw[i7,j3 hs];rfl
  by_cases z:s=t
  ·subst z;rw[d4 rfl,et,d4 (W5 _)]
  ·rw[d5 z,d5];intro w;have w':=w3L w;have:A[s]=i:=by omega
   exact z (y1a S.bA.up hs ht (by rw[←as,this,et']))
theorem q7L(p:Int)(a:List Int):DV.plain 60 (.tup [.int p,.lst (iD a)])=true:=by
 show DV.plains 59 [.int p,.lst (iD _)]=true;exact q4w λd hd=>by
  simp only[f9,F7,K6]at hd;rcases hd with h | h<;>rw[h]
  ·exact z6o 59 _
  ·exact z0k 58 _
theorem z3E(p:Int)(a:List Int):deq (.tup [.int p,.lst (iD a)]) (.tup [.int p,.lst (iD a)])=true:=by
 show((p==p)&&(deq (.lst (iD _)) (.lst (iD _))&&true))=true;rw[z7m];simp
theorem y1n(p:Int)(a:List Int):cmpD .Eq (.tup [.int p,.lst (iD a)]) (.tup [.int p,.lst (iD a)])=some true:=by
 show(if(DV.plain 60 _&&DV.plain 60 _)=true then some (deq _ _)else none)=_;rw[q7L,z3E];rfl
theorem y0X(p:Int)(a:List Int):cmpD .NotEq (.tup [.int p,.lst (iD a)]) (.tup [.int p,.lst (iD a)])=some false:=by
 show(if(DV.plain 60 _&&DV.plain 60 _)=true then some (!deq _ _)else none)=_;rw[q7L,z3E];rfl
abbrev aS(rows:List (List Int))(A B:List Nat)(i:Nat)(a b:Sv):List Sv:=[.val (tQ rows A B i),.val (.lst (nD A)),.val (.int (i:Int)),a,b]
def aB:List MS:=[.iff (.and [.cmp .Gt (.var 4) (.var 2),.cmp .NotEq (.var 3) (.int 0)]) [.ret (.bl false)] []]
theorem z5e(S:Bs rows n m A B)(hi:i<n):run G T fu (k+1) 23 [tQ rows A B i,.lst (nD A),.int (i:Int)]=some (.v (.bl true) false):=by
 rw[y7 (fd:=q1Q) rfl rfl];unfold q1Q;have cast_at:∀s,s<A.length->(A.map λ(j:Nat)=>(j:Int)).getD s 0=((A.getD s 0:Nat):Int):=λs hs=>by rw[i7,m9,j3 hs,i7,j3 hs];rfl
 have x1:evE G (run G T fu k) (.ix (.var 0) (.int 1)) (aS rows A B i .no .no)=some (.ok (.lst (iD (muQ rows A B i))) .strong):=o6 (cx:=.strong) (b8 (d:=tQ rows A B i) rfl) (f7 (i:=1)) rfl;have x2:evE G (run G T fu k) (.var 1) (aS rows A B i .no .no)=some (.ok (.lst (iD (A.map λ(j:Nat)=>(j:Int)))) .strong):=by rw[←Z3];exact b8 rfl
 have w:=z4N x1 x2 (by rw[T6,d8]);rw[T6]at w;obtain⟨δ',e,a',b',hδ⟩:=q3r (tg:=.many [3,4]) (body:=λδ'=>evSs G (run G T fu k) fu aB δ') (I:=λδ=>∃a b,δ=aS rows A B i a b) (ds:=(List.range A.length).map λ(s:Nat)=>DV.tup [.int ((muQ rows A B i).getD s 0),.int ((A.map λ(j:Nat)=>(j:Int)).getD s 0)]) (δ:=aS rows A B i .no .no) (λd hd δ ⟨a,b,hδ⟩=>by
  obtain⟨s,hs,rfl⟩:=o7.mp hd;have hs:=p0.mp hs;subst hδ;refine⟨aS rows A B i (.val (.int ((muQ rows A B i).getD s 0))) (.val (.int ((A.getD s 0:Nat):Int))),aS rows A B i (.val (.int ((muQ rows A B i).getD s 0))) (.val (.int ((A.getD s 0:Nat):Int))),?_,?_,.val (.int ((muQ rows A B i).getD s 0)),.val (.int ((A.getD s 0:Nat):Int)),rfl⟩
  ·rw[←cast_at s hs];rfl
  ·have g:=b_gt (b8 (G:=G) (F:=run G T fu k) (δ:=aS rows A B i (.val (.int ((muQ rows A B i).getD s 0))) (.val (.int ((A.getD s 0:Nat):Int)))) (n:=4) (d:=.int ((A.getD s 0:Nat):Int)) rfl) (b8 (n:=2) (d:=.int (i:Int)) rfl);have nz:=b_ne (b8 (G:=G) (F:=run G T fu k) (δ:=aS rows A B i (.val (.int ((muQ rows A B i).getD s 0))) (.val (.int ((A.getD s 0:Nat):Int)))) (n:=3) (d:=.int ((muQ rows A B i).getD s 0)) rfl) (f7 (i:=0));by_cases z:i<A.getD s 0
   ·rw[B9 (by omega)]at g;rw[show((muQ rows A B i).getD s 0==0)=true by rw[z2d S hi hs z];rfl]at nz;exact B5 (o9 (q7P g nz)) rfl
   ·rw[C6 (by omega)]at g;exact B5 (o9 (q7M (t:=true) g)) rfl) ⟨.no,.no,rfl⟩
 subst hδ;have ni:=E8 (b8 (G:=G) (F:=run G T fu k) (δ:=aS rows A B i a' b') (n:=2) (d:=.int (i:Int)) rfl) (b8 (n:=1) (d:=.lst (nD A)) rfl) (z2J i A);have rt:evE G (run G T fu k) (.or [.cmp .NotIn (.var 2) (.var 1),.cmp .Eq (.var 0) (.tup [.int 1,.comp (.bi .int [.cmp .Eq (.var 0) (.var 1)]) (.one 0) (.var 1) [none,some 2]])]) (aS rows A B i a' b')=some (.ok (.bl true) .strong):=by
  cases z:A.contains i with
  | false=>rw[z]at ni;exact z6w ni
  | true=>
   rw[z]at ni;refine q3N ni ?_;obtain⟨o1,o2⟩:=z9O (i:=i) S (P8.mp z);have cm:=J9 (F:=run G T fu k) (δ:=aS rows A B i a' b') (it:=.var 1) (elt:=.bi .int [.cmp .Eq (.var 0) (.var 1)]) (tg:=.one 0) (fr:=[none,some 2]) (l:=A) (h:=λ(j:Nat)=>DV.int (j:Int)) (f:=λ(r:Nat)=>.int (if((r:Int)==(i:Int))=true then 1 else 0)) (cl:=.strong) rfl (by decide) (m6 S.l8 (by decide)) λr hr=>⟨[.val (.int (r:Int)),.val (.int (i:Int))],.strong,rfl,rfl,rfl⟩
   have cm':evE G (run G T fu k) (.comp (.bi .int [.cmp .Eq (.var 0) (.var 1)]) (.one 0) (.var 1) [none,some 2]) (aS rows A B i a' b')=some (.ok (.lst (iD (muQ rows A B i))) .fresh):=(by rw[cm,o2];unfold iD;rw[j9];rfl);have t:=q7H (d9 (f7 (G:=G) (F:=run G T fu k) (δ:=aS rows A B i a' b') (i:=1)) (d9 cm' j1)) (show 2<=mostLen by decide) rfl;have ev0:=b8 (G:=G) (F:=run G T fu k) (δ:=aS rows A B i a' b') (n:=0) (d:=tQ rows A B i) rfl;rw[show tQ rows A B i=.tup [.int 1,.lst (iD (muQ rows A B i))] by unfold tQ;rw[o1]]at ev0;exact E8 ev0 t (y1n 1 _)
 exact C3 (K8 w (.inl rfl) e (B4 (F3 rt)))
theorem y0w(R:Rect n m rows)(h:run G T fu (k+1) 0 [d,.int 0,.int ((n:Int) - 1)]=some (.v (.bl false) false)):run G T fu (k+3) 13 [tT rows,d]=some (.x "NoCard"):=by
 rw[y7 (fd:=V8) rfl rfl];unfold V8;have c:=q9e h;exact z8D (z5y (z0j (q7F (d9 (b8 rfl) (d9 (lenT R (b8 rfl)) j1)) c)))
theorem z0u(h:run G T fu k 13 [t,a]=some (.x "NoCard")):run G T fu (k+1) 24 [t,a]=some (.v (.bl true) false):=by
 rw[y7 (fd:=q1t) rfl rfl];unfold q1t;have b1:evSs G (run G T fu k) fu [.exp (.call 13 [.var 0,.var 1])] [.val t,.val a,.val .non,.no]=some (.ex "NoCard" [.val t,.val a,.val .non,.no]):=
  z5y (z0j (q7F (d9 (b8 rfl) (d9 (b8 rfl) j1)) h))
 have b2:evS G (run G T fu k) fu (.tryc [.exp (.call 13 [.var 0,.var 1])] "TalkError" 3 2) [.val t,.val a,.val .non,.no]=some (.nx [.val t,.val a,.val (.exc "NoCard"),.no]):=(by show tryD G "TalkError" 3 2 (evSs G (run G T fu k) fu [.exp (.call 13 [.var 0,.var 1])] [.val t,.val a,.val .non,.no])=_;rw[b1];rfl);exact C3 (f8 (m7 (d:=.non) (cl:=.strong) rfl rfl) (f8 b2 (B5 (o9 (x:=false) (cl:=.strong) rfl) (B4 rfl))))
theorem z6P(S:Bs rows n m A B):run G T fu (k+5) 25 [rL rows,tT rows]=some (.t (.dct [] [.lst (nD A),.lst (nD B)])):=by
 rw[y7 (fd:=q1x) rfl rfl];have eb:=q7s (fu:=fu) (k:=k) S.R S.h9 S.n0 S.n8 S.m8;rw[show pD rows n m=[.lst (nD A),.lst (nD B)] by unfold pD;rw[S.eA,S.eB]]at eb;have er:=z9p (fu:=fu) (k:=k) S.R S.h9 S.n8 (by have:=S.m8;omega);rw[S.eA]at er;have hr0:0<rows.length:=by rw[S.R.1];exact S.n0
 obtain⟨D4,hD4⟩:∃D,[Sv.val (rL rows),.val (tT rows),.ot (.dct [] [.lst (nD A),.lst (nD B)]),.no]=D:=⟨_,rfl⟩;obtain⟨D5,hD5⟩:∃D,[Sv.val (rL rows),.val (tT rows),.ot (.dct [] [.lst (nD A),.lst (nD B)]),.val (.int (A.length:Nat))]=D:=⟨_,rfl⟩;have s4:evS G (run G T fu (k+4)) fu (.setp 2 8 [.var 1]) (o8 4 [rL rows,tT rows])=some (.nx D4):=(by rw[q6R (d9 (b8 (G:=G) (F:=run G T fu (k+4)) (δ:=o8 4 [rL rows,tT rows]) (n:=1) (d:=tT rows) rfl) j1) rfl eb,←hD4];rfl);have s5:evE G (run G T fu (k+4)) (.call 9 [.var 1]) D4=some (.ok (.int (A.length:Nat)) .strong):=x5 (d9 (by rw[←hD4];exact b8 rfl) j1) rfl er;have v0:evE G (run G T fu (k+4)) (.var 0) D5=some (.ok (rL rows) .strong):=by rw[←hD5];exact b8 rfl
 have v2:evE G (run G T fu (k+4)) (.var 2) D5=some (.ok (.tup [.lst (nD A),.lst (nD B)]) .weak):=by rw[←hD5];exact z1c (d:=.dct [] [.lst (nD A),.lst (nD B)]) rfl
 have v3:evE G (run G T fu (k+4)) (.var 3) D5=some (.ok (.int (A.length:Nat)) .strong):=by rw[←hD5];exact b8 rfl
 have x0:evE G (run G T fu (k+4)) (.ix (.var 2) (.int 0)) D5=some (.ok (.lst (nD A)) .weak):=o6 (cx:=.weak) v2 (f7 (i:=0)) rfl;have x1:evE G (run G T fu (k+4)) (.ix (.var 2) (.int 1)) D5=some (.ok (.lst (nD B)) .weak):=o6 (cx:=.weak) v2 (f7 (i:=1)) rfl;have ln:evE G (run G T fu (k+4)) (.bi .len [.var 0]) D5=some (.ok (.int (n:Nat)) .strong):=by have:=q6L v0;rw[S.R.1]at this;exact this
 have lm:evE G (run G T fu (k+4)) (.bi .len [.ix (.var 0) (.int 0)]) D5=some (.ok (.int (m:Nat)) .strong):=(by have:=q6w (o6 (cx:=.strong) v0 (f7 (i:=((0:Nat):Int))) (Z2 hr0));rw[show(rows.getD 0 []).length=m from S.R.2 _ (W0 hr0)]at this;exact this);have o1:evE G (run G T fu (k+4)) (.or [.not (.isi (.var 2) ["tuple"]),.cmp .NotEq (.bi .len [.var 2]) (.int 2),.not (.call 14 [.var 3])]) D5=some (.ok (.bl false) .strong):=by
  have i:evE G (run G T fu (k+4)) (.isi (.var 2) ["tuple"]) D5=some (.ok (.bl true) .strong):=by unfold evE;rw[v2];rfl
  exact z7j (L5 i) (E8 (op:=.NotEq) (t:=false) (q5M v2) (f7 (i:=2)) rfl) (L5 (x5 (d9 v3 j1) rfl (z2w (fu:=fu) (k:=k+3))))
 have o2:evE G (run G T fu (k+4)) (.or [.not (.call 21 [.ix (.var 2) (.int 0),.bi .len [.var 0]]),.not (.call 21 [.ix (.var 2) (.int 1),.bi .len [.ix (.var 0) (.int 0)]])]) D5=some (.ok (.bl false) .strong):=q3N (L5 (q4p (d9 x0 (d9 ln j1)) rfl (q8b (fu:=fu) (k:=k+2) S.bA.up S.bA.lt))) (L5 (q4p (d9 x1 (d9 lm j1)) rfl (q8b (fu:=fu) (k:=k+2) S.bB.up S.bB.lt)));have o3:evE G (run G T fu (k+4)) (.or [.cmp .NotEq (.bi .len [.ix (.var 2) (.int 0)]) (.var 3),.cmp .NotEq (.bi .len [.ix (.var 2) (.int 1)]) (.var 3)]) D5=some (.ok (.bl false) .strong):=(by have l0:=Z1 x0;rw[q8n]at l0;have l1:=Z1 x1;rw[q8n,←S.len]at l1;have q0:=b_ne l0 v3;rw[W5]at q0;have q1:=b_ne l1 v3;rw[W5]at q1;exact q3N q0 q1);have rp:evS G (run G T fu (k+4)) fu (.retp 2) D5=some (.rtt (.dct [] [.lst (nD A),.lst (nD B)])):=by rw[←hD5];rfl
 have all:evSs G (run G T fu (k+4)) fu q1x.body (o8 4 [rL rows,tT rows])=some (.rtt (.dct [] [.lst (nD A),.lst (nD B)])):=by
  unfold q1x;refine f8 s4 (f8 (δ':=D5) ?_ (B5 (o9 o1) (B5 (o9 o2) (B5 (o9 o3) ?_))))
  ·have:=m7 (fu:=fu) (i:=3) s5 rfl;rw[this,←hD4,←hD5];rfl
  ·unfold evSs;rw[rp]
 have of:Ou.of (some (Out.rtt (.dct [] [.lst (nD A),.lst (nD B)])))=some (.t (.dct [] [.lst (nD A),.lst (nD B)])):=rfl;exact(congrArg Ou.of all).trans of
end
section
variable {fu:Nat}
abbrev F9(fu:Nat):Nat->List DV->Option Ou:=run G T fu 59
abbrev lS(ns xs:List Int)(rows:List (List Int))(a b c d e f g:Sv):List Sv:=[.val (.scr ns),.val (.lst (iD xs)),.val (rL rows),a,b,c,d,e,f,g]
def lB:List MS:=[.setp 7 13 [.var 3,.var 6],.iff (.or [.not (.call 22 [.var 7,.var 2,.ix (.var 5) (.int 0),.var 6]),.not (.call 23 [.var 7,.ix (.var 5) (.int 0),.var 6])]) [.ret (.bl false)] [],.set 8 false (.tup [.ix (.var 7) (.int 0),.bi .lsti [.ix (.var 7) (.int 1)]]),.oapp 7 1 (.int 0),.iff (.cmp .NotEq (.call 13 [.var 3,.var 6]) (.var 8)) [.ret (.bl false)] []]
abbrev oAB(A B:List Nat):Sv:=.ot (.dct [] [.lst (nD A),.lst (nD B)])
abbrev kS(ns xs:List Int)(rows:List (List Int))(A B:List Nat)(a b c:Sv):List Sv:=lS ns xs rows (.val (tT rows)) (oAB A B) (.val (fD A B)) a b c .no
variable {rows:List (List Int)} {n m i:Nat} {A B:List Nat}
theorem z1R(h:evE G F e δ=some (.ok (.lst (iD l)) c)):evE G F (.bi .lsti [e]) δ=some (.ok (.lst (iD l)) .fresh):=by
 show Rs.thn (evEs G F [e] δ) (λl=>X7 l)=_;rw[d9 h j1];show(match ints? (iD l)with | some _=>some (Re.ok (.lst (iD l)) .fresh) | none=>none)=_;rw[q4J]
theorem l_in(ns xs:List Int)(S:Bs rows n m A B)(hi:i<n)(hf:400<=fu)(b c:Sv)(hc:c=.no\/∃d,c=.val d):∃b',evSs G (F9 fu) fu lB (kS ns xs rows A B (.val (.int (i:Int))) b c)=some (.nx (kS ns xs rows A B (.val (.int (i:Int))) b' (.val (tQ rows A B i)))):=by
 have em:=z2j (fu:=fu) (k:=54) S hi hf;obtain⟨D,hD⟩:∃D,kS ns xs rows A B (.val (.int (i:Int))) (.ot (.dct [] [.int (muP rows A B i),.lst (iD (muQ rows A B i))])) c=D:=⟨_,rfl⟩;have s1:evS G (F9 fu) fu (.setp 7 13 [.var 3,.var 6]) (kS ns xs rows A B (.val (.int (i:Int))) b c)=some (.nx D):=(by rw[q6R (d9 (b8 (G:=G) (F:=F9 fu) (δ:=kS ns xs rows A B (.val (.int (i:Int))) b c) (n:=3) (d:=tT rows) rfl) (d9 (b8 (n:=6) (d:=.int (i:Int)) rfl) j1)) (by rcases hc with z | ⟨d,z⟩<;>rw[z]<;>rfl) em,←hD];rfl);have v2:evE G (F9 fu) (.var 2) D=some (.ok (rL rows) .strong):=by rw[←hD];exact b8 rfl
 have v5:evE G (F9 fu) (.var 5) D=some (.ok (fD A B) .strong):=by rw[←hD];exact b8 rfl
 have v6:evE G (F9 fu) (.var 6) D=some (.ok (.int (i:Int)) .strong):=by rw[←hD];exact b8 rfl
 have v7:evE G (F9 fu) (.var 7) D=some (.ok (tQ rows A B i) .weak):=by rw[←hD];exact z1c (d:=.dct [] [.int (muP rows A B i),.lst (iD (muQ rows A B i))]) rfl
 have h0:evE G (F9 fu) (.ix (.var 5) (.int 0)) D=some (.ok (.lst (nD A)) .strong):=o6 (cx:=.strong) v5 (f7 (i:=0)) rfl;have o1:evE G (F9 fu) (.or [.not (.call 22 [.var 7,.var 2,.ix (.var 5) (.int 0),.var 6]),.not (.call 23 [.var 7,.ix (.var 5) (.int 0),.var 6])]) D=some (.ok (.bl false) .strong):=q3N (L5 (q4p (d9 v7 (d9 v2 (d9 h0 (d9 v6 j1)))) rfl (z7Q (fu:=fu) (k:=57) S hi hf))) (L5 (q4p (d9 v7 (d9 h0 (d9 v6 j1))) rfl (z5e (fu:=fu) (k:=58) S hi)));have x0:evE G (F9 fu) (.ix (.var 7) (.int 0)) D=some (.ok (.int (muP rows A B i)) .weak):=o6 (cx:=.weak) v7 (f7 (i:=0)) rfl;have x1:evE G (F9 fu) (.ix (.var 7) (.int 1)) D=some (.ok (.lst (iD (muQ rows A B i))) .weak):=o6 (cx:=.weak) v7 (f7 (i:=1)) rfl;have s2:evE G (F9 fu) (.tup [.ix (.var 7) (.int 0),.bi .lsti [.ix (.var 7) (.int 1)]]) D=some (.ok (tQ rows A B i) .strong):=q7H (d9 x0 (d9 (z1R x1) j1)) (show 2<=mostLen by decide) rfl;obtain⟨D2,hD2⟩:∃D,kS ns xs rows A B (.val (.int (i:Int))) (.ot (.dct [] [.int (muP rows A B i),.lst (iD (muQ rows A B i))])) (.val (tQ rows A B i))=D:=⟨_,rfl⟩;obtain⟨D3,hD3⟩:∃D,kS ns xs rows A B (.val (.int (i:Int))) (.ot (.dct [] [.int (muP rows A B i),.lst (iD (muQ rows A B i)++[.int 0])])) (.val (tQ rows A B i))=D:=⟨_,rfl⟩;have s3:evS G (F9 fu) fu (.oapp 7 1 (.int 0)) D2=some (.nx D3):=(by rw[←hD2,←hD3];unfold evS;show(if(iD (muQ rows A B i)).length<mostLen then some (Out.nx _)else none)=_;rw[d4 (by rw[z3V,T6];exact G4 S.l8 (by decide))];rfl);have o2:evE G (F9 fu) (.cmp .NotEq (.call 13 [.var 3,.var 6]) (.var 8)) D3=some (.ok (.bl false) .strong):=E8 (q4f (d9 (show evE G (F9 fu) (.var 3) D3=some (.ok (tT rows) .strong) by rw[←hD3];exact b8 rfl) (d9 (show evE G (F9 fu) (.var 6) D3=some (.ok (.int (i:Int)) .strong) by rw[←hD3];exact b8 rfl) j1)) em) (show evE G (F9 fu) (.var 8) D3=some (.ok (tQ rows A B i) .strong) by rw[←hD3];exact b8 rfl) (y0X _ _);exact⟨_,f8 s1 (B5 (o9 o1) (f8 (δ':=D2) (by rw[m7 s2 rfl,←hD,←hD2];rfl) (f8 s3 (B5 (o9 o2) (by rw[←hD3];rfl)))))⟩
def lT:List MS:=V9.body.drop 4
theorem tail(ns:List Int)(xs:List Int)(hx:xs.length=20)(S:Bs rows n m A B)(hf:400<=fu):evSs G (F9 fu) fu lT (lS ns xs rows .no .no .no .no .no .no .no)=some (.rt (.bl true) false):=by
 have n0:=S.n0;have n8:=S.n8;have m0:=S.m0;have m8:=S.m8;have eb:=q7s (fu:=fu) (k:=55) S.R S.h9 S.n0 S.n8 S.m8;rw[show pD rows n m=[.lst (nD A),.lst (nD B)] by unfold pD;rw[S.eA,S.eB]]at eb;have ebf:=q7s (fu:=fu) (k:=55) (q7E S.R) (q9J S.h9) S.m0 S.m8 S.n8;rw[show pD (flip m rows) m n=[.lst (nD B),.lst (nD A)] by unfold pD;rw[z0i S.R,S.eA,S.eB]]at ebf;have s3:evE G (F9 fu) (.call 18 [.var 2]) (lS ns xs rows .no .no .no .no .no .no .no)=some (.ok (tT rows) .strong):=x5 (d9 (b8 rfl) j1) rfl (q8s (fu:=fu) (k:=58) rows (by rw[S.R.1];omega));obtain⟨D3,hD3⟩:∃D,lS ns xs rows (.val (tT rows)) .no .no .no .no .no .no=D:=⟨_,rfl⟩;obtain⟨D4,hD4⟩:∃D,lS ns xs rows (.val (tT rows)) (oAB A B) .no .no .no .no .no=D:=⟨_,rfl⟩;have s4:evS G (F9 fu) fu (.setp 4 25 [.var 2,.var 3]) D3=some (.nx D4):=(by rw[q6R (d9 (show evE G (F9 fu) (.var 2) D3=some (.ok (rL rows) .strong) by rw[←hD3];exact b8 rfl) (d9 (show evE G (F9 fu) (.var 3) D3=some (.ok (tT rows) .strong) by rw[←hD3];exact b8 rfl) j1)) (by rw[←hD3];rfl) (z6P (fu:=fu) (k:=54) S),←hD3,←hD4];rfl);have v4:evE G (F9 fu) (.var 4) D4=some (.ok (fD A B) .weak):=by rw[←hD4];exact z1c (d:=.dct [] [.lst (nD A),.lst (nD B)]) rfl
 have o1:evE G (F9 fu) (.cmp .Is (.var 4) .non) D4=some (.ok (.bl false) .strong):=by rw[←hD4];rfl
 have x0:evE G (F9 fu) (.ix (.var 4) (.int 0)) D4=some (.ok (.lst (nD A)) .weak):=o6 (cx:=.weak) v4 (f7 (i:=0)) rfl;have x1:evE G (F9 fu) (.ix (.var 4) (.int 1)) D4=some (.ok (.lst (nD B)) .weak):=o6 (cx:=.weak) v4 (f7 (i:=1)) rfl;have s5:evE G (F9 fu) (.tup [.bi .lsti [.ix (.var 4) (.int 0)],.bi .lsti [.ix (.var 4) (.int 1)]]) D4=some (.ok (fD A B) .strong):=q7H (d9 (z1r x0) (d9 (z1r x1) j1)) (show 2<=mostLen by decide) rfl;have ln:evE G (F9 fu) (.bi .len [.var 2]) (kS ns xs rows A B .no .no .no)=some (.ok (.int (n:Nat)) .strong):=by have:=q6L (F:=F9 fu) (δ:=kS ns xs rows A B .no .no .no) (e:=.var 2) (rows:=rows) (c:=.strong) (b8 rfl);rw[S.R.1]at this;exact this
 obtain⟨δ',e,a',b',c',hδ,hc'⟩:=q3r (tg:=.one 6) (body:=λδ'=>evSs G (F9 fu) fu lB δ') (I:=λδ=>∃a b c,δ=kS ns xs rows A B a b c/\(c=.no\/∃d,c=.val d)) (ds:=(List.range n).map λ(j:Nat)=>DV.int (j:Int)) (δ:=kS ns xs rows A B .no .no .no) (λd hd δ ⟨a,b,c,hδ,hc⟩=>by
  obtain⟨i,hi,rfl⟩:=o7.mp hd;obtain⟨b',e⟩:=l_in (fu:=fu) ns xs S (p0.mp hi) hf b c hc;subst hδ;exact⟨_,_,rfl,e,_,b',_,rfl,.inr ⟨_,rfl⟩⟩) ⟨.no,.no,.no,rfl,.inl rfl⟩
 obtain⟨D7,hD7⟩:∃D,lS ns xs rows (.val (tT rows)) (.ot (.dct [] [.lst (nD A++[.int 0]),.lst (nD B)])) (.val (fD A B)) a' b' c' .no=D:=⟨_,rfl⟩;obtain⟨D8,hD8⟩:∃D,lS ns xs rows (.val (tT rows)) (.ot (.dct [] [.lst (nD A++[.int 0]),.lst []])) (.val (fD A B)) a' b' c' .no=D:=⟨_,rfl⟩;have s7:evS G (F9 fu) fu (.oapp 4 0 (.int 0)) (kS ns xs rows A B a' b' c')=some (.nx D7):=by rw[←hD7];unfold evS;show(if(nD A).length<mostLen then some (Out.nx _)else none)=_;rw[d4 (by rw[q8n];exact G4 S.l8 (by decide))];rfl
 have s8:evS G (F9 fu) fu (.oclr 4 1) D7=some (.nx D8):=by rw[←hD7,←hD8];rfl
 obtain⟨bd,hbd,ib⟩:∃d,d∈bads n/\ixD (.lst (bads n)) (.int (xs.getD 19 0%8))=some d:=by
  have:xs.getD 19 0%8=0\/xs.getD 19 0%8=1\/xs.getD 19 0%8=2\/xs.getD 19 0%8=3\/xs.getD 19 0%8=4\/xs.getD 19 0%8=5\/xs.getD 19 0%8=6\/xs.getD 19 0%8=7:=by omega
  unfold bads;rcases this with h | h | h | h | h | h | h | h<;>rw[h]
  ·exact⟨_,.head _,rfl⟩
  ·exact⟨_,.tail _ (.head _),rfl⟩
  ·exact⟨_,.tail _ (.tail _ (.head _)),rfl⟩
  ·exact⟨_,.tail _ (.tail _ (.tail _ (.head _))),rfl⟩
  ·exact⟨_,.tail _ (.tail _ (.tail _ (.tail _ (.head _)))),rfl⟩
  ·exact⟨_,.tail _ (.tail _ (.tail _ (.tail _ (.tail _ (.head _))))),rfl⟩
  ·exact⟨_,.tail _ (.tail _ (.tail _ (.tail _ (.tail _ (.tail _ (.head _)))))),rfl⟩
  ·exact⟨_,.tail _ (.tail _ (.tail _ (.tail _ (.tail _ (.tail _ (.tail _ (.head _))))))),rfl⟩
 have s9:∃c9,evE G (F9 fu) (.ix (.lst [.bi .len [.var 2],.neg (.int 1),.int 10000,.bl true,.non,.str "0",.lst [.int 0],.bl false]) (.bin .Mod (.ix (.var 1) (.int 19)) (.int 8))) D8=some (.ok bd c9)/\stro bd c9=true:=(by have l2:=q6L (show evE G (F9 fu) (.var 2) D8=some (.ok (rL rows) .strong) by rw[←hD8];exact b8 rfl);rw[S.R.1]at l2;have es:evEs G (F9 fu) [.bi .len [.var 2],.neg (.int 1),.int 10000,.bl true,.non,.str "0",.lst [.int 0],.bl false] D8=some (.ok [(.int (n:Int),.strong),(.int (-1),.strong),(.int 10000,.strong),(.bl true,.strong),(.non,.strong),(.str "0",.strong),(.lst [.int 0],.fresh),(.bl false,.strong)]):=d9 l2 rfl;have lst:=q8g es (show 8<=mostLen by decide) rfl;exact⟨_,o6 (cx:=.fresh) (x:=.lst (bads n)) lst (G6 (o6 (cx:=.strong) (show evE G (F9 fu) (.var 1) D8=some (.ok (.lst (iD xs)) .strong) by rw[←hD8];exact b8 rfl) (f7 (i:=((19:Nat):Int))) (N2 (by omega))) (f7 (i:=8)) (by decide)) ib,rfl⟩);obtain⟨c9,s9,hs9⟩:=s9;obtain⟨D9,hD9⟩:∃D,lS ns xs rows (.val (tT rows)) (.ot (.dct [] [.lst (nD A++[.int 0]),.lst []])) (.val (fD A B)) a' b' c' (.val bd)=D:=⟨_,rfl⟩;have z3:evE G (F9 fu) (.var 3) D9=some (.ok (tT rows) .strong):=by rw[←hD9];exact b8 rfl
 have z5:evE G (F9 fu) (.var 5) D9=some (.ok (fD A B) .strong):=by rw[←hD9];exact b8 rfl
 have z9:evE G (F9 fu) (.var 9) D9=some (.ok bd .strong):=by rw[←hD9];exact b8 rfl
 have f1:evE G (F9 fu) (.call 24 [.var 3,.var 9]) D9=some (.ok (.bl true) .strong):=x5 (d9 z3 (d9 z9 j1)) rfl (z0u (fu:=fu) (k:=58) (y0w (fu:=fu) (k:=55) S.R (z9z n8 bd hbd)));have o4:evE G (F9 fu) (.or [.not (.call 24 [.var 3,.var 9]),.cmp .NotEq (.call 8 [.var 3]) (.var 5)]) D9=some (.ok (.bl false) .strong):=q3N (L5 f1) (E8 (q4f (d9 z3 j1) eb) z5 (ne_2 A B));have fin:evE G (F9 fu) (.cmp .Eq (.call 8 [.call 3 [.var 3]]) (.tup [.ix (.var 5) (.int 1),.ix (.var 5) (.int 0)])) D9=some (.ok (.bl true) .strong):=E8 (q4f (d9 (x5 (f:=3) (d9 z3 j1) rfl (q6e (fu:=fu) (k:=58) rows n m S.R n0 (by omega) (by omega))) j1) ebf) (q7H (d9 (o6 (cx:=.strong) z5 (f7 (i:=1)) rfl) (d9 (o6 (cx:=.strong) z5 (f7 (i:=0)) rfl) j1)) (show 2<=mostLen by decide) rfl) (eq_2 B A);subst hδ;unfold lT V9;simp only[List.drop_succ_cons,w33];exact f8 (δ':=D3) (by rw[m7 s3 rfl,←hD3];rfl) (f8 s4 (B5 (o9 o1) (f8 (δ':=kS ns xs rows A B .no .no .no) (by rw[m7 s5 rfl,←hD4];rfl) (K8 (z0I ln (by omega)) (.inr rfl) e (f8 s7 (f8 s8 (f8 (δ':=D9) (by rw[m7 s9 hs9,←hD8,←hD9];rfl) (B5 (o9 o4) (B4 (F3 fin))))))))))
theorem z4H(ns:List Int)(hns:ns.length<=63):run G T 500 60 26 [.scr ns]=some (.v (.bl true) false):=by
 obtain⟨v2,c2⟩:=q9Q (fu:=500) (k:=58) ns 2;obtain⟨xs,hx,st⟩:=q5J (fu:=500) (k:=58) v2 20 (by omega);have a17:=N2 (r:=xs) (j:=17) (by omega);have a18:=N2 (r:=xs) (j:=18) (by omega);obtain⟨tp,t0,t10,ht⟩:∃tp:Int,0<tp/\tp<=10/\ixD (.lst [.int 2,.int 4,.int 10]) (.int (xs.getD 17 0%3))=some (.int tp):=by
  have:xs.getD 17 0%3=0\/xs.getD 17 0%3=1\/xs.getD 17 0%3=2:=by omega
  rcases this with h | h | h<;>rw[h]
  ·exact⟨2,by decide,by decide,rfl⟩
  ·exact⟨4,by decide,by decide,rfl⟩
  ·exact⟨10,by decide,by decide,rfl⟩
 obtain⟨n,m,rows,n0,n8,m0,m8,R,h9',er⟩:=z5S (fu:=500) (k:=57) ns hns tp t0;have h9:W9 rows:=λr hr x hx=>by have:=h9' r hr x hx;omega
 obtain⟨rows',hr',em⟩:=z4Q (fu:=500) (k:=58) (rows:=rows) (xs:=xs) ⟨R,h9⟩ n0 n8 m0 m8 hx;have s1:evE G (F9 500) (.call 16 [.call 15 [.var 0,.int 2],.int 20]) (o8 10 [.scr ns])=some (.ok (.lst (iD xs)) .fresh):=x5 (d9 (x5 (f:=15) (d9 (b8 (n:=0) (d:=.scr ns) rfl) (d9 (f7 (i:=2)) j1)) rfl c2) (d9 (f7 (i:=20)) j1)) rfl st;have s2:evE G (F9 500) (.call 17 [.var 0,.int 4,.ix (.lst [.int 2,.int 4,.int 10]) (.bin .Mod (.ix (.var 1) (.int 17)) (.int 3))]) [.val (.scr ns),.val (.lst (iD xs)),.no,.no,.no,.no,.no,.no,.no,.no]=some (.ok (rL rows) .fresh):=x5 (d9 (b8 rfl) (d9 (f7 (i:=4)) (d9 (o6 (cx:=.fresh) (x:=.lst [.int 2,.int 4,.int 10]) rfl (G6 (o6 (cx:=.strong) (b8 rfl) f7 a17) f7 (by decide)) ht) j1))) rfl er;have c:=λrows=>b_gt (G:=G) (F:=F9 500) (δ:=lS ns xs rows .no .no .no .no .no .no .no) (G6 (o6 (cx:=.strong) (b8 (n:=1) (d:=.lst (iD xs)) rfl) (f7 (i:=((18:Nat):Int))) a18) (f7 (i:=3)) (by decide)) (f7 (i:=0))
 have c':=λrows=>b_eq (G:=G) (F:=F9 500) (δ:=lS ns xs rows .no .no .no .no .no .no .no) (G6 (o6 (cx:=.strong) (b8 (n:=1) (d:=.lst (iD xs)) rfl) (f7 (i:=((18:Nat):Int))) a18) (f7 (i:=3)) (by decide)) (f7 (i:=2));have t2:∀rows:List (List Int),Rect n m rows->W9 rows->evSs G (F9 500) 500 (V9.body.drop 3) (lS ns xs rows .no .no .no .no .no .no .no)=some (.rt (.bl true) false):=λrows R h9=>by
  have c2:=c' rows;unfold V9;simp only[List.drop_succ_cons,w33];cases t:(xs.getD 18 0%3==2)with
  | true=>
   rw[t]at c2;exact q5b (o9 c2) (f8 (m7 (z7L rows n m R n0 (by omega) (by omega) rfl) rfl) rfl) (tail ns xs hx ⟨q7E R,q9J h9,m0,m8,n0,n8,rfl,rfl⟩ (by decide))
  | false=>
   rw[t]at c2;exact B5 (o9 c2) (tail ns xs hx ⟨R,h9,n0,n8,m0,m8,rfl,rfl⟩ (by decide))
 rw[y7 (fd:=V9) rfl rfl];unfold V9;refine C3 (f8 (m7 s1 rfl) (f8 (m7 s2 rfl) ?_));have cc:=c rows;cases t:decide (0<xs.getD 18 0%3)with
 | true=>
  rw[t]at cc;exact q5b (o9 cc) (f8 (m7 (x5 (f:=19) (d9 (b8 rfl) (d9 (b8 rfl) j1)) rfl em) rfl) rfl) (t2 rows' hr'.1 hr'.2)
 | false=>
  rw[t]at cc;exact B5 (o9 cc) (t2 rows R h9)
end
end k42
end
noncomputable section
namespace k42
open PySem PySem.W L2 PySem.Spec PyProof.Rows
section
theorem lnS{α:Type}{us:List α}{n:Nat}(h:us.length=n+1):∃a r,us=a::r/\r.length=n:=by cases us with | nil=>cases h | cons a r=>exact⟨a,r,rfl,w2z h⟩
theorem ln0{α:Type}{us:List α}(h:us.length=0):us=[]:=W1.mp h
theorem ln1{α:Type}{us:List α}(h:us.length=1):∃a0,us=[a0]:=by obtain⟨_,_,rfl,h0⟩:=lnS h;obtain rfl:=ln0 h0;exact⟨_,rfl⟩
theorem ln2{α:Type}{us:List α}(h:us.length=2):∃a0 a1,us=[a0,a1]:=by obtain⟨_,_,rfl,h0⟩:=lnS h;obtain⟨_,_,rfl,h1⟩:=lnS h0;obtain rfl:=ln0 h1;exact⟨_,_,rfl⟩
theorem ln3{α:Type}{us:List α}(h:us.length=3):∃a0 a1 a2,us=[a0,a1,a2]:=by obtain⟨_,_,rfl,h0⟩:=lnS h;obtain⟨_,_,rfl,h1⟩:=lnS h0;obtain⟨_,_,rfl,h2⟩:=lnS h1;obtain rfl:=ln0 h2;exact⟨_,_,_,rfl⟩
theorem ln4{α:Type}{us:List α}(h:us.length=4):∃a0 a1 a2 a3,us=[a0,a1,a2,a3]:=by obtain⟨_,_,rfl,h0⟩:=lnS h;obtain⟨_,_,rfl,h1⟩:=lnS h0;obtain⟨_,_,rfl,h2⟩:=lnS h1;obtain⟨_,_,rfl,h3⟩:=lnS h2;obtain rfl:=ln0 h3;exact⟨_,_,_,_,rfl⟩
def fn:List Str:=["is_int","in_lowest_terms","common_divisor","flipped","check_card","determinant","with_row","turn","base","rank","base_lines","reduced","leading_place","makeup","_law_int","_law_cell_at","_law_stream","_law_table","_law_as_table","_law_mixed","_law_divisor","_law_rising","_law_made","_law_ahead","_law_refused","_law_based","law"]
def bl:List Str:=["isinstance","int","bool","abs","tuple","range","len","enumerate","any","list","zip","min","max","sum","ValueError"]
def cl:List Str:=["TalkError","NoTable","NoCard","TooGreat"]
theorem ok0:okD fn bl cl q2M ["thing","least","most"] ["thing","least","most"] (top 1)=true:=by decide +kernel
theorem ok1:okD fn bl cl q1c ["numbers","divisor","number"] ["numbers"] (top 2)=true:=by decide +kernel
theorem ok2:okD fn bl cl q1e ["one","other","greater","lesser","rest"] ["one","other"] (top 3)=true:=by decide +kernel
theorem ok3:okD fn bl cl q3w ["table"] ["table"] (top 10)=true:=by decide +kernel
theorem ok4:okD fn bl cl q1V ["card","size"] ["card","size"] (top 11)=true:=by decide +kernel
theorem ok5:okD fn bl cl q1G ["square","sums","row"] ["square"] (top 13)=true:=by decide +kernel
theorem ok6:okD fn bl cl q2S ["sums","row","found","columns","total","column","number","wider"] ["sums","row"] (top 14)=true:=by decide +kernel
theorem ok7:okD fn bl cl q7z ["columns","column","sign","greater"] ["columns","column"] (top 15)=true:=by decide +kernel
theorem ok8:okD fn bl cl q7K ["table"] ["table"] (top 16)=true:=by decide +kernel
theorem ok9:okD fn bl cl z0D ["table"] ["table"] (top 17)=true:=by decide +kernel
theorem ok10:okD fn bl cl q2D ["lines","found","kept","index","line","rest"] ["lines"] (top 18)=true:=by decide +kernel
theorem ok11:okD fn bl cl q4H ["line","kept","rest","other","place","taken"] ["line","kept"] (top 19)=true:=by decide +kernel
theorem ok12:okD fn bl cl q1O ["line"] ["line"] (top 20)=true:=by decide +kernel
theorem ok13:okD fn bl cl V8 ["table","row","found","square","wanted","times","ints","lowest"] ["table","row"] (top 21)=true:=by decide +kernel
theorem ok14:okD fn bl cl q3M ["_law_found"] ["_law_found"] (top 23)=true:=by decide +kernel
theorem ok15:okD fn bl cl q1q ["_law_script","_law_k"] ["_law_script","_law_k"] (top 24)=true:=by decide +kernel
theorem ok16:okD fn bl cl q1C ["_law_cell","_law_many","_law_found","_law_number","_law_k"] ["_law_cell","_law_many"] (top 25)=true:=by decide +kernel
theorem ok17:okD fn bl cl q1R ["_law_script","_law_start","_law_most","_law_xs","_law_many","_law_wide","_law_words","_law_k"] ["_law_script","_law_start","_law_most"] (top 26)=true:=by decide +kernel
theorem ok18:okD fn bl cl q1i ["_law_rows"] ["_law_rows"] (top 27)=true:=by decide +kernel
theorem ok19:okD fn bl cl q2I ["_law_rows","_law_xs","_law_k","_law_at","_law_one","_law_other","_law_way"] ["_law_rows","_law_xs"] (top 28)=true:=by decide +kernel
theorem ok20:okD fn bl cl q1r ["_law_one","_law_other"] ["_law_one","_law_other"] (top 29)=true:=by decide +kernel
theorem ok21:okD fn bl cl q1D ["_law_found","_law_most","_law_last","_law_number"] ["_law_found","_law_most"] (top 30)=true:=by decide +kernel
theorem ok22:okD fn bl cl q2p ["_law_found","_law_rows","_law_some","_law_at","_law_by","_law_number","_law_c","_law_whole_sum"] ["_law_found","_law_rows","_law_some","_law_at"] (top 31)=true:=by decide +kernel
theorem ok23:okD fn bl cl q1Q ["_law_found","_law_some","_law_at","_law_number","_law_r"] ["_law_found","_law_some","_law_at"] (top 32)=true:=by decide +kernel
theorem ok24:okD fn bl cl q1t ["_law_table_here","_law_row","_law_caught","error"] ["_law_table_here","_law_row"] (top 33)=true:=by decide +kernel
theorem ok25:okD fn bl cl q1x ["_law_rows","_law_table_here","_law_found","_law_many"] ["_law_rows","_law_table_here"] (top 34)=true:=by decide +kernel
theorem ok26:okD fn bl cl V9 ["_law_script","_law_xs","_law_rows","_law_table_here","_law_found","_law_held","_law_at","_law_told","_law_again_due","_law_bad"] ["_law_script"] (top 35)=true:=by decide +kernel
abbrev ck(P:Params)(x:Str)(f:Addr)(i:Nat)(dV pm:Value)(cd:Addr):Prop:=(nsIn (kK P) mainGlobals x,(kK P).lookup f,codeIn (kK P) (.ref cd) x,keepIn (kK P) (.ref f))=(some (some (.ref f)),some (fo x i dV pm cd),true,true)
theorem ck4{P:Params}{x:Str}{f:Addr}{i:Nat}{dV pm:Value}{cd:Addr}(q:ck P x f i dV pm cd):nsIn (kK P) mainGlobals x=some (some (.ref f))/\(kK P).lookup f=some (fo x i dV pm cd)/\codeIn (kK P) (.ref cd) x=true/\keepIn (kK P) (.ref f)=true:=by
 obtain⟨a,b⟩:=Prod.mk.inj q;obtain⟨b,c⟩:=Prod.mk.inj b;exact⟨a,b,Prod.mk.inj c⟩
theorem zz(P:Params):bl.map (nsIn (kK P) mainGlobals)=bl.map λ_=>some none:=by kernel_rfl
open PySem.W
theorem all_mk{l:OpenLaw}{w:World}{h:Heap}{mg:Str->Option Value}{fa:Addr}(X:(kK w.params).In h)(Ns:h.Ns mainGlobals mg)(hfa:mg "law" = some (.ref fa)):∃fd:FuncData,(∀(s:Shared) (v:Value),BindsTo s fd ⟨[v],[]⟩ [("_law_script",v)])/\∀base:Heap,(kK w.params).In base->base.Ns mainGlobals mg->FnOk l.prog w (kK w.params) mg base CX0 60 fa fd ["_law_script"] (spS (kK w.params)):=by
 obtain⟨a0,l0,c0,k0⟩:=ck4 (P:=w.params) (x:="is_int") (f:=21) (i:=1) (dV:=.none) (pm:=(.str "talkleast.checks" 187)) (cd:=20) (by kernel_rfl);have S0:=A5 X Ns ok0 a0 l0 c0 k0 λ_ _ _ _ _ _ us hl=>by obtain⟨_,_,_,rfl⟩:=ln3 hl;rfl
 obtain⟨a1,l1,c1,k1⟩:=ck4 (P:=w.params) (x:="in_lowest_terms") (f:=26) (i:=2) (dV:=.none) (pm:=(.str "talkleast.checks" 187)) (cd:=25) (by kernel_rfl);have S1:=A5 X Ns ok1 a1 l1 c1 k1 λ_ _ _ _ _ _ us hl=>by obtain⟨_,rfl⟩:=ln1 hl;rfl
 obtain⟨a2,l2,c2,k2⟩:=ck4 (P:=w.params) (x:="common_divisor") (f:=33) (i:=3) (dV:=.none) (pm:=(.str "talkleast.checks" 187)) (cd:=32) (by kernel_rfl);have S2:=A5 X Ns ok2 a2 l2 c2 k2 λ_ _ _ _ _ _ us hl=>by obtain⟨_,_,rfl⟩:=ln2 hl;rfl
 obtain⟨a3,l3,c3,k3⟩:=ck4 (P:=w.params) (x:="flipped") (f:=87) (i:=10) (dV:=.none) (pm:=(.str "talkleast.tables" 283)) (cd:=86) (by kernel_rfl);have S3:=A5 X Ns ok3 a3 l3 c3 k3 λ_ _ _ _ _ _ us hl=>by obtain⟨_,rfl⟩:=ln1 hl;rfl
 obtain⟨a4,l4,c4,k4⟩:=ck4 (P:=w.params) (x:="check_card") (f:=94) (i:=11) (dV:=.none) (pm:=(.str "talkleast.tables" 283)) (cd:=93) (by kernel_rfl);have S4:=A5 X Ns ok4 a4 l4 c4 k4 λ_ _ _ _ _ _ us hl=>by obtain⟨_,_,rfl⟩:=ln2 hl;rfl
 obtain⟨a5,l5,c5,k5⟩:=ck4 (P:=w.params) (x:="determinant") (f:=101) (i:=13) (dV:=.none) (pm:=(.str "talkleast.ranks" 299)) (cd:=100) (by kernel_rfl);have S5:=A5 X Ns ok5 a5 l5 c5 k5 λ_ _ _ _ _ _ us hl=>by obtain⟨_,rfl⟩:=ln1 hl;rfl
 obtain⟨a6,l6,c6,k6⟩:=ck4 (P:=w.params) (x:="with_row") (f:=108) (i:=14) (dV:=.none) (pm:=(.str "talkleast.ranks" 299)) (cd:=107) (by kernel_rfl);have S6:=A5 X Ns ok6 a6 l6 c6 k6 λ_ _ _ _ _ _ us hl=>by obtain⟨_,_,rfl⟩:=ln2 hl;rfl
 obtain⟨a7,l7,c7,k7⟩:=ck4 (P:=w.params) (x:="turn") (f:=115) (i:=15) (dV:=.none) (pm:=(.str "talkleast.ranks" 299)) (cd:=114) (by kernel_rfl);have S7:=A5 X Ns ok7 a7 l7 c7 k7 λ_ _ _ _ _ _ us hl=>by obtain⟨_,_,rfl⟩:=ln2 hl;rfl
 obtain⟨a8,l8,c8,k8⟩:=ck4 (P:=w.params) (x:="base") (f:=122) (i:=16) (dV:=.none) (pm:=(.str "talkleast.ranks" 299)) (cd:=121) (by kernel_rfl);have S8:=A5 X Ns ok8 a8 l8 c8 k8 λ_ _ _ _ _ _ us hl=>by obtain⟨_,rfl⟩:=ln1 hl;rfl
 obtain⟨a9,l9,c9,k9⟩:=ck4 (P:=w.params) (x:="rank") (f:=129) (i:=17) (dV:=.none) (pm:=(.str "talkleast.ranks" 299)) (cd:=128) (by kernel_rfl);have S9:=A5 X Ns ok9 a9 l9 c9 k9 λ_ _ _ _ _ _ us hl=>by obtain⟨_,rfl⟩:=ln1 hl;rfl
 obtain⟨a10,l10,c10,k10⟩:=ck4 (P:=w.params) (x:="base_lines") (f:=134) (i:=18) (dV:=.none) (pm:=(.str "talkleast.ranks" 299)) (cd:=133) (by kernel_rfl);have S10:=A5 X Ns ok10 a10 l10 c10 k10 λ_ _ _ _ _ _ us hl=>by obtain⟨_,rfl⟩:=ln1 hl;rfl
 obtain⟨a11,l11,c11,k11⟩:=ck4 (P:=w.params) (x:="reduced") (f:=139) (i:=19) (dV:=.none) (pm:=(.str "talkleast.ranks" 299)) (cd:=138) (by kernel_rfl);have S11:=A5 X Ns ok11 a11 l11 c11 k11 λ_ _ _ _ _ _ us hl=>by obtain⟨_,_,rfl⟩:=ln2 hl;rfl
 obtain⟨a12,l12,c12,k12⟩:=ck4 (P:=w.params) (x:="leading_place") (f:=144) (i:=20) (dV:=.none) (pm:=(.str "talkleast.ranks" 299)) (cd:=143) (by kernel_rfl);have S12:=A5 X Ns ok12 a12 l12 c12 k12 λ_ _ _ _ _ _ us hl=>by obtain⟨_,rfl⟩:=ln1 hl;rfl
 obtain⟨a13,l13,c13,k13⟩:=ck4 (P:=w.params) (x:="makeup") (f:=149) (i:=21) (dV:=.none) (pm:=(.str "talkleast.ranks" 299)) (cd:=148) (by kernel_rfl);have S13:=A5 X Ns ok13 a13 l13 c13 k13 λ_ _ _ _ _ _ us hl=>by obtain⟨_,_,rfl⟩:=ln2 hl;rfl
 obtain⟨a14,l14,c14,k14⟩:=ck4 (P:=w.params) (x:="_law_int") (f:=156) (i:=23) (dV:=.none) (pm:=(.str "law_talkleast_k42_bases_and_makeups" 372)) (cd:=155) (by kernel_rfl);have S14:=A5 X Ns ok14 a14 l14 c14 k14 λ_ _ _ _ _ _ us hl=>by obtain⟨_,rfl⟩:=ln1 hl;rfl
 obtain⟨a15,l15,c15,k15⟩:=ck4 (P:=w.params) (x:="_law_cell_at") (f:=163) (i:=24) (dV:=.none) (pm:=(.str "law_talkleast_k42_bases_and_makeups" 372)) (cd:=162) (by kernel_rfl);have S15:=A5 X Ns ok15 a15 l15 c15 k15 λ_ _ _ _ _ _ us hl=>by obtain⟨_,_,rfl⟩:=ln2 hl;rfl
 obtain⟨a16,l16,c16,k16⟩:=ck4 (P:=w.params) (x:="_law_stream") (f:=170) (i:=25) (dV:=.none) (pm:=(.str "law_talkleast_k42_bases_and_makeups" 372)) (cd:=169) (by kernel_rfl);have S16:=A5 X Ns ok16 a16 l16 c16 k16 λ_ _ _ _ _ _ us hl=>by obtain⟨_,_,rfl⟩:=ln2 hl;rfl
 obtain⟨a17,l17,c17,k17⟩:=ck4 (P:=w.params) (x:="_law_table") (f:=175) (i:=26) (dV:=.none) (pm:=(.str "law_talkleast_k42_bases_and_makeups" 372)) (cd:=174) (by kernel_rfl);have S17:=A5 X Ns ok17 a17 l17 c17 k17 λ_ _ _ _ _ _ us hl=>by obtain⟨_,_,_,rfl⟩:=ln3 hl;rfl
 obtain⟨a18,l18,c18,k18⟩:=ck4 (P:=w.params) (x:="_law_as_table") (f:=180) (i:=27) (dV:=.none) (pm:=(.str "law_talkleast_k42_bases_and_makeups" 372)) (cd:=179) (by kernel_rfl);have S18:=A5 X Ns ok18 a18 l18 c18 k18 λ_ _ _ _ _ _ us hl=>by obtain⟨_,rfl⟩:=ln1 hl;rfl
 obtain⟨a19,l19,c19,k19⟩:=ck4 (P:=w.params) (x:="_law_mixed") (f:=185) (i:=28) (dV:=.none) (pm:=(.str "law_talkleast_k42_bases_and_makeups" 372)) (cd:=184) (by kernel_rfl);have S19:=A5 X Ns ok19 a19 l19 c19 k19 λ_ _ _ _ _ _ us hl=>by obtain⟨_,_,rfl⟩:=ln2 hl;rfl
 obtain⟨a20,l20,c20,k20⟩:=ck4 (P:=w.params) (x:="_law_divisor") (f:=192) (i:=29) (dV:=.none) (pm:=(.str "law_talkleast_k42_bases_and_makeups" 372)) (cd:=191) (by kernel_rfl);have S20:=A5 X Ns ok20 a20 l20 c20 k20 λ_ _ _ _ _ _ us hl=>by obtain⟨_,_,rfl⟩:=ln2 hl;rfl
 obtain⟨a21,l21,c21,k21⟩:=ck4 (P:=w.params) (x:="_law_rising") (f:=199) (i:=30) (dV:=.none) (pm:=(.str "law_talkleast_k42_bases_and_makeups" 372)) (cd:=198) (by kernel_rfl);have S21:=A5 X Ns ok21 a21 l21 c21 k21 λ_ _ _ _ _ _ us hl=>by obtain⟨_,_,rfl⟩:=ln2 hl;rfl
 obtain⟨a22,l22,c22,k22⟩:=ck4 (P:=w.params) (x:="_law_made") (f:=204) (i:=31) (dV:=.none) (pm:=(.str "law_talkleast_k42_bases_and_makeups" 372)) (cd:=203) (by kernel_rfl);have S22:=A5 X Ns ok22 a22 l22 c22 k22 λ_ _ _ _ _ _ us hl=>by obtain⟨_,_,_,_,rfl⟩:=ln4 hl;rfl
 obtain⟨a23,l23,c23,k23⟩:=ck4 (P:=w.params) (x:="_law_ahead") (f:=209) (i:=32) (dV:=.none) (pm:=(.str "law_talkleast_k42_bases_and_makeups" 372)) (cd:=208) (by kernel_rfl);have S23:=A5 X Ns ok23 a23 l23 c23 k23 λ_ _ _ _ _ _ us hl=>by obtain⟨_,_,_,rfl⟩:=ln3 hl;rfl
 obtain⟨a24,l24,c24,k24⟩:=ck4 (P:=w.params) (x:="_law_refused") (f:=216) (i:=33) (dV:=.none) (pm:=(.str "law_talkleast_k42_bases_and_makeups" 372)) (cd:=215) (by kernel_rfl);have S24:=A5 X Ns ok24 a24 l24 c24 k24 λ_ _ _ _ _ _ us hl=>by obtain⟨_,_,rfl⟩:=ln2 hl;rfl
 obtain⟨a25,l25,c25,k25⟩:=ck4 (P:=w.params) (x:="_law_based") (f:=223) (i:=34) (dV:=.none) (pm:=(.str "law_talkleast_k42_bases_and_makeups" 372)) (cd:=222) (by kernel_rfl);have S25:=A5 X Ns ok25 a25 l25 c25 k25 λ_ _ _ _ _ _ us hl=>by obtain⟨_,_,rfl⟩:=ln2 hl;rfl
 obtain⟨a26,l26,c26,k26⟩:=ck4 (P:=w.params) (x:="law") (f:=228) (i:=35) (dV:=.none) (pm:=(.str "law_talkleast_k42_bases_and_makeups" 372)) (cd:=227) (by kernel_rfl);have S26:=A5 X Ns ok26 a26 l26 c26 k26 λ_ _ _ _ _ _ us hl=>by obtain⟨_,rfl⟩:=ln1 hl;rfl
 have e:=hfa.symm.trans (mg_of X Ns a26);cases e;refine⟨_,λs v=>.of_eq rfl,λbase _ _=>z3c (T:=T) (G:=G) (fu:=500) rfl (A6 S0 (A6 S1 (A6 S2 (A6 S3 (A6 S4 (A6 S5 (A6 S6 (A6 S7 (A6 S8 (A6 S9 (A6 S10 (A6 S11 (A6 S12 (A6 S13 (A6 S14 (A6 S15 (A6 S16 (A6 S17 (A6 S18 (A6 S19 (A6 S20 (A6 S21 (A6 S22 (A6 S23 (A6 S24 (A6 S25 (A6 S26 z8e))))))))))))))))))))))))))) (λx hx=>mg_none_of X Ns (List.map_inj_left.mp (zz _) x hx)) ?_ ?_ ?_ z7e z2Z (i:=26) rfl rfl S26 z4H⟩
 ·have xa0:nsIn (kK w.params) mainGlobals "TalkError" = some (some (.ref 43)):=by kernel_rfl
  have xa1:nsIn (kK w.params) mainGlobals "NoTable" = some (some (.ref 56)):=by kernel_rfl
  have xa2:nsIn (kK w.params) mainGlobals "NoCard" = some (some (.ref 68)):=by kernel_rfl
  have xa3:nsIn (kK w.params) mainGlobals "TooGreat" = some (some (.ref 80)):=by kernel_rfl
  refine⟨q4m ⟨43,mg_of X Ns xa0,⟨by kernel_rfl,by kernel_rfl,by kernel_rfl,by kernel_rfl,by kernel_rfl,by kernel_rfl,by kernel_rfl,by kernel_rfl⟩,⟨_,_,_,[.type "ValueError",.type "Exception",.type "BaseException",.type "object"],w1Y,by kernel_rfl⟩,(H9 (t:="TalkError") (Ct:=43) (mg_of X Ns xa0) ⟨by kernel_rfl,λ_=>by kernel_rfl⟩ (H9 (t:="NoTable") (Ct:=56) (mg_of X Ns xa1) ⟨by kernel_rfl,λz=>nomatch z⟩ (H9 (t:="NoCard") (Ct:=68) (mg_of X Ns xa2) ⟨by kernel_rfl,λz=>nomatch z⟩ (H9 (t:="TooGreat") (Ct:=80) (mg_of X Ns xa3) ⟨by kernel_rfl,λz=>nomatch z⟩ q5W)))),by kernel_rfl⟩ (q4m ⟨56,mg_of X Ns xa1,⟨by kernel_rfl,by kernel_rfl,by kernel_rfl,by kernel_rfl,by kernel_rfl,by kernel_rfl,by kernel_rfl,by kernel_rfl⟩,⟨_,_,_,[.type "ValueError",.type "Exception",.type "BaseException",.type "object"],w1Y,by kernel_rfl⟩,(H9 (t:="TalkError") (Ct:=43) (mg_of X Ns xa0) ⟨by kernel_rfl,λ_=>by kernel_rfl⟩ (H9 (t:="NoTable") (Ct:=56) (mg_of X Ns xa1) ⟨by kernel_rfl,λ_=>by kernel_rfl⟩ (H9 (t:="NoCard") (Ct:=68) (mg_of X Ns xa2) ⟨by kernel_rfl,λz=>nomatch z⟩ (H9 (t:="TooGreat") (Ct:=80) (mg_of X Ns xa3) ⟨by kernel_rfl,λz=>nomatch z⟩ q5W)))),by kernel_rfl⟩ (q4m ⟨68,mg_of X Ns xa2,⟨by kernel_rfl,by kernel_rfl,by kernel_rfl,by kernel_rfl,by kernel_rfl,by kernel_rfl,by kernel_rfl,by kernel_rfl⟩,⟨_,_,_,[.type "ValueError",.type "Exception",.type "BaseException",.type "object"],w1Y,by kernel_rfl⟩,(H9 (t:="TalkError") (Ct:=43) (mg_of X Ns xa0) ⟨by kernel_rfl,λ_=>by kernel_rfl⟩ (H9 (t:="NoTable") (Ct:=56) (mg_of X Ns xa1) ⟨by kernel_rfl,λz=>nomatch z⟩ (H9 (t:="NoCard") (Ct:=68) (mg_of X Ns xa2) ⟨by kernel_rfl,λ_=>by kernel_rfl⟩ (H9 (t:="TooGreat") (Ct:=80) (mg_of X Ns xa3) ⟨by kernel_rfl,λz=>nomatch z⟩ q5W)))),by kernel_rfl⟩ (q4m ⟨80,mg_of X Ns xa3,⟨by kernel_rfl,by kernel_rfl,by kernel_rfl,by kernel_rfl,by kernel_rfl,by kernel_rfl,by kernel_rfl,by kernel_rfl⟩,⟨_,_,_,[.type "ValueError",.type "Exception",.type "BaseException",.type "object"],w1Y,by kernel_rfl⟩,(H9 (t:="TalkError") (Ct:=43) (mg_of X Ns xa0) ⟨by kernel_rfl,λ_=>by kernel_rfl⟩ (H9 (t:="NoTable") (Ct:=56) (mg_of X Ns xa1) ⟨by kernel_rfl,λz=>nomatch z⟩ (H9 (t:="NoCard") (Ct:=68) (mg_of X Ns xa2) ⟨by kernel_rfl,λz=>nomatch z⟩ (H9 (t:="TooGreat") (Ct:=80) (mg_of X Ns xa3) ⟨by kernel_rfl,λ_=>by kernel_rfl⟩ q5W)))),by kernel_rfl⟩ (z4S)))),all_cons ⟨_,mg_of X Ns xa0⟩ (all_cons ⟨_,mg_of X Ns xa1⟩ (all_cons ⟨_,mg_of X Ns xa2⟩ (all_cons ⟨_,mg_of X Ns xa3⟩ (z5O))))⟩
 ·intro x d h;exact z7b x d h
 ·intro x kvs h;exact z5i x kvs h
end
end k42
open PySem PySem.W PyProof.Rows
set_option maxRecDepth 100000 in
set_option maxHeartbeats 0 in
theorem PySem.Challenge.cw_talkleast_k42_bases_and_makeups_holds : PySem.Challenge.rw_talkleast_k42_bases_and_makeups.Holds := by
 refine holds_law (by kernel_rfl) λ said => ?_
 refine holds_open (q := k42.kQ) (loose := k42.kL) (Xt := λ s => xlAt k42.kQ [] s && recOk (RowW.records (OpenRow.toRowW (OpenLaw.row PySem.Challenge.rw_talkleast_k42_bases_and_makeups))) s) (XP := XL k42.kQ []) (Yf := (kHook k42.kK k42.kA k42.kE).obs) (Ya := (kHook k42.kK k42.kA k42.kE).val) (YP := (kHook k42.kK k42.kA k42.kE).says) (N := 3428) k42.kLeft (kHook k42.kK k42.kA k42.kE).of (kHook k42.kK k42.kA k42.kE).keeps (λ s e => xl_of s (Bool.and_eq_true_iff.mp e).1) XL.keeps (by rfl) (by rfl) (by rfl) (λ s e => recFacts_of (Bool.and_eq_true_iff.mp e).2) (by rfl) said (by decide +kernel) ⟨rfl, rfl, rfl, rfl, rfl, by decide +kernel⟩ ?hw ?hc
 case hw => w_witness2
 exact L2.walkE (l := PySem.Challenge.rw_talkleast_k42_bases_and_makeups) (k := 60) (p := "_law_script") rfl rfl ⟨rfl, by decide, by decide⟩ (λ w h Y => kIn_of Y) λ w mg fa h KX G hmg => k42.all_mk KX G hmg
end

import PyProof.Rows.All
import Wide.All
import OpenK.AllK
import Wide.FinOn
import Lean
import PyProof.EqAt
import PyProof.EqKinds
import PyProof.TupleCall
import PyProof.ExcAttrAll.ValueError
import PyProof.ZipIter
import PyProof.TupleIter
import PyProof.P3In
import PyProof.Rows.SeqMore2
import PyProof.FactsAll.tuple_3
import PyProof.FactsAll.list_3
import PyProof.Rows.Range3
import KE.KRevIter
import PyProof.Rows.FactsT2
import PySem.Builtin.Int.W1All
import KE.KSortAsk
import PyProof.SetScanFacts
import PyProof.SetKind
import PyProof.DictKinds
import PyProof.DictStraight
import PyProof.Rows.SetFrom
import PyProof.CollectWalk
import PyProof.Seq
import PyProof.DictIter
import PyProof.Rows.Tup
import PyProof.FactsAll.set_1
import PyProof.FactsAll.set_2
import PyProof.Rows.SortWalk
import PyProof.ConsumeWalk
import PyProof.Rows.SumAny
import PySem.Syntax
import PySem.Eval
import KE.KLam
import PyProof.StrWalks
import PyProof.StrOps
import PyProof.StrCalls2
import PyProof.StrLawsTight
import PyProof.StrLawsFirst
import PyProof.StrLawsChain
import PyProof.StrLawsIn
import PyProof.Rows.StrJoin2
import PyProof.Rows.StrItems
import PyProof.CallStr
import KE.KIntText
import PyProof.SliceStr2
import PyProof.StrLaws
import PyProof.StrLawsIdx
import KE.KNest
import PyProof.DictTable
import PyProof.ListRange
import PyProof.EnumMake
import KE.KMinKey
import PyProof.DictItems
import PyProof.DictItemsLoops
import PyProof.MeetsDict
import PyProof.DictWalks
import PyProof.RulesTry
import KE.KPairComp
import PySem.Challenge.RW_talkleast_k23_whole_no_plan_has_fewer
set_option compiler.extract_closed false
set_option genSizeOf false
set_option genInjectivity false
set_option bootstrap.genMatcherCode false
set_option Elab.async false
set_option linter.all false
set_option maxRecDepth 100000
set_option maxHeartbeats 4000000
set_option hygiene false
local macro_rules|`(IK)=>`((by omega))|`(IL)=>`((by decide))|`(IN)=>`(⟨.none,none,.fields #[],#[]⟩)|`(IP)=>`((s.heap.push {cls:=.type "list",data:=.seq ([]:on Is).toArray}))|`(IQ)=>`((model X.prog X.w))|`(IR)=>`((model prog w))|`(IS)=>`((flip m rows))|`(IT)=>`((by intro z;cases z))|`(IW)=>`((.str "law_talkleast_k23_whole_no_plan_has_fewer" 459))|`(IX)=>`((by simp))|`(IZ)=>`((dE X.D δ q))
local macro_rules|`(IM $a $b $c)=>`(evE G F $a δ=some (.ok $c $b))|`(IU $a)=>`((.val (.int $a)))|`(IV $a)=>`(Inv X $a σ H s)|`(IY $a)=>`((run G T fu $a))
set_option hygiene true
section
open PySem PySem.Spec PyProof.Rows
abbrev on:=@List
abbrev Ir:=@Option
abbrev Is:=@Value
abbrev Iu:=@Shared
abbrev Iv:=@Addr
abbrev Iw:=@Heap
abbrev Ix:=@Expr
abbrev Iy:=@Array
abbrev Iz:=@World
abbrev IA:=@Program
abbrev IB:=@Around
abbrev IC:=@Stmt
abbrev ID:=@FuncData
abbrev IE:=@PySem.W.Frag
abbrev IF:=@Scope
abbrev IG:=@Arguments
abbrev IH:=@SetTable
abbrev II:=@NameKind
abbrev IJ:=@String
abbrev f0:=@wpAny_bind
abbrev f9:=@Bool.and_eq_true
abbrev g6:=@List.length_map
abbrev k7:=@List.getElem?_eq_getElem
abbrev k6:=@Heap.get?_push_of_some
abbrev p6:=@List.getD_eq_getElem?_getD
abbrev o4:=@List.mem_cons_of_mem
abbrev g7:=@wpAny_pure
abbrev i7:=@List.mem_cons
abbrev g9:=@beq_iff_eq
abbrev o5:=@List.mem_cons_self
abbrev i8:=@List.mem_map
abbrev i9:=@Nat.le_trans
abbrev f8:=@if_pos
abbrev k8:=@Nat.le_refl
abbrev q0:=@List.getElem?_map
abbrev t8:=@Heap.get?_push_size
abbrev v5:=@Option.bind_eq_some_iff
abbrev n7:=@Heap.lt_size
abbrev u0:=@List.length_append
abbrev u4:=@List.mem_singleton
abbrev g8:=@if_neg
abbrev A9:=@List.getElem?_eq_some_iff
abbrev u6:=@Nat.lt_of_lt_of_le
abbrev y9:=@List.mem_append_right
abbrev r9:=@List.mem_range
abbrev u8:=@Bool.not_eq_true'
abbrev B0:=@Option.map_eq_some_iff
abbrev v3:=@List.size_toArray
abbrev A5:=@List.getElem?_set_ne
abbrev q5:=@List.map_map
abbrev w6:=@List.length_cons
abbrev B5:=@beq_eq_false_iff_ne
abbrev B6:=@Array.length_toList
abbrev t9:=@Nat.ne_of_lt
abbrev B1:=@Bool.false_ne_true
abbrev A6:=@List.length_range
abbrev B2:=@decide_eq_true_eq
abbrev B7:=@Int.toNat_natCast
abbrev D7:=@PySem.mem_of_lookup
abbrev A0:=@decide_eq_true
abbrev B8:=@List.mem_filter
abbrev F2:=@List.mem_append_left
abbrev G0:=@List.contains_iff_mem
abbrev C4:=@List.map_append
abbrev C7:=@decide_eq_false
abbrev E7:=@Int.natCast_nonneg
abbrev B3:=@List.map_cons
abbrev E8:=@wpAny_newObj_type
abbrev E2:=@Option.some.inj
abbrev J3:=@Nat.pow_le_pow_right
abbrev F3:=@List.length_take
abbrev F4:=@List.all_eq_true
abbrev E9:=@List.length_set
abbrev F0:=@Bool.or_eq_true
abbrev K9:=@Array.getElem?_toList
abbrev F5:=@List.mem_append
abbrev L0:=@List.mem_of_getElem?
abbrev L3:=@Bool.and_eq_true_iff
abbrev P3:=@List.getElem?_append_left
abbrev G6:=@List.lookup_cons
abbrev G1:=@List.append_nil
abbrev O0:=@List.getElem?_set_self
abbrev T6:=@List.exists_mem_of_length_pos
abbrev Q7:=@List.getElem?_append_right
abbrev M4:=@Heap.SameBut.update
abbrev M5:=@List.map_congr_left
abbrev K2:=@wpAny_call_entry
abbrev O1:=@Bool.or_eq_false_iff
abbrev G7:=@Heap.size_push
abbrev M6:=@List.pairwise_cons
abbrev G2:=@List.any_cons
abbrev D9:=@wpAny_mono
abbrev Q8:=@wpAny_callSpecial?_slot
abbrev T7:=@Array.getElem?_eq_getElem
abbrev M7:=@Nat.lt_succ_of_lt
abbrev M8:=@List.getElem_mem
abbrev G3:=@Nat.zero_le
abbrev T8:=@Array.getElem?_eq_none
abbrev P4:=@wpAny_setField_rec
abbrev P5:=@decide_eq_true_iff
abbrev O3:=@Option.bind_some
abbrev T9:=@List.length_singleton
abbrev G8:=@wpAny_field
abbrev W0:=@List.length_eq_zero_iff
abbrev L4:=@wpAny_holding
abbrev O4:=@List.nodup_cons
abbrev O5:=@Option.map_some
abbrev P6:=@Nat.lt_succ_self
abbrev Q9:=@List.append_assoc
abbrev M9:=@Nat.lt_irrefl
abbrev Z7:=@Option.isSome_iff_exists
abbrev aO:=@PyProof.Rows.callWith_type1
abbrev aP:=@Array.getD_eq_getD_getElem?
abbrev W1:=@Around.under_plainId
abbrev Z8:=@PySem.F.plain_min_loop
abbrev W3:=@List.replicate_succ
abbrev Z9:=@Heap.get?_update_self
abbrev aa:=@List.getElem?_eq_none
abbrev aQ:=@List.getElem?_take_of_lt
abbrev U0:=@beq_self_eq_true
abbrev U1:=@List.any_eq_true
abbrev W4:=@List.flatten_cons
abbrev U2:=@codeAny_builtin
abbrev P7:=@codeAny_mono
abbrev W5:=@List.length_drop
abbrev W6:=@List.not_mem_nil
abbrev ae:=@wpAny_Call_Name_kw
abbrev af:=@List.getElem?_drop
abbrev ag:=@Nat.lt_of_le_of_lt
abbrev R4:=@Nat.ne_of_gt
abbrev W7:=@Bool.eq_iff_iff
abbrev W8:=@PySem.W.kia_one
abbrev U3:=@plainId_quiet
abbrev bW:=@List.getElem?_replicate
abbrev bX:=@List.filter_cons_of_pos
abbrev X0:=@wpAny_setField
abbrev bY:=@Calls.callWith_builtin
abbrev bZ:=@List.length_pos_of_mem
abbrev ce:=@List.length_eq_one_iff
abbrev U4:=@Nat.le_of_lt
abbrev aR:=@wpAny_pyIter_tuple
abbrev aT:=@Obj.data_mapFields
abbrev aU:=@Bool.false_eq_true
abbrev eF:=@List.idxOf_lt_length_of_mem
abbrev eG:=@Nat.testBit_two_pow_sub_one
abbrev ah:=@wpAny_passesOwn
abbrev cf:=@wpAny_loadPart'
abbrev eH:=@F.slot_tuple_iterator_next
abbrev aV:=@wpAny_truthy_bool
abbrev aX:=@wpAny_setState_of
abbrev cg:=@Heap.get?_none_of_le
abbrev eI:=@List.getElem?_zip_eq_some
abbrev ai:=@wpAny_seqItems
abbrev X1:=@Nat.lt_or_ge
abbrev aY:=@wpAny_askSetting
abbrev aZ:=@List.filter_cons
abbrev cj:=@wpAny_setEntries_of
abbrev cn:=@Array.toList_append
abbrev eJ:=@List.filter_cons_of_neg
abbrev eK:=@PySem.F.plainAttrs_list
abbrev aj:=@wpAny_attempt
abbrev cq:=@List.mem_filterMap
abbrev ba:=@List.find?_cons
abbrev iI:=@wpAny_typeNameOfWhole_itemiter
abbrev bc:=@Int.emod_nonneg
abbrev cr:=@Int.emod_lt_of_pos
abbrev eL:=@PySem.W.cellsFrom_some
abbrev eM:=@Heap.get?_update_other
abbrev eN:=@List.length_replicate
abbrev eO:=@List.mem_iff_getElem?
abbrev O6:=@Iff.rfl
abbrev eP:=@F.slot_enumerate_next
abbrev be:=@wpAny_tryCatch
abbrev bf:=@List.nodup_nil
abbrev eQ:=@List.length_filter_le
abbrev cu:=@Nat.le_add_right
abbrev cw:=@wpAny_isInstance
abbrev cA:=@Option.getD_some
abbrev eR:=@List.mem_of_mem_take
abbrev eT:=@List.mem_of_mem_drop
abbrev eU:=@List.filterMap_cons
abbrev eV:=@List.getElem?_range
abbrev eW:=@List.length_pos_iff
abbrev eX:=@List.map_eq_nil_iff
abbrev cB:=@List.of_mem_zip
abbrev cC:=@List.nil_append
abbrev cD:=@wpAny_updateSeq
abbrev cE:=@Nat.not_lt_zero
abbrev iJ:=@List.mem_of_find?_eq_some
abbrev cF:=@Nat.min_eq_left
abbrev iK:=@Nat.ge_two_pow_of_testBit
abbrev iL:=@Classical.byContradiction
abbrev eY:=@Calls.spliced_cons
abbrev bg:=@Int.le_trans
abbrev eZ:=@List.getElem_idxOf
abbrev cG:=@wpAny_fieldsOf
abbrev cH:=@Nat.mul_le_mul
abbrev iM:=@F.plain_set_update_loop
abbrev fb:=@Calls.spliced_nil
abbrev fe:=@List.take_sublist
abbrev bh:=@wpAny_of_eq
abbrev iN:=@List.range_succ_eq_map
abbrev iO:=@List.pairwise_lt_range
abbrev bj:=@intItems_at
abbrev iP:=@List.take_of_length_le
abbrev bn:=@wpAny_letGo
abbrev iQ:=@PySem.F.entry_min_loop
abbrev iR:=@wpAny_isOneOf_itemiter
abbrev cI:=@nums_intItems
abbrev cJ:=@Bool.true_and
abbrev cK:=@List.sum_cons
abbrev X2:=@numAt_eq
abbrev X3:=@or_false
abbrev ff:=@List.mem_flatten
abbrev fg:=@Nat.zero_testBit
abbrev fh:=@List.nodup_range
abbrev iS:=@Obj.isFreed_of_fields
abbrev nO:=@PyProof.Rows.slot_tuple_getitem
abbrev iT:=@Around.frames_deeper
abbrev iU:=@Calls.evalArgs_plain
abbrev fj:=@List.foldl_cons
abbrev cL:=@Nat.succ_mul
abbrev cM:=@Nat.lt_trans
abbrev bo:=@bne_iff_ne
abbrev fk:=@Nat.two_pow_pos
abbrev nP:=@F.slot_dict_itemiterator_next
abbrev iV:=@List.filter_sublist
abbrev nQ:=@F.args_tuple_iterator_next_1
abbrev fq:=@isSubtype_stop
abbrev cN:=@sizeLine_eq
abbrev cO:=@Nat.le_succ
abbrev cP:=@Nat.one_mul
abbrev nR:=@F.entry_tuple_iterator_next
abbrev iW:=@Nat.eq_zero_or_pos
abbrev iX:=@tupleKind_room_in1
abbrev iY:=@Int.lt_of_le_of_lt
abbrev fv:=@Paired.length
abbrev nT:=@Calls.Name_function_global
abbrev fx:=@wpAny_standAt
abbrev nU:=@Int.fdiv_eq_ediv_of_nonneg
abbrev fy:=@List.cons.inj
abbrev fz:=@List.map_drop
abbrev fA:=@List.map_take
abbrev iZ:=@wpAny_pyIter_list
abbrev ja:=@Obj.cls_mapFields
abbrev jb:=@fits_of_scanBound
abbrev jc:=@wpAny_pyIter_slot
abbrev jd:=@bne_self_eq_false
abbrev je:=@List.ext_getElem?
abbrev jf:=@of_decide_eq_true
abbrev jg:=@List.Pairwise.imp
abbrev cQ:=@wpAny_Name
abbrev cR:=@wpAny_load
abbrev cS:=@wpAny_call
abbrev cT:=@wpAny_rule
abbrev nV:=@List.pairwise_iff_getElem
abbrev nW:=@List.drop_eq_getElem_cons
abbrev nX:=@Option.isNone_iff_eq_none
abbrev nY:=@PySem.F.args_tuple_add_2
abbrev fC:=@wpAny_typeOf
abbrev jh:=@Nat.le_of_not_lt
abbrev nZ:=@wpAny_comprehension_free
abbrev oa:=@PySem.F.slot_tuple_index
abbrev ji:=@List.isEmpty_nil
abbrev jk:=@List.drop_length
abbrev fD:=@List.any_map
abbrev jl:=@decide_eq_decide
abbrev jm:=@Nat.min_eq_right
abbrev oe:=@List.Nodup.idxOf_getElem
abbrev og:=@PySem.F.entry_tuple_add
abbrev oh:=@wpAny_Call_method0_late
abbrev oj:=@PySem.F.slot_list_index
abbrev ol:=@F.entry_set_update_loop
abbrev ow:=@F.args_enumerate_next_1
abbrev ox:=@PySem.F.slot_dict_items
abbrev oy:=@decide_eq_false_iff_not
abbrev jn:=@wpAny_execs_nil
abbrev cU:=@eq_of_beq
abbrev jo:=@pushCells_keeps
abbrev jp:=@List.range_succ
abbrev jq:=@List.length_nil
abbrev jr:=@wpAny_ite_split
abbrev js:=@List.find?_some
abbrev jt:=@Nat.le_antisymm
abbrev oz:=@PySem.F.slot_tuple_add
abbrev oA:=@subscriptTail_builtinR
abbrev oB:=@wpAny_Call_method_late
abbrev fE:=@Nat.log2_lt
abbrev fF:=@Int.le_refl
abbrev oC:=@F.entry_enumerate_next
abbrev oE:=@F.slot_dict_items_iter
abbrev fG:=@Nat.add_mul
abbrev oF:=@Nat.testBit_lt_two_pow
abbrev ju:=@Bool.false_and
abbrev oG:=@codeAny_call_function
abbrev oH:=@builtinLookup_eq_fast
abbrev jv:=@isSubtype_type
abbrev oI:=@List.pairwise_reverse
abbrev jw:=@Nat.add_le_add
abbrev jx:=@List.drop_zero
abbrev fH:=@call_meets
abbrev fI:=@Walks.list
abbrev jy:=@wpAny_handled
abbrev jz:=@Int.ofNat.inj
abbrev jA:=@seqIndex_neg
abbrev jC:=@Nat.add_comm
abbrev jD:=@Nat.zero_add
abbrev jF:=@Bool.or_true
abbrev jG:=@Bool.true_or
abbrev jH:=@Int.zero_add
abbrev jI:=@Nat.sub_self
end
noncomputable section
noncomputable section
namespace L2
open PySem
noncomputable def P8(s:IC):IG:=match s with
 | .FunctionDef _ a _ _ _ _ _ _ _ _=>a
 | _=>{posonlyargs:=[],args:=[],vararg:=none,kwonlyargs:=[],kw_defaults:=[],kwarg:=none,defaults:=[]}
noncomputable def L5(s:IC):on IC:=match s with
 | .FunctionDef _ _ b _ _ _ _ _ _ _=>b
 | _=>[]
noncomputable def A1(s:IC):IF:=match s with
 | .FunctionDef _ _ _ _ _ _ sc _ _ _=>sc
 | _=>{kind:=.function,names:=[],isGenerator:=false,isCoroutine:=false}
end L2
namespace k23
open PySem PySem.W L2 PySem.Spec PyProof.Rows
noncomputable def top(i:Nat):IC:=PySem.Challenge.pw_talkleast_k23_whole_no_plan_has_fewer.main.body.getD i (.Pass ⟨0,0,0,0⟩)
def fo(n:Str)(i:Nat)(dV pm:Is)(cd:Iv):Obj:=⟨.type "function",none,.func (fnOf n n (P8 (top i)) (L5 (top i)) (A1 (top i)) dV .none .none pm none (.ref cd) .none),#[]⟩
noncomputable def en(P:Params)(s:Str)(t:Nat)(v:Is):DictEntry:=⟨PyData.keyHash P s,.str s t,v⟩
noncomputable def co(n:Str)(t:Nat)(ln na fl:Int)(a b c d e:Is)(q:Int)(r:Nat):Obj:=⟨.type "code",none,.fields #[.str n t,.str n (t+1),.str "/claim/cut.py" (t+2),.int ln 0,.int na 0,.int 0 0,.int 0 0,.int fl 0,a,.bool true,.int 181 0,b,.none,c,d,e,.int q 0,.int ln 0,.str "/claim/cut.py" r],#[]⟩
def kK(P:Params):Frag:=[(3,⟨.type "dict",none,.dict #[en P "__name__" 165 IW,en P "__doc__" 166 .none,en P "__package__" 167 .none,en P "__loader__" 168 (.builtin "__main__.__loader__#opaque"),en P "__spec__" 169 .none,en P "__annotations__" 170 (.ref 6),en P "__builtins__" 171 (.ref 4),en P "__file__" 173 (.str "/claim/cut.py" 172),en P "__cached__" 174 .none,en P "is_int" 197 (.ref 21),en P "TalkError" 217 (.ref 31),en P "NoCard" 233 (.ref 44),en P "TooGreat" 249 (.ref 56),en P "SMALL_LINES" 253 (.int 5 252),en P "flipped" 259 (.ref 63),en P "cut" 268 (.ref 70),en P "check_cards" 276 (.ref 77),en P "cards_in" 282 (.ref 82),en P "crossing" 288 (.ref 87),en P "row_kinds" 294 (.ref 92),en P "column_kinds" 301 (.ref 99),en P "trimmed" 308 (.ref 106),en P "is_small" 316 (.ref 113),en P "check_small" 323 (.ref 120),en P "words_in" 332 (.ref 127),en P "bits_paper" 341 (.ref 134),en P "ends_paper" 348 (.ref 141),en P "paper" 354 (.ref 146),en P "bits_numbers" 361 (.ref 153),en P "ends_numbers" 368 (.ref 160),en P "joined_bits" 376 (.ref 167),en P "joined_ends" 384 (.ref 174),en P "least_numbers" 390 (.ref 179),en P "splits" 396 (.ref 184),en P "halves" 402 (.ref 189),en P "least_bits" 411 (.ref 196),en P "fewest_ends" 418 (.ref 203),en P "least_plan" 425 (.ref 210),en P "fewest_plan" 432 (.ref 217),en P "plan_by" 446 (.ref 224),en P "sets_of_kinds" 452 (.ref 229),en P "widened" 458 (.ref 234),en P "_law_int" 467 (.ref 241),en P "_law_cell_at" 475 (.ref 248),en P "_law_stream" 488 (.ref 255),en P "_law_core" 494 (.ref 260),en P "_law_table" 500 (.ref 265),en P "_law_reached" 510 (.ref 272),en P "_law_is_plan" 518 (.ref 279),en P "_law_deep" 525 (.ref 286),en P "_law_ends" 532 (.ref 293),en P "_law_settles" 542 (.ref 300),en P "_law_chosen" 553 (.ref 307),en P "_law_set" 564 (.ref 314),en P "_law_asked" 570 (.ref 319),en P "law" 576 (.ref 324)] 56,#[]⟩),
 (20,co "is_int" 189 2 3 3 (.ref 15) (.ref 16) (.ref 17) (.ref 18) (.ref 19) 195 196),
 (21,fo "is_int" 1 .none (.str "talkleast.checks" 187) 20),
 (62,co "flipped" 254 13 1 3 (.ref 59) (.ref 60) .none .none (.ref 61) 257 258),
 (63,fo "flipped" 8 .none (.str "talkleast.tables" 250) 62),
 (69,co "cut" 260 15 3 3 (.ref 64) (.ref 65) (.ref 66) (.ref 67) (.ref 68) 266 267),
 (70,fo "cut" 9 .none (.str "talkleast.tables" 250) 69),
 (76,co "check_cards" 269 19 2 3 (.ref 71) (.ref 72) (.ref 73) (.ref 74) (.ref 75) 274 275),
 (77,fo "check_cards" 10 .none (.str "talkleast.tables" 250) 76),
 (81,co "cards_in" 277 22 1 3 (.ref 78) (.ref 79) .none .none (.ref 80) 280 281),
 (82,fo "cards_in" 11 .none (.str "talkleast.tables" 250) 81),
 (86,co "crossing" 283 24 3 3 (.ref 83) (.ref 84) .none .none (.ref 85) 286 287),
 (87,fo "crossing" 12 .none (.str "talkleast.tables" 250) 86),
 (91,co "row_kinds" 289 26 1 3 (.ref 88) (.ref 89) .none .none (.ref 90) 292 293),
 (92,fo "row_kinds" 13 .none (.str "talkleast.tables" 250) 91),
 (98,co "column_kinds" 295 28 1 3 (.ref 93) (.ref 94) (.ref 95) (.ref 96) (.ref 97) 299 300),
 (99,fo "column_kinds" 14 .none (.str "talkleast.tables" 250) 98),
 (105,co "trimmed" 302 30 1 3 (.ref 100) (.ref 101) (.ref 102) (.ref 103) (.ref 104) 306 307),
 (106,fo "trimmed" 15 .none (.str "talkleast.tables" 250) 105),
 (112,co "is_small" 309 32 1 3 (.ref 107) (.ref 108) (.ref 109) (.ref 110) (.ref 111) 314 315),
 (113,fo "is_small" 16 .none (.str "talkleast.tables" 250) 112),
 (119,co "check_small" 317 35 1 3 (.ref 114) (.ref 115) (.ref 116) (.ref 117) (.ref 118) 321 322),
 (120,fo "check_small" 17 .none (.str "talkleast.tables" 250) 119),
 (126,co "words_in" 324 38 1 3 (.ref 121) (.ref 122) (.ref 123) (.ref 124) (.ref 125) 330 331),
 (127,fo "words_in" 18 .none (.str "talkleast.tables" 250) 126),
 (133,co "bits_paper" 335 44 1 3 (.ref 128) (.ref 129) (.ref 130) (.ref 131) (.ref 132) 339 340),
 (134,fo "bits_paper" 20 .none (.str "talkleast.parts" 333) 133),
 (140,co "ends_paper" 342 46 1 3 (.ref 135) (.ref 136) (.ref 137) (.ref 138) (.ref 139) 346 347),
 (141,fo "ends_paper" 21 .none (.str "talkleast.parts" 333) 140),
 (145,co "paper" 349 48 1 3 (.ref 142) (.ref 143) .none .none (.ref 144) 352 353),
 (146,fo "paper" 22 .none (.str "talkleast.parts" 333) 145),
 (152,co "bits_numbers" 355 50 1 3 (.ref 147) (.ref 148) (.ref 149) (.ref 150) (.ref 151) 359 360),
 (153,fo "bits_numbers" 23 .none (.str "talkleast.parts" 333) 152),
 (159,co "ends_numbers" 362 52 1 3 (.ref 154) (.ref 155) (.ref 156) (.ref 157) (.ref 158) 366 367),
 (160,fo "ends_numbers" 24 .none (.str "talkleast.parts" 333) 159),
 (166,co "joined_bits" 369 54 2 3 (.ref 161) (.ref 162) (.ref 163) (.ref 164) (.ref 165) 374 375),
 (167,fo "joined_bits" 25 .none (.str "talkleast.parts" 333) 166),
 (173,co "joined_ends" 377 56 2 3 (.ref 168) (.ref 169) (.ref 170) (.ref 171) (.ref 172) 382 383),
 (174,fo "joined_ends" 26 .none (.str "talkleast.parts" 333) 173),
 (178,co "least_numbers" 385 58 3 3 (.ref 175) (.ref 176) .none .none (.ref 177) 388 389),
 (179,fo "least_numbers" 27 .none (.str "talkleast.parts" 333) 178),
 (183,co "splits" 391 70 2 3 (.ref 180) (.ref 181) .none .none (.ref 182) 394 395),
 (184,fo "splits" 28 .none (.str "talkleast.parts" 333) 183),
 (188,co "halves" 397 74 1 3 (.ref 185) (.ref 186) .none .none (.ref 187) 400 401),
 (189,fo "halves" 29 .none (.str "talkleast.parts" 333) 188),
 (195,co "least_bits" 405 77 1 3 (.ref 190) (.ref 191) (.ref 192) (.ref 193) (.ref 194) 409 410),
 (196,fo "least_bits" 31 .none (.str "talkleast.least" 403) 195),
 (202,co "fewest_ends" 412 79 1 3 (.ref 197) (.ref 198) (.ref 199) (.ref 200) (.ref 201) 416 417),
 (203,fo "fewest_ends" 32 .none (.str "talkleast.least" 403) 202),
 (209,co "least_plan" 419 81 1 3 (.ref 204) (.ref 205) (.ref 206) (.ref 207) (.ref 208) 423 424),
 (210,fo "least_plan" 33 .none (.str "talkleast.least" 403) 209),
 (216,co "fewest_plan" 426 83 1 3 (.ref 211) (.ref 212) (.ref 213) (.ref 214) (.ref 215) 430 431),
 (217,fo "fewest_plan" 34 .none (.str "talkleast.least" 403) 216),
 (223,co "plan_by" 433 85 3 3 (.ref 218) (.ref 219) (.ref 220) (.ref 221) (.ref 222) 444 445),
 (224,fo "plan_by" 35 .none (.str "talkleast.least" 403) 223),
 (228,co "sets_of_kinds" 447 98 1 3 (.ref 225) (.ref 226) .none .none (.ref 227) 450 451),
 (229,fo "sets_of_kinds" 36 .none (.str "talkleast.least" 403) 228),
 (233,co "widened" 453 100 2 3 (.ref 230) (.ref 231) .none .none (.ref 232) 456 457),
 (234,fo "widened" 37 .none (.str "talkleast.least" 403) 233),
 (240,co "_law_int" 461 103 1 3 (.ref 235) (.ref 236) (.ref 237) (.ref 238) (.ref 239) 465 466),
 (241,fo "_law_int" 39 .none IW 240),
 (247,co "_law_cell_at" 468 105 2 3 (.ref 242) (.ref 243) (.ref 244) (.ref 245) (.ref 246) 473 474),
 (248,fo "_law_cell_at" 40 .none IW 247),
 (254,co "_law_stream" 476 109 2 3 (.ref 249) (.ref 250) (.ref 251) (.ref 252) (.ref 253) 486 487),
 (255,fo "_law_stream" 41 .none IW 254),
 (259,co "_law_core" 489 123 3 3 (.ref 256) (.ref 257) .none .none (.ref 258) 492 493),
 (260,fo "_law_core" 42 .none IW 259),
 (264,co "_law_table" 495 139 2 3 (.ref 261) (.ref 262) .none .none (.ref 263) 498 499),
 (265,fo "_law_table" 43 .none IW 264),
 (271,co "_law_reached" 501 151 3 3 (.ref 266) (.ref 267) (.ref 268) (.ref 269) (.ref 270) 508 509),
 (272,fo "_law_reached" 44 .none IW 271),
 (285,co "_law_deep" 519 168 1 3 (.ref 280) (.ref 281) (.ref 282) (.ref 283) (.ref 284) 523 524),
 (286,fo "_law_deep" 46 .none IW 285),
 (292,co "_law_ends" 526 172 1 3 (.ref 287) (.ref 288) (.ref 289) (.ref 290) (.ref 291) 530 531),
 (293,fo "_law_ends" 47 .none IW 292),
 (299,co "_law_settles" 533 176 2 3 (.ref 294) (.ref 295) (.ref 296) (.ref 297) (.ref 298) 540 541),
 (300,fo "_law_settles" 48 .none IW 299),
 (306,co "_law_chosen" 543 182 3 3 (.ref 301) (.ref 302) (.ref 303) (.ref 304) (.ref 305) 551 552),
 (307,fo "_law_chosen" 49 .none IW 306),
 (313,co "_law_set" 554 192 3 3 (.ref 308) (.ref 309) (.ref 310) (.ref 311) (.ref 312) 562 563),
 (314,fo "_law_set" 50 .none IW 313),
 (318,co "_law_asked" 565 198 6 3 (.ref 315) (.ref 316) .none .none (.ref 317) 568 569),
 (319,fo "_law_asked" 51 .none IW 318),
 (323,co "law" 571 218 1 3 (.ref 320) (.ref 321) .none .none (.ref 322) 574 575),
 (324,fo "law" 52 .none IW 323)]
noncomputable def kA:on Iv:=[3,20,21,62,63,69,70,76,77,81,82,86,87,91,92,98,99,105,106,112,113,119,120,126,127,133,134,140,141,145,146,152,153,159,160,166,167,173,174,178,179,183,184,188,189,195,196,202,203,209,210,216,217,223,224,228,229,233,234,240,241,247,248,254,255,259,260,264,265,271,272,285,286,292,293,299,300,306,307,313,314,318,319,323,324]
noncomputable def kT:Frag:=[(16,IN),(60,IN),(65,IN),(72,IN),(79,IN),(84,IN),(89,IN),(94,IN),(101,IN),(108,IN),(115,IN),(122,IN),(129,IN),(136,IN),(143,IN),(148,IN),(155,IN),(162,IN),(169,IN),(176,IN),(181,IN),(186,IN),(191,IN),(198,IN),(205,IN),(212,IN),(219,IN),(226,IN),(231,IN),(236,IN),(243,IN),(250,IN),(257,IN),(262,IN),(267,IN),(281,IN),(288,IN),(295,IN),(302,IN),(309,IN),(316,IN),(321,IN)]
def kAll(P:Params):Frag:=kT++kK P
noncomputable def kB:on Iv:=[16,60,65,72,79,84,89,94,101,108,115,122,129,136,143,148,155,162,169,176,181,186,191,198,205,212,219,226,231,236,243,250,257,262,267,281,288,295,302,309,316,321,3,20,21,62,63,69,70,76,77,81,82,86,87,91,92,98,99,105,106,112,113,119,120,126,127,133,134,140,141,145,146,152,153,159,160,166,167,173,174,178,179,183,184,188,189,195,196,202,203,209,210,216,217,223,224,228,229,233,234,240,241,247,248,254,255,259,260,264,265,271,272,285,286,292,293,299,300,306,307,313,314,318,319,323,324]
theorem kE:∀P,kB=(kAll P).map (·.1):=λ _=>by kernel_rfl
noncomputable def kQ:IA:=view PySem.Challenge.pw_talkleast_k23_whole_no_plan_has_fewer [1,3,4,5,7,8,9,10,11,12,13,14,15,16,17,18,20,21,22,23,24,25,26,27,28,29,31,32,33,34,35,36,37,39,40,41,42,43,44,45,46,47,48,49,50,51,52]
def kL:on Str:=[]
set_option maxHeartbeats 0 in
theorem kLeft:LeftO PySem.Challenge.pw_talkleast_k23_whole_no_plan_has_fewer kQ kL (λ s=>xlAt kQ [] s&&recOk (RowW.records (OpenRow.toRowW (OpenLaw.row PySem.Challenge.rw_talkleast_k23_whole_no_plan_has_fewer))) s) (kHook kAll kB kE).obs (kHook kAll kB kE).val 3964:=by
 intro w
 kernel_rfl
end k23
end
noncomputable section
namespace L2
open PySem PySem.Spec PyProof.Rows
abbrev Key:=Sum Int Str
noncomputable def bp:Key->Is->Bool
 | .inl k,v=>Value.isInt k v
 | .inr x,v=>Value.isStrOf x v
noncomputable def keyH(w:Iz):Key->Int
 | .inl k=>hashInt k
 | .inr x=>hashStr w x
theorem U5:∀{k:Key} {v:Is},bp k v=true->(∃i t,k=Sum.inl i/\v=Value.int i t)\/(∃x t,k=Sum.inr x/\v=Value.str x t)
 | .inl i,v,h=>by obtain⟨t,e⟩:=Value.isInt_shape h;exact .inl ⟨i,t,rfl,e⟩
 | .inr x,v,h=>by obtain⟨t,e⟩:=Value.isStrOf_shape h;exact .inr ⟨x,t,rfl,e⟩
theorem xg(i:Int)(t:Tok):bp (.inl i) (.int i t)=true:=by simp[bp,Value.isInt]
theorem xh(x:Str)(t:Tok):bp (.inr x) (.str x t)=true:=by simp[bp,Value.isStrOf]
theorem xi(a b:Int):decide ((Sum.inl a:Key)=Sum.inl b)=(a==b):=by
 by_cases e:a=b
 ·subst e;simp
 ·have h:¬(Sum.inl a:Key)=Sum.inl b:=λ q=>e (Sum.inl.inj q);rw[C7 h];exact(B5.mpr e).symm
theorem xj(a b:Str):decide ((Sum.inr a:Key)=Sum.inr b)=decide (a=b):=by
 by_cases e:a=b
 ·subst e;simp
 ·have h:¬(Sum.inr a:Key)=Sum.inr b:=λ q=>e (Sum.inr.inj q);rw[C7 h,C7 e]
theorem xk(a:Int)(b:Str):decide ((Sum.inl a:Key)=Sum.inr b)=false:=C7 (λ q=>nomatch q)
theorem xl(a:Str)(b:Int):decide ((Sum.inr a:Key)=Sum.inl b)=false:=C7 (λ q=>nomatch q)
def G9(prog:IA)(w:Iz):PySem.KeyKind prog w Key where
 is:=bp
 hash:=keyH w
 inj:=λ v a b ha hb=>by
  rcases U5 ha with⟨i,t,rfl,rfl⟩ | ⟨x,t,rfl,rfl⟩
  ·rcases U5 hb with⟨j,u,rfl,e⟩ | ⟨y,u,rfl,e⟩
   ·injection e with e1 _;rw[e1]
   ·exact nomatch e
  ·rcases U5 hb with⟨j,u,rfl,e⟩ | ⟨y,u,rfl,e⟩
   ·exact nomatch e
   ·injection e with e1 _;rw[e1]
 byValue:=λ k v h=>by rcases U5 h with⟨i,t,rfl,rfl⟩ | ⟨x,t,rfl,rfl⟩<;>rfl
 pyHash:=λ hv h=>by
  rcases U5 hv with⟨i,t,rfl,rfl⟩ | ⟨x,t,rfl,rfl⟩
  ·exact wpAny_pyHash_int h
  ·exact wpAny_pyHash_str h
 eqBool:=λ hu hv h=>by
  rcases U5 hu with⟨i,t,rfl,rfl⟩ | ⟨x,t,rfl,rfl⟩
  ·rcases U5 hv with⟨j,u,rfl,rfl⟩ | ⟨y,u,rfl,rfl⟩
   ·rw[xi]at h;exact wpAny_eqBool_int h
   ·rw[xk]at h;exact SeqAt.EqAt.int_str i t y u _ _ _ _ h
  ·rcases U5 hv with⟨j,u,rfl,rfl⟩ | ⟨y,u,rfl,rfl⟩
   ·rw[xl]at h;exact SeqAt.EqAt.str_int x t j u _ _ _ _ h
   ·rw[xj]at h;exact wpAny_eqBool_str h
 «strs»:=λ k x t v h=>by
  rcases U5 h with⟨i,u,rfl,e⟩ | ⟨y,u,rfl,e⟩
  ·exact nomatch e
  ·injection e with e1 _
   subst e1;cases v<;>rfl
theorem xm(prog:IA)(w:Iz)(i:Int)(t:Tok):(G9 prog w).is (.inl i) (.int i t)=true:=xg i t
theorem xn(prog:IA)(w:Iz)(x:Str)(t:Tok):(G9 prog w).is (.inr x) (.str x t)=true:=xh x t
end L2
namespace L2
open PySem PySem.Spec PyProof.Rows
inductive V where
 | non | bl (b:Bool) | int (i:Int) | str (x:Str) | byt (b:Array UInt8) | flt (b:UInt64) | ref (a:Addr) | ty (n:String)
 deriving DecidableEq
noncomputable def RelV:V->Is->Prop
 | .non,u=>u=Value.none
 | .bl b,u=>u=Value.bool b
 | .int i,u=>∃t,u=Value.int i t
 | .str x,u=>∃t,u=Value.str x t
 | .byt b,u=>∃t,u=Value.bytes b t
 | .flt b,u=>∃t,u=Value.float b t
 | .ref a,u=>u=Value.ref a
 | .ty n,u=>u=Value.type n
abbrev Vals:on V->on Is->Prop:=Paired RelV
theorem Vals.length(r:Vals xs a):xs.length=a.length:=fv r
theorem Vals.get:∀{xs:on V} {us:on Is} {i:Nat} {x:V},Vals xs us->xs[i]? = some x->∃u,us[i]? = some u/\RelV x u
 | _,_,_,_,.nil,e=>by simp at e
 | _,_,0,_,.cons r _,e=>by simp at e;subst e;exact⟨_,rfl,r⟩
 | _,_,i+1,x,.cons _ t,e=>by obtain⟨u,b,a⟩:=Vals.get t (by simpa using e);exact⟨u,by simpa using b,a⟩
theorem Vals.set(r:RelV x u):∀{xs:on V} {us:on Is} (i:Nat),Vals xs us->Vals (xs.set i x) (us.set i u)
 | _,_,_,.nil=>.nil
 | _,_,0,.cons _ t=>.cons r t
 | _,_,i+1,.cons q t=>.cons q (Vals.set r i t)
theorem Vals.append:∀{xs a:on V} {us ws:on Is},Vals xs us->Vals a ws->Vals (xs++a) (us++ws)
 | _,_,_,_,.nil,s=>s
 | _,_,_,_,.cons r t,s=>.cons r (Vals.append t s)
theorem Vals.take:∀{xs:on V} {us:on Is} (n:Nat),Vals xs us->Vals (xs.take n) (us.take n)
 | _,_,0,_=>.nil
 | _,_,_+1,.nil=>.nil
 | _,_,n+1,.cons r t=>.cons r (Vals.take n t)
theorem Vals.drop:∀{xs:on V} {us:on Is} (n:Nat),Vals xs us->Vals (xs.drop n) (us.drop n)
 | _,_,0,r=>r
 | _,_,_+1,.nil=>.nil
 | _,_,n+1,.cons _ t=>Vals.drop n t
def RelO:Ir V->Ir Is->Prop
 | some v,some u=>RelV v u
 | none,none=>True
 | _,_=>False
def KV{κ:Type}:on (κ×V)->on (κ×Is)->Prop:=Paired λ (p:κ×V) (q:κ×Is)=>p.1=q.1/\RelV p.2 q.2
noncomputable def kV:Key->V
 | .inl i=>.int i
 | .inr x=>.str x
inductive HO where
 | lst (xs:List V)
 | tup (xs:List V)
 | dK (kvs:List (Key×V)) | dT (kvs:List (List Key×V))
 | set (S:Int->Bool) (n:Nat)
 | ins (C dx:Addr) (fs:List (Str×V))
 | own (x:Addr)
 | xd (fs:List (Str×V))
 | met (f x:Addr)
 | rng (lo hi:Int)
 | frz (o:Obj) (u:HO)
 | tbl (q:Str)
 | ext (φ:Heap->Prop)
abbrev Hp:=Iv->Ir HO
noncomputable def upd(H:Hp)(a:Iv)(o:HO):Hp:=λ b=>if b=a then some o else H b
theorem x3:upd H a o a=some o:=by unfold upd;rw[f8 rfl]
theorem n6(h:b≠a):upd H a o b=H b:=by unfold upd;rw[g8 h]
theorem xo{H:Hp}(h:H a=some o)(h':H b=some u)(d:o≠u):a≠b:=by
 intro e;subst e;rw[h]at h';exact d (E2 h')
theorem A7{H:Hp}(h:H a=some o)(h':H b=none):a≠b:=by
 intro e;subst e;rw[h]at h';cases h'
def R5(h:Iw)(a:Iv)(items:Iy Is):Prop:=∃o,h.get? a=some o/\(o.cls=.type "tuple" /\ o.dict=none)/\∃n,o.data=.seq items n
theorem R5.tup(x:R5 h a items):IsTup h a items:=let ⟨o,ho,hc,r⟩:=x;⟨o,ho,hc.1,r⟩
theorem R5.lt(x:R5 h a items):a<h.objs.size:=let ⟨_,ho,_⟩:=x;n7 ho
theorem R5.new(h:Iw)(items:Iy Is):R5 (h.push {cls:=.type "tuple",data:=.seq items}) h.objs.size items:=⟨_,t8 _ rfl,⟨rfl,rfl⟩,_,rfl⟩
section
variable (P:IA) (w:Iz)
noncomputable def N0(q:Str):Bool:=q == "plan_by.<locals>.plan_of" || q == "best_right.<locals>.plan_of"
def u9(H:Hp)(h:Iw)(a:Iv):HO->Prop
 | .lst xs=>xs.length<=sizeLine/\∃(its:on Is) (n:Nat),Vals xs its/\h.get? a=some {cls:=.type "list",data:=.seq its.toArray n}
 | .tup xs=>xs.length<=sizeLine/\∃its:on Is,Vals xs its/\R5 h a its.toArray
 | .dK kvs=>kvs.length<=sizeLine/\(a==sysModules)=false/\∃vs,KV kvs vs/\h.DictOf (G9 P w) a vs
 | .dT kvs=>kvs.length<=sizeLine/\(a==sysModules)=false/\∃xs:on (on Key×Iv×Is),
   Paired (λ (p:on Key×V) (q:on Key×Iv×Is)=>p.1=q.1/\H q.2.1=some (.tup (p.1.map kV))/\RelV p.2 q.2.2) kvs xs /\
   ∃o es ep,h.get? a=some o/\o.ExactDict/\o.data=.dict es ep/\es.toList=xs.map (entryOfKey (tupleKind (G9 P w)))/\(xs.map (·.1)).Nodup
 | .set S n=>h.SetOf (intKind P w) a S n
 | .ins C dx fs=>H dx=some (.own a)/\fs.length<=1000/\dx≠a/\h.get? a=some (PySem.W.instObj C dx) /\
   ∃mA,h.Ns1 dx mA/\(∀f,RelO (fs.lookup f) (mA f))/\PySem.Within mA (fs.map (·.1))
 | .own _=>∃o,h.get? a=some o
 | .xd fs=>∃mA,h.Ns1 a mA/\∀f,RelO (fs.lookup f) (mA f)
 | .rng lo hi=>∃t u v,h.get? a=some {cls:=.type "range",data:=.fields #[.int lo t,.int hi u,.int 1 v]}
 | .frz o u=>h.get? a=some o/\u9 H h a u
 | .tbl q=>∃ps:Iy Is,h.get? a=some {cls:=.none,data:=.fields ps} /\ TriplesOk ps.toList/\∀pos cv,codeAmong pos ps.toList=some cv->∃c oc u vs t,cv=.ref c/\H c=some (.frz oc u)/\oc.data=.fields vs/\vs[1]? = some (.str q t)/\(N0 q=true->oc.cls=.type "code" /\ ∃(T:Iv) (file:Str) (tf:Tok) (flags:Int) (tg:Tok) (inF:Bool) (text:Int) (tt:Tok),vs[11]? = some (.ref T)/\vs.getD 11 .none=.ref T/\vs.getD 18 .none=.str file tf/\vs.getD 7 .none=.int flags tg/\vs.getD 9 .none=.bool inF/\vs.getD 10 .none=.int text tt/\c≠T/\H T=some (.tbl (q ++ ".<locals>." ++ "<lambda>")))
 | .met f x=>h.get? a=some (PySem.W.methodObj (.ref f) (.ref x))
 | .ext φ=>φ h/\(∃o,h.get? a=some o)/\∀h1 h2:Iw,φ h1->(∀o,h1.get? a=some o->h2.get? a=some o)->φ h2
def HOk(H:Hp)(h:Iw):Prop:=∀a o,H a=some o->u9 P w H h a o
end
theorem u9.lt(x:u9 P w H h a o):a<h.objs.size:=by
 cases o with
 | lst c=>obtain⟨_,_,_,_,e⟩:=x;exact n7 e
 | tup c=>obtain⟨_,_,_,p⟩:=x;exact p.lt
 | dK b=>obtain⟨_,_,_,_,o,_,_,e,_⟩:=x;exact n7 e
 | dT b=>obtain⟨_,_,_,_,o,_,_,e,_⟩:=x;exact n7 e
 | set S n=>obtain⟨o,_,_,_,e,_⟩:=x;exact n7 e
 | ins C dx fs=>obtain⟨_,_,_,e,_⟩:=x;exact n7 e
 | own y=>obtain⟨_,e⟩:=x;exact n7 e
 | xd fs=>obtain⟨_,⟨_,_,_,e,_⟩,_⟩:=x;exact n7 e
 | rng lo hi=>obtain⟨_,_,_,e⟩:=x;exact n7 e
 | frz ob u=>obtain⟨e,_⟩:=x;exact n7 e
 | tbl q=>obtain⟨_,e,_⟩:=x;exact n7 e
 | met f y=>exact n7 (x)
 | ext φ=>obtain⟨_,⟨_,e⟩,_⟩:=x;exact n7 e
theorem Paired.mapP:∀{c:on e} {l₂:on d},Paired F c l₂->(∀a b,F a b->G a b)->Paired G c l₂
 | _,_,.nil,_=>.nil
 | _,_,.cons r t,f=>.cons (f _ _ r) (Paired.mapP t f)
theorem u9.stay(x:u9 P w H h a o)(k:∀b u,(b=a\/H b=some (.own a))->h.get? b=some u->h'.get? b=some u)
  (ho:∀b,H b=some (.own a)->B b=some (.own a)) (ht:∀b xs,H b=some (.tup xs)->B b=some (.tup xs)) (hy:∀b q,H b=some (.tbl q)->B b=some (.tbl q)) (hz:∀b o u vs,o.data=.fields vs->H b=some (.frz o u)->B b=some (.frz o u)):u9 P w B h' a o:=by
 induction o with
 | lst xs=>obtain⟨z,l,n,r,e⟩:=x;exact⟨z,l,n,r,k _ _ (.inl rfl) e⟩
 | tup xs=>obtain⟨z,l,r,g,e,c⟩:=x;exact⟨z,l,r,g,k _ _ (.inl rfl) e,c⟩
 | dK J=>obtain⟨z,y,vs,r,g,i,j,e,c⟩:=x;exact⟨z,y,vs,r,g,i,j,k _ _ (.inl rfl) e,c⟩
 | dT J=>
  obtain⟨z,y,xs,r,g,i,j,e,c⟩:=x;exact⟨z,y,xs,Paired.mapP r λ p q z=>⟨z.1,ht _ _ z.2.1,z.2.2⟩,g,i,j,k _ _ (.inl rfl) e,c⟩
 | set S n=>obtain⟨g,i,j,t,e,c⟩:=x;exact⟨g,i,j,t,k _ _ (.inl rfl) e,c⟩
 | ins C dx fs=>
  obtain⟨d,z,ne,e,I,⟨F,i,j,L,c⟩,r⟩:=x;exact⟨ho _ d,z,ne,k _ _ (.inl rfl) e,I,⟨F,i,j,k _ _ (.inr d) L,c⟩,r⟩
 | own y=>obtain⟨g,e⟩:=x;exact⟨g,k _ _ (.inl rfl) e⟩
 | xd fs=>obtain⟨I,⟨F,i,j,e,c⟩,r⟩:=x;exact⟨I,⟨F,i,j,k _ _ (.inl rfl) e,c⟩,r⟩
 | rng lo hi=>obtain⟨t,u,v,e⟩:=x;exact⟨t,u,v,k _ _ (.inl rfl) e⟩
 | frz g u ih=>obtain⟨e,q⟩:=x;exact⟨k _ _ (.inl rfl) e,ih q⟩
 | tbl q=>
  obtain⟨ps,e,t,f⟩:=x;refine⟨ps,k a _ (.inl rfl) e,t,λ E cv z=>?_⟩;obtain⟨c,oc,u,vs,t',e1,L,N,e4,e5⟩:=f E cv z;refine⟨c,oc,u,vs,t',e1,hz _ _ _ _ N L,N,e4,λ y=>?_⟩;obtain⟨y0,T,A,tf,m,tg,K,s,tt,Z,Y,X,W,U,R,Q,O⟩:=e5 y;exact⟨y0,T,A,tf,m,tg,K,s,tt,Z,Y,X,W,U,R,Q,hy _ _ O⟩
 | met f y=>
  have e:=x;show h'.get? a=some _;exact k a _ (.inl rfl) e
 | ext φ=>obtain⟨p,⟨o,e⟩,M⟩:=x;exact⟨M _ _ p λ o q=>k _ _ (.inl rfl) q,⟨o,k _ _ (.inl rfl) e⟩,M⟩
theorem HOk.lt(x:HOk P w H h)(e:H a=some o):a<h.objs.size:=(x a o e).lt
theorem HOk.fresh(x:HOk P w H h)(e:h.objs.size<=a):H a=none:=by
 cases q:H a with
 | none=>rfl
 | some u=>exact absurd (u6 (x.lt q) e) (M9 _)
theorem HOk.kept(x:HOk P w H h)(k:∀b u,h.get? b=some u->h'.get? b=some u):HOk P w H h':=λ a o e=>
 (x a o e).stay (λ b u _ q=>k b u q) (λ _ q=>q) (λ _ _ q=>q) (λ _ _ q=>q) λ _ _ _ _ _ q=>q
theorem HOk.laid(x:HOk P w H h)(k:∀b u,h.get? b=some u->h'.get? b=some u)(i:h.objs.size<=a)(new:u9 P w (upd H a o) h' a o):HOk P w (upd H a o) h':=λ b u e=>by
 have d:=x.fresh i;by_cases f:b=a
 ·subst f;rw[x3]at e;cases e;exact new
 ·rw[n6 f]at e;exact(x b u e).stay (λ c v _ q=>k c v q) (λ c q=>by rw[n6 (A7 q d)];exact q) (λ c g q=>by rw[n6 (A7 q d)];exact q) (λ c g q=>by rw[n6 (A7 q d)];exact q) λ c _ _ _ _ q=>by rw[n6 (A7 q d)];exact q
def Rd(H:Hp)(a:Iv)(u:HO):Prop:=H a=some u\/∃o,H a=some (.frz o u)
theorem Rd.ok(r:Rd H a u)(x:HOk P w H h):u9 P w H h a u:=by
 rcases r with r | ⟨o,r⟩
 ·exact x a u r
 ·obtain⟨_,q⟩:=x a _ r;exact q
noncomputable def Mut:Ir HO->Prop
 | some (.lst _)=>True
 | some (.dK _)=>True
 | some (.dT _)=>True
 | some (.set _ _)=>True
 | some (.ins _ _ _)=>True
 | some (.ext _)=>True
 | _=>False
theorem HOk.write(ok:HOk P w H h)(f:Mut (H x))(s:e=x\/H e=some (.own x))(k:∀b u,b≠e->h.get? b=some u->h'.get? b=some u)(n:∃u,h'.get? e=some u)
  (new:u9 P w (upd H x m) h' x m):HOk P w (upd H x m) h':=λ b u q=>by
 have d:∀c y,H c=some (.own y)->c≠x:=λ c y r z=>by subst z;rw[r]at f;exact f
 have i:∀c g,H c=some (.tup g)->c≠x:=λ c g r z=>by subst z;rw[r]at f;exact f
 by_cases l:b=x
 ·subst l;rw[x3]at q;cases q;exact new
 ·rw[n6 l]at q;by_cases a:b=e
  ·have p:H b=some (.own x):=by
    rcases s with z | z
    ·exact absurd (a.trans z) l
    ·rw[a];exact z
   rw[q]at p;cases p;obtain⟨v,hv⟩:=n;exact⟨v,by rw[a];exact hv⟩
  ·refine(ok b u q).stay (λ c v j r=>k c v ?_ r) (λ c r=>by rw[n6 (d c b r)];exact r) (λ c g r=>by rw[n6 (i c g r)];exact r) (λ c g r=>by rw[n6 λ z=>by subst z;rw[r]at f;exact f];exact r) λ c o v _ _ r=>by rw[n6 λ z=>by subst z;rw[r]at f;exact f];exact r
   rcases j with rfl | j
   ·exact a
   ·rintro rfl
    rcases s with z | z
    ·exact d c b j z
    ·rw[j]at z;cases z;exact l rfl
structure Un(fs ex:List Addr)(H H':Hp)(h h':Heap):Prop where
 keep:∀b o,h.get? b=some o->H b=none->b∉fs->b∉ex->h'.get? b=some o
 slot:∀b o,h.get? b=some o->H b=none->b∈fs->b∉ex->∃sl,h'.get? b=some {o with slots:=sl}
 free:∀b o,h.get? b=some o->H b=none->b∉ex->H' b=none
 there:∀b o,h.get? b=some o->b∉ex->∃o',h'.get? b=some o'
 tups:∀b xs,H b=some (.tup xs)->H' b=some (.tup xs)
 frzs:∀b o u,H b=some (.frz o u)->H' b=some (.frz o u)
 tbls:∀b q,H b=some (.tbl q)->H' b=some (.tbl q)
theorem Un.any(u:Un fs ex H g h e)(q:h.get? b=some a)(n:H b=none)(c:b∉ex):∃f,e.get? b=some {a with slots:=f}:=by
 by_cases d:b∈fs
 ·exact u.slot b a q n d c
 ·exact⟨a.slots,u.keep b a q n d c⟩
theorem Un.kept(k:∀b u,h.get? b=some u->h'.get? b=some u):Un fs ex H H h h':=
 ⟨λ b a q _ _ _=>k b a q,λ b a q _ _ _=>⟨a.slots,k b a q⟩,λ _ _ _ n _=>n,λ b a q _=>⟨a,k b a q⟩,λ _ _ q=>q,λ _ _ _ q=>q,λ _ _ q=>q⟩
theorem Un.refl:Un fs ex H H h h:=Un.kept λ _ _ q=>q
theorem Un.laid(k:∀b u,h.get? b=some u->h'.get? b=some u)(e:h.objs.size<=a)(c:H a=none):Un fs ex H (upd H a o) h h' where
 keep:=λ b u q _ _ _=>k b u q
 slot:=λ b u q _ _ _=>⟨u.slots,k b u q⟩
 free:=λ b u q n _=>by rw[n6 (t9 (u6 (n7 q) e))];exact n
 there:=λ b u q _=>⟨u,k b u q⟩
 tups:=λ b d q=>by rw[n6 (A7 q c)];exact q
 frzs:=λ b u d q=>by rw[n6 (A7 q c)];exact q
 tbls:=λ b ps q=>by rw[n6 (A7 q c)];exact q
theorem Un.write(c:Mut (H x))(m:e=x\/H e=some (.own x))(k:∀b u,b≠e->h.get? b=some u->h'.get? b=some u)(f:∃u,h'.get? e=some u):Un fs ex H (upd H x o) h h':=by
 have g:∀b,H b=none->b≠x:=λ b n z=>by subst z;rw[n]at c;exact c
 have i:∀b,H b=none->b≠e:=λ b n z=>by
  subst z;rcases m with r | r
  ·exact g b n r
  ·rw[n]at r;cases r
 have d:∀b u,H b=some u->¬Mut (some u)->b≠x:=λ b u q l z=>by subst z;rw[q]at c;exact l c
 refine⟨λ b u q n _ _=>k b u (i b n) q,λ b u q n _ _=>⟨u.slots,k b u (i b n) q⟩,λ b u q n _=>by rw[n6 (g b n)];exact n,λ b u q _=>?_,
  λ b j q=>by rw[n6 (d b _ q λ z=>z)];exact q,λ b u j q=>by rw[n6 (d b _ q λ z=>z)];exact q,λ b ps q=>by rw[n6 (d b _ q λ z=>z)];exact q⟩
 by_cases a:b=e
 ·subst a;exact f
 ·exact⟨u,k b u a q⟩
noncomputable def trk(h:Iw)(H:Hp):on Iv:=(List.range h.objs.size).filter λ a=>(H a).isSome
def hidT(h:Iw)(H:Hp):Iw:=PySem.W.hideAll h (trk h H)
theorem xp(h:Iw)(H:Hp):(hidT h H).objs.size=h.objs.size:=PySem.W.hideAll_size _ _
theorem xq(e:h.get? b=some o)(n:H b=none):(hidT h H).get? b=some o:=
 PySem.W.hideAll_get _ e λ a=>by have q:=(B8.mp a).2;rw[n]at q;simp at q
theorem xr(e:(hidT h H).get? b=some o):h.get? b=some o/\H b=none:=by
 have a:=PySem.W.of_hideAll _ e;refine⟨a,?_⟩;cases q:H b with
 | none=>rfl
 | some x=>
  have z:(hidT h H).get? b=none:=PySem.W.hideAll_none _ (B8.mpr ⟨r9.mpr (n7 a),by simp[q]⟩);rw[z]at e;cases e
noncomputable def xt(g h:Iw)(L:Iv):on (Iv×Obj):=(List.range h.objs.size).filterMap λ a=>if a=L\/(g.get? a).isSome=true then none else(h.get? a).map λ o=>(a,o)
def rest(g h:Iw)(L d:Iv):on (Iv×Obj):=(xt g h L).filter λ p=>decide (p.1≠d)
end L2
namespace L2
open PySem PySem.Spec PyProof.Rows
structure Mod(K:PySem.W.Frag)(mg:Str->Option Value)(base:Heap):Prop where
 kin:K.In base
 glob:base.Ns mainGlobals mg
 blt:∃mb,base.Ns builtinsNs mb/\∀x:Str,x ≠ "__name__" -> mb x=bootBuiltins x
 nolimit:base.NoLimit
 bmod:∃bm ob,mg "__builtins__" = some (.ref bm)/\bm≠builtinsNs/\base.get? bm=some ob/\ob.cls=.type "module" /\ ob.dict=some builtinsNs/\ob.data=.plain
set_option genInjectivity true in
structure Cx where
 prog:Program
 w:World
 K:PySem.W.Frag
 mg:Str->Option Value
 base:Heap
 A:Around
 N:List Str
 s₀:Shared
 H₀:Hp
 env:Env
 outer:List Env
 stack:List Env
 ex:List Addr
 fn:Str->Bool
 calm:Bool
 pn:List (Addr×Obj)
 xe:Value->Shared->Prop
def tagQ(q:Str):Str:=if N0 (q ++ ".<locals>." ++ "plan_of")then q ++ ".<locals>." ++ "plan_of" else q ++ ".<locals>." ++ "<lambda>"
def A2(K:IE):on (Iv×Str):=K.filterMap λ p=>match p.2.cls,p.2.data with
 | .type "code",.fields vs=>(match(vs[11]?:Ir Is),(vs[1]?:Ir Is)with
  | some (.ref P),some (.str q _)=>if(K.lookup P).isNone then some (P,tagQ q)else none
  | _,_=>none)
 | _,_=>none
def cV(K:IE)(H:Hp):Prop:=∀p∈A2 K,H p.1=some (.tbl p.2)
noncomputable def frs(l:on Env):on Iv:=l.filterMap (·.frame)
abbrev Cx.fs(X:Cx):on Iv:=frs X.outer
def Vis(sc:IF)(x:Str):Prop:=sc.names.lookup x=some .local\/sc.names.lookup x=some .cell\/sc.names.lookup x=some .free
def Loc(sc:IF)(x:Str):Prop:=sc.names.lookup x=some .local\/sc.names.lookup x=some .cell
def Look(env:Env)(h:Iw)(m:Str->Ir Is)(x:Str)(u:Is):Prop:=
 (env.kindOf x=some .local/\m x=some u)\/((env.kindOf x=some .cell\/env.kindOf x=some .free)/\∃c,env.cells.lookup x=some c/\h.IsCell c (some u))
structure Cx.Ok(X:Cx):Prop where
 mod:Mod X.K X.mg X.base
 kind:X.env.scope.kind=.function
 glob:X.env.globals=mainGlobals
 blt:X.env.builtins=builtinsNs
 above:X.s₀.heap.objs.size<=X.env.locals
 inj:∀x y c,X.env.cells.lookup x=some c->X.env.cells.lookup y=some c->x=y
 has:∀x,(X.env.kindOf x=some .cell\/X.env.kindOf x=some .free)->∃c,X.env.cells.lookup x=some c
 cab:∀x c,X.fn x=true->X.env.cells.lookup x=some c->X.s₀.heap.objs.size<=c
 hd:X.calm=true->X.A.handled=none
 frames:X.A.frames=some X.stack
 stk:X.stack=X.outer\/(X.stack=X.env::X.outer/\X.env.frame=some X.env.locals)
 exf:∀b∈X.ex,b≠X.env.locals/\∀x c,X.env.cells.lookup x=some c->c≠b
 bs:∀b o,X.base.get? b=some o->X.s₀.heap.get? b=some o/\X.H₀ b=none
 bsz:X.base.objs.size<=X.s₀.heap.objs.size
 noex:∀b o,X.base.get? b=some o->b∉X.ex
 exfs:∀b∈X.ex,b∉X.fs
 funs:X.s₀.heap.FunFrames X.base X.outer
 frf:(∀b∈X.fs,X.H₀ b=none)/\cV X.K X.H₀
structure Inv(X:Cx)(pins:List (Addr×Obj))(σ:List (Option V))(H:Hp)(s:Shared):Prop where
 ok:X.Ok
 os:s.os=X.s₀.os
 bare:AllBare s.gens
 base:Un X.fs X.ex X.H₀ H X.s₀.heap s.heap
 loc:∃m,s.heap.Ns X.env.locals m/\∀(i:Nat) (x:Str) (v:V),X.N[i]? = some x->σ[i]? = some (some v)->Vis X.env.scope x->∃u,RelV v u/\Look X.env s.heap m x u
 cell:∀x c,X.env.cells.lookup x=some c->∃v,s.heap.IsCell c v
 free:H X.env.locals=none
 freeC:∀x c,X.env.cells.lookup x=some c->H c=none
 pin:∀p∈X.pn++pins,s.heap.get? p.1=some p.2/\H p.1=none/\p.1≠X.env.locals/\p.1∉X.fs/\∀v,p.2.data ≠ .cell v
 hok:HOk X.prog X.w H s.heap
 len:σ.length=X.N.length
theorem Cx.Ok.nofr{X:Cx}(ok:X.Ok)(e:X.base.get? b=some o):b∉X.fs:=λ a=>by
 have:=(ok.funs.mem a).1;rw[e]at this;cases this
theorem Inv.bs(I:IV a):∀b o,X.base.get? b=some o->s.heap.get? b=some o/\H b=none:=λ b o e=>
 ⟨I.base.keep b o (I.ok.bs b o e).1 (I.ok.bs b o e).2 (I.ok.nofr e) (I.ok.noex b o e),I.base.free b o (I.ok.bs b o e).1 (I.ok.bs b o e).2 (I.ok.noex b o e)⟩
theorem Inv.bk(I:IV a):∀b o,X.base.get? b=some o->s.heap.get? b=some o:=λ b o e=>(I.bs b o e).1
theorem Inv.mod(I:IV a):Mod X.K X.mg X.base:=I.ok.mod
theorem Inv.tabs(I:IV a):cV X.K H:=λ p b=>I.base.tbls p.1 p.2 (I.ok.frf.2 p b)
theorem Inv.kIn(I:IV a):X.K.In s.heap:=I.ok.mod.kin.keeps I.bk
theorem Inv.lt(I:IV a):X.env.locals<s.heap.objs.size:=let ⟨_,hn,_⟩:=I.loc;hn.lt
theorem Inv.sz(I:IV a):X.s₀.heap.objs.size<=s.heap.objs.size:=i9 I.ok.above (U4 I.lt)
theorem Inv.nofs(I:IV b)(h:s.heap.objs.size<=a):a∉X.fs:=λ d=>by
 obtain⟨_,o,c,_⟩:=I.ok.funs.mem d
 exact absurd (u6 (n7 c) (i9 I.sz h)) (M9 _)
theorem Inv.cne(I:IV a):∀x c,X.env.cells.lookup x=some c->c≠X.env.locals:=λ x c e z=>by
 obtain⟨v,o,f,hd⟩:=I.cell x c e;obtain⟨m,⟨o',es,ep,b,d,_⟩,_⟩:=I.loc;rw[z,b]at f;cases f;rw[d]at hd;cases hd
theorem Inv.funs(I:IV a):s.heap.FunFrames X.base X.outer:=by
 have all:∀(l:on Env),(∀b∈frs l,b∈X.fs)->X.s₀.heap.FunFrames X.base l->s.heap.FunFrames X.base l:=by
  intro l
  induction l with
  | nil=>intro _ _;trivial
  | cons p r h=>
   intro g m;obtain⟨n,⟨L,o,c,k,j,hd⟩,i⟩:=m;have f:=g L (by unfold frs;rw[eU,c];exact o5);obtain⟨sl,e⟩:=I.base.slot L o j (I.ok.frf.1 L f) f λ z=>I.ok.exfs L z f
   exact⟨n,⟨L,_,c,k,e,hd⟩,h (λ b d=>g b (by unfold frs;rw[eU,c];exact o4 _ d)) i⟩
 exact all X.outer (λ _ d=>d) I.ok.funs
theorem Inv.stack(I:IV a):s.heap.FunFrames X.base X.stack:=by
 rcases I.ok.stk with e | ⟨e,hf⟩
 ·rw[e];exact I.funs
 ·rw[e];obtain⟨m,b,_⟩:=I.loc;refine .cons (by rw[I.ok.kind];decide) hf b ?_ I.funs
  exact cg (i9 I.ok.bsz I.ok.above)
theorem Inv.stkSub(I:IV c):∀b∈frs X.stack,b∈X.env.locals::X.fs:=λ b a=>by
 rcases I.ok.stk with e | ⟨e,hf⟩
 ·rw[e]at a;exact o4 _ a
 ·rw[e]at a;unfold frs at a;rw[eU,hf]at a;exact a
theorem Inv.stkFree(I:IV a):∀b∈frs X.stack,H b=none:=λ b c=>by
 rcases i7.mp (I.stkSub b c)with e | c
 ·rw[e];exact I.free
 ·obtain⟨_,o,d,_⟩:=I.ok.funs.mem c
  exact I.base.free b o d (I.ok.frf.1 b c) λ z=>I.ok.exfs b z c
theorem Inv.step{ch:on Iv}(I:IV f)
  (j:∀b∈ch,(b∈X.ex\/X.s₀.heap.objs.size<=b)/\b≠X.env.locals/\(∀x c,X.env.cells.lookup x=some c->c≠b)/\∀p∈X.pn++f,p.1≠b)
  (h:∀b o,b≠X.env.locals->b∉X.fs->b∉ch->s.heap.get? b=some o->H b=none->h'.get? b=some o)
  (slot:∀b o,b≠X.env.locals->b∈X.fs->b∉ch->s.heap.get? b=some o->H b=none->∃P,h'.get? b=some {o with slots:=P}) (free:∀b o,b∉ch->s.heap.get? b=some o->H b=none->F b=none)
  (A:∀b o,b∉ch->s.heap.get? b=some o->∃L,h'.get? b=some L)
  (J:∀b xs,H b=some (.tup xs)->F b=some (.tup xs)) (N:∀b o u,H b=some (.frz o u)->F b=some (.frz o u)) (K:∀b q,H b=some (.tbl q)->F b=some (.tbl q))
  (ns:∀m,s.heap.Ns X.env.locals m->h'.Ns X.env.locals m) (Q:HOk X.prog X.w F h') (hg:AllBare Y) :
  Inv X f σ F {s with heap:=h',gens:=Y,drawn:=d',toks:=t'}:=by
 have M:∀b o,X.s₀.heap.get? b=some o->b≠X.env.locals:=λ b o e=>t9 (u6 (n7 e) I.ok.above);have y:∀b o,X.s₀.heap.get? b=some o->b∉X.ex->b∉ch:=λ b o e a B=>by
  rcases(j b B).1 with z | z
  ·exact a z
  ·exact absurd (u6 (n7 e) z) (M9 _)
 have w:∀x c,X.env.cells.lookup x=some c->∀v,s.heap.IsCell c v->h'.IsCell c v:=λ x c e v ⟨o,E,hd⟩=>by
  have g:c∉ch:=λ z=>(j c z).2.2.1 x c e rfl;by_cases W:c∈X.fs
  ·obtain⟨P,q⟩:=slot c o (I.cne x c e) W g E (I.freeC x c e);exact⟨_,q,hd⟩
  ·exact⟨o,h c o (I.cne x c e) W g E (I.freeC x c e),hd⟩
 refine⟨I.ok,I.os,hg,⟨λ b o e n B a=>?_,λ b o e n B a=>?_,λ b o e n a=>?_,λ b o e a=>?_,λ b xs e=>J b xs (I.base.tups b xs e),λ b o xs e=>N b o xs (I.base.frzs b o xs e),λ b ps e=>?_⟩,?_,λ x c e=>?_,?_,λ x c e=>?_,λ p U=>?_,Q,I.len⟩
 ·exact h b o (M b o e) B (y b o e a) (I.base.keep b o e n B a) (I.base.free b o e n a)
 ·obtain⟨P,C⟩:=I.base.slot b o e n B a;obtain⟨O,R⟩:=slot b _ (M b o e) B (y b o e a) C (I.base.free b o e n a);exact⟨O,R⟩
 ·obtain⟨L,C⟩:=I.base.there b o e a;exact free b L (y b o e a) C (I.base.free b o e n a)
 ·obtain⟨L,C⟩:=I.base.there b o e a;exact A b L (y b o e a) C
 ·exact K b ps (I.base.tbls b ps e)
 ·obtain⟨m,Z,hl⟩:=I.loc;refine⟨m,ns m Z,λ i x v C R e3=>?_⟩;obtain⟨u,r,l⟩:=hl i x v C R e3;refine⟨u,r,?_⟩;rcases l with l | ⟨k,c,e,z⟩
  ·exact .inl l
  ·exact .inr ⟨k,c,e,w x c e _ z⟩
 ·obtain⟨v,z⟩:=I.cell x c e;exact⟨v,w x c e v z⟩
 ·obtain⟨m,⟨o,_,_,E,_⟩,_⟩:=I.loc;exact free _ o (λ z=>(j _ z).2.1 rfl) E I.free
 ·obtain⟨v,o,E,hd⟩:=I.cell x c e;exact free c o (λ z=>(j c z).2.2.1 x c e rfl) E (I.freeC x c e)
 ·obtain⟨e,n,ne,S,d⟩:=I.pin p U;have g:p.1∉ch:=λ z=>(j p.1 z).2.2.2 p U rfl
  exact⟨h p.1 p.2 ne S g e n,free p.1 p.2 g e n,ne,S,d⟩
theorem Inv.un(I:IV a)(u:Un X.fs [] H i s.heap h')(d:HOk X.prog X.w i h'):Inv X a σ i {s with heap:=h',toks:=t'}:=by
 obtain⟨m,⟨o,es,ep,j,r⟩,_⟩:=id I.loc;obtain⟨sl,p⟩:=u.any j I.free IX;exact I.step (ch:=[]) (λ _ z=>nomatch z) (λ b o _ f _ e n=>u.keep b o e n f IX) (λ b o _ f _ e n=>u.slot b o e n f IX) (λ b o _ e n=>u.free b o e n IX) (λ b o _ e=>u.there b o e IX) u.tups u.frzs u.tbls (λ m' l=>by
  obtain⟨o',g,h,c,k⟩:=l;rw[j]at c;cases c;exact⟨_,g,h,p,k⟩) d I.bare
theorem Inv.call(I:IV a)(u:Un (frs X.stack) ch H l s.heap h')(h:HOk X.prog X.w l h')(A:AllBare v)
  (g:∀b∈ch,(b∈X.ex\/X.s₀.heap.objs.size<=b)/\b≠X.env.locals/\(∀x c,X.env.cells.lookup x=some c->c≠b)/\∀p∈X.pn++a,p.1≠b) :
  Inv X a σ l {s with heap:=h',gens:=v,drawn:=C,toks:=t'}:=by
 obtain⟨m,⟨o,es,ep,q,r⟩,_⟩:=id I.loc;obtain⟨sl,i⟩:=u.any q I.free λ z=>(g _ z).2.1 rfl
 exact I.step g (λ b o i B d e n=>u.keep b o e n (λ z=>(i7.mp (I.stkSub b z)).elim i B) d) (λ b o _ _ d e n=>u.any e n d) (λ b o d e n=>u.free b o e n d) (λ b o d e=>u.there b o e d) u.tups u.frzs u.tbls (λ m' y=>by
  obtain⟨o',j,k,f,w⟩:=y;rw[q]at f;cases f;exact⟨_,j,k,i,w⟩) h A
theorem Inv.turned(I:IV a)(k:∀b o,b≠it->s.heap.get? b=some o->h'.get? b=some o)(i:H it=none)(g:it≠X.env.locals)
  (A:it∈X.ex\/X.s₀.heap.objs.size<=it) (y:∀x c,X.env.cells.lookup x=some c->c≠it) (w:∀p∈X.pn++a,p.1≠it):Inv X a σ H {s with heap:=h',toks:=t'}:=by
 have f:∀b u,H b=some u->b≠it:=λ b u e z=>by rw[z,i]at e;cases e
 refine I.step (ch:=[it]) (λ b l=>?_) (λ b o _ _ d e _=>k b o (λ z=>d (by simp[z])) e) (λ b o _ _ d e _=>⟨o.slots,k b o (λ z=>d (by simp[z])) e⟩) (λ _ _ _ _ n=>n)
  (λ b o d e=>⟨o,k b o (λ z=>d (by simp[z])) e⟩) (λ _ _ e=>e) (λ _ _ _ e=>e) (λ _ _ e=>e) (λ m j=>?_) (λ b u e=>?_) I.bare
 ·have e:b=it:=by simpa using l
  subst e;exact⟨A,g,y,w⟩
 ·obtain⟨o,B,C,h,r⟩:=j;exact⟨o,B,C,k _ o (Ne.symm g) h,r⟩
 ·refine(I.hok b u e).stay (λ c v d q=>k c v ?_ q) (λ _ q=>q) (λ _ _ q=>q) (λ _ _ q=>q) λ _ _ _ _ _ q=>q;rcases d with z | z
  ·rw[z];exact f b u e
  ·exact f c _ z
theorem Inv.tok(I:IV a)(t:Nat):Inv X a σ H {s with toks:=t}:=I.un Un.refl I.hok
theorem Inv.kept(I:IV a)(k:∀b u,s.heap.get? b=some u->h'.get? b=some u):Inv X a σ H {s with heap:=h',toks:=t'}:=I.un (Un.kept k) (I.hok.kept k)
theorem Inv.laid(I:IV c)(k:∀b u,s.heap.get? b=some u->h'.get? b=some u)(d:s.heap.objs.size<=a)(new:u9 X.prog X.w (upd H a o) h' a o) :
  Inv X c σ (upd H a o) {s with heap:=h',toks:=t'}:=I.un (Un.laid k d (I.hok.fresh d)) (I.hok.laid k d new)
theorem Inv.write(I:IV a)(d:Mut (H x))(f:e=x\/H e=some (.own x))(k:∀b u,b≠e->s.heap.get? b=some u->h'.get? b=some u)(c:∃u,h'.get? e=some u)
  (new:u9 X.prog X.w (upd H x o) h' x o):Inv X a σ (upd H x o) {s with heap:=h',toks:=t'}:=I.un (Un.write d f k c) (I.hok.write d f k c new)
theorem Inv.pins_of(I:IV b)(h:∀p∈a,s.heap.get? p.1=some p.2/\H p.1=none/\p.1≠X.env.locals/\p.1∉X.fs/\∀v,p.2.data ≠ .cell v):Inv X a σ H s:=
 ⟨I.ok,I.os,I.bare,I.base,I.loc,I.cell,I.free,I.freeC,λ p c=>(F5.mp c).elim (λ z=>I.pin p (F2 _ z)) (h p),I.hok,I.len⟩
theorem jJ{N:on Str}(c:N.Nodup){j:Nat}(a:N[i]? = some x)(b:N[j]? = some x):i=j:=by
 obtain⟨h1,e⟩:=A9.mp a;obtain⟨h2,d⟩:=A9.mp b;exact(List.getElem_inj c).mp (e.trans d.symm)
theorem oK(I:IV J)(hN:X.N.Nodup)(W:X.N[i]? = some x)(B:Loc X.env.scope x)(r:RelV v u)
  (h:∀s',Inv X J (σ.set i (some v)) H s'->(∃a,Heap.SameBut a s.heap s'.heap/\(a=X.env.locals\/X.env.cells.lookup x=some a))->Q () s') (hf:X.fn x=true\/X.env.scope.names.lookup x=some .local:=by first | exact .inl rfl | exact .inr rfl | assumption):wpAny M A (storeName X.env x u) Q E s:=by
 obtain⟨m,hn,hl⟩:=id I.loc;have Y:(X.env.scope.kind == .class||(X.env.scope.kind == .module&&X.env.locals != X.env.globals))=false:=by rw[I.ok.kind];rfl
 have L:i<σ.length:=by rw[I.len];exact(A9.mp W).1
 have cne:=I.cne;have g:∀{a:Iv} {R:Iw},(∃o,s.heap.get? a=some o/\H a=none)->Heap.SameBut a s.heap R->HOk X.prog X.w H R:=λ {a R} ha f b ob e=>by
  obtain⟨_,_,C⟩:=ha;refine(I.hok b ob e).stay (λ c w' w q=>(f.2 c ?_).trans q) (λ _ q=>q) (λ _ _ q=>q) (λ _ _ q=>q) λ _ _ _ _ _ q=>q
  rintro rfl
  rcases w with rfl | w
  ·rw[C]at e;cases e
  ·rw[C]at w;cases w
 rcases B with K | K
 ·refine wpAny_storeName_local K hn (λ R a2 f=>?_) Y;obtain⟨oL,_,_,a1,_⟩:=id hn;refine h _ ⟨I.ok,I.os,I.bare,⟨λ b o e n P B=>?_,λ b o e n P B=>?_,I.base.free,λ b o e B=>?_,I.base.tups,I.base.frzs,I.base.tbls⟩,⟨_,a2,λ j y v' l F e3=>?_⟩,λ y c e=>?_,I.free,I.freeC,λ p hp=>?_,g ⟨oL,a1,I.free⟩ f,by simpa using I.len⟩ ⟨_,f,.inl rfl⟩
  ·exact(f.2 b (t9 (u6 (n7 e) I.ok.above))).trans (I.base.keep b o e n P B)
  ·obtain⟨sl,l⟩:=I.base.slot b o e n P B;exact⟨sl,(f.2 b (t9 (u6 (n7 e) I.ok.above))).trans l⟩
  ·obtain⟨o',l⟩:=I.base.there b o e B;exact⟨o',(f.2 b (t9 (u6 (n7 e) I.ok.above))).trans l⟩
  ·by_cases N:j=i
   ·subst N;rw[W]at l;cases l;rw[O0 L]at F;cases F;exact⟨u,r,.inl ⟨K,by simp⟩⟩
   ·rw[A5 (Ne.symm N)]at F;obtain⟨u',r',q⟩:=hl j y v' l F e3;refine⟨u',r',?_⟩;rcases q with⟨k,e⟩ | ⟨k,c,e,z⟩
    ·refine .inl ⟨k,?_⟩;have:y≠x:=λ e=>N (jJ hN l (e▸W));simp[this,e]
    ·exact .inr ⟨k,c,e,z.sameBut f (cne y c e)⟩
  ·obtain⟨w',z⟩:=I.cell y c e;exact⟨w',z.sameBut f (cne y c e)⟩
  ·obtain⟨e,n,ne,nf,d⟩:=I.pin p hp;exact⟨(f.2 p.1 ne).trans e,n,ne,nf,d⟩
 ·have O:X.fn x=true:=by
   rcases hf with z | z
   ·exact z
   ·rw[z]at K;cases K
  obtain⟨c,w⟩:=I.ok.has x (.inl K);obtain⟨w',z⟩:=I.cell x c w;refine wpAny_storeName_cell I.ok.kind K w z (λ R a0 f=>?_);obtain⟨oc,U,S⟩:=id z;refine h {s with heap:=R} ⟨I.ok,I.os,I.bare,⟨λ b o e n P B=>?_,λ b o e n P B=>?_,I.base.free,λ b o e B=>?_,I.base.tups,I.base.frzs,I.base.tbls⟩,⟨m,hn.sameBut f (Ne.symm (cne x c w)),λ j y v' l F e3=>?_⟩,λ y c' e=>?_,I.free,I.freeC,λ p hp=>?_,g ⟨oc,U,I.freeC x c w⟩ f,by simpa using I.len⟩ ⟨c,f,.inr w⟩
  ·exact(f.2 b (t9 (u6 (n7 e) (I.ok.cab x c O w)))).trans (I.base.keep b o e n P B)
  ·obtain⟨sl,l⟩:=I.base.slot b o e n P B;exact⟨sl,(f.2 b (t9 (u6 (n7 e) (I.ok.cab x c O w)))).trans l⟩
  ·obtain⟨o',l⟩:=I.base.there b o e B;exact⟨o',(f.2 b (t9 (u6 (n7 e) (I.ok.cab x c O w)))).trans l⟩
  ·by_cases N:j=i
   ·subst N;rw[W]at l;cases l;rw[O0 L]at F;cases F;exact⟨u,r,.inr ⟨.inl K,c,w,a0⟩⟩
   ·rw[A5 (Ne.symm N)]at F;obtain⟨u',r',q⟩:=hl j y v' l F e3;refine⟨u',r',?_⟩;rcases q with q | ⟨k,c',e,z'⟩
    ·exact .inl q
    ·refine .inr ⟨k,c',e,z'.sameBut f ?_⟩
     rintro rfl
     exact N (jJ hN l (I.ok.inj _ _ _ e w▸W))
  ·by_cases Z:c'=c
   ·subst Z;exact⟨_,a0⟩
   ·obtain⟨w2,z2⟩:=I.cell y c' e;exact⟨w2,z2.sameBut f Z⟩
  ·obtain⟨e,n,ne,nf,d⟩:=I.pin p hp;refine⟨(f.2 p.1 ?_).trans e,n,ne,nf,d⟩;intro q;rw[q,U]at e;exact d w' (by rw[←(E2 e)];exact S)
theorem jK(I:IV a)(f:X.N.Nodup)(d:X.N[i]? = some x)(c:Loc X.env.scope x)(r:RelV v u)
  (h:∀b,Inv X a (σ.set i (some v)) H b->Q () b) (e:X.fn x=true\/X.env.scope.names.lookup x=some .local:=by first | exact .inl rfl | exact .inr rfl | assumption):wpAny M A (storeName X.env x u) Q E s:=
 oK I f d c r (λ b g _=>h b g) e
theorem Inv.call'(I:IV a)(i:d.os=s.os)(u:Un (frs X.stack) ch H h s.heap d.heap)(f:HOk X.prog X.w h d.heap)(j:AllBare d.gens)
  (g:∀b∈ch,(b∈X.ex\/X.s₀.heap.objs.size<=b)/\b≠X.env.locals/\(∀x c,X.env.cells.lookup x=some c->c≠b)/\∀p∈X.pn++a,p.1≠b):Inv X a σ h d:=by
 obtain⟨h',g',d',t',o'⟩:=d;have e:=i;subst e;exact I.call u f j g
abbrev XK:=Is->Ir Iv->Hp->Prop
abbrev St:=on (Ir V)
abbrev VK:=V->Hp->Prop
abbrev TE:=St->Hp->VK->Prop
abbrev TT:=St->Hp->(Bool->Hp->Prop)->Prop
abbrev TA:=St->Hp->(on V->Hp->Prop)->Prop
structure Ends where
 nx:St->Hp->Prop
 rt:VK
 bk:St->Hp->Prop:=λ _ _=>False
 ct:St->Hp->Prop:=λ _ _=>False
abbrev TS:=Ends->St->Hp->Prop
def EP(X:Cx)(pins:on (Iv×Obj))(σ:St)(Q:VK)(u:Is)(s':Iu):Prop:=∃v H',Inv X pins σ H' s'/\RelV v u/\Q v H'
def TP(X:Cx)(pins:on (Iv×Obj))(σ:St)(Q:Bool->Hp->Prop)(b:Bool)(s':Iu):Prop:=∃H',Inv X pins σ H' s'/\Q b H'
def AP(X:Cx)(pins:on (Iv×Obj))(σ:St)(Q:on V->Hp->Prop)(us:on Is)(s':Iu):Prop:=∃vs H',Inv X pins σ H' s'/\Vals vs us/\Q vs H'
def SP(X:Cx)(pins:on (Iv×Obj))(D:Ends)(f:Flow)(s':Iu):Prop:=
 match f with
 | .next=>∃σ' H',Inv X pins σ' H' s'/\D.nx σ' H'
 | .brk=>∃σ' H',Inv X pins σ' H' s'/\D.bk σ' H'
 | .cont=>∃σ' H',Inv X pins σ' H' s'/\D.ct σ' H'
 | .ret u=>∃v σ' H',Inv X pins σ' H' s'/\RelV v u/\D.rt v H'
def PE(X:Cx)(e:Ix)(t:TE):Prop:=
 ∀(pins:on (Iv×Obj)) (s:Iu) (σ:St) (H:Hp) (Q:VK),Inv X pins σ H s->t σ H Q->wpAny IQ X.A (eval e X.env) (EP X pins σ Q) X.xe s
def PT(X:Cx)(e:Ix)(t:TT):Prop:=
 ∀(pins:on (Iv×Obj)) (s:Iu) (σ:St) (H:Hp) (Q:Bool->Hp->Prop),Inv X pins σ H s->t σ H Q->wpAny IQ X.A (isTrue e X.env (eval e X.env)) (TP X pins σ Q) X.xe s
def PW(X:Cx)(e:Ix)(t:TT):Prop:=
 ∀(whole:Sem Is) (pins:on (Iv×Obj)) (s:Iu) (σ:St) (H:Hp) (Q:Bool->Hp->Prop),Inv X pins σ H s->t σ H Q->wpAny IQ X.A (isTrue e X.env whole) (TP X pins σ Q) X.xe s
theorem PW.pt(h:PW X e t):PT X e t:=h _
def PA(X:Cx)(es:on Ix)(t:TA):Prop:=
 ∀(pos:Pos) (pins:on (Iv×Obj)) (s:Iu) (σ:St) (H:Hp) (Q:on V->Hp->Prop),Inv X pins σ H s->t σ H Q->wpAny IQ X.A (spliced (backTo pos (starEach es X.env))) (AP X pins σ Q) X.xe s
def PS(X:Cx)(st:IC)(t:TS):Prop:=
 ∀(pins:on (Iv×Obj)) (s:Iu) (σ:St) (H:Hp) (D:Ends),Inv X pins σ H s->t D σ H->wpAny IQ X.A (exec st X.env) (SP X pins D) X.xe s
def PSs(X:Cx)(st:on IC)(t:TS):Prop:=
 ∀(pins:on (Iv×Obj)) (s:Iu) (σ:St) (H:Hp) (D:Ends),Inv X pins σ H s->t D σ H->wpAny IQ X.A (execs st X.env) (SP X pins D) X.xe s
theorem thn(h:wpAny M A t Q E s)(c:∀a s,Q a s->Q' a s):wpAny M A t Q' E s:=D9 h c λ _ _ x=>x
end L2
namespace L2
open PySem PySem.Spec PyProof.Rows
section
variable {X:Cx}
theorem bin(r:PE X a l)(q:PE X b k){R:V->V->Hp->Prop}(I:IV c)(h:l σ H λ x i=>k σ i λ y d=>R x y d)
     {Q:j->Iu->Prop} {f:Is->Is->Sem j}
    (p:∀v u s2 x y d,Inv X c σ d s2->RelV x v->RelV y u->R x y d->wpAny IQ X.A (f v u) Q X.xe s2) :
    wpAny IQ X.A (eval a X.env) (λ v g=>wpAny IQ X.A (eval b X.env) (λ u e=>wpAny IQ X.A (f v u) Q X.xe e) X.xe g) X.xe s:=by
  refine thn (r c s σ H _ I h) λ v s1 t0=>?_;obtain⟨x,i,z,r1,o⟩:=t0;refine thn (q c s1 σ i _ z o) λ u s2 t0=>?_;obtain⟨y,d,w,m,n⟩:=t0;exact p v u s2 x y d w r1 m n
noncomputable def tVar(i:Nat):TE:=λ σ H Q=>∃v,σ[i]? = some (some v)/\Q v H
noncomputable def tC(v:V):TE:=λ _ H Q=>Q v H
theorem R6(o:X.N[i]? = some x)(hv:Vis X.env.scope x)(hd:(x==("__debug__" : Str))=false:=by decide)(f:(x==("__classdict__" : Str))=false:=by decide):PE X (.Name x pos) (tVar i):=by
 intro d s g H Q I h;obtain⟨v,e,h⟩:=h;obtain⟨m,j,n⟩:=I.loc;obtain⟨u,r,l⟩:=n i x v o e hv;have b:EP X d g Q u s:=⟨v,H,I,r,h⟩;rcases l with⟨a,k⟩ | ⟨a,c,hc,hcell⟩
 ·exact cQ (wpAny_loadName_local I.ok.kind a j k b) hd
 ·rcases a with a | a
  ·exact cQ (wpAny_loadName_cell I.ok.kind a hc hcell b) hd
  ·exact cQ (wpAny_loadName_free I.ok.kind a hc hcell b f) hd
theorem xu:PE X (.Constant (.int i) j pos) (tC (.int i)):=λ _ _ _ H _ I h=>wpAny_Constant_int ⟨.int i,H,I.tok _,⟨_,rfl⟩,h⟩
theorem xv:PE X (.Constant (.bool b) j pos) (tC (.bl b)):=λ _ _ _ H _ I h=>Constant_bool ⟨.bl b,H,I,rfl,h⟩
theorem xw:PE X (.Constant .none j pos) (tC .non):=λ _ _ _ H _ I h=>Constant_none ⟨.non,H,I,rfl,h⟩
theorem jL:PE X (.Constant (.str x) j pos) (tC (.str x)):=λ _ _ _ H _ I h=>Calls.Constant_str ⟨.str x,H,I.tok _,⟨_,rfl⟩,h⟩
def Gl(X:Cx)(x:Str):Prop:=X.env.kindOf x=some .globalImplicit
theorem oM(I:IV a)(c:Gl X x)(b:X.mg x=some u)(h:Q u s)
  (hd:(x==("__debug__" : Str))=false:=by decide):wpAny IQ X.A (eval (.Name x pos) X.env) Q E s:=
 nT I.ok.kind c (Calls.loadGlobal_global (by rw[I.ok.glob];exact I.mod.glob.keeps I.bk) b h) hd
theorem U6(I:IV a)(d:Gl X x)(c:X.mg x=none)(hv:bootBuiltins x=some u)(h:Q u s)
  (b:x ≠ "__name__":=by decide) (hd:(x==("__debug__" : Str))=false:=by decide):wpAny IQ X.A (eval (.Name x pos) X.env) Q E s:=by
 obtain⟨mb,f,e⟩:=I.mod.blt;exact nT I.ok.kind d (Calls.loadGlobal_builtin (by rw[I.ok.glob];exact I.mod.glob.keeps I.bk) c (by rw[I.ok.blt];exact f.keeps I.bk) ((e x b).trans hv) h) hd
theorem xx(b:Gl X x)(a:X.mg x=some u)(r:RelV v u)(hd:(x==("__debug__" : Str))=false:=by decide):PE X (.Name x pos) (tC v):=
 λ _ _ _ H _ I h=>oM I b a ⟨v,H,I,r,h⟩ hd
theorem xy(c:Gl X x)(b:X.mg x=none)(hv:bootBuiltins x=some u)(r:RelV v u)(a:x ≠ "__name__":=by decide)(hd:(x==("__debug__" : Str))=false:=by decide):PE X (.Name x pos) (tC v):=
 λ _ _ _ H _ I h=>U6 I c b hv ⟨v,H,I,r,h⟩ a hd
variable {a b:Ix} {ta tb:TE} {pos:Pos}
def PC(X:Cx)(op:CmpOp)(a b:Ix)(t:TE):Prop:=
 ∀(pins:on (Iv×Obj)) (s:Iu) (σ:St) (H:Hp) (Q:VK),Inv X pins σ H s->t σ H Q ->
  wpAny IQ X.A (eval a X.env) (λ v s₁=>wpAny IQ X.A (eval b X.env) (λ u s₂=>wpAny IQ X.A (compareOp op v u) (EP X pins σ Q) X.xe s₂) X.xe s₁) X.xe s
noncomputable def tAnd(t u:TT):TT:=λ σ H Q=>t σ H λ c H1=>if c=true then u σ H1 Q else Q false H1
noncomputable def tOr(t u:TT):TT:=λ σ H Q=>t σ H λ c H1=>if c=true then Q true H1 else u σ H1 Q
noncomputable def tNot(t:TT):TT:=λ σ H Q=>t σ H λ c H1=>Q (!c) H1
theorem xz(g:PT X a d):PW X (.BoolOp .And [a] pos) d:=by
 intro wh b s f H Q I h;refine isTrue_and (thn (g b s f H Q I h) λ c s1 e=>?_);cases c with
 | true=>exact isTrue_and_nil e
 | false=>exact e
theorem xA(g:PT X a d):PW X (.BoolOp .Or [a] pos) d:=by
 intro wh b s f H Q I h;refine isTrue_or (thn (g b s f H Q I h) λ c s1 e=>?_);cases c with
 | false=>exact isTrue_or_nil e
 | true=>exact e
theorem oN{rest:on Ix}(n:PT X a g)(m:PW X (.BoolOp .And (b::rest) pos) e):PW X (.BoolOp .And (a::b::rest) pos) (tAnd g e):=by
 intro l d s f H Q I h;refine isTrue_and (thn (n d s f H _ I h) λ c s1 t0=>?_);obtain⟨k,j,i⟩:=t0;cases c with
 | true=>exact m l d s1 f k Q j i
 | false=>exact⟨k,j,i⟩
theorem oO{rest:on Ix}(n:PT X a g)(m:PW X (.BoolOp .Or (b::rest) pos) e):PW X (.BoolOp .Or (a::b::rest) pos) (tOr g e):=by
 intro l d s f H Q I h;refine isTrue_or (thn (n d s f H _ I h) λ c s1 t0=>?_);obtain⟨k,j,i⟩:=t0;cases c with
 | true=>exact⟨k,j,i⟩
 | false=>exact m l d s1 f k Q j i
theorem xB(e:PT X a c):PT X (.UnaryOp .Not a pos) (tNot c):=by
 intro b s d H Q I h;exact isTrue_not (e b s d H _ I h)
theorem oP(h:PE X a t):PE X (.BoolOp op [a] pos) t:=λ b s c H Q I d=>BoolOp_one (h b s c H Q I d)
end
end L2
namespace L2
open PySem PySem.Spec PyProof.Rows
def SqL(K:IE)(H:Hp)(a:Iv)(xs:on V):Prop:=
 Rd H a (.lst xs) \/
  ∃(o:Obj) (its:Iy Is) (n:Nat),K.lookup a=some o/\o.cls=.type "list" /\ o.dict=none/\o.data=.seq its n/\its.size<=sizeLine/\Vals xs its.toList
def SqT(K:IE)(H:Hp)(a:Iv)(xs:on V):Prop:=
 Rd H a (.tup xs) \/
  ∃(o:Obj) (its:Iy Is) (n:Nat),K.lookup a=some o/\(o.cls=.type "tuple" /\ o.dict=none)/\o.data=.seq its n/\its.size<=sizeLine/\Vals xs its.toList
noncomputable def absV:Is->Ir V
 | .none=>some .non
 | .bool b=>some (.bl b)
 | .int i _=>some (.int i)
 | .str x _=>some (.str x)
 | .bytes b _=>some (.byt b)
 | .float b _=>some (.flt b)
 | .ref a=>some (.ref a)
 | .type n=>some (.ty n)
 | _=>none
theorem RelV.abs(r:RelV x u):absV u=some x:=by
 cases x with
 | non=>cases r;rfl
 | bl _=>cases r;rfl
 | int _=>obtain⟨t,rfl⟩:=r;rfl
 | str _=>obtain⟨t,rfl⟩:=r;rfl
 | byt _=>obtain⟨t,rfl⟩:=r;rfl
 | flt _=>obtain⟨t,rfl⟩:=r;rfl
 | ref _=>cases r;rfl
 | ty _=>cases r;rfl
theorem RelV.inj(r:RelV x u)(q:RelV y u):x=y:=E2 (r.abs.symm.trans q.abs)
theorem Vals.inj(h:Vals xs b):Vals a b->xs=a:=by
 induction h generalizing a with
 | nil=>intro t;cases t;rfl
 | cons r _ e=>intro t;cases t with | cons d c=>rw[r.inj d,e c]
theorem SqL.of{K:IE}(h:H a=some (.lst xs)):SqL K H a xs:=.inl (.inl h)
theorem SqT.of{K:IE}(h:H a=some (.tup xs)):SqT K H a xs:=.inl (.inl h)
theorem Inv.list(I:IV c)(h:SqL X.K H a xs):∃b:on Is,Vals xs b/\PlainL s.heap a b.toArray/\xs.length<=sizeLine:=by
 rcases h with h | ⟨o,b,n,hk,hc,hd,hs,hz,r⟩
 ·obtain⟨z,b,n,r,e⟩:=h.ok I.hok;exact⟨b,r,⟨_,n,e,rfl,rfl,rfl⟩,z⟩
 ·refine⟨b.toList,r,⟨o,n,I.kIn a o hk,hc,hd,by simpa using hs⟩,?_⟩;have e:=r.length;simp only[B6]at e;omega
theorem Inv.tuple(I:IV c)(h:SqT X.K H a xs):∃b:on Is,Vals xs b/\IsTup s.heap a b.toArray/\xs.length<=sizeLine:=by
 rcases h with h | ⟨o,b,n,hk,hc,hs,hz,r⟩
 ·obtain⟨z,b,r,p⟩:=h.ok I.hok;exact⟨b,r,p.tup,z⟩
 ·refine⟨b.toList,r,⟨o,I.kIn a o hk,hc.1,n,by simpa using hs⟩,?_⟩;have e:=r.length;simp only[B6]at e;omega
theorem Inv.tupleN(I:IV b)(h:SqT X.K H a xs):∃o,s.heap.get? a=some o/\o.cls=.type "tuple" /\ o.dict=none:=by
 rcases h with h | ⟨o,d,n,hk,hc,hs,hz,r⟩
 ·obtain⟨z,d,r,o,e,c,_⟩:=h.ok I.hok;exact⟨o,e,c.1,c.2⟩
 ·exact⟨o,I.kIn a o hk,hc.1,hc.2⟩
theorem Inv.list_inj(I:IV b)(h:SqL X.K H a xs)(h':SqL X.K H a g):xs=g:=by
 obtain⟨f,r,⟨o,n,e,_,_,d⟩,_⟩:=I.list h;obtain⟨c,k,⟨o',n',i,_,_,j⟩,_⟩:=I.list h';rw[e]at i;cases i;rw[d]at j;injection j with d1 _
 have:f=c:=by simpa using congrArg Array.toList d1
 subst this;exact r.inj k
theorem Inv.tuple_inj(I:IV b)(h:SqT X.K H a xs)(h':SqT X.K H a g):xs=g:=by
 obtain⟨f,r,⟨o,e,_,n,d⟩,_⟩:=I.tuple h;obtain⟨c,k,⟨o',i,_,n',j⟩,_⟩:=I.tuple h';rw[e]at i;cases i;rw[d]at j;injection j with d1 _
 have:f=c:=by simpa using congrArg Array.toList d1
 subst this;exact r.inj k
section
variable {X:Cx} {st:IC} {rest:on IC} {t u:TS} {e:Ix} {te:TE} {pos:Pos}
noncomputable def xC:TS:=λ D σ H=>D.nx σ H
noncomputable def tSeq(t u:TS):TS:=λ D σ H=>t {D with nx:=u D} σ H
theorem xD:PSs X [] xC:=λ _ _ a H _ I h=>jn ⟨a,H,I,h⟩
theorem fK(e:PS X st t)(d:PSs X rest u):PSs X (st::rest) (tSeq t u):=by
 intro a s c H D I h;refine wpAny_execs_cons (thn (e a s c H {D with nx:=u D} I h) λ f s1 q=>?_);cases f with
 | next=>
  obtain⟨b,i,g,q⟩:=q;exact d a s1 b i D g q
 | ret v=>exact q
 | brk=>exact q
 | cont=>exact q
theorem Inv.quiet(I:IV a):interactive X.env=false:=by simp[interactive,I.ok.kind]
noncomputable def xE(te:TE):TS:=λ D σ H=>te σ H λ _ H1=>D.nx σ H1
theorem fL(f:PE X e te)(d:swapsWith e none pos.line X.env=pure false:=by rfl):PS X (.Expr e pos) (xE te):=by
 intro a s b H D I h;exact wpAny_Expr_any (thn (f a s b H _ I h) λ v s1 ⟨x,i,g,r1,c⟩=>⟨b,i,g,c⟩) I.quiet d
noncomputable def tRet(te:TE):TS:=λ D σ H=>te σ H D.rt
theorem jM(d:PE X e te):PS X (.Return (some e) pos) (tRet te):=by
 intro a s b H D I h;exact wpAny_Return_some (thn (d a s b H _ I h) λ v s1 ⟨x,g,f,r1,c⟩=>⟨x,b,g,f,r1,c⟩)
noncomputable def tIfS(c:TT)(t u:TS):TS:=λ D σ H=>c σ H λ b H1=>if b=true then t D σ H1 else u D σ H1
theorem oQ(l:PT X c g)(n:PSs X a t)(m:PSs X b u):PS X (.If c a b pos) (tIfS g t u):=by
 intro e s f H D I h;refine wpAny_If (thn (l e s f H _ I h) λ d s1 t0=>?_);obtain⟨k,j,i⟩:=t0;cases d with
 | true=>exact n e s1 f k D j i
 | false=>exact m e s1 f k D j i
noncomputable def xF:TS:=λ _ _ _=>False
theorem fM:PSs X a xF:=λ _ _ _ _ _ _ h=>h.elim
end
abbrev TG:=V->St->Hp->(St->Hp->Prop)->Prop
abbrev TGs:=on V->St->Hp->(St->Hp->Prop)->Prop
def PG(X:Cx)(target:Ix)(t:TG):Prop:=
 ∀(pins:on (Iv×Obj)) (s:Iu) (σ:St) (H:Hp) (v:V) (u:Is) (Q:St->Hp->Prop),Inv X pins σ H s->RelV v u->t v σ H Q ->
  wpAny IQ X.A (assign target X.env u) (λ _ s'=>∃σ' H',Inv X pins σ' H' s'/\Q σ' H') X.xe s
def PGs(X:Cx)(ts:on Ix)(t:TGs):Prop:=
 ∀(pins:on (Iv×Obj)) (s:Iu) (σ:St) (H:Hp) (vs:on V) (us:on Is) (Q:St->Hp->Prop),Inv X pins σ H s->Vals vs us->t vs σ H Q ->
  wpAny IQ X.A (assignInOrder ((assignEach ts X.env).map (·.2)) us) (λ _ s'=>∃σ' H',Inv X pins σ' H' s'/\Q σ' H') X.xe s
abbrev TSet:=V->V->V->Hp->(Hp->Prop)->Prop
def PSet(X:Cx)(t:TSet):Prop:=
 ∀(pins:on (Iv×Obj)) (s:Iu) (σ:St) (H:Hp) (o i v:V) (ov iv u:Is) (Q:Hp->Prop),Inv X pins σ H s->RelV o ov->RelV i iv->RelV v u->t o i v H Q ->
  wpAny IQ X.A (setItem ov iv u) (λ _ s'=>∃H',Inv X pins σ H' s'/\Q H') X.xe s
noncomputable def cW(i:Nat):TG:=λ v σ H Q=>Q (σ.set i (some v)) H
theorem oR(e:X.N.Nodup)(c:X.N[i]? = some x)(b:Loc X.env.scope x)(d:X.fn x=true\/X.env.scope.names.lookup x=some .local:=by first | exact .inl rfl | exact .inr rfl | assumption):PG X (.Name x pos) (cW i):=by
 intro a s σ H v u Q I r h;exact wpAny_assign_Name (jK I e c b r (λ s' f=>⟨_,H,f,h⟩) d)
noncomputable def gNil:TGs:=λ vs σ H Q=>vs=[]/\Q σ H
noncomputable def oS(t:TG)(u:TGs):TGs:=λ vs σ H Q=>∃v r,vs=v::r/\t v σ H λ σ' H'=>u r σ' H' Q
theorem xG:PGs X [] gNil:=by
 intro a s b H vs us Q I r h;obtain⟨e,h⟩:=h;subst e;cases r;exact assignInOrder_nil ⟨b,H,I,h⟩
theorem xH(j:PG X e t)(i:PGs X es u)
  (g:(assignEach (e::es) X.env).map (·.2)=assign e X.env::(assignEach es X.env).map (·.2):=by rfl):PGs X (e::es) (oS t u):=by
 intro a s c H vs us Q I r h;obtain⟨v,vr,k,h⟩:=h;subst k;cases r with
 | cons r d=>
  rw[g];refine assignInOrder_cons (thn (j a s c H _ _ _ I r h) λ _ s1 t0=>?_);obtain⟨b,m,l,f⟩:=t0;exact i a s1 b m _ _ Q l d f
noncomputable def gTup(K:IE)(n:Nat)(t:TGs):TG:=λ v σ H Q=>∃a xs,v=.ref a/\SqT K H a xs/\xs.length=n/\t xs σ H Q
theorem xI(y:X.calm=true)(h:PGs X es t)
  (w:(assignEach es X.env).length=n:=by rfl) (f:(assignEach es X.env).findIdx? (·.1)=none:=by rfl):PG X (.Tuple es k pos) (gTup X.K n t):=by
 intro c s i H v u Q I r d;obtain⟨a,j,z,q,x,d⟩:=d;subst z;cases r;obtain⟨l,g,p,hz⟩:=I.tuple q;refine assign_Tuple_tuple (I.ok.hd y) p (by simp[w,←x,g.length]) f λ h' m=>?_
 exact h c _ i H j _ Q (I.kept λ b o e=>m b o (t9 (n7 e)) e) (by simpa using g) d
noncomputable def gSub(to ti:TE)(t:TSet):TG:=λ v σ H Q=>to σ H λ o H1=>ti σ H1 λ i H2=>t o i v H2 λ H3=>Q σ H3
theorem xJ(m:PE X o d)(n:PE X i e)(l:PSet X t)
  (p:∀v,assign (.Subscript o i pos) X.env v=(do
   let ov ←holding [v] (eval o X.env)
   let b ←holding [v,ov] (eval i X.env)
   standAt pos
   holding [v,ov,b] (setItem ov b v)
   release [v,ov,b] []):=by intro _;rfl):PG X (.Subscript o i pos) (gSub d e t):=by
 intro a s c H v u Q I r h;rw[p];refine f0 (L4 (thn (m a s c H _ I h) λ ov s1 t0=>?_));obtain⟨x,C,z,r1,k⟩:=t0;refine f0 (L4 (thn (n a s1 c C _ z k) λ b s2 t0=>?_));obtain⟨y,B,w,f,j⟩:=t0;refine f0 (fx (f0 (L4 (thn (l a s2 c B x y v ov b u _ w r1 f r j) λ _ s3 t0=>?_))));obtain⟨A,q,g⟩:=t0;exact wpAny_release ⟨c,A,q,g⟩
noncomputable def tAsg(te:TE)(g:TG):TS:=λ D σ H=>te σ H λ x H1=>g x σ H1 D.nx
theorem xK(j:PE X e c)(i:PG X tg g)(f:swapsWithSole [tg] e pos.line X.env=pure false:=by rfl)(hw:swappedStores [tg] e X.env=pure none:=by rfl)
  (k:(assignEach [tg] X.env).map (·.2)=[assign tg X.env]:=by rfl):PS X (.Assign [tg] e pos) (tAsg c g):=by
 intro a s b H D I h;refine wpAny_Assign_stores (thn (j a s b H _ I h) λ v s1 ⟨x,m,l,r1,d⟩=>?_) f hw;rw[k];exact thn (i a s1 b m x v _ l r1 d) λ _ s2 q=>q
theorem oT(n:X.N.Nodup)(k:X.N[i]? = some x)(g:Loc X.env.scope x)(m:PE X e c)(j:swapsWith e (some (.Name x a)) pos.line X.env=pure false:=by rfl)(l:X.fn x=true\/X.env.scope.names.lookup x=some .local:=by first | exact .inl rfl | exact .inr rfl | assumption) :
  PS X (.Assign [.Name x a] e pos) (tAsg c (cW i)):=by
 intro b s d H D I h;refine wpAny_Assign_Name (thn (m b s d H _ I h) λ v s1 ⟨y,q,p,r1,f⟩=>?_) j;exact jK p n k g r1 (λ s2 o=>⟨_,q,o,f⟩) l
noncomputable def xL(c:TT)(tb:TS):TS:=λ D σ H=>∃W:Nat->St->Hp->Prop,(∃m,W m σ H)/\∀m σ H,W m σ H ->
 c σ H λ b H1=>if b=true then ∃N:St->Hp->Prop,(∀σ' H',N σ' H'->∃m',m'<m/\W m' σ' H')/\tb {D with nx:=N,ct:=N,bk:=D.nx} σ H1 else D.nx σ H1
theorem xM(w:PassesOwn IQ X.A X.env X.xe)(J:PT X c r)(K:PSs X body u):PS X (.While c body [] pos) (xL r u):=by
 intro d s B H D I h;obtain⟨W,⟨F,C⟩,g⟩:=h;refine wpAny_While (codeAny_whileLoop (λ n E=>∃e A,Inv X d e A E/\W n e A) ?_ F ⟨B,H,I,C⟩)
 rintro n s1 ⟨σ1,H1,I1,w1⟩
 refine ah w (thn (J d s1 σ1 H1 _ I1 (g n σ1 H1 w1)) λ b s2 t0=>?_);obtain⟨z,y,k⟩:=t0;cases b with
 | true=>
  obtain⟨N,x,k⟩:=k;rw[f8 rfl];refine ah w (thn (K d s2 σ1 z _ y k) λ f s3 j=>?_);cases f with
  | next=>
   obtain⟨a,i,q,m⟩:=j;obtain⟨o,p,l⟩:=x a i m;exact⟨o,p,a,i,q,l⟩
  | cont=>
   obtain⟨a,i,q,m⟩:=j;obtain⟨o,p,l⟩:=x a i m;exact⟨o,p,a,i,q,l⟩
  | brk=>exact j
  | ret v=>exact j
 | false=>
  rw[g8 B1];exact jn ⟨σ1,z,y,k⟩
structure It where
 go:Nat->Hp->Prop
 yld:Nat->Hp->V->Hp->Prop
 stop:Nat->Hp->Prop
def FpOk(X:Cx)(pins:on (Iv×Obj))(H:Hp)(b:Iv):Prop:=
 H b=none/\b≠X.env.locals/\b∉X.fs/\(b∈X.ex\/X.s₀.heap.objs.size<=b)/\(∀x c,X.env.cells.lookup x=some c->c≠b)/\∀p∈X.pn++pins,p.1≠b
theorem Inv.fpOk(I:IV a)(d:s.heap.objs.size<=b)(h:f b=none):FpOk X a f b:=by
 refine⟨h,R4 (u6 I.lt d),I.nofs d,.inr (i9 I.sz d),λ x c e z=>?_,λ p g z=>?_⟩
 ·obtain⟨v,q⟩:=I.cell x c e;exact absurd (u6 q.lt (by rw[z];exact d)) (M9 _)
 ·exact absurd (u6 (n7 (I.pin p g).1) (by rw[z];exact d)) (M9 _)
structure Turn(P:Program)(w:World)(K:PySem.W.Frag)(tg:Expr)(J:It)(fp:List Addr)(it:Addr)(tn:Nat->Heap->Prop):Prop where
 mem:it∈fp
 obj:∀i h,tn i h->∀b∈fp,∃o,h.get? b=some o/\∀v,o.data ≠ .cell v
 keep:∀i h h',tn i h->(∀b∈fp,∀o,h.get? b=some o->h'.get? b=some o)->tn i h'
 item:∀(X:Cx),X.prog=P->X.w=w->X.K=K->X.calm=true->∀(i:Nat) (pins:List (Addr×Obj)) (s:Shared) (σ:St) (H:Hp) (E:Value->Shared->Prop),Inv X pins σ H s->(∀b∈fp,FpOk X pins H b)->tn i s.heap->J.go i H ->
  wpAny (model P w) X.A (pyNext (.ref it)) (λ r s1=>∃u,r=some u /\
   wpAny (model P w) X.A (letOwnedTupleGo tg (.ref it) u) (λ _ s2=>∃x H',Inv X pins σ H' s2/\RelV x u/\J.yld i H x H'/\tn (i+1) s2.heap/\∀b∈fp,H' b=none) E s1) E s
 done:∀(X:Cx),X.prog=P->X.w=w->X.K=K->X.calm=true->∀(i:Nat) (pins:List (Addr×Obj)) (s:Shared) (σ:St) (H:Hp) (E:Value->Shared->Prop),Inv X pins σ H s->(∀b∈fp,FpOk X pins H b)->tn i s.heap->J.stop i H ->
  wpAny (model P w) X.A (pyNext (.ref it)) (λ r s1=>r=none/\Inv X pins σ H s1) E s
 self:∀(A:Around) (i:Nat) (s:Shared) (Q:Value->Shared->Prop) (E:Value->Shared->Prop),tn i s.heap->Q (.ref it) s->wpAny (model P w) A (pyIter (.ref it)) Q E s
abbrev TI:=St->Hp->(It->Hp->Prop)->Prop
def PIE(X:Cx)(pins:on (Iv×Obj))(σ:St)(tg:Ix)(R:It->Hp->Prop)(itv:Is)(s2:Iu):Prop:=
 ∃(it:Iv) (fp:on Iv) (tn:Nat->Iw->Prop) (J:It) (H':Hp),itv=.ref it/\Inv X pins σ H' s2/\Turn X.prog X.w X.K tg J fp it tn/\tn 0 s2.heap/\(∀b∈fp,FpOk X pins H' b)/\R J H'
def PI(X:Cx)(tg iter:Ix)(wi:TI):Prop:=
 ∀(pins:on (Iv×Obj)) (s:Iu) (σ:St) (H:Hp) (R:It->Hp->Prop),Inv X pins σ H s->wi σ H R ->
  wpAny IQ X.A (eval iter X.env) (λ v s1=>wpAny IQ X.A (pyIter v) (PIE X pins σ tg R) X.xe s1) X.xe s
theorem jN(b:s.heap.get? it=some o)(d:o.cls=.type n)(hd:o.data=.fields vs)
    (c : ["enumerate","zip","dict_itemiterator","dict_reverseitemiterator","odict_iterator","itertools.zip_longest","itertools.pairwise"].contains n=false) (a:Q () s):wpAny M A (letOwnedTupleGo tg (.ref it) u) Q E s:=by
  unfold letOwnedTupleGo;cases tg<;>first
    | exact g7 a
    | (cases u<;>first
        | exact g7 a
        | (refine f0 (cR b ?_)
           rw[d,hd];show wpAny M A (if(["enumerate","zip","dict_itemiterator","dict_reverseitemiterator","odict_iterator","itertools.zip_longest","itertools.pairwise"].contains n&&vs[0]? == some _)=true then _ else _) Q E s;rw[g8 (by intro h;rw[c,ju]at h;cases h)];exact g7 a))
noncomputable def Itl(K:IE)(a:Iv):It:=
 ⟨λ i H=>∃xs x,SqL K H a xs/\xs[i]? = some x,λ i H x H'=>H'=H/\∀xs,SqL K H a xs->xs[i]? = some x,λ i H=>∃xs,SqL K H a xs/\xs.length<=i⟩
noncomputable def Itt(K:IE)(a:Iv):It:=
 ⟨λ i H=>∃xs x,SqT K H a xs/\xs[i]? = some x,λ i H x H'=>H'=H/\∀xs,SqT K H a xs->xs[i]? = some x,λ i H=>∃xs,SqT K H a xs/\xs.length<=i⟩
noncomputable def Itr(lo:Int)(n:Nat):It:=⟨λ i _=>i<n,λ i H x H'=>H'=H/\x=.int (lo+i),λ i _=>n<=i⟩
theorem xN{K:IE}(a it:Iv):Turn P w K tg (Itl K a) [it] it (λ i h=>h.IsListIter it a i) where
 mem:=by simp
 obj:=λ i h f b g=>by
  have e:b=it:=by simpa using g
  subst e;obtain⟨o,e,c,d⟩:=f;exact⟨o,e,λ v z=>by rw[d]at z;cases z⟩
 keep:=λ i h R f k=>f.at λ o e=>k it IX o e
 item:=by
  intro X C A F Q i l s S H E I n f B;subst C A F;obtain⟨U,x,m,y⟩:=B;obtain⟨r,q,p,Z⟩:=I.list m;obtain⟨u,hu,Y⟩:=q.get y;obtain⟨O,N,f2,M,L,J⟩:=n it IX;refine wpAny_pyNext_list_item f p.isList (by simpa using hu) λ R j W=>?_
  obtain⟨o,e,c,d⟩:=id j;exact⟨u,rfl,jN e c d IL ⟨x,H,(I.turned (λ b o g e=>(W.2 b g).trans e) O N M L J),Y,⟨rfl,λ ys hy=>by rw[I.list_inj hy m];exact y⟩,j,λ b g=>(n b g).1⟩⟩
 done:=by
  intro X C A F Q i l s S H E I n f B;subst C A F;obtain⟨U,m,y⟩:=B;obtain⟨r,q,p,Z⟩:=I.list m;obtain⟨O,N,f2,M,L,J⟩:=n it IX;have hl:=q.length;exact wpAny_pyNext_list_end (I.ok.hd Q) f p.isList (by simp;omega) λ R eb=>⟨rfl,I.turned (λ b o g e=>eb b o g e) O N M L J⟩
 self:=λ _ _ _ _ _ f h=>wpAny_pyIter_listiter f h
theorem xO{K:IE}(a it:Iv):Turn P w K tg (Itt K a) [it] it (λ i h=>h.IsTupleIter it a i) where
 mem:=by simp
 obj:=λ i h f b g=>by
  have e:b=it:=by simpa using g
  subst e;obtain⟨o,e,c,d⟩:=f;exact⟨o,e,λ v z=>by rw[d]at z;cases z⟩
 keep:=λ i h R f k=>f.at λ o e=>k it IX o e
 item:=by
  intro X C A F Q i l s S H E I n f B;subst C A F;obtain⟨U,x,m,y⟩:=B;obtain⟨r,q,p,Z⟩:=I.tuple m;obtain⟨u,hu,Y⟩:=q.get y;obtain⟨O,N,f2,M,L,J⟩:=n it IX;refine wpAny_pyNext_tuple_item f (p) (by simpa using hu) λ R j W=>?_
  obtain⟨o,e,c,d⟩:=id j;exact⟨u,rfl,jN e c d IL ⟨x,H,(I.turned (λ b o g e=>(W.2 b g).trans e) O N M L J),Y,⟨rfl,λ ys hy=>by rw[I.tuple_inj hy m];exact y⟩,j,λ b g=>(n b g).1⟩⟩
 done:=by
  intro X C A F Q i l s S H E I n f B;subst C A F;obtain⟨U,m,y⟩:=B;obtain⟨r,q,p,Z⟩:=I.tuple m;obtain⟨O,N,f2,M,L,J⟩:=n it IX;have hl:=q.length;exact wpAny_pyNext_tuple_end (I.ok.hd Q) f (p) (by simp;omega) λ R eb=>⟨rfl,I.turned (λ b o g e=>eb b o g e) O N M L J⟩
 self:=λ _ _ _ _ _ f h=>wpAny_pyIter_tupleiter f h
theorem xP{K:IE}(it:Iv)(g:Int)(n:Nat):Turn P w K tg (Itr g n) [it] it (λ i h=>IsRangeIter h it (g+(i:Nat)*1) ((n:Int) - (i:Nat)) 1) where
 mem:=by simp
 obj:=λ i h a b c=>by
  have e:b=it:=by simpa using c
  subst e;exact⟨_,a,λ v z=>by
   have J:=z;cases J⟩
 keep:=λ i h C a k=>k it IX _ a
 item:=by
  intro X q l r p i f s F H E I j a m;subst q l r;obtain⟨B,A,L,y,x,u⟩:=j it IX;refine (Walks.range (I.ok.hd p) it g 1 n).item i s _ _ m a λ v C tk hv d kk=>?_
  obtain⟨t,rfl⟩:=hv;refine⟨_,rfl,jN d rfl rfl IL ⟨.int (g+i),H,(I.turned (λ b o c e=>kk b o (by simpa using c) e) B A y x u),⟨t,?_⟩,⟨rfl,rfl⟩,d,λ b c=>(j b c).1⟩⟩;rw[Int.mul_one]
 done:=by
  intro X q l r p i f s F H E I j a m;subst q l r;obtain⟨B,A,L,y,x,u⟩:=j it IX;exact wpAny_pyNext_range_end (I.ok.hd p) a (by have:n<=i:=m;omega) λ C M=>⟨rfl,I.turned (λ b o c e=>M b o c e) B A y x u⟩
 self:=λ _ _ _ _ _ a h=>wpAny_pyIter_rangeiter a h
end L2
namespace L2
open PySem PySem.Spec PyProof.Rows
def xQ(K:IE)(tl:TE):TI:=λ σ H R=>tl σ H λ x H1=>∃a,x=.ref a/\(∃xs,SqL K H1 a xs)/\R (Itl K a) H1
def iTup(K:IE)(tl:TE):TI:=λ σ H R=>tl σ H λ x H1=>∃a,x=.ref a/\(∃xs,SqT K H1 a xs)/\R (Itt K a) H1
theorem oU(m:PE X l f):PI X tg l (xQ X.K f):=by
 intro c s g H R I h;refine thn (m c s g H _ I h) λ v s1 t0=>?_;obtain⟨x,r,d,r1,i⟩:=t0
 obtain⟨a,e,⟨xs,k⟩,q⟩:=i;subst e;cases r1;obtain⟨j,rv,p,hz⟩:=d.list k;refine iZ p.isList ?_;refine⟨s1.heap.objs.size,[s1.heap.objs.size],_,_,r,rfl,d.kept λ b o e=>k6 _ e,xN a _,⟨_,t8 _ rfl,rfl,rfl⟩,λ b n=>?_,q⟩;have e:b=s1.heap.objs.size:=by simpa using n
 subst e;exact d.fpOk (k8 _) (d.hok.fresh (k8 _))
theorem xR(m:PE X l f):PI X tg l (iTup X.K f):=by
 intro c s g H R I h;refine thn (m c s g H _ I h) λ v s1 t0=>?_;obtain⟨x,r,d,r1,i⟩:=t0
 obtain⟨a,e,⟨xs,k⟩,q⟩:=i;subst e;cases r1;obtain⟨j,rv,p,hz⟩:=d.tuple k;refine aR (p) ?_;refine⟨s1.heap.objs.size,[s1.heap.objs.size],_,_,r,rfl,d.kept λ b o e=>k6 _ e,xO a _,⟨_,t8 _ rfl,rfl,rfl⟩,λ b n=>?_,q⟩;have e:b=s1.heap.objs.size:=by simpa using n
 subst e;exact d.fpOk (k8 _) (d.hok.fresh (k8 _))
theorem oV(I:IV c)(k : -(2^62)<=a)(j:a<2^62)(i : -(2^62)<=d)(h:d<2^62)
  (q:R (Itr a (d - a).toNat) H):wpAny IQ X.A (pyIter (.ref s.heap.objs.size)) (PIE X c σ tg R) E {s with heap:=s.heap.push {cls:=.type "range",data:=.fields #[.int a t,.int d u,.int 1 v]},toks:=tk}:=by
 refine wpAny_pyIter_range (IsRange.new ..) (small_one k j i h) ?_;have f:Inv X c σ H {s with heap:=s.heap.push {cls:=.type "range",data:=.fields #[.int a t,.int d u,.int 1 v]},toks:=tk}:=I.kept λ b o e=>k6 _ e;refine⟨(s.heap.push {cls:=.type "range",data:=.fields #[.int a t,.int d u,.int 1 v]}).objs.size,[(s.heap.push {cls:=.type "range",data:=.fields #[.int a t,.int d u,.int 1 v]}).objs.size],_,_,H,rfl,
  f.kept λ b o e=>k6 _ e,xP _ a (d - a).toNat,?_,λ b g=>?_,q⟩
 ·have m:a+((0:Nat):Int)*1=a:=by simp
  have l:(((d - a).toNat:Nat):Int) - ((0:Nat):Int)=Builtin.Range.rangeSize a d 1:=by rw[rangeSize_one];split<;>omega
  show IsRangeIter _ _ _ _ 1;rw[m,l];exact t8 _ rfl
 ·have e:b=(s.heap.push {cls:=.type "range",data:=.fields #[.int a t,.int d u,.int 1 v]}).objs.size:=by simpa using g
  subst e;exact f.fpOk (k8 _) (f.hok.fresh (k8 _))
def xS(ta:TA):TI:=λ σ H R=>ta σ H λ vs H1=>∃j:Int,vs=[.int j] /\ -(2^62)<=j/\j<2^62/\R (Itr 0 j.toNat) H1
def xT(ta:TA):TI:=λ σ H R=>ta σ H λ vs H1=>∃i j:Int,vs=[.int i,.int j]/\(-(2^62)<=i/\i<2^62 /\ -(2^62)<=j/\j<2^62)/\R (Itr i (j - i).toNat) H1
theorem xU(m:Gl X "range")(l:X.mg "range" = none)(n:PA X [a] d)(k:starEach [a] X.env=[(false,eval a X.env)]:=by rfl):PI X tg (.Call (.Name "range" p) [a] [] pos) (xS d):=by
 intro b s f H R I h;refine Call_ (U6 I m l boot_range (aO (thn (n pos b s f H _ I h) λ us s1 ⟨vs,H1,o,r1,c⟩=>?_) k rfl));obtain⟨j,e,c,i,q⟩:=c;subst e;cases r1 with
 | cons r g=>
  cases g;obtain⟨t,rfl⟩:=r;exact call_range_1 (oV o IK IK c i (by simpa using q))
theorem xV(x:Gl X "range")(w:X.mg "range" = none)(y:PA X [a,b] k)(v:starEach [a,b] X.env=[(false,eval a X.env),(false,eval b X.env)]:=by rfl)(d:starEach [b] X.env=[(false,eval b X.env)]:=by rfl) :
  PI X tg (.Call (.Name "range" p) [a,b] [] pos) (xT k):=by
 intro c s l H R I h;refine Call_ (U6 I x w boot_range (aO (thn (y pos c s l H _ I h) λ us s1 ⟨vs,H1,z,r1,g⟩=>?_) (by rw[v,d]) (by rw[d];rfl)));obtain⟨i,j,e,⟨g,u,o,n⟩,q⟩:=g;subst e;cases r1 with
 | cons r f=>
  cases f with
  | cons m f=>
   cases f;obtain⟨t,rfl⟩:=r;obtain⟨t',rfl⟩:=m;exact call_range_2 (oV z g u o n q)
noncomputable def tFor(wi:TI)(g:TG)(tb:TS):TS:=λ D σ H=>wi σ H λ J H1=>∃W:Nat->Nat->St->Hp->Prop,(∃m,W 0 m σ H1)/\∀i m σ H,W i m σ H ->
 (J.stop i H/\D.nx σ H)\/(J.go i H/\∃N:St->Hp->Prop,(∀σ' H',N σ' H'->∃m',m'<m/\W (i+1) m' σ' H')/\∀x H',J.yld i H x H'->g x σ H' λ σ2 H2=>tb {D with nx:=N,ct:=N,bk:=D.nx} σ2 H2)
noncomputable def fN(fp:on Iv)(h:Iw):on (Iv×Obj):=fp.filterMap λ b=>(h.get? b).map λ o=>(b,o)
theorem X4(a:b∈fp)(e:h.get? b=some o):(b,o)∈fN fp h:=cq.mpr ⟨b,a,by rw[e];rfl⟩
theorem xW(a:p∈fN fp h):p.1∈fp/\h.get? p.1=some p.2:=by
 obtain⟨b,c,e⟩:=cq.mp a;cases q:h.get? b with
 | none=>rw[q]at e;cases e
 | some o=>
  rw[q]at e;have d:=E2 e;subst d;exact⟨c,q⟩
theorem Inv.pinned(I:IV a)(i:∀b∈fp,FpOk X a H b)(h:∀b∈fp,∃o,s.heap.get? b=some o/\∀v,o.data ≠ .cell v):Inv X (a++fN fp s.heap) σ H s:=
 I.pins_of λ p g=>(F5.mp g).elim (λ z=>I.pin p (y9 _ z)) λ z=>by obtain⟨c,e⟩:=xW z;obtain⟨l,k,j,_⟩:=i p.1 c;obtain⟨o,f,d⟩:=h p.1 c;rw[e]at f;cases f;exact⟨e,l,k,j,d⟩
theorem Inv.unpinned(I:IV (a++b)):Inv X a σ H s:=I.pins_of λ p c=>I.pin p (y9 _ (F2 _ c))
theorem xX(K:PassesOwn IQ X.A X.env X.xe)(hc:X.calm=true)(hi:PI X tg l Y)(hg:PG X tg g)(p:PSs X body tb)
  (hs:∀x,foldedSetIterable l X.env x=pure x:=by intro _;rfl):PS X (.For tg l body [] pos) (tFor Y g tb):=by
 intro c s U H D I h;refine wpAny_For (thn (hi c s U H _ I h) λ v s1 h1=>thn h1 λ itv s2 h2=>?_) hs;obtain⟨it,L,Z,J,H2,e,I2,T,O,f2,W,⟨m0,w0⟩,C⟩:=h2;subst e;have k:∀{z:Hp},(∀b∈L,z b=none)->∀b∈L,FpOk X c z b:=λ hn b p=>⟨hn b p,(f2 b p).2⟩
 refine codeAny_forLoop_any (λ n s'=>∃i j z,Inv X c j z s'/\Z i s'.heap/\(∀b∈L,z b=none)/\W i n j z) ?_ m0 ⟨0,U,H2,I2,O,λ b p=>(f2 b p).1,w0⟩
 rintro n s3 ⟨i,σ3,H3,I3,st3,fr3,w3⟩
 rcases C i n σ3 H3 w3 with⟨E,qn⟩ | ⟨go,N,hN,step⟩
 ·refine ah K (thn (T.done X rfl rfl rfl hc i c s3 σ3 H3 X.xe I3 (k fr3) st3 E) λ r s4 t0=>?_);obtain⟨Q,I4⟩:=t0;subst Q;exact jn ⟨σ3,H3,I4,qn⟩
 ·refine ah K (thn (T.item X rfl rfl rfl hc i c s3 σ3 H3 X.xe I3 (k fr3) st3 go) λ r s4 t0=>?_);obtain⟨u,Q,h4⟩:=t0;subst Q;refine ah K (thn h4 λ _ s5 t0=>?_);obtain⟨x,H5,I5,r5,y5,B,R⟩:=t0;have S:=I5.pinned (k R) (T.obj _ _ B);refine ah K (thn (hg _ s5 σ3 H5 x u _ S r5 (step x H5 y5)) λ _ s6 t0=>?_);obtain⟨M,H6,I6,q6⟩:=t0;refine ah K (thn (p _ s6 M H6 _ I6 q6) λ f P A=>?_);have q:∀{a:St} {y:Hp},Inv X _ a y P->N a y->∃m,m<n/\∃i j z,Inv X c j z P/\Z i P.heap/\(∀b∈L,z b=none)/\W i m j z:=λ {a y} w F=>by obtain⟨m',hm,w7⟩:=hN a y F;refine⟨m',hm,i+1,a,y,w.unpinned,T.keep _ _ _ B λ b p o e=>(w.pin (b,o) (y9 _ (y9 _ (X4 p e)))).1,λ b p=>?_,w7⟩;obtain⟨o,e,d⟩:=T.obj _ _ B b p;exact(w.pin (b,o) (y9 _ (y9 _ (X4 p e)))).2.1
  cases f with
  | next=>obtain⟨a,y,w,F⟩:=A;exact q w F
  | cont=>obtain⟨a,y,w,F⟩:=A;exact q w F
  | brk=>obtain⟨a,y,w,A⟩:=A;exact⟨a,y,w.unpinned,A⟩
  | ret v=>obtain⟨x7,a,y,w,r7,A⟩:=A;exact⟨x7,a,y,w.unpinned,r7,A⟩
end L2
namespace L2
open PySem PySem.Spec PyProof.Rows
abbrev R2:=V->V->Hp->VK->Prop
def OpR(X:Cx)(f:Is->Is->Sem Is)(r:R2):Prop:=
 ∀(pins:on (Iv×Obj)) (s:Iu) (σ:St) (H:Hp) (x y:V) (v u:Is) (Q:VK),Inv X pins σ H s->RelV x v->RelV y u->r x y H Q ->
  wpAny IQ X.A (f v u) (EP X pins σ Q) X.xe s
def UnR(X:Cx)(f:Is->Sem Is)(r:V->Hp->VK->Prop):Prop:=
 ∀(pins:on (Iv×Obj)) (s:Iu) (σ:St) (H:Hp) (x:V) (v:Is) (Q:VK),Inv X pins σ H s->RelV x v->r x H Q ->
  wpAny IQ X.A (f v) (EP X pins σ Q) X.xe s
def B9(X:Cx)(f:Is)(r:on V->Hp->VK->Prop):Prop:=
 ∀(pins:on (Iv×Obj)) (s:Iu) (σ:St) (H:Hp) (xs:on V) (us:on Is) (Q:VK),Inv X pins σ H s->Vals xs us->r xs H Q ->
  wpAny IQ X.A (call f us) (EP X pins σ Q) X.xe s
def TruR(X:Cx)(r:V->Hp->(Bool->Hp->Prop)->Prop):Prop:=
 ∀(pins:on (Iv×Obj)) (s:Iu) (σ:St) (H:Hp) (x:V) (v:Is) (Q:Bool->Hp->Prop),Inv X pins σ H s->RelV x v->r x H Q ->
  wpAny IQ X.A (truthy v) (TP X pins σ Q) X.xe s
noncomputable def tOp(r:R2)(ta tb:TE):TE:=λ σ H Q=>ta σ H λ x H1=>tb σ H1 λ y H2=>r x y H2 Q
noncomputable def tUn(r:V->Hp->VK->Prop)(ta:TE):TE:=λ σ H Q=>ta σ H λ x H1=>r x H1 Q
noncomputable def rI(C:Int->Int->Prop)(g:Int->Int->V):R2:=λ x y H Q=>∃i j,x=.int i/\y=.int j/\C i j/\Q (g i j) H
noncomputable def rI0(g:Int->Int->V):R2:=λ x y H Q=>∃i j,x=.int i/\y=.int j/\Q (g i j) H
noncomputable def rU(g:Int->V):V->Hp->VK->Prop:=λ x H Q=>∃i,x=.int i/\Q (g i) H
theorem binT(q:PE X a k)(p:PE X b j){R:V->V->Hp->Prop}(I:IV c)
  (h:k σ H λ x i=>j σ i λ y d=>R x y d)  {f:Is->Is->Sem Is}
  (o:∀v u s2 x y d,Inv X c σ d s2->RelV x v->RelV y u->R x y d->wpAny IQ X.A (f v u) Q X.xe s2) :
  wpAny IQ X.A (eval a X.env) (λ v g=>wpAny IQ X.A (eval b X.env) (λ u e=>wpAny IQ X.A (f v u) Q X.xe e) X.xe g) X.xe s:=by
 refine thn (q c s σ H _ I h) λ v s1 t0=>?_;obtain⟨x,i,w,r1,n⟩:=t0;refine thn (p c s1 σ i _ w n) λ u s2 t0=>?_;obtain⟨y,d,r,l,m⟩:=t0;exact o v u s2 x y d r r1 l m
theorem xY(j:OpR X (binaryOp op) r)(l:PE X a e)(k:PE X b d):PE X (.BinOp a op b pos) (tOp r e d):=by
 intro c s f H Q I h;exact wpAny_BinOp (binT l k I h λ v u s2 x y n m i g q=>j c s2 f n x y v u Q m i g q)
theorem xZ(f:UnR X (unaryOp op) r)(g:PE X a d):PE X (.UnaryOp op a pos) (tUn r d):=by
 intro b s c H Q I h;exact UnaryOp_ (thn (g b s c H _ I h) λ v s1 ⟨x,j,i,r1,e⟩=>f b s1 c j x v Q i r1 e)
theorem opI{g:Int->Int->Int}
  (a:∀(i j:Int) (t u:Tok) (s:Iu) (Q:Is->Iu->Prop) (E:Is->Iu->Prop),C i j->Q (.int (g i j) s.toks) {s with toks:=s.toks+1} -> wpAny IQ X.A (f (.int i t) (.int j u)) Q E s) :
  OpR X f (rI C λ i j=>.int (g i j)):=by
 intro b s σ H x y v u Q I e d h;obtain⟨i,j,rfl,rfl,k,q⟩:=h;obtain⟨t,rfl⟩:=e;obtain⟨c,rfl⟩:=d;exact a i j t c s _ _ k ⟨.int _,H,I.tok _,⟨_,rfl⟩,q⟩
theorem opI0{g:Int->Int->Int}
  (a:∀(i j:Int) (t u:Tok) (s:Iu) (Q:Is->Iu->Prop) (E:Is->Iu->Prop),Q (.int (g i j) s.toks) {s with toks:=s.toks+1} -> wpAny IQ X.A (f (.int i t) (.int j u)) Q E s) :
  OpR X f (rI0 λ i j=>.int (g i j)):=by
 intro b s σ H x y v u Q I e d h;obtain⟨i,j,rfl,rfl,q⟩:=h;obtain⟨t,rfl⟩:=e;obtain⟨c,rfl⟩:=d;exact a i j t c s _ _ ⟨.int _,H,I.tok _,⟨_,rfl⟩,q⟩
theorem opB0{g:Int->Int->Bool}
  (a:∀(i j:Int) (t u:Tok) (s:Iu) (Q:Is->Iu->Prop) (E:Is->Iu->Prop),Q (.bool (g i j)) s->wpAny IQ X.A (f (.int i t) (.int j u)) Q E s) :
  OpR X f (rI0 λ i j=>.bl (g i j)):=by
 intro b s σ H x y v u Q I e d h;obtain⟨i,j,rfl,rfl,q⟩:=h;obtain⟨t,rfl⟩:=e;obtain⟨c,rfl⟩:=d;exact a i j t c s _ _ ⟨.bl _,H,I,rfl,q⟩
def CPow(i j:Int):Prop:=0<=j/\j<=1000000/\i.natAbs<2^64
def CMul(i j:Int):Prop:=(-(2^64)<i/\i<2^64)\/(-(2^64)<j/\j<2^64)
theorem CMul.ok(h:CMul i j):IntMulOk i j:=by
 rcases h with⟨b,a⟩ | ⟨b,a⟩
 ·exact .of_left (intBits_le_64 b a)
 ·exact .of_right (intBits_le_64 b a)
theorem ya(k:Nat):(0:Int)<=2^k:=by
 rw[two_pow_cast];exact E7 _
theorem yb:OpR X (binaryOp .Add) (rI0 λ i j=>.int (i+j)):=opI0 λ _ _ _ _ _ _ _ q=>add_int q
theorem yc:OpR X (binaryOp .Sub) (rI0 λ i j=>.int (i - j)):=opI0 λ _ _ _ _ _ _ _ q=>sub_int q
theorem yd:OpR X (binaryOp .Mod) (rI (λ _ j=>0<j) λ i j=>.int (i%j)):=opI λ i j _ _ _ _ _ a q=>by
 have h1:=a;exact mod_int' IK (by rw[Int.fmod_eq_emod_of_nonneg i IK];exact q)
theorem ye:OpR X (binaryOp .Mod) (rI (λ _ j=>j≠0) λ i j=>.int (i.fmod j)):=opI λ _ _ _ _ _ _ _ a q=>mod_int' a q
theorem yf:OpR X (binaryOp .LShift) (rI CPow λ i j=>.int (i*2^j.toNat)):=opI λ _ _ _ _ _ _ _ a q=>lshift_int_small a.1 a.2.1 a.2.2 q
theorem yg:OpR X (binaryOp .RShift) (rI (λ _ j=>0<=j) λ i j=>.int (i/2^j.toNat)):=opI λ i j _ _ _ _ _ a q=>
 rshift_int a (by rw[nU i (ya _)];exact q)
theorem yh:OpR X (binaryOp .BitAnd) (rI0 λ i j=>.int (Builtin.bitAnd i j)):=opI0 λ _ _ _ _ _ _ _ q=>and_int q
theorem yi:OpR X (binaryOp .BitOr) (rI0 λ i j=>.int (Builtin.bitOr i j)):=opI0 λ _ _ _ _ _ _ _ q=>or_int q
theorem unI{g:Int->Int}
  (a:∀(i:Int) (t:Tok) (s:Iu) (Q:Is->Iu->Prop) (E:Is->Iu->Prop),Q (.int (g i) s.toks) {s with toks:=s.toks+1} -> wpAny IQ X.A (f (.int i t)) Q E s) :
  UnR X f (rU λ i=>.int (g i)):=by
 intro b s σ H x v Q I c h;obtain⟨i,rfl,q⟩:=h;obtain⟨t,rfl⟩:=c;exact a i t s _ _ ⟨.int (g i),H,I.tok _,⟨_,rfl⟩,q⟩
theorem yj:UnR X (unaryOp .USub) (rU λ i=>.int (-i)):=unI λ _ _ _ _ _ q=>neg_int q
section
variable {X:Cx} {a b c:Ix} {ta tb tc:TE} {pos:Pos}
theorem yk:OpR X (compareOp .Lt) (rI0 λ i j=>.bl (decide (i<j))):=opB0 λ _ _ _ _ _ _ _ q=>lt_int q
theorem yl:OpR X (compareOp .LtE) (rI0 λ i j=>.bl (decide (i<=j))):=opB0 λ _ _ _ _ _ _ _ q=>le_int q
theorem ym:OpR X (compareOp .Gt) (rI0 λ i j=>.bl (decide (j<i))):=opB0 λ _ _ _ _ _ _ _ q=>gt_int q
theorem OpR.or(h:OpR X f r)(h':OpR X f e):OpR X f (λ x y H Q=>r x y H Q\/e x y H Q):=by
 intro a s b H x y v u Q I d c q;rcases q with q | q
 ·exact h a s b H x y v u Q I d c q
 ·exact h' a s b H x y v u Q I d c q
theorem Io(b:Ix)(h:op ≠ .In:=by decide)(a:op ≠ .NotIn:=by decide):behindInMarks op b=false:=by
 have d:(op==CmpOp.In)=false:=by cases op<;>first | rfl | exact absurd rfl h
 have c:(op==CmpOp.NotIn)=false:=by cases op<;>first | rfl | exact absurd rfl a
 cases b<;>simp[behindInMarks,d,c]
theorem yn(g:OpR X (compareOp op) r)(k:PE X a ta)(j:PE X b tb)(i:behindInMarks op b=false):PE X (.Compare a [op] [b] pos) (tOp r ta tb):=by
 intro c s d H Q I h;exact wpAny_Compare1 (binT k j I h λ v u s2 x y m l f e q=>g c s2 d m x y v u Q l f e q) i
noncomputable def oW(t:TE):TT:=λ σ H Q=>t σ H λ x H'=>∃k,x=.bl k/\Q k H'
theorem yp(n:OpR X (compareOp op) r)(q:PE X a ta)(p:PE X b tb)(o:behindInMarks op b=false):PT X (.Compare a [op] [b] pos) (oW (tOp r ta tb)):=by
 intro d s f H Q I h;refine wpAny_isTrue_Compare1 (thn (q d s f H _ I h) λ v s1 ⟨x,F,B,r1,m⟩=>thn (p d s1 f F _ B m) λ u s2 ⟨y,E,A,i,l⟩=>
  thn (n d s2 f E x y v u _ A r1 i l) λ c s3 ⟨z,C,w,g,k,e,j⟩=>?_) o
 subst e;cases g;exact aV ⟨C,w,j⟩
noncomputable def jO(r r':R2)(ta tb tc:TE):TE:=λ σ H Q=>ta σ H λ x H1=>tb σ H1 λ y H2=>r x y H2 λ z H3=>∃k,z=.bl k /\
 (if k=true then tc σ H3 λ w' H4=>r' y w' H4 Q else Q (.bl false) H3)
theorem yq(L:OpR X (compareOp op) r)(j:OpR X (compareOp g) m)(P:PE X a ta)(O:PE X b tb)(N:PE X c tc)
  (M:lastMarks [op,g] [b,c]=false:=by with_unfolding_all rfl):PE X (.Compare a [op,g] [b,c] pos) (jO r m ta tb tc):=by
 intro f s i H Q I h;refine Compare_chain (thn (P f s i H _ I h) λ v s1 ⟨x,Z,U,r1,K⟩=>chain_link (thn (O f s1 i Z _ U K) λ u s2 ⟨y,Y,S,l,J⟩=>
  thn (L f s2 i Y x y v u _ S r1 l J) λ d B ⟨z,p,o,E,k,e,n⟩=>?_)) M
 subst e;cases E;refine aV ?_;cases k with
 | false=>exact ite_ff ⟨.bl false,p,o,rfl,n⟩
 | true=>exact ite_tt (chain_last (thn (N f B i p _ o n) λ w A ⟨q,W,R,C,F⟩=>j f A i W y q u w Q R l C F))
theorem yr(O:OpR X (compareOp op) r)(j:OpR X (compareOp g) m)(U:PE X a ta)(S:PE X b tb)(R:PE X c tc)
  (P:lastMarks [op,g] [b,c]=false:=by with_unfolding_all rfl):PT X (.Compare a [op,g] [b,c] pos) (oW (jO r m ta tb tc)):=by
 intro f s i H Q I h;refine isTrue_chain (thn (U f s i H _ I h) λ v s1 ⟨x,H1,I1,r1,M⟩=>test_link (thn (S f s1 i H1 _ I1 M) λ u s2 ⟨y,H2,I2,l,L⟩=>
  thn (O f s2 i H2 x y v u _ I2 r1 l L) λ d B ⟨z,p,o,F,k,e,n⟩=>?_)) P
 subst e;cases F;refine aV ?_;cases k with
 | false=>
  obtain⟨k',Y,N⟩:=n;cases Y;exact ite_ff ⟨p,o,N⟩
 | true=>
  refine ite_tt (test_last (thn (R f B i p _ o n) λ w A ⟨q,H4,I4,E,K⟩=>thn (j f A i H4 y q u w _ I4 l E K) λ d' s5 t0=>?_));obtain⟨z2,H5,Z,C,k2,W,J⟩:=t0;subst W;cases C;exact aV ⟨H5,Z,J⟩
def TruV(K:IE)(x:V)(H:Hp)(k:Bool):Prop:=
 match x with
 | .non=>k=false
 | .bl b=>k=b
 | .int i=>k=(i != 0)
 | .str y=>y.length<=sizeLine/\k=((y.length:Int) != 0)
 | .byt y=>y.size<=sizeLine/\k=((y.size:Int) != 0)
 | .ref p=>(∃xs,SqL K H p xs/\k = !xs.isEmpty)\/(∃xs,SqT K H p xs/\k = !xs.isEmpty)\/∃kvs,H p=some (.dK kvs)/\k = !kvs.isEmpty
 | _=>False
theorem yt{b:Type}{a:on (b×V)}{vs:on (b×Is)}(r:KV a vs):(!vs.isEmpty) = !a.isEmpty:=by
 cases r<;>rfl
theorem oX{a:on Is}(r:Vals xs a):(!a.toArray.isEmpty) = !xs.isEmpty:=by
 cases r<;>simp
theorem bq:(sizeLine:Nat)<2^63:=by rw[cN];decide
theorem fO:TruR X (λ x H Q=>∃k,TruV X.K x H k/\Q k H):=by
 intro A s σ H x v Q I j h;obtain⟨k,e,q⟩:=h;have hl:=bq;have hs:=cN;cases x with
 | non=>
  cases j;have c:=e;subst c;exact truthy_none ⟨H,I,q⟩
 | bl b=>
  cases j;have c:=e;subst c;exact aV ⟨H,I,q⟩
 | int i=>
  obtain⟨t,rfl⟩:=j;have c:=e;subst c;exact PySem.P.truthy_int ⟨H,I,q⟩
 | str y=>
  obtain⟨t,rfl⟩:=j;obtain⟨E,c⟩:y.length<=sizeLine/\k=_:=e;subst c;exact PySem.P.truthy_str IK ⟨H,I.tok _,q⟩
 | byt y=>
  obtain⟨t,rfl⟩:=j;obtain⟨E,c⟩:y.size<=sizeLine/\k=_:=e;subst c;exact PySem.W.truthy_bytes IK ⟨H,I.tok _,q⟩
 | ref p=>
  cases j;have c:=e;rcases c with⟨C,n,c⟩ | ⟨C,n,c⟩ | ⟨l,n,c⟩
  ·subst c;obtain⟨z,r,w,B⟩:=I.list n;have g:=r.length;exact wpAny_truthy_list w.isList (by simp only[v3];omega) ⟨H,I.tok _,by rw[oX r];exact q⟩
  ·subst c;obtain⟨z,r,w,B⟩:=I.tuple n;have g:=r.length;exact truthy_tuple w (by simp only[v3];omega) ⟨H,I.tok _,by rw[oX r];exact q⟩
  ·subst c;obtain⟨B,hS,u,r,m⟩:l.length<=sizeLine/\_=false/\∃u,KV l u/\s.heap.DictOf _ p u:=I.hok p _ n;have g:=fv r;exact wpAny_truthy_dict hS m IK ⟨H,I.tok _,by rw[yt r];exact q⟩
 | _=>exact(e).elim
theorem yu(i:PE X a ta)(g:∀b,isTrue a X.env b=(do let v ←b;standAt a.pos;holding [v] (truthy v))) :
  PT X a (λ d H Q=>ta d H λ x e=>∃k,TruV X.K x e k/\Q k e):=by
 intro c s d H Q I h;exact isTrue_plain (thn (i c s d H _ I h) λ v s1 ⟨x,l,j,r1,f⟩=>fO c s1 d l x v Q j r1 f) (g _)
theorem K3{a:on Is}(r:Vals [x] a):∃u,a=[u]/\RelV x u:=by
 cases r with
 | cons r1 b=>cases b;exact⟨_,rfl,r1⟩
theorem jP{b:on Is}(r:Vals [x,y] b):∃u a,b=[u,a]/\RelV x u/\RelV y a:=by
 cases r with
 | cons r1 e=>
  cases e with
  | cons d c=>cases c;exact⟨_,_,rfl,r1,d⟩
theorem yv(d:X.calm=true):B9 X (.builtin "max") (λ b H Q=>∃i j,b=[.int i,.int j]/\Q (.int (if j>i then j else i)) H):=by
 intro c s σ H b us Q I r h;obtain⟨i,j,rfl,q⟩:=h;obtain⟨u,w',rfl,⟨t,rfl⟩,⟨t',rfl⟩⟩:=jP r;refine max_two_ints (I.ok.hd d) λ h' tk k=>⟨_,H,I.kept k,?_,q⟩
 by_cases a:j>i
 ·rw[f8 a,f8 a];exact⟨_,rfl⟩
 ·rw[g8 a,g8 a];exact⟨_,rfl⟩
theorem yw(d:X.calm=true):B9 X (.builtin "min") (λ b H Q=>∃i j,b=[.int i,.int j]/\Q (.int (if j<i then j else i)) H):=by
 intro c s σ H b us Q I r h;obtain⟨i,j,rfl,q⟩:=h;obtain⟨u,w',rfl,⟨t,rfl⟩,⟨t',rfl⟩⟩:=jP r;refine min_two_ints (I.ok.hd d) λ h' tk k=>⟨_,H,I.kept k,?_,q⟩
 by_cases a:j<i
 ·rw[f8 a,f8 a];exact⟨_,rfl⟩
 ·rw[g8 a,g8 a];exact⟨_,rfl⟩
theorem oY:B9 X (.type "int") (λ a H Q=>(∃i,a=[.int i]/\Q (.int i) H)\/∃k,a=[.bl k]/\Q (.int (if k then 1 else 0)) H):=by
 intro b s σ H a us Q I r h;rcases h with⟨i,rfl,q⟩ | ⟨k,rfl,q⟩
 ·obtain⟨u,rfl,t,rfl⟩:=K3 r;exact call_int_int ⟨.int i,H,I,⟨_,rfl⟩,q⟩
 ·obtain⟨u,rfl,r1⟩:=K3 r;cases r1;exact call_int_bool ⟨.int _,H,I.tok _,⟨_,rfl⟩,q⟩
end
end L2
namespace L2
open PySem PySem.Spec PyProof.Rows
structure ObjM(h:Heap)(x dx C:Addr)(mA:Str->Option Value):Prop where
 obj:h.get? x=some (PySem.W.instObj C dx)
 ns:h.Ns1 dx mA
 ne:dx≠x
theorem RelO.some_of(r:RelO (some v) o):∃u,o=some u/\RelV v u:=by
 cases o with
 | none=>exact(r).elim
 | some u=>exact⟨u,rfl,r⟩
theorem oZ(g:HOk P w H h)(e:H a=some (.ins C c fs)):∃b,ObjM h a c C b/\(∀f,RelO (fs.lookup f) (b f))/\PySem.Within b (fs.map (·.1))/\fs.length<=1000/\H c=some (.own a):=by
 obtain⟨d,z,ne,i,b,n,r,q⟩:=(show u9 P w H h a (.ins C c fs)from g a _ e);exact⟨b,⟨i,n,ne⟩,r,q,z,d⟩
structure Cls(K:PySem.W.Frag)(C:Addr):Prop where
 pg:PySem.W.plainGet K C Str.empty=true
 hd:PySem.W.hasDictIn K C=true
 po:PySem.W.plainOver K C=true
 sa:PySem.W.findIn K (.ref C) "__setattr__" = some (some (.builtin "object.__setattr__"))
structure Con(K:PySem.W.Frag)(C:Addr)(f:Str)(v:V)(u:Value):Prop where
 at_:PySem.W.findIn K (.ref C) f=some (some u)
 rel:RelV v u
 get:PySem.W.specialIn K u "__get__" = some none
 cp:PySem.W.copiedNames.contains f=false
structure Meth(K:PySem.W.Frag)(C:Addr)(m:Str)(f:Addr):Prop where
 at_:PySem.W.findIn K (.ref C) m=some (some (.ref f))
 fn:PySem.W.isFn K (.ref f)=true
 kp:PySem.W.keepIn K (.ref f)=true
section
variable {X:Cx} {pins:on (Iv×Obj)} {σ:St} {H:Hp} {s:Iu} {A:IB} {E:Is->Iu->Prop} {Q:Is->Iu->Prop} {c:Is} {b:Bool}
inductive TyOf (K:PySem.W.Frag) (H:Hp):V->Value->Prop where
 | non:TyOf K H .non (.type "NoneType")
 | bl (x:Bool):TyOf K H (.bl x) (.type "bool")
 | int (i:Int):TyOf K H (.int i) (.type "int")
 | str (x:Str):TyOf K H (.str x) (.type "str")
 | flt (x:UInt64):TyOf K H (.flt x) (.type "float")
 | lst {a:Addr} {xs:List V} (e:H a=some (.lst xs)):TyOf K H (.ref a) (.type "list")
 | frz {a:Addr} {o:Obj} {xs:List V} (e:H a=some (.frz o (.lst xs))):TyOf K H (.ref a) (.type "list")
 | tup {a:Addr} {xs:List V} (e:H a=some (.tup xs)):TyOf K H (.ref a) (.type "tuple")
 | dK {a:Addr} {kvs:List (Key×V)} (e:H a=some (.dK kvs)):TyOf K H (.ref a) (.type "dict")
 | dT {a:Addr} {kvs:List (List Key×V)} (e:H a=some (.dT kvs)):TyOf K H (.ref a) (.type "dict")
 | ins {a C dx:Addr} {fs:List (Str×V)} (e:H a=some (.ins C dx fs)) (cl:Cls K C) (ha:PySem.W.findIn K (.ref C) "__class__" = some (some (.builtin "object.__class__")))
   (hn:PySem.W.specialIn K (.builtin "object.__class__") "__get__" = some (some (.builtin "getset_descriptor.__get__"))) (htk:PySem.W.takesIn K (.builtin "object.__class__")=some true)
   (hm:PySem.W.mroIn K C (.type "object")=some true):TyOf K H (.ref a) (.ref C)
end
end L2
namespace L2
open PySem PySem.Spec PyProof.Rows
structure Room(k:Nat)(A:Around):Prop where
 hd:A.handled=none
 dp:A.depth+3*k+5<recursionLimit
 un:A.units+16*k+200<cLine
theorem Room.deeper(r:Room (k+1) A)(env:Env):Room k (A.deeper env):=
 ⟨r.hd,by have:=r.dp;show A.depth+1+3*k+5<_;omega,by have:=r.un;show A.units+3+16*k+200<_;omega⟩
theorem Room.depth(r:Room k A):A.depth<recursionLimit:=by have:=r.dp;omega
theorem Room.units(r:Room k A):A.units+64<cLine:=by have:=r.un;omega
noncomputable def tNil:TA:=λ _ H Q=>Q [] H
noncomputable def jQ(ta:TE)(tr:TA):TA:=λ σ H Q=>ta σ H λ x H1=>tr σ H1 λ xs H2=>Q (x::xs) H2
section
variable {X:Cx} {e:Ix} {es:on Ix} {te:TE} {t:TA} {pos:Pos}
theorem U7:PA X [] tNil:=λ _ _ _ _ H Q I h=>fb ⟨[],H,I,.nil,h⟩
theorem R7(l:PE X e te)(k:PA X es t)(j:starEach (e::es) X.env=(false,eval e X.env)::starEach es X.env:=by rfl):PA X (e::es) (jQ te t):=by
 intro b a s c H Q I h;rw[j];show wpAny _ _ _ _ _ s;refine eY (thn (l a s c H _ I h) λ u s1 t0=>?_);obtain⟨x,p,n,r1,i⟩:=t0;exact thn (k b a s1 c p _ n i) λ us s2 ⟨d,o,m,f,g⟩=>⟨x::d,o,m,.cons r1 f,g⟩
def tTup(t:TA):TE:=λ σ H Q=>t σ H λ xs H1=>xs.length<=sizeLine/\∀p,H1 p=none->Q (.ref p) (upd H1 p (.tup xs))
def tLst(t:TA):TE:=λ σ H Q=>t σ H λ xs H1=>xs.length<=sizeLine/\∀p,H1 p=none->Q (.ref p) (upd H1 p (.lst xs))
theorem pc(h:PA X es t):PE X (.Tuple es x1 pos) (tTup t):=by
 intro a s d H Q I g;refine wpAny_Tuple_spliced (thn (h pos a s d H _ I g) λ f s1 ⟨xs,i,c,r,z,q⟩=>⟨by rw[←r.length];exact z,?_⟩);refine⟨.ref s1.heap.objs.size,upd i s1.heap.objs.size _,c.laid (λ b u e=>k6 _ e) (k8 _) ?_,rfl,q _ (c.hok.fresh (k8 _))⟩;exact⟨z,f,r,⟨_,t8 _ rfl,⟨rfl,rfl⟩,_,rfl⟩⟩
theorem yx(h:PA X es t):PE X (.List es pos) (tLst t):=by
 intro a s d H Q I g;refine wpAny_List_spliced (thn (h pos a s d H _ I g) λ f s1 ⟨xs,i,c,r,z,q⟩=>⟨by rw[←r.length];exact z,?_⟩);refine⟨.ref s1.heap.objs.size,upd i s1.heap.objs.size _,c.laid (λ b u e=>k6 _ e) (k8 _) ?_,rfl,q _ (c.hok.fresh (k8 _))⟩;exact⟨z,f,0,r,t8 _ rfl⟩
end
abbrev Sp:=on V->Hp->VK->XK->Prop
abbrev CXT:=on Env->Hp->Iu->XK->Is->Iu->Prop
structure Env0(P:Program)(w:World)(K:PySem.W.Frag)(mg:Str->Option Value)(base:Heap)(A:Around)(outer:List Env)(s:Shared)(H:Hp):Prop where
 frames:A.frames=some outer
 mod:Mod K mg base
 bs:∀b o,base.get? b=some o->s.heap.get? b=some o/\H b=none
 bsz:base.objs.size<=s.heap.objs.size
 funs:s.heap.FunFrames base outer
 frf:(∀b∈frs outer,H b=none)/\cV K H
 hok:HOk P w H s.heap
 bare:AllBare s.gens
def CE(outer:on Env)(P:IA)(w:Iz)(H:Hp)(s:Iu)(Q:VK)(u:Is)(s':Iu):Prop:=
 ∃v H',s'.os=s.os/\AllBare s'.gens/\Un (frs outer) [] H H' s.heap s'.heap/\HOk P w H' s'.heap/\RelV v u/\Q v H'
def CR(CX:CXT)(outer:on Env)(P:IA)(w:Iz)(H:Hp)(s:Iu)(Q:VK)(E:XK)(r:Result)(s':Iu):Prop:=
 match r with
 | .ok (.ret u)=>CE outer P w H s Q u s'
 | .ok _=>False
 | .error e=>CX outer H s E e s'
structure FnOk(P:Program)(w:World)(K:PySem.W.Frag)(mg:Str->Option Value)(base:Heap)(CX:CXT)(k:Nat)(f:Addr)(fd:FuncData)(ps:List Str)(sp:Sp):Prop where
 len:∀vs H Q E,sp vs H Q E->vs.length=ps.length
 run:∀(A:Around) (outer:List Env) (s:Shared) (H:Hp) (args:Args) (us:List Value) (vs:List V) (Q:VK) (E:XK),Room k A->Env0 P w K mg base A outer s H->BindsTo s fd args (ps.zip us)->Vals vs us->sp vs H Q E ->
  codeAny (model P w) A (.call (.ref f) args) (CR CX outer P w H s Q E) s
theorem Inv.env0(I:IV a):Env0 X.prog X.w X.K X.mg X.base X.A X.stack s H:=
 ⟨I.ok.frames,I.ok.mod,I.bs,i9 I.ok.bsz I.sz,I.stack,⟨I.stkFree,I.tabs⟩,I.hok,I.bare⟩
theorem Inv.after(I:IV a)(h:CE X.stack X.prog X.w H s Q u e):EP X a σ Q u e:=by
 obtain⟨v,k,j,c,un,i,r,q⟩:=h;obtain⟨hh,g,d,t,f⟩:=e;obtain rfl:f=s.os:=j;exact⟨v,k,I.call un i c (λ b z=>absurd z IX),r,q⟩
noncomputable def jR(sp:Sp)(dvs:on V)(E:XK)(t:TA):TE:=λ σ H Q=>t σ H λ vs H1=>sp (vs++dvs) H1 Q E
def P9(K:IE)(fd:ID)(ps:on Str)(ds:on Is):Prop:=
 ∀(s:Iu) (us:on Is),K.In s.heap->(us++ds).length=ps.length->BindsTo s fd ⟨us,[]⟩ (ps.zip (us++ds))
theorem P9.all{K:IE}(h:∀a:on Is,a.length=ps.length->bindArgs fd ⟨a,[]⟩=pure (ps.zip a)):P9 K fd ps []:=λ s a _ b=>by
 rw[G1]at b ⊢;exact .of_eq (h a b)
def jS(CX:CXT)(X:Cx)(E:XK):Prop:=∀(pins:on (Iv×Obj)) (σ:St) (H:Hp) (s:Iu) (e:Is) (s':Iu),Inv X pins σ H s->CX X.stack H s E e s'->X.xe e s'
section
variable {X:Cx} {CX:CXT} {k:Nat} {f C:Iv} {fd:ID} {ps:on Str} {sp:Sp} {dvs:on V} {ds:on Is} {E:XK} {x m:Str} {p pos apos:Pos} {e o:Ix} {es:on Ix} {ta:TE} {t:TA}
theorem pf(F:FnOk X.prog X.w X.K X.mg X.base CX k f fd ps sp)(j:Room k X.A)(m:P9 X.K fd ps ds)(hd:Vals dvs ds)(i:jS CX X E)
  (I:IV a) (r:Vals vs b) (h:sp (vs++dvs) H Q E):wpAny IQ X.A (call (.ref f) b) (EP X a σ Q) X.xe s:=by
 have d:=r.append hd;have l:(b++ds).length=ps.length:=by rw[←d.length];exact F.len _ _ _ _ h
 refine cS (P7 (F.run X.A X.stack s H ⟨b,[]⟩ _ _ Q E j I.env0 (m s b I.kIn l) d h) λ r g c=>?_);cases r with
 | error e=>exact i a σ H s e g I c
 | ok n=>
  cases n with
  | ret u=>exact I.after c
  | next=>exact False.elim c
  | brk=>exact False.elim c
  | cont=>exact False.elim c
theorem yy(F:FnOk X.prog X.w X.K X.mg X.base CX k f fd ps sp)(j:Room k X.A)(n:Gl X x)(l:X.mg x=some (.ref f))(m:PySem.W.keepIn X.K (.ref f)=true)(u:P9 X.K fd ps ds)(hd:Vals dvs ds)(i:jS CX X E)
  (v:PA X (e::es) t) (c:(x==("__debug__" : Str))=false:=by decide) (o:starEach (e::es) X.env=(false,eval e X.env)::starEach es X.env:=by rfl) (b:(backTo pos (starEach es X.env)).any (·.1)=false:=by rfl) :
  PE X (.Call (.Name x p) (e::es) [] pos) (jR sp dvs E t):=by
 intro a s g H Q I h;refine ae (oM I n l ?_ c);refine PySem.W.callWith_K I.ok.mod.kin m (thn (v pos a s g H _ I h) λ us s1 ⟨vs,H1,d,r,q⟩=>⟨d.kIn,?_⟩) o b;exact pf F j u hd i d r q
structure Mk(K:PySem.W.Frag)(C f:Addr):Prop where
 makes:PySem.W.makesIn K C=true
 init:PySem.W.findIn K (.ref C) "__init__" = some (some (.ref f))
 fn:PySem.W.isFn K (.ref f)=true
 kp:PySem.W.keepIn K (.ref C)=true
end
def PK(X:Cx)(kws:on Keyword)(t:TA):Prop:=
 ∀(pos:Pos) (pins:on (Iv×Obj)) (s:Iu) (σ:St) (H:Hp) (Q:on V->Hp->Prop),Inv X pins σ H s->t σ H Q->wpAny IQ X.A (evalAll ((backToKw pos (keywordEach kws X.env)).map (·.2))) (AP X pins σ Q) X.xe s
section
variable {X:Cx} {CX:CXT} {k:Nat} {f C:Iv} {fd:ID} {ps ks:on Str} {sp:Sp} {E:XK} {x m:Str} {p pos apos kpos:Pos} {e o:Ix} {es:on Ix} {kws:on Keyword} {te ta:TE} {t tk:TA} {nm:Ir Str}
theorem yz:PK X [] tNil:=λ _ _ _ _ H Q I h=>wpAny_evalAll_nil ⟨[],H,I,.nil,h⟩
theorem yA(k:PE X e te)(j:PK X kws t):PK X (⟨nm,e,kpos⟩::kws) (jQ te t):=by
 intro b a s c H Q I h;show wpAny _ _ _ _ _ s;refine wpAny_evalAll_cons (f0 (thn (k a s c H _ I h) λ u s1 ⟨x,o,m,r1,i⟩=>f0 (fx (g7 ?_))));exact thn (j b a s1 c o _ m i) λ us s2 ⟨d,n,l,f,g⟩=>⟨x::d,n,l,.cons r1 f,g⟩
structure KBinds(K:PySem.W.Frag)(fd:FuncData)(ps ks:List Str)(g:List Value->List Value->List Value)(gV:List V->List V->List V):Prop where
 to:∀(s:Shared) (us ws:List Value),K.In s.heap->(g us ws).length=ps.length->BindsTo s fd ⟨us,ks.zip ws⟩ (ps.zip (g us ws))
 rel:∀{vs:List V} {us:List Value} {zs:List V} {ws:List Value},Vals vs us->Vals zs ws->Vals (gV vs zs) (g us ws)
end
structure FnScope(N P:List Str)(sc:Scope):Prop where
 kind:sc.kind=.function
 co:sc.isCoroutine=false
 gen:sc.isGenerator=false
 nd:N.Nodup
 pre:N.take P.length=P
 par:∀x∈P,sc.names.lookup x=some .local\/sc.names.lookup x=some .cell
 nofree:∀y∈sc.names,y.2 ≠ .free
theorem ph:∀{a:on (Str×Is)} {m:Str->Ir Is},(∀v,(x,v)∉a)->bindL b a m x=m x
 | [],_,_=>rfl
 | (n,v)::r,m,h=>by
  unfold bindL;rw[ph λ w c=>h w (o4 _ c)];split
  ·have:x≠n:=by rintro rfl;exact h v o5
   simp[this]
  ·rfl
theorem pi:∀{a:on (Str×Is)} {m:Str->Ir Is},(∀v,(x,v)∉a)->bindC b a m x=m x
 | [],_,_=>rfl
 | (n,v)::r,m,h=>by
  unfold bindC;rw[pi λ w c=>h w (o4 _ c)];split
  ·rfl
  ·have:x≠n:=by rintro rfl;exact h v o5
   simp[this]
theorem pj:∀{P:on Str} {b:on Is} {i:Nat} {m:Str->Ir Is},P.Nodup->P[i]? = some x->b[i]? = some v->a x=some .local ->
  bindL a (P.zip b) m x=some v
 | [],_,_,_,_,h,_,_=>by simp at h
 | _::_,[],_,_,_,_,h,_=>by simp at h
 | p::P,w::b,0,m,e,d,c,f=>by simp at d c;subst d;subst c;show bindL a ((p,w)::P.zip b) m p=_;unfold bindL;rw[ph λ v hv=>(O4.mp e).1 (cB hv).1,f8 f];simp
 | p::P,w::b,i+1,m,e,d,c,f=>by show bindL a _ m x=_;unfold bindL;exact pj (O4.mp e).2 (by simpa using d) (by simpa using c) f
theorem pp:∀{P:on Str} {b:on Is} {i:Nat} {m:Str->Ir Is},P.Nodup->P[i]? = some x->b[i]? = some v->a x≠some .local ->
  bindC a (P.zip b) m x=some v
 | [],_,_,_,_,h,_,_=>by simp at h
 | _::_,[],_,_,_,_,h,_=>by simp at h
 | p::P,w::b,0,m,e,d,c,f=>by simp at d c;subst d;subst c;show bindC a ((p,w)::P.zip b) m p=_;unfold bindC;rw[pi λ v hv=>(O4.mp e).1 (cB hv).1,g8 f];simp
 | p::P,w::b,i+1,m,e,d,c,f=>by show bindC a _ m x=_;unfold bindC;exact pp (O4.mp e).2 (by simpa using d) (by simpa using c) f
noncomputable def start(N:on Str)(vs:on V):St:=vs.map some++List.replicate (N.length - vs.length) none
noncomputable def cxOf(CX:CXT)(P:IA)(w:Iz)(K:IE)(mg:Str->Ir Is)(base:Iw)(N:on Str)(qual:Str)(scope:IF)(f:Iv)(cd:Is)(A:IB)(outer:on Env)(s:Iu)(H:Hp)(E:XK):Cx where
 prog:=P
 w:=w
 K:=K
 mg:=mg
 base:=base
 A:=A.deeper (envOfC qual scope s.heap.objs.size f cd)
 N:=N
 s₀:=s
 H₀:=H
 env:=envOfC qual scope s.heap.objs.size f cd
 outer:=outer
 stack:=envOfC qual scope s.heap.objs.size f cd::outer
 ex:=[]
 calm:=true
 fn:=λ _=>true
 pn:=[]
 xe:=λ e s'=>wpAny (model P w) (A.deeper (envOfC qual scope s.heap.objs.size f cd)) (leaving (envOfC qual scope s.heap.objs.size f cd) e) (λ _ s''=>CX outer H s E e s'') (λ e' s''=>CX outer H s E e' s'') s'
theorem pq{sc:IF}(h:sc.names.lookup x=some .cell):∃c,(cellsFrom n sc.names []).lookup x=some c:=by
 exact Z7.mp (eL sc.names n [] (.inl h))
theorem yB{K:IE}
  (S:FnScope N ps scope) (hd:A.handled=none) (j:Env0 P w K mg base A outer s H) (hl:vs.length=ps.length) (r:Vals vs F)
  (x:InCallC s s.heap.objs.size (bindL (envOfC d scope s.heap.objs.size f cd).kindOf (ps.zip F) λ _=>none) (cellsFrom (s.heap.objs.size+1) scope.names []) (bindC (envOfC d scope s.heap.objs.size f cd).kindOf (ps.zip F) λ _=>none) s1) :
  Inv (cxOf L P w K mg base N d scope f cd A outer s H E) [] (start N vs) H s1:=by
 have O:ps.length<=N.length:=by have:=congrArg List.length S.pre;rw[F3]at this;omega
 obtain⟨C,tk,rfl,J⟩:=x.done;have l:∀b:Iv,b∉(cxOf L P w K mg base N d scope f cd A outer s H E).ex:=λ b z=>absurd (show b∈([]:on Iv)from z) IX
 refine⟨⟨j.mod,S.kind,rfl,rfl,k8 _,λ y z c C g=>?_,λ y m=>?_,λ y c _ h=>?_,λ _=>hd,iT j.frames,.inr ⟨rfl,rfl⟩,λ b z=>absurd z (l b),j.bs,j.bsz,λ b _ _=>l b,λ b z=>absurd z (l b),j.funs,j.frf⟩,
  rfl,j.bare,Un.kept J,⟨_,x.toInCall.ns,λ i y v C g h3=>?_⟩,λ y c h=>⟨_,x.cell y c h⟩,j.hok.fresh (k8 _),λ y c h=>?_,λ p o=>absurd (show p∈([]:on _)from o) IX,j.hok.kept J,?_⟩
 ·exact name_of_addr x.apart (D7 C) (D7 g)
 ·have m:=m;rcases m with m | m
  ·exact pq m
  ·exact absurd rfl (S.nofree _ (D7 m))
 ·exact U4 (x.above y c (D7 h))
 ·have B:i<vs.length:=by
   unfold start at g;by_cases B:i<vs.length
   ·exact B
   ·rw[Q7 (by simpa using B)]at g;rw[bW]at g;split at g<;>cases g
  have Q:vs[i]? = some v:=by
   unfold start at g;rw[P3 (by simpa using B),q0]at g;cases e:vs[i]? with
   | none=>rw[e]at g;cases g
   | some a=>rw[e]at g;cases g;rfl
  obtain⟨u,I,M⟩:=r.get Q;have o:ps[i]? = some y:=(by rw[←S.pre,aQ IK];exact C);have n:ps.Nodup:=by rw[←S.pre];exact S.nd.sublist (fe _ _)
  refine⟨u,M,?_⟩;rcases S.par y (L0 o)with k | k
  ·exact .inl ⟨k,pj n o I k⟩
  ·obtain⟨c,e⟩:=pq k;refine .inr ⟨.inl k,c,e,?_⟩;have q:=x.cell y c e;rw[pp n o I (by show scope.names.lookup y≠_;rw[k];decide)]at q;exact q
 ·exact j.hok.fresh (U4 (x.above y c (D7 h)))
 ·unfold start;show _=N.length;rw[u0,g6,eN];omega
theorem yC{K:IE}{kV X:Is}
       (lk:K.lookup f=some ⟨oc,od,.func (PySem.W.fnOf h a c body scope dV kV F pm Z d X),O⟩) (U:PySem.W.codeIn K d a=true) (S:FnScope N ps scope)
    (p:∀vs H Q E,I vs H Q E->vs.length=ps.length)
    (l:∀(A:IB) (outer:on Env) (s:Iu) (H:Hp) (vs:on V) (Q:VK) (E:XK),Room k (A.deeper (envOfC a scope s.heap.objs.size f d))->I vs H Q E ->
      ∃t,PSs (cxOf W P w K mg base N a scope f d A outer s H E) body t/\t {nx:=λ _ i=>Q .non i,rt:=Q} (start N vs) H) :
    FnOk P w K mg base W (k+1) f (PySem.W.fnOf h a c body scope dV kV F pm Z d X) ps I:=by
  refine⟨p,λ A outer s H Y us vs Q E R C hb r z=>?_⟩;have hl:=p _ _ _ _ z;have KX:=C.mod.kin.keeps λ b o e=>(C.bs b o e).1;have j:∀y∈ps.zip us,scope.names.lookup y.1=some .local\/(scope.names.lookup y.1=some .cell/\((cellsFrom (s.heap.objs.size+1) scope.names []).lookup y.1).isSome=true):=λ ⟨n,v⟩ hy=>by
    rcases S.par n (cB hy).1 with q | q
    · exact .inl q
    · exact .inr ⟨q,eL _ _ _ (.inl q)⟩
  refine oG R.depth (KX _ _ lk) rfl S.co S.gen rfl (PySem.W.codeRec_of KX U) (hb _ _ _ _ ?_)
  refine wpAny_newFunctionEnv_cells S.kind j λ env he s1 x=>?_;subst he;refine⟨(C.mod.nolimit.keeps λ b o e=>(C.bs b o e).1).keeps x.toInCall.keep,codeAny_func ?_⟩;obtain⟨t,ht,hq⟩:=l A outer s H vs Q E (R.deeper _) z;refine D9 (ht [] s1 _ H _ (yB S R.hd C hl r x) hq) (λ fl L m=>?_) λ e L m=>m;have B:∀{g:St} {i:Hp} {v:V} {u:Is},Inv (cxOf W P w K mg base N a scope f d A outer s H E) [] g i L->RelV v u->Q v i->CE outer P w H s Q u L:=
    λ {g i v u} J M q=>⟨v,i,J.os,J.bare,J.base,J.hok,M,q⟩
  cases fl with
  | ret u=>
    obtain⟨v,g,i,J,M,q⟩:=m;exact B J M q
  | next=>
    obtain⟨g,i,J,q⟩:=m;exact B (v:=V.non) J rfl q
  | brk=>
    obtain⟨_,_,_,q⟩:=m;exact False.elim q
  | cont=>
    obtain⟨_,_,_,q⟩:=m;exact False.elim q
end L2
namespace L2
open PySem PySem.Spec PyProof.Rows
section
variable {X:Cx} {x:Str} {p pos:Pos} {e:Ix} {es:on Ix} {t:TA} {id T:IJ} {r:on V->Hp->VK->Prop}
noncomputable def tCB(r:on V->Hp->VK->Prop)(t:TA):TE:=λ σ H Q=>t σ H λ vs H1=>r vs H1 Q
theorem fP(n:B9 X (.builtin id) r)(l:Gl X x)(k:X.mg x=none)(hv:bootBuiltins x=some (.builtin id))(o:PA X (e::es) t)(j:x ≠ "__name__":=by decide)(c:(x==("__debug__" : Str))=false:=by decide)
  (m:starEach (e::es) X.env=(false,eval e X.env)::starEach es X.env:=by rfl) (b:(backTo pos (starEach es X.env)).any (·.1)=false:=by rfl):PE X (.Call (.Name x p) (e::es) [] pos) (tCB r t):=by
 intro a s d H Q I h;refine ae (U6 I l k hv ?_ j c);exact PyProof.Rows.callWith_builtin1 (thn (o pos a s d H _ I h) λ g s1 ⟨f,u,q,r1,i⟩=>n a s1 d u f g Q q r1 i) m b
theorem jT(n:B9 X (.type T) r)(l:Gl X x)(k:X.mg x=none)(hv:bootBuiltins x=some (.type T))(o:PA X (e::es) t)(j:x ≠ "__name__":=by decide)(c:(x==("__debug__" : Str))=false:=by decide)
  (m:starEach (e::es) X.env=(false,eval e X.env)::starEach es X.env:=by rfl) (b:(backTo pos (starEach es X.env)).any (·.1)=false:=by rfl):PE X (.Call (.Name x p) (e::es) [] pos) (tCB r t):=by
 intro a s d H Q I h;refine ae (U6 I l k hv ?_ j c);exact aO (thn (o pos a s d H _ I h) λ g s1 ⟨f,u,q,r1,i⟩=>n a s1 d u f g Q q r1 i) m b
end
end L2
namespace HT
open PySem PyProof.Rows
theorem cat_tup(u:IsTup s.heap t vs.toArray)(v:IsTup s.heap b ws.toArray)(hv:vs≠[])
  (y:ws=[]->Q (.ref t) s) (x:ws≠[]->Q (.ref s.heap.objs.size) {s with heap:=s.heap.push {cls:=.type "tuple",data:=.seq (vs++ws).toArray}})
  (j:vs.length+ws.length<=sizeLine):wpAny IR A (binaryOp .Add (.ref t) (.ref b)) Q E s:=by
 obtain⟨⟨z,p,q,l⟩,i,o,n,hd⟩:=id u;obtain⟨⟨r,g,k,c⟩,a,f,m,d⟩:=id v;simp only at o hd f d;subst o hd f d;have e:vs.toArray++ws.toArray=(vs++ws).toArray:=by simp
 by_cases h:ws=[]
 ·exact concat_meets ⟨_,i,rfl⟩ ⟨_,a,rfl⟩ noFill_tuple_add seq_tuple_add oz og (nY _ _)
   (tuple_addW1 t b vs.toArray ws.toArray n m p g l c (by simpa using hv) (by simp[h])) ⟨i,a,y h⟩
 ·refine concat_meets ⟨_,i,rfl⟩ ⟨_,a,rfl⟩ noFill_tuple_add seq_tuple_add oz og (nY _ _)
   (tuple_addW2 t b vs.toArray ws.toArray n m p g l c (by simpa using hv) (by simpa using h) (by rw[v3,v3];exact j)) ⟨i,a,?_⟩
  rw[e];exact x h
noncomputable def sIx(n d:Nat):Ir Int->Nat
 | none=>d
 | some v=>if v<0 then(v+(n:Int)).toNat else min v.toNat n
theorem yD(n d:Nat)(hd:d<=n)(o:Ir Int):sIx n d o<=n:=by
 cases o with
 | none=>exact hd
 | some v=>
  show(if v<0 then(v+_).toNat else min v.toNat n)<=n;by_cases hv:v<0
  ·rw[f8 hv];omega
  ·rw[g8 hv];exact Nat.min_le_right _ _
theorem pu(v:Int)(n d:Nat):(if v<0 then max (v+(n:Int)) 0 else min v (n:Int))=((sIx n d (some v):Nat):Int):=by
 show(if v<0 then max _ 0 else min v _)=(((if v<0 then(v+_).toNat else min v.toNat n):Nat):Int);by_cases hv:v<0
 ·simp only[f8 hv];omega
 ·simp only[g8 hv];omega
theorem yE(a b:Ir Int)(n:Nat):Builtin.Slice.sliceAdjust a b 1 (n:Int)=(((sIx n 0 a:Nat):Int),((sIx n n b:Nat):Int)):=by
 have c:¬((1:Int)<0):=by omega
 unfold Builtin.Slice.sliceAdjust;simp only[c,if_false];refine Prod.ext ?_ ?_
 ·cases a with
  | none=>rfl
  | some v=>exact pu v n 0
 ·cases b with
  | none=>rfl
  | some v=>exact pu v n n
theorem yF(i j:Nat):Builtin.Slice.slicePlaces (i:Int) (j:Int) 1=j - i:=by
 unfold Builtin.Slice.slicePlaces;have a:(1:Int)>0:=by omega
 simp only[a,if_true,Int.ediv_one];split<;>omega
theorem pv(p:IsPart v o)(h:Q o s):wpAny IR A (Builtin.Slice.slicePartIndex v) Q E s:=by
 cases p with
 | none=>exact slicePart_none h
 | int i t=>exact slicePart_int h
theorem yG{n:Nat}(k:s.heap.IsSliceOf g f e .none)(j:IsPart f a)(i:IsPart e d)
  (h:Q (((sIx n 0 a:Nat):Int),1,sIx n n d - sIx n 0 a) s):wpAny IR A (Builtin.Slice.sliceApplied (.ref g) (pure (n:Int))) Q E s:=by
 obtain⟨os,b,l,c⟩:=id k;unfold Builtin.Slice.sliceApplied Builtin.Slice.sliceFields;refine f0 (f0 (G8 b c rfl (f0 (G8 b c rfl (f0 (G8 b c rfl (g7 ?_)))))));refine f0 (slicePart_none ?_);show wpAny _ _ _ _ _ s;rw[g8 IL];refine f0 (pv j (f0 (pv i (f0 (g7 ?_)))));show wpAny _ _ (match Builtin.Slice.sliceAdjust a d 1 (n:Int)with | (a,d)=>pure (a,_,Builtin.Slice.slicePlaces a d 1)) _ _ s;rw[yE a d n];show wpAny _ _ (pure _) _ _ s;rw[yF];exact g7 h
theorem yH(xs:Iy Is)(i k:Nat):((List.range k).filterMap λ (m:Nat)=>xs[((i:Int)+(m:Int)*1).toNat]?).toArray=((xs.toList.drop i).take k).toArray:=by
 have e:(λ (m:Nat)=>xs[((i:Int)+(m:Int)*1).toNat]?)=λ m=>xs[i+m]?:=by
  funext m
  have:((i:Int)+(m:Int)*1).toNat=i+m:=by omega
  rw[this]
 rw[e];have:=pick_run xs i k;rw[List.filterMap_map]at this;have a:(_ ∘ λ x=>i+x)=λ m=>xs[i+m]?:=rfl
 rw[a]at this;rw[this]
theorem getItem_tuple_cut(d:IsTup s.heap t items)(l:s.heap.IsSliceOf k j i .none)(n:IsPart j a)(m:IsPart i b)
  (hw:¬(sIx items.size 0 a=0/\sIx items.size items.size b=items.size))
  (h:Q (.ref s.heap.objs.size) {s with heap:=s.heap.push {cls:=.type "tuple",data:=.seq ((items.toList.drop (sIx items.size 0 a)).take (sIx items.size items.size b - sIx items.size 0 a)).toArray}})
  (p:items.size<=sizeLine):wpAny IR A (getItem (.ref t) (.ref k)) Q E s:=by
 have c:=(by show((items.toList.drop (sIx items.size 0 a)).take (sIx items.size items.size b - sIx items.size 0 a)).toArray.size<=sizeLine;rw[v3,F3,W5,B6];omega);have hj:sIx items.size items.size b<=items.size:=yD _ _ (k8 _) b;obtain⟨o,e,g,r⟩:=id l;unfold getItem
 try with_reducible refine L4 ?_
 first | refine f0 (g7 ?_) | skip
 refine f0 (wpAny_sequenceKey d.typeIs IL ?_);refine f0 (Q8 d.typeIs nO
  (K2 nO d.typeIs entry_tuple_getitem ?_ (args_tuple_getitem _ _)))
 show wpAny _ _ (Builtin.Tuple.tupleItemsOf _ >>= _) _ _ s;refine f0 (tupleItemsOf_ d ?_);refine f0 (fC (⟨o,e,g⟩) ?_);rw[f8 IL];refine f0 (yG l n m ?_);have f:¬((((sIx items.size 0 a:Nat):Int)==0&&(1:Int)==1&&(sIx items.size items.size b - sIx items.size 0 a)==items.size)=true):=by intro q;rw[f9,f9]at q;have q1:=cU q.1.1;have q2:=cU q.2;exact hw ⟨by omega,by omega⟩
 show wpAny _ _ (if(((sIx items.size 0 a:Nat):Int)==0&&(1:Int)==1&&(sIx items.size items.size b - sIx items.size 0 a)==items.size)=true then _ else _) _ _ s;rw[g8 f,yH]
 first
  | exact f0 (E8 (g7 ⟨_,rfl,g7 h⟩) c)
  | exact f0 _
  | exact f0 _
  | exact f0 _
end HT
namespace L2
open PySem PySem.Spec PyProof.Rows
abbrev TO:=St->Hp->(Ir Int->Hp->Prop)->Prop
def PO(X:Cx)(e:Ir Ix)(t:TO):Prop:=
 ∀(pins:on (Iv×Obj)) (s:Iu) (σ:St) (H:Hp) (Q:Ir Int->Hp->Prop),Inv X pins σ H s->t σ H Q ->
  wpAny IQ X.A (evalPart e X.env) (λ u s'=>∃o H',Inv X pins σ H' s'/\IsPart u o/\Q o H') X.xe s
noncomputable def yI:TO:=λ _ H Q=>Q none H
noncomputable def yJ(t:TE):TO:=λ σ H Q=>t σ H λ x H1=>∃i,x=.int i/\Q (some i) H1
section
variable {X:Cx} {e:Ix} {te:TE} {lo hi:Ir Ix} {tl th:TO} {pos p2:Pos}
theorem pw:PO X none yI:=by
 intro a s σ H Q I h;rw[evalPart_none];exact g7 ⟨none,H,I,.none,h⟩
theorem yK(h:PE X e te):PO X (some e) (yJ te):=by
 intro a s b H Q I d;rw[evalPart_some];refine thn (h a s b H _ I d) λ u s1 t0=>?_;obtain⟨x,g,f,r1,c⟩:=t0
 obtain⟨i,rfl,q⟩:=c;obtain⟨t,rfl⟩:=r1;exact⟨some i,g,f,.int i t,q⟩
def SlR(X:Cx)(r:V->Ir Int->Ir Int->Hp->VK->Prop):Prop:=
 ∀(pins:on (Iv×Obj)) (s:Iu) (σ:St) (H:Hp) (x:V) (v vl vu:Is) (lo hi:Ir Int) (sl:Iv) (Q:VK),Inv X pins σ H s->RelV x v->s.heap.IsSliceOf sl vl vu .none->IsPart vl lo->IsPart vu hi->r x lo hi H Q ->
  ∃T id,typeLookup (.type T) "__getitem__" = pure (some (.builtin id))/\s.TypeIs v T/\wpAny IQ X.A (getItem v (.ref sl)) (EP X pins σ Q) X.xe s
theorem SlR.or(h:SlR X r)(h':SlR X j):SlR X (λ x b c H Q=>r x b c H Q\/j x b c H Q):=by
 intro a s d H x v f e b c g Q I i m l k q;rcases q with q | q
 ·exact h a s d H x v f e b c g Q I i m l k q
 ·exact h' a s d H x v f e b c g Q I i m l k q
noncomputable def tSl(r:V->Ir Int->Ir Int->Hp->VK->Prop)(te:TE)(tl th:TO):TE:=λ σ H Q=>te σ H λ x H1=>tl σ H1 λ l H2=>th σ H2 λ u H3=>r x l u H3 Q
theorem jU(w:SlR X r)(A:PE X e te)(y:PO X lo tl)(o:PO X hi th):PE X (.Subscript e (.Slice lo hi none p2) pos) (tSl r te tl th):=by
 intro a s d H Q I h;refine Subscript_ (thn (A a s d H _ I h) λ v s1 t0=>?_);obtain⟨x,L,F,r1,k⟩:=t0;refine wpAny_Slice (thn (y a s1 d L _ F k) λ g s2 ⟨l,K,E,n,j⟩=>thn (o a s2 d K _ E j) λ f c t0=>?_);obtain⟨u,J,C,m,i⟩:=t0;rw[evalPart_none];refine g7 ?_;obtain⟨T,id,B,p,z⟩:=w a {c with heap:=c.heap.push {cls:=.type "slice",data:=.fields #[g,f,.none]}} d J x v g f l u c.heap.objs.size Q (C.kept λ b ob q=>k6 _ q) r1 (Heap.IsSliceOf.new ..) n m i;show wpAny _ X.A _ _ X.xe {c with heap:=c.heap.push {cls:=.type "slice",data:=.fields #[g,f,.none]}};exact tail_any p B z (by with_unfolding_all rfl)
def cutV(xs:on V)(lo hi:Ir Int):on V:=(xs.drop (HT.sIx xs.length 0 lo)).take (HT.sIx xs.length xs.length hi - HT.sIx xs.length 0 lo)
theorem pz(xs:on V)(a b:Ir Int):(cutV xs a b).length<=xs.length:=by
 unfold cutV;rw[F3,W5];omega
def rSlT(K:IE):V->Ir Int->Ir Int->Hp->VK->Prop:=λ x lo hi H Q=>∃a xs,x=.ref a/\SqT K H a xs /\
 ¬(HT.sIx xs.length 0 lo=0/\HT.sIx xs.length xs.length hi=xs.length)/\∀p,H p=none->Q (.ref p) (upd H p (.tup (cutV xs lo hi)))
theorem yL:SlR X (rSlT X.K):=by
 intro f s σ H x v vl vu m u sl Q I j p l k h;obtain⟨a,e,rfl,n,o,q⟩:=h;cases j;obtain⟨d,r,i,g⟩:=I.tuple n;have c:d.toArray.size=e.length:=by rw[v3];exact r.length.symm
 refine⟨"tuple",_,PyProof.Rows.slot_tuple_getitem.lookup,i.typeIs,?_⟩;refine HT.getItem_tuple_cut i p l k (by rw[c];exact o) ?_ (by rw[c];exact g);rw[c];refine⟨.ref s.heap.objs.size,_,I.laid (λ b ob q=>k6 _ q) (k8 _) ?_,rfl,q _ (I.hok.fresh (k8 _))⟩;exact⟨i9 (pz e m u) g,_,(r.drop _).take _,R5.new _ _⟩
def pA(K:IE):R2:=λ x y H Q=>∃a b xs ys,x=.ref a/\y=.ref b/\SqT K H a xs/\SqT K H b ys/\xs≠[]/\xs.length+ys.length<=sizeLine /\
 (ys=[]->Q (.ref a) H)/\(ys≠[]->∀p,H p=none->Q (.ref p) (upd H p (.tup (xs++ys))))
theorem Vals.nil_iff(r:Vals xs a):a=[]↔xs=[]:=by
 cases r with
 | nil=>simp
 | cons _ _=>simp
theorem yM:OpR X (binaryOp .Add) (pA X.K):=by
 intro d s σ H x y v u Q I i g h;obtain⟨a,b,xs,ys,rfl,rfl,o,n,m,f,k,j⟩:=h;cases i;cases g;obtain⟨l,r1,p1,_⟩:=I.tuple o;obtain⟨e,c,p2,_⟩:=I.tuple n;refine HT.cat_tup p1 p2 (λ z=>m (r1.nil_iff.mp z)) (λ z=>⟨.ref a,H,I,rfl,k (c.nil_iff.mp z)⟩) (λ z=>?_) (by rw[←r1.length,←c.length];exact f);refine⟨.ref s.heap.objs.size,_,I.laid (λ b ob q=>k6 _ q) (k8 _) ?_,rfl,j (λ w=>z (c.nil_iff.mpr w)) _ (I.hok.fresh (k8 _))⟩;exact⟨by rw[u0];exact f,_,r1.append c,R5.new _ _⟩
end
end L2
namespace L2
open PySem PySem.Spec PyProof.Rows
noncomputable def ixN(n:Nat)(i:Int):Ir Nat:=if 0<=i then(if i<n then some i.toNat else none)else if -(n:Int)<=i then some (i+n).toNat else none
def atI{α:Type}(xs:on α)(i:Int):Ir α:=(ixN xs.length i).bind λ j=>xs[j]?
theorem pB(h:ixN n i=some j):seqIndex? i n=some j/\j<n /\ -(n:Int)<=i/\i<n:=by
 unfold ixN at h;by_cases b:0<=i
 ·rw[f8 b]at h;by_cases a:i<n
  ·rw[f8 a]at h;have e:=E2 h;exact⟨by rw[seqIndex_of b a,e],by omega,by omega,a⟩
  ·rw[g8 a]at h;cases h
 ·rw[g8 b]at h;by_cases a : -(n:Int)<=i
  ·rw[f8 a]at h;have e:=E2 h;exact⟨by rw[jA IK a,e],by omega,a,by omega⟩
  ·rw[g8 a]at h;cases h
theorem jV(h:atI xs i=some v):∃j,seqIndex? i xs.length=some j/\xs[j]? = some v/\j<xs.length /\ -(xs.length:Int)<=i/\i<xs.length:=by
 unfold atI at h;cases e:ixN xs.length i with
 | none=>rw[e]at h;cases h
 | some j=>
  rw[e]at h;obtain⟨f,d,c,b⟩:=pB e;exact⟨j,f,h,d,c,b⟩
def yN(b:Ix):Prop:=∀o i,subscripted b false o i=operate [o,i] (getItem o i)
def IxR(X:Cx)(r:R2):Prop:=
 ∀(value slice:Ix) (pins:on (Iv×Obj)) (s:Iu) (σ:St) (H:Hp) (x y:V) (v u:Is) (Q:VK),Inv X pins σ H s->RelV x v->RelV y u->r x y H Q ->
  subscripted slice false v u=operate [v,u] (getItem v u)->wpAny IQ X.A (subscriptTail value slice v u) (EP X pins σ Q) X.xe s
def MtR(X:Cx)(id:IJ)(r:V->on V->Hp->VK->Prop):Prop:=
 ∀(pins:on (Iv×Obj)) (s:Iu) (σ:St) (H:Hp) (x:V) (xs:on V) (v:Is) (us:on Is) (Q:VK),Inv X pins σ H s->RelV x v->Vals xs us->r x xs H Q ->
  wpAny IQ X.A (call (.builtin id) (v::us)) (EP X pins σ Q) X.xe s
section
variable {X:Cx} {a b:Ix} {ta tb:TE} {pos:Pos}
theorem IxR.or(h:IxR X r)(h':IxR X g):IxR X (λ x y H Q=>r x y H Q\/g x y H Q):=by
 intro a b c s d H x y v u Q I f e q i;rcases q with q | q
 ·exact h a b c s d H x y v u Q I f e q i
 ·exact h' a b c s d H x y v u Q I f e q i
theorem yO(i:IxR X r)(k:PE X a ta)(j:PE X b tb)(g:yN b):PE X (.Subscript a b pos) (tOp r ta tb):=by
 intro c s d H Q I h;exact Subscript_ (binT k j I h λ v u s2 x y m l f e q=>i a b c s2 d m x y v u Q l f e q (g _ _))
def rIxL(K:IE):R2:=λ x y H Q=>∃p xs i v,x=.ref p/\y=.int i/\SqL K H p xs/\atI xs i=some v/\Q v H
def rIxT(K:IE):R2:=λ x y H Q=>∃p xs i v,x=.ref p/\y=.int i/\SqT K H p xs/\atI xs i=some v/\Q v H
def rIxS:R2:=λ x y H Q=>∃z i c,x=.str z/\y=.int i/\z.length<=sizeLine/\atI z.cps.toList i=some c/\Q (.str ⟨#[c]⟩) H
theorem yP:IxR X (rIxL X.K):=by
 intro d e a s A H x y v u Q I C B h m;obtain⟨p,xs,i,z,rfl,rfl,E,J,q⟩:=h;cases C;obtain⟨t,rfl⟩:=B;obtain⟨k,r,g,hz⟩:=I.list E;obtain⟨j,c,M,h3,L,K⟩:=jV J;obtain⟨w,o,f⟩:=r.get M;have F:=r.length;have hn:=bq;have b:EP X a A Q w s:=⟨z,H,I,f,q⟩;by_cases n:0<=i
 ·have l:i.toNat=j:=by
   rw[seqIndex_of n K]at c;exact E2 c
  exact item_listR g.isList n IK (by rw[l];simpa using o) b m
 ·have l:(i+(k.toArray.size:Int)).toNat=j:=by
   rw[jA IK L]at c;rw[v3,←F];exact E2 c
  exact oA g.isList.typeIs slot_list_getitem.lookup
   (wpAny_getItem_list_neg g.isList IK (by rw[v3]<;>omega) IK (by rw[l];simpa using o) ⟨rfl,b⟩) m
theorem yQ:IxR X (rIxT X.K):=by
 intro a b e s σ H x y v u Q I g f h l;obtain⟨p,xs,i,z,rfl,rfl,m,n,q⟩:=h;cases g;obtain⟨t,rfl⟩:=f;obtain⟨k,r,d,hz⟩:=I.tuple m;obtain⟨j,A,o,h3,h4,h5⟩:=jV n;obtain⟨w,B,c⟩:=r.get o;have hn:=bq;exact oA d.typeIs slot_tuple_getitem.lookup
  (getItem_tuple d IK IK (by rw[v3,←r.length];exact A) (by simpa using B) ⟨rfl,(⟨z,H,I,c,q⟩)⟩) l
theorem yR:IxR X rIxS:=by
 intro a b d s σ H x y v u Q I g f h k;obtain⟨z,i,c,rfl,rfl,hz,m,q⟩:=h;obtain⟨t,rfl⟩:=g;obtain⟨t',rfl⟩:=f;obtain⟨j,e,p,h3,o,n⟩:=jV m;have l:z.cps.toList.length=z.length:=by simp[Str.length]
 rw[l]at e o n;have hn:=bq;exact tail_any (typeIs_str s z t) slot_str_getitem.lookup (getItem_str (by
  rw[(C7 IK),(C7 IK),Bool.or_false]) (by rw[e];simpa using p) ⟨.str ⟨#[c]⟩,H,I.tok _,⟨_,rfl⟩,q⟩) k
def rIx(K:IE):R2:=λ x y H Q=>rIxL K x y H Q\/rIxT K x y H Q\/rIxS x y H Q
theorem yS:IxR X (rIx X.K):=yP.or (yQ.or yR)
theorem yT(a:on Is)(n j:Nat)(u:Is):Obj.mapSeq (·.setIfInBounds j u) {cls:=.type "list",data:=.seq a.toArray n} = {cls:=.type "list",data:=.seq (a.set j u).toArray n}:=by
 simp[Obj.mapSeq]
theorem Inv.lst{b:on (Iv×Obj)}(I:IV b)(h:H p=some (.lst xs)) :
  ∃(a:on Is) (n:Nat),Vals xs a/\s.heap.get? p=some {cls:=.type "list",data:=.seq a.toArray n} /\ xs.length<=sizeLine:=by
 obtain⟨z,a,n,r,e⟩:=I.hok p _ h;exact⟨a,n,r,e,z⟩
theorem Inv.lstUpd{d a:on Is}(I:IV c)(h:H p=some (.lst xs))
  (l:s.heap.get? p=some {cls:=.type "list",data:=.seq d.toArray n}) (j:f {cls:=.type "list",data:=.seq d.toArray n} = {cls:=.type "list",data:=.seq a.toArray i}) (r:Vals g a) (k:g.length<=sizeLine) (t:Nat) :
  Inv X c σ (upd H p (.lst g)) {s with heap:=s.heap.update p f,toks:=t}:=by
 have e:(s.heap.update p f).get? p=some {cls:=.type "list",data:=.seq a.toArray i}:=(by rw[Z9 f l (by rw[j]<;>rfl),j]);refine I.write (by rw[h];trivial) (.inl rfl) (λ b u m q=>(eM _ _ (Ne.symm m)).trans q) ⟨_,e⟩ ?_;exact⟨k,a,i,r,e⟩
def yU:V->V->V->Hp->(Hp->Prop)->Prop:=λ o i v H Q=>∃p xs k j,o=.ref p/\i=.int k/\H p=some (.lst xs)/\ixN xs.length k=some j/\Q (upd H p (.lst (xs.set j v)))
theorem yV:PSet X yU:=by
 intro f s σ H o i v ov iv u Q I z A y h;obtain⟨p,xs,k,j,rfl,rfl,g,C,q⟩:=h;cases z;obtain⟨t,rfl⟩:=A;obtain⟨a,n,r,c,B⟩:=I.lst g;obtain⟨b,h2,m,l⟩:=pB C;have d:=r.length;have hn:=bq;have x:=
  I.lstUpd g c (yT a n j u) (r.set y j) (by rw[E9];exact B) s.toks
 by_cases w:0<=k
 ·have e:k.toNat=j:=by
   rw[seqIndex_of w l]at b;exact E2 b
  exact PySem.W.ki_setAt c w IK (by rw[v3,←d];exact l) (by rw[e];exact⟨_,x,q⟩)
 ·have e:(k+(a.toArray.size:Int)).toNat=j:=by
   rw[jA IK m]at b;rw[v3,←d];exact E2 b
  exact PySem.W.ki_setBack c IK (by rw[v3,←d];exact m) IK (by rw[e];exact⟨_,x,q⟩)
theorem yW(a b:Ir Int)(n:Nat):(sliceBounds a b none n).1=((HT.sIx n 0 a:Nat):Int)/\(sliceBounds a b none n).2.1=((HT.sIx n n b:Nat):Int)/\(sliceBounds a b none n).2.2=1:=by
 refine⟨?_,?_,rfl⟩
 ·cases a with
  | none=>simp[sliceBounds,HT.sIx]
  | some i=>
   simp only[sliceBounds,HT.sIx,Option.getD_none,show(1:Int)>0 by decide,if_true];by_cases h:i<0
   ·simp only[h,if_true]<;>omega
   ·simp only[h,if_false]<;>omega
 ·cases b with
  | none=>simp[sliceBounds,HT.sIx]
  | some i=>
   simp only[sliceBounds,HT.sIx,Option.getD_none,show(1:Int)>0 by decide,if_true];by_cases h:i<0
   ·simp only[h,if_true]<;>omega
   ·simp only[h,if_false]<;>omega
theorem yX(a:on Is)(b c:Ir Int):slicePick a.toArray b c none=((a.drop (HT.sIx a.length 0 b)).take (HT.sIx a.length a.length c - HT.sIx a.length 0 b)).toArray:=by
 obtain⟨f,e,d⟩:=yW b c a.toArray.size;unfold slicePick;rw[f,e,d];simp only[sliceRange_one,pick_run,v3]<;>rfl
def rSlL(K:IE):V->Ir Int->Ir Int->Hp->VK->Prop:=λ x lo hi H Q=>∃a xs,x=.ref a/\SqL K H a xs/\∀p,H p=none->Q (.ref p) (upd H p (.lst (cutV xs lo hi)))
theorem yY:SlR X (rSlL X.K):=by
 intro d s σ H x v vl vu k p sl Q I g o j i h;obtain⟨a,f,rfl,n,q⟩:=h;cases g;obtain⟨l,r,e,m⟩:=I.list n;have c:=r.length;refine⟨"list",_,slot_list_getitem.lookup,e.isList.typeIs,?_⟩;refine wpAny_getItem_list_slice e.isList o j i .none IX ?_ (by rw[v3]<;>omega);rw[yX,←c];refine⟨.ref s.heap.objs.size,_,I.laid (λ b ob q=>k6 _ q) (k8 _) ?_,rfl,q _ (I.hok.fresh (k8 _))⟩;exact⟨i9 (pz f k p) m,_,0,(r.drop _).take _,t8 _ rfl⟩
theorem jW:B9 X (.builtin "len") (λ g H Q=>∃p b,g=[.ref p]/\(SqL X.K H p b\/SqT X.K H p b)/\Q (.int b.length) H):=by
 intro i s σ H g us Q I r h;obtain⟨p,b,rfl,c,q⟩:=h;obtain⟨u,rfl,j⟩:=K3 r;cases j;have hn:=bq;rcases c with c | c
 ·obtain⟨f,d,e,k⟩:=I.list c;have a:=d.length;exact Calls.call_len_list e.isList (by simp only[v3]<;>omega) ⟨.int b.length,H,I.tok _,⟨s.toks+1,by rw[v3,a]⟩,q⟩
 ·obtain⟨f,d,e,k⟩:=I.tuple c;have a:=d.length;exact len_tuple e (by simp only[v3]<;>omega) ⟨.int b.length,H,I.tok _,⟨s.toks+1,by rw[v3,a]⟩,q⟩
theorem jX:B9 X (.type "list") (λ z H Q=>∃p c,z=[.ref p]/\(SqL X.K H p c\/SqT X.K H p c)/\∀l,H l=none->Q (.ref l) (upd H l (.lst c))):=by
 intro g s A H z us Q I r h;obtain⟨p,c,rfl,k,q⟩:=h;obtain⟨u,rfl,B⟩:=K3 r;cases B;have v:∀(a:on Is),Vals c a->c.length<=sizeLine->∀(b:Iw) (f:Nat),_ ->
   b.get? s.heap.objs.size=some {cls:=.type "list",dict:=none,data:=.seq a.toArray f,slots:=#[]} -> EP X g A Q _ {s with heap:=b}:=λ a d j b f i e=>
  ⟨.ref s.heap.objs.size,_,I.laid i (k8 _) (show u9 X.prog X.w _ b _ (.lst c)from⟨j,a,f,d,e⟩),rfl,q _ (I.hok.fresh (k8 _))⟩
 rcases k with k | k
 ·obtain⟨a,d,w,j⟩:=I.list k;have m:=d.length;obtain⟨o,x,y,n,hd⟩:=w.isList;exact call_list_seq p (.inl rfl) x y hd (λ b f i e=>v a d j b f i e) (by simp only[v3]<;>omega)
 ·obtain⟨a,d,w,j⟩:=I.tuple k;have m:=d.length;obtain⟨o,x,y,n,hd⟩:=w;exact call_list_seq p (.inr rfl) x y hd (λ b f i e=>v a d j b f i e) (by simp only[v3]<;>omega)
theorem pC:B9 X (.type "tuple") (λ i H Q=>∃p a,i=[.ref p]/\((SqL X.K H p a/\∀l,H l=none->Q (.ref l) (upd H l (.tup a)))\/(SqT X.K H p a/\Q (.ref p) H))):=by
 intro j s σ H i us Q I r h;obtain⟨p,a,rfl,h⟩:=h;obtain⟨u,rfl,v⟩:=K3 r;cases v;rcases h with⟨g,q⟩ | ⟨g,q⟩
 ·obtain⟨c,d,f,k⟩:=I.list g;have m:=d.length;refine call_tuple_list f.isList (λ x w=>?_) (by simp only[v3]<;>omega);have n:=I.kept (t':=s.toks) w;have y:=
   n.laid (t':=s.toks) (λ b o e=>k6 _ e) (k8 _) (show u9 X.prog X.w _ _ _ (.tup a)from⟨k,c,d,R5.new _ _⟩)
  exact⟨.ref x.objs.size,_,y,rfl,q _ (n.hok.fresh (k8 _))⟩
 ·obtain⟨c,d,f,k⟩:=I.tuple g;exact call_tuple_same f ⟨.ref p,H,I,rfl,q⟩
def tyV(K:IE)(T:IJ)(x:V)(H:Hp):Prop:=match x with
 | .str _=>T = "str"
 | .int _=>T = "int"
 | .ref p=>(T = "list" /\ ∃xs,SqL K H p xs)\/(T = "tuple" /\ ∃o,K.lookup p=some o/\o.cls=.type "tuple" /\ o.dict=none) \/
   (T = "dict" /\ ((∃kvs,H p=some (.dK kvs))\/∃kvs,H p=some (.dT kvs)))\/(T = "set" /\ ∃S n,H p=some (.set S n))
 | _=>False
theorem pD(I:IV d)(r:RelV x v)(f:tyV X.K T x H) :
  s.TypeIs v T/\∀a,v=.ref a->∃k,s.heap.get? a=some k/\k.dict=none:=by
 cases x with
 | str z=>
  obtain⟨t,rfl⟩:=r;cases(f);exact⟨typeIs_str s z t,λ _ e=>nomatch e⟩
 | int i=>
  obtain⟨t,rfl⟩:=r;cases(f);exact⟨typeIs_int s i t,λ _ e=>nomatch e⟩
 | ref p=>
  cases r;rcases f with⟨rfl,xs,m⟩ | ⟨rfl,o,b,hc,hd⟩ | ⟨rfl,b⟩ | ⟨rfl,S,n,b⟩
  ·obtain⟨l,_,j,_⟩:=I.list m;refine⟨j.isList.typeIs,λ a e=>?_⟩;cases e;obtain⟨o,n,e,c,hd,_⟩:=j;exact⟨o,e,hd⟩
  ·refine⟨⟨o,I.kIn p o b,hc⟩,λ a e=>?_⟩;cases e;exact⟨o,I.kIn _ o b,hd⟩
  ·have z:∃o,s.heap.get? p=some o/\o.ExactDict:=by
    rcases b with⟨g,b⟩ | ⟨g,b⟩
    ·obtain⟨_,_,_,_,o,_,_,e,ex,_⟩:=I.hok p _ b;exact⟨o,e,ex⟩
    ·obtain⟨_,_,_,_,o,_,_,e,ex,_⟩:=I.hok p _ b;exact⟨o,e,ex⟩
   obtain⟨o,e,ex⟩:=z;refine⟨⟨o,e,ex.1⟩,λ a h=>?_⟩;cases h;exact⟨o,e,ex.2.1⟩
  ·obtain⟨o,_,_,_,e,ex,_⟩:=I.hok p _ b;refine⟨⟨o,e,ex.1⟩,λ a h=>?_⟩;cases h;exact⟨o,e,ex.2.1⟩
 | _=>exact False.elim f
noncomputable def tBM0(K:IE)(T:IJ)(r:V->on V->Hp->VK->Prop)(to:TE):TE:=λ σ H Q=>to σ H λ x H1=>tyV K T x H1/\r x [] H1 Q
noncomputable def tBM(K:IE)(T:IJ)(r:V->on V->Hp->VK->Prop)(to:TE)(t:TA):TE:=λ σ H Q=>to σ H λ x H1=>tyV K T x H1/\t σ H1 λ xs H2=>r x xs H2 Q
theorem yZ{a:Str}(p:PlainAttrs T)(slot:Slot T a g)(i:typeOf (.builtin g)=pure (.type "method_descriptor"))(u:MtR X g r)(q:PE X o k)
  (f:attributeBase o a X.env (eval o X.env)=eval o X.env:=by rfl) (e:(d.endLine==c.line)=true:=by rfl):PE X (.Call (.Attribute o a d) [] [] c) (tBM0 X.K T r k):=by
 intro b s j H Q I h;refine oh f e (thn (q b s j H _ I h) λ v s1 t0=>?_);obtain⟨x,z,l,r1,m,n⟩:=t0;obtain⟨y,w⟩:=pD l r1 m;exact⟨T,g,p,slot,i,y,w,bY rfl (PySem.evalArgs_none (u b s1 j z x [] v [] Q l r1 .nil n))⟩
theorem jY{a:Pos}(F:PlainAttrs T)(slot:Slot T d m)(p:typeOf (.builtin m)=pure (.type "method_descriptor"))(L:MtR X m r)(K:PE X o q)(M:PA X (e::es) t)
  (j:attributeBase o d X.env (eval o X.env)=eval o X.env:=by rfl)
  (l:((backTo a (starEach (e::es) X.env)).all (λ x=>!x.1)&&(backToKw a (keywordEach [] X.env)).all (λ x=>x.1.isSome)
   && decide ((e::es).length+([]:on Keyword).length+(if([]:on Keyword).isEmpty then 0 else 1)<30))=true:=by rfl)
  (i:(g.endLine==a.line)=true:=by rfl) (J:starEach (e::es) X.env=(false,eval e X.env)::starEach es X.env:=by rfl) (f:(backTo a (starEach es X.env)).any (·.1)=false:=by rfl) :
  PE X (.Call (.Attribute o d g) (e::es) [] a) (tBM X.K T r q t):=by
 intro c s n H Q I h;refine oB j l i rfl (thn (K c s n H _ I h) λ v s1 t0=>?_);obtain⟨x,S,w,r1,A,E⟩:=t0;obtain⟨O,N⟩:=pD w r1 A;refine⟨T,m,F,slot,p,O,N,?_⟩;have u:=M a c s1 n S _ w E;rw[J]at u ⊢;refine bY (by show(false||(backTo a _).any (·.1))=false;rw[f]<;>rfl) (iU ?_);exact thn u λ z s2 ⟨y,R,P,B,C⟩=>L c s2 n R x y v z Q P r1 B C
end
end L2
namespace L2
open PySem PySem.Spec PyProof.Rows
def MtM(X:Cx)(id:IJ)(r:V->on V->Hp->VK->Prop):Prop:=
 ∀(pins:on (Iv×Obj)) (s:Iu) (σ:St) (H:Hp) (x:V) (xs:on V) (v:Is) (us:on Is) (Q:VK),Inv X pins σ H s->RelV x v->Vals xs us->r x xs H Q ->
  wpAny IQ X.A (call (.builtin id) (v::us)) (EP X pins σ Q) X.xe s
theorem Vals.eraseIdx:∀{xs:on V} {us:on Is} (i:Nat),Vals xs us->Vals (xs.eraseIdx i) (us.eraseIdx i)
 | _,_,_,.nil=>.nil
 | _,_,0,.cons _ t=>t
 | _,_,i+1,.cons r t=>.cons r (Vals.eraseIdx i t)
theorem Vals.unc(h:Vals (x::xs) b):∃u a,b=u::a/\RelV x u/\Vals xs a:=by
 cases h with
 | cons r t=>exact⟨_,_,rfl,r,t⟩
theorem Vals.nl(h:Vals [] a):a=[]:=by cases h;rfl
theorem Vals.one{x:V}{us:on Is}(h:Vals [x] us):∃u,us=[u]/\RelV x u:=by
 obtain⟨u,ws,rfl,r,t⟩:=h.unc;cases t.nl;exact⟨_,rfl,r⟩
theorem Vals.two{x y:V}{us:on Is}(h:Vals [x,y] us):∃u v,us=[u,v]/\RelV x u/\RelV y v:=by
 obtain⟨u,ws,rfl,r,t⟩:=h.unc;obtain⟨v,rfl,q⟩:=t.one;exact⟨_,_,rfl,r,q⟩
theorem Vals.rep(h:Vals xs a):∀k:Nat,Vals (List.replicate k xs).flatten (List.replicate k a).flatten
 | 0=>.nil
 | k+1=>by rw[W3,W3,W4,W4];exact Vals.append h (Vals.rep h k)
theorem pE{a:Type}:∀(l:on a) (i:Nat),(l.eraseIdx i).length<=l.length
 | [],_=>k8 _
 | _::_,0=>cO _
 | _::r,i+1=>Nat.succ_le_succ (pE r i)
theorem pF(a:on Is):∀(k:Nat) (acc:on Is),
  List.foldl (λ c b=>c++b) acc.toArray (List.replicate k a.toArray)=(acc++(List.replicate k a).flatten).toArray
 | 0,acc=>by simp
 | k+1,acc=>by
  have e:acc.toArray++a.toArray=(acc++a).toArray:=by simp
  have d:_++(List.replicate k a).flatten=acc++(List.replicate (k+1) a).flatten:=(by rw[W3,W4,Q9]);rw[←d,←pF a k _,←e,W3,fj]
theorem Inv.lset{c:on Is}(I:IV b)(k:H l=some (.lst xs))
  (e:s.heap.get? l=some {cls:=.type "list",data:=.seq c.toArray n}) (i:f c.toArray=a.toArray) (hv:Vals d a) (g:d.length<=sizeLine) :
  Inv X b σ (upd H l (.lst d)) {s with heap:=s.heap.update l (Obj.mapSeq f),toks:=t'}:=by
 have q:=PySem.IsL.update e f;rw[i]at q;refine I.write (by rw[k];exact trivial) (.inl rfl) (λ b' u j h=>(eM s.heap _ (Ne.symm j)).trans h) ⟨_,q⟩ ?_;exact⟨g,a,_,hv,q⟩
theorem Inv.lnew(I:IV a)(hv:Vals c b)(d:c.length<=sizeLine) :
  Inv X a σ (upd H s.heap.objs.size (.lst c)) {s with heap:=s.heap.push {cls:=.type "list",data:=.seq b.toArray},toks:=t'}:=
 I.laid (λ _ _ q=>k6 _ q) (k8 _) ⟨d,b,0,hv,t8 _ rfl⟩
theorem Inv.fresh(I:IV a):H s.heap.objs.size=none:=I.hok.fresh (k8 _)
theorem Inv.lstM(I:IV b)(c:H l=some (.lst xs)):xs.length<=sizeLine/\∃(a:on Is) (n:Nat),Vals xs a/\xs.length=a.length/\s.heap.get? l=some {cls:=.type "list",data:=.seq a.toArray n}:=by
 obtain⟨z,a,n,r,e⟩:=I.hok l _ c;exact⟨z,a,n,r,r.length,e⟩
theorem pG(h:n<=sizeLine):Builtin.List.listTooLong n=false:=by
 unfold Builtin.List.listTooLong;exact C7 IK
def za:V->on V->Hp->VK->Prop:=λ x vs H Q=>∃l xs y,x=.ref l/\vs=[y]/\H l=some (.lst xs)/\xs.length<sizeLine/\Q .non (upd H l (.lst (xs++[y])))
theorem zb:MtM X "list.append" za:=by
 intro b s σ H x vs v us Q I d f h;obtain⟨l,xs,y,rfl,rfl,c,hz,q⟩:=h;cases d;obtain⟨u,rfl,g⟩:=f.one;obtain⟨z,a,n,r,hl,e⟩:=I.lstM c;refine fH F.slot_list_append ⟨_,e,rfl⟩ F.entry_list_append (F.args_list_append_2 _ _) (PySem.list_append l a.toArray n u (by rw[v3];omega)) ⟨e,?_⟩;refine⟨.non,_,I.lset c e IX (r.append (.cons g .nil)) ?_,rfl,q⟩;rw[u0,T9];omega
def zc:V->on V->Hp->VK->Prop:=λ x vs H Q=>∃l xs i k y,x=.ref l/\vs=[.int i]/\H l=some (.lst xs) /\ -(2^63)<=i/\i<2^63/\seqIndex? i xs.length=some k/\xs[k]? = some y/\Q y (upd H l (.lst (xs.eraseIdx k)))
theorem zd:MtM X "list.pop" zc:=by
 intro c s σ H x vs v us Q I g j h;obtain⟨l,f,i,k,y,rfl,rfl,d,E,C,B,o,q⟩:=h;cases g;obtain⟨u,rfl,m⟩:=j.one;obtain⟨t,rfl⟩:=m;obtain⟨z,a,n,r,A,e⟩:=I.lstM d;obtain⟨w,p,b⟩:=r.get o;refine fH F.slot_list_pop ⟨_,e,rfl⟩ F.entry_list_pop (F.args_list_pop_2 _ _)
  (MeetsSeq.list_pop_at l a.toArray n i t k w (fitsIndex_both E C) (by rw[v3,←A];exact B) (by rw[←K9];exact p) (by rw[v3];omega)) ⟨e,?_⟩
 refine⟨y,_,I.lset d e ?_ (Vals.eraseIdx k r) ?_,b,q⟩
 ·show a.toArray.eraseIdxIfInBounds k=(a.eraseIdx k).toArray;rw[List.eraseIdxIfInBounds_toArray]
 ·have:=pE f k;omega
def rCat:R2:=λ x y H Q=>∃l b xs zs,x=.ref l/\y=.ref b/\H l=some (.lst xs)/\H b=some (.lst zs)/\xs.length+zs.length<=sizeLine/\∀p,H p=none->Q (.ref p) (upd H p (.lst (xs++zs)))
theorem ze:OpR X (binaryOp .Add) rCat:=by
 intro d s σ H x y v u Q I g f h;obtain⟨l,b,xs,zs,rfl,rfl,k,m,hz,q⟩:=h;cases g;cases f;obtain⟨z,c,n,r,hl,e⟩:=I.lstM k;obtain⟨z2,a,n2,i,j,p⟩:=I.lstM m;refine PySem.P.add_list e p ?_ (by rw[v3,v3];omega);have o:c.toArray++a.toArray=(c++a).toArray:=by simp
 rw[o];exact⟨.ref _,_,I.lnew (r.append i) (by rw[u0];omega),rfl,q _ I.fresh⟩
def rRep:R2:=λ x y H Q=>∃l k xs,x=.ref l/\y=.int k/\H l=some (.lst xs) /\ -(2^63)<=k/\k<2^63/\xs.length*k.toNat<=sizeLine /\
 ∀p,H p=none->Q (.ref p) (upd H p (.lst (List.replicate k.toNat xs).flatten))
theorem zf(xs:on a)(k:Nat):(List.replicate k xs).flatten.length=k*xs.length:=by
 induction k with
 | zero=>simp
 | succ k b=>rw[W3,W4,u0,b,cL,jC]
theorem zg:OpR X (binaryOp .Mult) rRep:=by
 intro g s σ H x y v u Q I A w h;obtain⟨l,k,xs,rfl,rfl,C,J,E,i,q⟩:=h;cases A;obtain⟨t,rfl⟩:=w;obtain⟨z,b,n,r,B,e⟩:=I.lstM C;have d:b.toArray.size*k.toNat<=sizeLine:=by rw[v3,←B];exact i
 have f:¬b.toArray.size*k.toNat>(2^63 - 1)/8:=by
  have:(sizeLine:Nat)<=(2^63 - 1)/8:=by decide
  omega
 have c:List.foldl (λ o j=>o++j) #[] (List.replicate (if b.toArray.isEmpty=true then 0 else k.toNat) b.toArray)=(List.replicate k.toNat b).flatten.toArray:=by
  have K:=λ m=>by have:=pF b m [];rw[cC]at this;exact this
  rw[K];cases b with
  | nil=>simp
  | cons a r'=>rw[g8 IX]
 refine wpAny_binaryOp_repeat_ref IL ⟨_,e,rfl⟩ (λ p=>typeIs_int p k t) noFill_list_mul F.fills_int_mul F.slot_int_rmul repeat_list F.slot_int_index.lookup
  (fH F.slot_int_rmul (typeIs_int s k t) F.entry_int_rmul (F.args_int_rmul_2 _ _) (int___rmul___int_list k t l b.toArray n)
   ⟨e,rfl,⟨_,e,rfl⟩,fH F.slot_list_mul ⟨_,e,rfl⟩ F.entry_list_mul (F.args_list_mul_2 _ _) (AutoListH.list___mul___list_int_3 l b.toArray n k t ((by rw[fitsIndex_both J E];exact B1)) f ((by rw[pG d];exact B1))) ⟨e,?_⟩⟩)
 rw[c];exact⟨.ref _,_,I.lnew (r.rep k.toNat) (by rw[zf,Nat.mul_comm];exact i),rfl,q _ I.fresh⟩
end L2
namespace Att
open PySem PySem.W PySem.Calls PyProof.Rows
theorem zh:∀(ns:on Int) (vs:on Is),WellAll P h vs (ns.map WData.int)->IntsAre vs ns:=by
 intro ns
 induction ns with
 | nil=>
  intro vs w;rw[List.map_nil]at w;cases w;exact .nil
 | cons n ns c=>
  intro vs w;rw[B3]at w;cases w with
  | cons a b=>
   cases a;exact .cons _ _ (c _ b)
theorem zi{l:OpenLaw}(u:l.most=some n)
  (e:l.row.toRowW.claim.pre b=true) (k:WellAll P h c b) :
  ∃a vs ns,c=[Value.ref a]/\b=[WData.list (ns.map WData.int)]/\h.get? a=some {cls:=.type "list",data:=.seq vs.toArray} /\ IntsAre vs ns/\ns.length<=n:=by
 have m:l.pre.holds [] {args:=b} = true:=(pre_splitW e).2;obtain⟨d,r,rfl,x,w⟩:=hasAllW_cons ((pre_splitW e).1);obtain rfl:=hasAllW_nil w;obtain⟨xs,rfl,v⟩:=hasW_list x;obtain⟨ns,rfl⟩:=items_int v;have f:ns.length<=n:=by
  unfold OpenLaw.pre at m;have j:(WTm.not (.lt (.lit (.int (n:Int))) (.len (.arg 0)))).holds [] {args:=[.list (ns.map .int)]} = true:=by have j:=(holds_andW m).1;rw[u]at j;exact j
  have i:=condW_of j (w_not (w_lt w_lit (w_len_list (w_arg rfl))));rw[g6]at i;refine jh λ q=>?_
  first
   | (rw[A0 (by omega)]at i;exact absurd i IL)
   | (simp at i;omega)
 cases k with
 | cons p o=>
  cases o;cases p with
  | list s g=>exact⟨_,_,ns,rfl,rfl,s,zh ns _ g,f⟩
theorem zj(l:OpenLaw)(a:on WData):l.row.toRowW.claim.post a (.bool true) a=true:=
 postW_of
  (by first | rfl | decide | simp[WShape.has,WShape.arms,WShape.armsAll])
  (show(WTm.eq .res _).value [] {args:=a,res:=some _,after:=a} = some (.bool _)from w_eq_bool (w_res rfl) w_lit) rfl
theorem attach_call{l:OpenLaw}
  (H:l.most=some n) (v:d.params.defaults=[])
  (call:∀(w:Iz) (c b:Iu) (mg p:Str->Ir Is) (k:Iv) (o:Obj) (pm cd g:Is) (a:Iv) (vs:on Is) (ns:on Int),
   Ground q loose [] XP w c mg p b.heap->YP w b.heap ->
   b.heap.get? k=some o->o.data=.func (docDef d.name d.params d.body d.scope pm cd g)->b.heap.CodeRec cd d.name->mg d.name=some (.ref k) ->
   b.heap.get? a=some {cls:=.type "list",data:=.seq vs.toArray} -> IntsAre vs ns->ns.length<=n->b.gens = #[] ->
   codeAny (model l.prog w) callerA (.call (.ref k) ⟨[.ref a],[]⟩) (λ r m=>r=.ok (.ret (.bool true))/\OldK b.heap m.heap/\m.os=b.os/\AllBare m.gens) b) :
  WalkO q loose XP YP l.row.toRowW d [] (λ f vs=>PySem.call f vs):=by
 intro w c b mg p G Y k o pm cd g O kV F hd x A u K B y as h z C s J;obtain rfl:O=.none:=Dflts.none A v;obtain rfl:kV=.none:=Dflts.noKw A;obtain⟨a,vs,ns,rfl,rfl,i,e,j⟩:=zi H h s;refine enter_call (P7 (call w c b mg p k o pm cd g a vs ns G Y F (fd_plain hd) x u i e j K) λ r m E=>?_);obtain⟨rfl,N,M,L⟩:=E;exact⟨.inl ⟨.bool true,.bool true,[],rfl,λ _=>rfl,.bool true,zj l _,λ _=>⟨List.Pairwise.nil,λ _ I=>(nomatch I)⟩⟩,N,M,L⟩
noncomputable def Iq(h:Iw)(L d:Iv):on (Iv×Obj):=(List.range h.objs.size).filterMap λ a=>if a=L\/a=d then none else(h.get? a).map λ o=>(a,o)
end Att
namespace L2
open PySem PySem.Spec PyProof.Rows
theorem pH:∀{vs:on Is} {ns:on Int},IntsAre vs ns->Vals (ns.map V.int) vs
 | _,_,.nil=>.nil
 | _,_,.cons n t h=>.cons ⟨t,rfl⟩ (pH h)
def Only(H:Hp):Prop:=∀b,H b=none\/(∃o xs,H b=some (.frz o (.lst xs)))\/∃q,H b=some (.tbl q)
theorem cX{a:Type}:∀{l:on (Iv×a)} {c:a},l.lookup x=some c->(x,c)∈l
 | (y,v)::l,c,h=>by
  rw[G6]at h;split at h
  ·rename_i e;cases h;rw[g9.mp e];exact o5
  ·exact o4 _ (cX h)
theorem pI{a:Type}:∀{l:on (Iv×a)} {c:a},l.lookup x=none->(x,c)∉l
 | (y,v)::l,c,h,m=>by
  rw[G6]at h;split at h
  ·cases h
  ·rename_i e;rcases i7.mp m with z | z
   ·cases z;simp at e
   ·exact pI h z
theorem zk{l:on (e×d)}(f:(l.map (·.1)).Nodup)(g:(p.1,q)∈l)(i:p∈l):q=p.2:=by
 induction l with
 | nil=>cases g
 | cons y l h=>
  rw[B3]at f;have a:=O4.mp f;rcases i7.mp g with c | c<;>rcases i7.mp i with b | b
  ·rw[b,←c]
  ·exact absurd (i8.mpr ⟨p,b,by rw[←c]⟩) a.1
  ·exact absurd (i8.mpr ⟨_,c,by rw[b]⟩) a.1
  ·exact h a.2 c b
theorem zm{K:IE}
  (KX:K.In c.heap) (Q:c.heap.Ns mainGlobals mg) (j:c.heap.Ns builtinsNs mb) (a5:∀x:Str,x ≠ "__name__" -> mb x=bootBuiltins x) (S:c.heap.NoLimit) (hg:c.gens = #[])
  (N:c.heap.get? a=some {cls:=.type "list",data:=.seq vs.toArray}) (hi:IntsAre vs ns) (hl:ns.length<=sizeLine) (hr:Room k callerA)
  (F:∀base:Iw,K.In base->base.Ns mainGlobals mg->FnOk P w K mg base CX k fa fd [x] sp) (M:∀(s:Iu) (u:Is),BindsTo s fd ⟨[u],[]⟩ [(x,u)])
  (a3:∀H:Hp,Only H->SqL K H a (ns.map V.int)->sp [.ref a] H (λ v _=>v=.bl true) λ _ _ _=>False)
  (i:∀p∈A2 K,K.lookup p.1=none/\c.heap.get? p.1=some {cls:=.none,data:=.fields #[]} /\ isCodeTable c.heap p.1) (a2:((A2 K).map (·.1)).Nodup)
  (a4:∃J C,mg "__builtins__" = some (.ref J)/\J≠builtinsNs/\c.heap.get? J=some C/\C.cls=.type "module" /\ C.dict=some builtinsNs/\C.data=.plain)
  (a7:∀H e l,CX [] H c (λ _ _ _=>False) e l->False) :
  codeAny (model P w) callerA (.call (.ref fa) ⟨[.ref a],[]⟩) (λ r l=>r=.ok (.ret (.bool true))/\OldK c.heap l.heap/\l.os=c.os/\AllBare l.gens) c:=by
 have rv:=pH hi;have O:=hi.length;have I:∀H:Hp,Only H->SqL K H a (ns.map V.int)->HOk P w H c.heap->(∀b,H b≠none->b=a\/((∃q,(b,q)∈A2 K)/\∃q,H b=some (.tbl q)))->(H a≠none->K.lookup a=none)->cV K H ->
   codeAny (model P w) callerA (.call (.ref fa) ⟨[.ref a],[]⟩) (λ r l=>r=.ok (.ret (.bool true))/\OldK c.heap l.heap/\l.os=c.os/\AllBare l.gens) c:=by
  intro H hO hS L hA hK hT;have g:∀{b:Iv} {o:Obj},c.heap.get? b=some o->H b=none->(hidT c.heap H).get? b=some o:=λ e n=>xq e n
  have a1:∀{b:Iv} {o:Obj} {es:Iy DictEntry} {ep:Nat},c.heap.get? b=some o->o.data=.dict es ep->H b=none:=λ {b o es ep} e d=>by
   cases q:H b with
   | none=>rfl
   | some u=>
    rcases hA b (by rw[q];simp)with e' | ⟨⟨qq,e'⟩,_⟩
    ·subst e';rw[N]at e;cases e;have d':=d;cases d'
    ·rw[(i _ e').2.1]at e;cases e;have d':=d;cases d'
  have y:∀{b:Iv} {m:Str->Ir Is},c.heap.Ns b m->(hidT c.heap H).Ns b m:=λ {b m} ⟨o,es,ep,e,d,r⟩=>⟨o,es,ep,g e (a1 e d),d,r⟩;have U:=λ b o e=>g (KX b o e) (by
   cases q:H b with
   | none=>rfl
   | some u=>
    rcases hA b (by rw[q];simp)with e' | ⟨⟨qq,e'⟩,_⟩
    ·subst e';rw[hK (by rw[q];simp)]at e;cases e
    ·rw[(i _ e').1]at e;cases e)
  have hM:Mod K mg (hidT c.heap H):=by
   refine⟨U,y Q,⟨mb,y j,a5⟩,let ⟨mc,W,h2⟩:=S;⟨mc,y W,h2⟩,?J⟩;obtain⟨J,C,b1,b2,Z,b4,b5,b6⟩:=a4;refine⟨J,C,b1,b2,g Z ?_,b4,b5,b6⟩;cases q:H J with
   | none=>rfl
   | some u=>
    rcases hA J (by rw[q];simp)with e' | ⟨⟨qq,e'⟩,_⟩
    ·subst e';rw[N]at Z;cases Z;exact absurd (Value.type.inj (show Value.type "list" = Value.type "module" from b4)) IL
    ·rw[(i _ e').2.1]at Z;cases Z;cases b4
  have e0:Env0 P w K mg (hidT c.heap H) callerA [] c H:=⟨rfl,hM,λ b o e=>xr e,Nat.le_of_eq (xp _ _),trivial,⟨λ b j=>absurd (show b∈([]:on Iv)from j) IX,hT⟩,L,.of_eq hg⟩;refine P7 ((F _ U (y Q)).run callerA [] c H ⟨[.ref a],[]⟩ [.ref a] [.ref a] _ _ hr e0 (M c (.ref a)) (.cons rfl .nil) (a3 H hO hS)) λ r l h=>?_;cases r with
  | error e=>exact(a7 H e l h).elim
  | ok fl=>
   cases fl with
   | next=>exact False.elim h
   | brk=>exact False.elim h
   | cont=>exact False.elim h
   | ret u=>
    obtain⟨v,H',os,Y,un,E,r',q⟩:=h;have q':v=.bl true:=q;subst q';obtain rfl:u=Value.bool true:=r';refine⟨rfl,⟨λ b o e=>?_,λ b o e=>un.there b o e IX⟩,os,Y⟩;cases q:H b with
    | none=>exact .inl (un.keep b o e q (by intro z;exact absurd (show b∈([]:on Iv)from z) IX) IX)
    | some u=>
     rcases hO b with z | ⟨C,xs,z⟩ | ⟨qq,z⟩
     ·rw[q]at z;cases z
     ·have z2:=un.frzs b C _ z;obtain⟨X,_⟩:=L b _ z;obtain⟨e2,_⟩:=E b _ z2;rw[e]at X;cases X;exact .inl e2
     ·rcases hA b (by rw[q];simp)with e' | ⟨⟨q2,e'⟩,_⟩
      ·subst e';obtain⟨ps,X,_⟩:=L b _ z;rw[N]at X;have:=congrArg Obj.data (E2 X);cases this
      ·have t:=i _ e';rw[t.2.1]at e;cases e;obtain⟨ps,e2,_⟩:=E b _ (un.tbls b _ z);exact .inr (.inl ⟨t.2.2,rfl,#[],ps,rfl,by simpa using e2⟩)
 have B:∀f:Hp,(∀p∈A2 K,f p.1=none)->∃H:Hp,(∀b,(∃q,(b,q)∈A2 K/\H b=some (.tbl q))\/((∀q,(b,q)∉A2 K)/\H b=f b)):=λ f hf=>by
  refine⟨λ b=>match(A2 K).lookup b with | some q=>some (.tbl q) | none=>f b,λ b=>?_⟩;cases z:(A2 K).lookup b with
  | some q=>exact .inl ⟨q,cX z,by simp only[z]⟩
  | none=>exact .inr ⟨λ q hq=>pI z hq,by simp only[z]⟩
 have A:∀{H:Hp} {f:Hp},(∀b,(∃q,(b,q)∈A2 K/\H b=some (.tbl q))\/((∀q,(b,q)∉A2 K)/\H b=f b))->cV K H:=λ {H f} h p hp=>by
  rcases h p.1 with⟨q,W,h2⟩ | ⟨W,_⟩
  ·rw[h2,zk a2 W hp]
  ·exact absurd hp (W p.2)
 cases hk:K.lookup a with
 | some o=>
  have e:=KX a o hk;rw[N]at e;cases e;obtain⟨H,h⟩:=B (λ _=>none) λ _ _=>rfl;refine I H (λ b=>?_) (.inr ⟨_,vs.toArray,_,hk,rfl,rfl,rfl,by rw[v3,O];exact hl,by simpa using rv⟩) (λ b u z=>?_) (λ b z=>?_) (λ z=>?_) (A h)
  ·rcases h b with⟨q,_,e⟩ | ⟨_,e⟩
   ·exact .inr (.inr ⟨q,e⟩)
   ·exact .inl e
  ·rcases h b with⟨q,m,e⟩ | ⟨_,e⟩
   ·rw[e]at z;cases z;exact⟨#[],(i _ m).2.1,trivial,λ a0 cv z=>by cases z⟩
   ·rw[e]at z;cases z
  ·rcases h b with⟨q,m,e⟩ | ⟨_,e⟩
   ·exact .inr ⟨⟨q,m⟩,q,e⟩
   ·exact absurd e z
  ·rcases h a with⟨q,m,e⟩ | ⟨_,e⟩
   ·have:=(i _ m).1;rw[hk]at this;cases this
   ·exact absurd e z
 | none=>
  have R:∀q,(a,q)∉A2 K:=λ q m=>by have:=(i _ m).2.1;rw[N]at this;have:=congrArg Obj.data (E2 this);cases this
  obtain⟨H,h⟩:=B (λ b=>if b=a then some (.frz {cls:=.type "list",data:=.seq vs.toArray} (.lst (ns.map V.int)))else none) λ p hp=>g8 λ z=>R p.2 (by rw[←z];exact hp)
  have a6:H a=some (.frz {cls:=.type "list",data:=.seq vs.toArray} (.lst (ns.map V.int))):=by
   rcases h a with⟨q,m,_⟩ | ⟨_,e⟩
   ·exact absurd m (R q)
   ·rw[e];exact f8 rfl
  refine I H (λ b=>?_) (.inl (.inr ⟨{cls:=.type "list",data:=.seq vs.toArray},a6⟩)) (λ b u z=>?_) (λ b z=>?_) (λ _=>hk) (A h)
  ·rcases h b with⟨q,_,e⟩ | ⟨_,e⟩
   ·exact .inr (.inr ⟨q,e⟩)
   ·by_cases j:b=a
    ·exact .inr (.inl ⟨_,_,e.trans (f8 j)⟩)
    ·exact .inl (e.trans (g8 j))
  ·rcases h b with⟨q,m,e⟩ | ⟨_,e⟩
   ·rw[e]at z;cases z;exact⟨#[],(i _ m).2.1,trivial,λ a0 cv z=>by cases z⟩
   ·rw[e]at z;by_cases j:b=a
    ·have z':=(f8 j).symm.trans z;cases z';subst j;exact⟨N,by rw[g6];exact hl,vs,_,rv,N⟩
    ·have z':=(g8 j).symm.trans z;cases z'
  ·rcases h b with⟨q,m,e⟩ | ⟨_,e⟩
   ·exact .inr ⟨⟨q,m⟩,q,e⟩
   ·by_cases j:b=a
    ·exact .inl j
    ·exact absurd (e.trans (g8 j)) z
end L2
namespace L2
open PySem PySem.Spec PyProof.Rows
abbrev KOf{K:IE}{h:Iw}(_:K.In h):IE:=K
theorem walk_of{l:PySem.W.OpenLaw}{K:Params->IE}{M:Iz->CXT}{J:Iz->Sp}
  (O:l.most=some n) (z:n<=sizeLine) (B:d.params.defaults=[]) (N:Room k callerA)
  (S:∀(w:Iz) (h:Iw),YP w h->(K w.params).In h) (i:∀(w:Iz) (h:Iw),YP w h->(∀p∈A2 (K w.params),(K w.params).lookup p.1=none/\h.get? p.1=some {cls:=.none,data:=.fields #[]} /\ isCodeTable h p.1)/\((A2 (K w.params)).map (·.1)).Nodup)
  (F:∀(w:Iz) (mg:Str->Ir Is) (m:Iv) (h:Iw),(K w.params).In h->h.Ns mainGlobals mg->mg d.name=some (.ref m) ->
   ∃fd:ID,(∀(s:Iu) (u:Is),BindsTo s fd ⟨[u],[]⟩ [(x,u)]) /\
    ∀base:Iw,(K w.params).In base->base.Ns mainGlobals mg->FnOk l.prog w (K w.params) mg base (M w) k m fd [x] (J w))
  (y:∀(w:Iz) (H:Hp) (a:Iv) (ns:on Int),ns.length<=n->Only H->SqL (K w.params) H a (ns.map V.int)->J w [.ref a] H (λ v _=>v=.bl true) λ _ _ _=>False)
  (C:∀(w:Iz) (H:Hp) (s:Iu) (e:Is) (r:Iu),M w [] H s (λ _ _ _=>False) e r->False) :
  PySem.W.WalkO q loose XP YP l.row.toRowW d [] (λ f E=>PySem.call f E):=by
 refine Att.attach_call O B λ w I g mg mb m o pm cd X a E ns G Y ho hd Q A j c b P=>?_;have L:=S w _ Y;obtain⟨fd,R,W⟩:=F w mg m _ L G.T.g A;exact zm L G.T.g G.T.b G.T.builtins G.T.nolimit P j c (i9 b z) N W R (λ H U hS=>y w H a ns b U hS) (i w _ Y).1 (i w _ Y).2 G.T.bmain λ H e r=>C w H g e r
end L2
namespace L2
open PySem PySem.Spec PyProof.Rows
abbrev CX0:CXT:=λ _ _ _ _ _ _=>False
abbrev E0:XK:=λ _ _ _=>False
theorem pJ:jS CX0 X E0:=λ _ _ _ _ _ _ _ h=>h.elim
structure Fun(K:PySem.W.Frag)(x qual:Str)(st:Stmt)(f:Addr)(fd:FuncData):Prop where
 ex:∃(oc:Value) (od:Option Addr) (kV doc pm:Value) (an:Option Addr) (cdv ct:Value) (osl:Array (Option Value)),
  fd=PySem.W.fnOf x qual (P8 st) (L5 st) (A1 st) .none kV doc pm an cdv ct/\K.lookup f=some ⟨oc,od,.func fd,osl⟩/\PySem.W.codeIn K cdv qual=true
 kp:PySem.W.keepIn K (.ref f)=true
theorem iteF{B:Prop}(h:B):if false=true then A else B:=by
 rw[g8 B1];exact h
theorem iteT{B:Prop}(h:A):if true=true then A else B:=by
 rw[f8 rfl];exact h
def Same(H H':Hp):Prop:=∀b o,H b=some o->H' b=some o
theorem Same.refl(H:Hp):Same H H:=λ _ _ h=>h
theorem Same.trans(a:Same H e)(b:Same e d):Same H d:=λ c o h=>b c o (a c o h)
theorem Same.free(e:Same H a)(h:a l=Option.none):H l=Option.none:=by
 cases q:H l with
 | none=>rfl
 | some o=>
  rw[e l o q]at h;cases h
theorem Same.seq{K:IE}(e:Same H b)(h:SqL K H a xs):SqL K b a xs:=by
 rcases h with(h | ⟨o,h⟩) | h
 ·exact .inl (.inl (e _ _ h))
 ·exact .inl (.inr ⟨o,e _ _ h⟩)
 ·exact .inr h
end L2
end
noncomputable section
namespace L2
open PySem PySem.Spec PyProof.Rows
noncomputable def p5(cells:on (Str×Iv)):on (Str×II)->on (Str×Iv)->on (Str×Iv)
 | [],acc=>acc
 | (n,k)::r,acc=>if(k==NameKind.free)=true then p5 cells r ((n,(cells.lookup n).getD 0)::acc)else p5 cells r acc
theorem jZ:∀(d:on (Str×II)) (b:on (Str×Iv)),(∀y∈d,y.2=NameKind.free->∃c,env.cells.lookup y.1=some c) ->
  (forIn d b (λ (x:Str×II) (cs:on (Str×Iv))=>(match x with | (e,f)=>if(f==NameKind.free)=true then(do let a ←cellOf env e;pure (ForInStep.yield ((e,a)::cs)))else pure (ForInStep.yield cs):Sem (ForInStep (on (Str×Iv))))):Sem (on (Str×Iv)))=pure (p5 env.cells d b)
 | [],b,_=>rfl
 | (n,k)::r,b,h=>by
  have j:=λ y m=>h y (o4 _ m);rw[List.forIn_cons];by_cases g:(k==NameKind.free)=true
  ·obtain⟨c,l⟩:=h (n,k) o5 (g9.mp g);have o:cellOf env n=pure c:=by unfold cellOf;rw[l]
   have i:p5 env.cells ((n,k)::r) b=p5 env.cells r ((n,c)::b):=(by show(if(k==NameKind.free)=true then p5 env.cells r (_::b)else p5 env.cells r b)=_;rw[f8 g,l];rfl);rw[i,←jZ r _ j];simp only[g,if_true,o];rfl
  ·have i:p5 env.cells ((n,k)::r) b=p5 env.cells r b:=by
    show(if(k==NameKind.free)=true then p5 env.cells r (_::b)else p5 env.cells r b)=_;rw[g8 g]
   rw[i,←jZ r b j];simp only[g,if_false];rfl
theorem fQ(h:∀y∈scope.names,y.2=NameKind.free->∃c,env.cells.lookup y.1=some c):closureFor scope env=pure (p5 env.cells scope.names []):=by
 unfold closureFor
 first
  | exact _.trans rfl
  | (simp only[(jZ scope.names [] h)];rfl)
theorem br:∀{a:on (Str×II)} {d:on (Str×Iv)} {x:Str} {c:Iv},(∀y∈a,y.2=NameKind.free->∃c,b.lookup y.1=some c) ->
  (x,c)∈p5 b a d->(x,c)∈d\/(b.lookup x=some c/\(x,NameKind.free)∈a)
 | [],d,x,c,_,h=>.inl h
 | (n,k)::r,d,x,c,g,h=>by
  have f:=λ y i=>g y (o4 _ i);unfold p5 at h;by_cases e:(k==NameKind.free)=true
  ·rw[f8 e]at h;obtain⟨c',j⟩:=g (n,k) o5 (g9.mp e);rcases br f h with z | ⟨z1,z2⟩
   ·rcases i7.mp z with z | z
    ·cases z;exact .inr ⟨by rw[j];rfl,by rw[←g9.mp e];exact o5⟩
    ·exact .inl z
   ·exact .inr ⟨z1,o4 _ z2⟩
  ·rw[g8 e]at h;rcases br f h with z | ⟨z1,z2⟩
   ·exact .inl z
   ·exact .inr ⟨z1,o4 _ z2⟩
theorem ke:∀{a:on (Str×II)} {c:on (Str×Iv)} {y:Str×Iv},y∈c->y∈p5 b a c
 | [],_,_,h=>h
 | (n,k)::r,c,y,h=>by
  unfold p5;split
  ·exact ke (o4 _ h)
  ·exact ke h
theorem fR:∀{a:on (Str×II)} {d:on (Str×Iv)} {x:Str} {c:Iv},(x,NameKind.free)∈a->b.lookup x=some c->(x,c)∈p5 b a d
 | (n,k)::r,d,x,c,h,e=>by
  unfold p5;rcases i7.mp h with z | z
  ·cases z;rw[f8 (show(NameKind.free==NameKind.free)=true from rfl),e];exact ke o5
  ·split
   ·exact fR z e
   ·exact fR z e
theorem cY:∀(a:on (Str×II)) (n:Nat) (b:on (Str×Iv)),cellsFrom n a b=cellsFrom n a []++b
 | [],_,_=>rfl
 | (x,k)::r,n,b=>by
  unfold cellsFrom;split
  ·rw[cY r _ _,cY r _ [(x,n)],Q9];rfl
  ·exact cY r n b
theorem kf:∀{a:on (Str×II)} {n:Nat} {x:Str} {c:Iv},(x,c)∈cellsFrom n a []->(x,NameKind.cell)∈a
 | [],_,_,_,h=>nomatch h
 | (y,k)::r,n,x,c,h=>by
  unfold cellsFrom at h;by_cases b:(k==NameKind.cell)=true
  ·rw[f8 b,cY]at h;rcases F5.mp h with z | z
   ·exact o4 _ (kf z)
   ·have d:(x,c)=(y,n):=by simpa using z
    cases d;rw[g9.mp b];exact o5
  ·rw[g8 b]at h;exact o4 _ (kf h)
theorem cZ{a:Type}:∀{l r:on (Str×a)},(l++r).lookup x=(l.lookup x).or (r.lookup x)
 | [],r=>by simp
 | (y,v)::l,r=>by
  rw[List.cons_append,G6,G6];cases hb:x==y with
  | true=>rfl
  | false=>exact cZ
theorem pK{a:Type}:∀{l:on (Str×a)},(∀c,(x,c)∉l)->l.lookup x=none
 | [],_=>rfl
 | (y,v)::l,h=>by
  rw[G6];cases hb:x==y with
  | true=>exact absurd (by grind) (h v)
  | false=>exact pK λ c b=>h c (o4 _ b)
theorem kg{a:Type}:∀{l:on (Str×a)} {c:a},(x,c)∈l->∃d,l.lookup x=some d
 | (y,v)::l,c,h=>by
  rw[G6];cases b:x==y with
  | true=>exact⟨v,rfl⟩
  | false=>
   rcases i7.mp h with z | z
   ·cases z;rw[U0]at b;cases b
   ·exact kg z
theorem X5{b:Type}:∀{l:on (Str×b)} {c:b},(l.map (·.1)).Nodup->(x,c)∈l->l.lookup x=some c
 | (y,v)::l,c,d,h=>by
  rw[G6];rw[B3]at d;have a:=O4.mp d;rcases i7.mp h with z | z
  ·cases z;rw[U0]
  ·have:x≠y:=λ e=>a.1 (by rw[←e];exact i8.mpr ⟨_,z,rfl⟩);rw[B5.mpr this];exact X5 a.2 z
theorem kh:(relabel scope env).names.lookup x=(scope.names.lookup x).map λ k=>if(k==NameKind.free&&env.scope.kind == .function&&env.kindOf x==some .cell)=true then NameKind.cell else k:=by
 unfold relabel;show(scope.names.map _).lookup x=_;generalize scope.names=l
 induction l with
 | nil=>rfl
 | cons y r a=>
  obtain⟨n,k⟩:=y;rw[B3];show List.lookup x ((if _=true then _ else(n,k))::_)=_;have e:(if(k==NameKind.free&&env.scope.kind == .function&&env.kindOf n==some .cell)=true then(n,NameKind.cell)else(n,k))=(n,if(k==NameKind.free&&env.scope.kind == .function&&env.kindOf n==some .cell)=true then NameKind.cell else k):=by split<;>rfl
  rw[e,G6,G6];cases b:x==n with
  | true=>rw[g9.mp b];rfl
  | false=>exact a
theorem zn
  (e:Q (newEnv scope s.heap.objs.size g (cellsFrom (s.heap.objs.size+1) scope.names cl) q none .none (some env) builtinsNs) {s with heap:=pushCells (s.heap.push {cls:=.type "dict",data:=.dict #[]}) scope.names}) :
  wpAny M A (newFunctionEnv scope g cl [] q none .none (some env)) Q E s:=by
 simp only[newFunctionEnv,Option.isSome_some,if_true];refine f0 (wpAny_alloc ?_);refine f0 (wpAny_layCells _ (λ d a c=>by cases b:a==NameKind.cell<;>simp[b]) _ _ _ _ ?_);rw[show({s with heap:=s.heap.push {cls:=.type "dict",data:=.dict #[]}}:Iu).heap.objs.size=s.heap.objs.size+1 from G7 ..];exact f0 (g7 (g7 e))
theorem zo{prog:IA}{w:Iz}{A:IB}{R:Result->Iu->Prop}{s:Iu}{elt target iter:Ix}{ifs:on Ix}{scope:IF}{pos:Pos}{it acc:Is}{env:Env}(I:Nat->Iu->Prop)
  (turn:∀n s,I n s->wpAny IR A (pyNext it) (λ r s₁=>match r with
   | none=>R (.ok .next) s₁
   | some v=>wpAny IR A (letOwnedTupleGo target it v) (λ _ s₁'=>wpAny IR A (assign target env v) (λ _ s₂=>
     wpAny IR A (forIn ifs true λ c r=>if r=true then do let ok ←isTrue c env (eval c env);pure (ForInStep.yield ok)else pure (ForInStep.yield r)) (λ ok s₃=>
      if ok=true then wpAny IR A (eval elt env) (λ x s₄=>
       wpAny IR A (call (.builtin "list.append") [acc,x]) (λ _ s₅=>∃m,m<n/\I m s₅) (notedBy IR A env λ e s'=>R (.error e) s') s₄) (notedBy IR A env λ e s'=>R (.error e) s') s₃
      else ∃m,m<n/\I m s₃) (notedBy IR A env λ e s'=>R (.error e) s') s₂) (notedBy IR A env λ e s'=>R (.error e) s') s₁') (notedBy IR A env λ e s'=>R (.error e) s') s₁) (notedBy IR A env λ e s'=>R (.error e) s') s)
  (n:Nat) (h:I n s) :
  codeAny IR A (.compLoop (.ListComp elt [⟨target,iter,ifs,0⟩] scope pos) 0 it acc env) R s:=by
 refine codeAny_loop rfl I (λ n s hI=>?_) n h;show wpAny _ A ((compTurn (.ListComp elt [⟨target,iter,ifs,0⟩] scope pos) 0 it acc env).onRaise (λ x=>do noteFrame x env;theTreesLotGoes x)) _ _ s;refine wpAny_noted ?_;rw[compTurn_list];refine f0 (fx (f0 (D9 (turn n s hI) (λ r s₁ h₁=>?_) λ _ _ h'=>h')));cases r with
 | none=>exact g7 h₁
 | some v=>
  refine f0 (D9 h₁ (λ _ s₁' h₁'=>?_) λ _ _ h'=>h');refine f0 (D9 h₁' (λ _ s₂ h₂=>f0 (D9 h₂ (λ ok s₃ h₃=>?_) λ _ _ h'=>h')) λ _ _ h'=>h');cases ok with
  | false=>exact g7 ⟨rfl,h₃⟩
  | true=>
   exact f0 (f0 (D9 h₃ (λ x s₄ h₄=>f0 (D9 h₄ (λ _ s₅ h₅=>g7 (g7 ⟨rfl,h₅⟩)) λ _ _ h'=>h')) λ _ _ h'=>h'))
theorem HOk.track(x:HOk P w H h)(d:H a=none)(new:u9 P w (upd H a o) h a o):HOk P w (upd H a o) h:=λ b u e=>by
 by_cases f:b=a
 ·subst f;rw[x3]at e;cases e;exact new
 ·rw[n6 f]at e;exact(x b u e).stay (λ c v _ q=>q) (λ c q=>by rw[n6 (A7 q d)];exact q) (λ c g q=>by rw[n6 (A7 q d)];exact q) (λ c g q=>by rw[n6 (A7 q d)];exact q) λ c _ _ _ _ q=>by rw[n6 (A7 q d)];exact q
theorem Un.track{fs ex:on Iv}{H H':Hp}{h h':Iw}{a:Iv}{o:HO}(u:Un fs ex H H' h h')(hn:H' a=none)(hh:h.get? a=none):Un fs ex H (upd H' a o) h h' where
 keep:=u.keep
 slot:=u.slot
 free:=λ b ob q n hx=>by
  have:b≠a:=λ z=>by rw[z,hh]at q;cases q
  rw[n6 this];exact u.free b ob q n hx
 there:=u.there
 tups:=λ b xs q=>by have z:=u.tups b xs q;rw[n6 (A7 z hn)];exact z
 frzs:=λ b ob xs q=>by have z:=u.frzs b ob xs q;rw[n6 (A7 z hn)];exact z
 tbls:=λ b ps q=>by have z:=u.tbls b ps q;rw[n6 (A7 z hn)];exact z
structure CompScope(N N':List Str)(sc osc:Scope)(fr:List (Option Nat)):Prop where
 kind:sc.kind=.function
 nd:N'.Nodup
 snd:(sc.names.map (·.1)).Nodup
 len:fr.length=N'.length
 fre:∀(j i:Nat),fr[j]? = some (some i)->∃x,N'[j]? = some x/\N[i]? = some x/\(x,NameKind.free)∈sc.names
 out:∀y∈sc.names,y.2=NameKind.free->osc.names.lookup y.1=some .cell\/osc.names.lookup y.1=some .free
noncomputable def inner(fr:on (Ir Nat))(σ:St):St:=fr.map λ o=>o.bind λ i=>(σ[i]?).join
noncomputable def u7(X:Cx)(scope:IF)(N':on Str)(C:Iv)(cells:on (Str×Iv))(s₂:Iu)(H₂:Hp)(fp:on Iv):Cx:=
 {X with N:=N',s₀:=s₂,H₀:=H₂,env:=compEnvC scope cells C X.env,outer:=X.stack,stack:=X.stack,ex:=fp,fn:=λ x=>scope.names.lookup x==some .cell,pn:=[],xe:=λ _ _=>False}
abbrev Q0:Obj:={cls:=.type "list",dict:=none,data:=.seq ([]:on Is).toArray}
abbrev da:Obj:={cls:=.type "dict",data:=.dict #[]}
theorem zp(S:CompScope X.N N' scope X.env.scope fr)(I:Inv X O σ H d)(f:∀b∈fp,FpOk X O H b)(ho:∀b∈fp,@LT.lt Nat _ b d.heap.objs.size)(hC:C=d.heap.objs.size+1)(M:U=pushCells ((d.heap.push Q0).push da) scope.names) :
  Inv (u7 X scope N' C (cellsFrom (C+1) scope.names (p5 X.env.cells scope.names [])) d H fp) [] (inner fr σ) H {d with heap:=U} /\ U.get? d.heap.objs.size=some Q0/\(∀b o,d.heap.get? b=some o->U.get? b=some o):=by
 have Q:(d.heap.push Q0).objs.size=d.heap.objs.size+1:=G7 ..;have P:((d.heap.push Q0).push da).objs.size=C+1:=by rw[G7,Q,hC]
 have h:∀b o,d.heap.get? b=some o->U.get? b=some o:=λ b o e=>by rw[M];exact jo _ _ b o (k6 _ (k6 _ e))
 have hD:U.get? d.heap.objs.size=some Q0:=by rw[M];exact jo _ _ _ _ (k6 _ (t8 _ rfl))
 have a4:U.Ns C λ _=>none:=by have q:=(Heap.Ns.new (d.heap.push Q0) (.type "dict")).keeps (jo scope.names _);rw[Q,←hC]at q;rw[M];exact q
 have ok:=cellsFrom_ok scope.names ((d.heap.push Q0).push da) (C+1) [] ⟨λ _ _ A=>(nomatch A),List.Pairwise.nil⟩ (by rw[P];exact k8 _);rw[P,←M]at ok;have J:∀y∈scope.names,y.2=NameKind.free->∃c,X.env.cells.lookup y.1=some c:=λ y hy hk=>I.ok.has y.1 (S.out y hy hk);generalize Z:p5 X.env.cells scope.names []=cl;have F:∀{x:Str} {c:Iv},(x,c)∈cl->X.env.cells.lookup x=some c/\(x,NameKind.free)∈scope.names:=λ {x c} A=>by
  rw[←Z]at A;rcases br J A with z | z
  ·exact nomatch z
  ·exact z
 generalize s:cellsFrom (C+1) scope.names []=own at ok;have a6:cellsFrom (C+1) scope.names cl=own++cl:=by rw[cY,s]
 rw[a6];have L:∀{x:Str} {c:Iv},(x,c)∈own->(x,NameKind.cell)∈scope.names:=λ {x c} A=>by rw[←s]at A;exact kf A
 have L1:∀x c,(own++cl).lookup x=some c->((x,c)∈own)\/(X.env.cells.lookup x=some c/\(x,NameKind.free)∈scope.names/\own.lookup x=none):=λ x c e=>by
  rw[cZ]at e;cases q:own.lookup x with
  | some c'=>rw[q]at e;cases e;exact .inl (D7 q)
  | none=>rw[q]at e;have z:=F (D7 (show cl.lookup x=some c from e));exact .inr ⟨z.1,z.2,rfl⟩
 have g:=λ {x c} A=>(ok.empty x c A).2;have n:∀{x:Str} {c:Nat},X.env.cells.lookup x=some c->@LT.lt Nat _ c d.heap.objs.size:=λ {x c} e=>by obtain⟨v,z⟩:=I.cell x c e;exact z.lt
 have K:∀{x:Str},(x,NameKind.free)∈scope.names->own.lookup x=none:=λ {x} A=>by refine pK λ c Y=>?_;have a:=X5 S.snd A;have b:=X5 S.snd (L Y);rw[a]at b;cases b
 have B:∀{x:Str} {c:Iv},(x,NameKind.free)∈scope.names->X.env.cells.lookup x=some c->(own++cl).lookup x=some c:=λ {x c} A Y=>by rw[cZ,K A];obtain⟨c',e⟩:=kg (l:=cl) (by rw[←Z];exact fR A Y);have z:=(F (D7 e)).1;rw[Y]at z;cases z;exact e
 have hX:(u7 X scope N' C (own++cl) d H fp).Ok:=by
  refine⟨I.ok.mod,S.kind,I.ok.glob,I.ok.blt,?_,λ x y c h1 h2=>?_,λ x hx=>?_,λ x c hf Y=>?_,I.ok.hd,I.ok.frames,.inl rfl,λ b R=>⟨?_,λ x c e=>?_⟩,I.bs,i9 I.ok.bsz I.sz,λ b o e R=>?_,λ b R hs=>?_,I.stack,⟨I.stkFree,I.tabs⟩⟩
  ·show d.heap.objs.size<=C;rw[hC];exact cO _
  ·have h1:(own++cl).lookup x=some c:=h1;have h2:(own++cl).lookup y=some c:=h2;rcases L1 x c h1 with a | ⟨a,_⟩<;>rcases L1 y c h2 with b | ⟨b,_⟩
   ·exact name_of_addr ok.apart a b
   ·exfalso;have q1:=g a;have q2:=n b;omega
   ·exfalso;have q1:=g b;have q2:=n a;omega
   ·exact I.ok.inj x y c a b
  ·have E:(relabel scope X.env).names.lookup x=some .cell\/(relabel scope X.env).names.lookup x=some .free:=hx;show ∃c,(own++cl).lookup x=some c;rw[kh]at E;cases q:scope.names.lookup x with
   | none=>rw[q]at E;rcases E with z | z<;>cases z
   | some k=>
    have km:=D7 q;by_cases k1:k=.cell
    ·subst k1;have z:=eL scope.names (C+1) [] (.inl q);rw[s]at z;obtain⟨c,z⟩:=Z7.mp z;exact⟨c,by rw[cZ,z];rfl⟩
    ·by_cases k2:k=.free
     ·subst k2;obtain⟨c,e⟩:=J _ km rfl;exact⟨c,B km e⟩
     ·exfalso;rw[q]at E;have e0:(k==NameKind.free)=false:=B5.mpr k2;simp only[O5,e0,ju]at E;rcases E with z | z
      ·exact k1 (by simpa using z)
      ·exact k2 (by simpa using z)
  ·have a5:(scope.names.lookup x==some .cell)=true:=hf;have q:scope.names.lookup x=some .cell:=by simpa using a5
   have z:=eL scope.names (C+1) [] (.inl q);rw[s]at z;obtain⟨c',z⟩:=Z7.mp z;have a0:(own++cl).lookup x=some c:=Y;rw[cZ,z]at a0;have e:c'=c:=E2 a0;subst e;have:=g (D7 z);show @LE.le Nat _ d.heap.objs.size c';omega
  ·have:=ho b R;show @Ne Nat b C;omega
  ·rcases L1 x c e with a | ⟨a,_⟩
   ·have:=g a;have:=ho b R;show @Ne Nat c b;omega
   ·exact(f b R).2.2.2.2.1 x c a
  ·rcases(f b R).2.2.2.1 with z | z
   ·exact I.ok.noex b o e z
   ·exact absurd (u6 (n7 e) (i9 I.ok.bsz z)) (M9 _)
  ·rcases i7.mp (I.stkSub b hs)with z | z
   ·exact(f b R).2.1 z
   ·exact(f b R).2.2.1 z
 refine⟨⟨hX,rfl,I.bare,Un.kept h,⟨_,a4,λ i x v e1 W e3=>?_⟩,λ x c e=>?_,I.hok.fresh (by show @LE.le Nat _ d.heap.objs.size C;omega),λ x c e=>?_,λ p hp=>absurd (show p∈([]:on (Iv×Obj))from hp) IX,I.hok.kept h,?_⟩,hD,h⟩
 ·have e1:N'[i]? = some x:=e1;unfold inner at W;rw[q0]at W;cases q:fr[i]? with
  | none=>rw[q]at W;cases W
  | some o=>
   rw[q]at W;cases o with
   | none=>cases W
   | some j=>
    have N:(σ[j]?).join=some v:=E2 W;have hv:σ[j]? = some (some v):=by
     cases z:σ[j]? with
     | none=>rw[z]at N;cases N
     | some o=>rw[z]at N;rw[show o=some v from N]
    obtain⟨x',a1,a2,a3⟩:=S.fre i j q;rw[e1]at a1;cases a1;obtain⟨m,hn,hl⟩:=I.loc;have ko:=S.out _ a3 rfl;obtain⟨u,r,l⟩:=hl j x v a2 hv (ko.elim (λ z=>.inr (.inl z)) λ z=>.inr (.inr z));rcases l with⟨k,_⟩ | ⟨k,c,e,z⟩
    ·have k':X.env.scope.names.lookup x=some .local:=k;rcases ko with w | w<;>(rw[show X.env.scope.names.lookup x=_ from w]at k';cases k')
    ·refine⟨u,r,.inr ⟨?_,c,B a3 e,z.keeps h⟩⟩;show(relabel scope X.env).names.lookup x=some .cell\/(relabel scope X.env).names.lookup x=some .free;rw[kh,X5 S.snd a3];simp only[O5];split
     ·exact .inl rfl
     ·exact .inr rfl
 ·rcases L1 x c e with a | ⟨a,_⟩
  ·exact⟨none,(ok.empty x c a).1⟩
  ·obtain⟨v,z⟩:=I.cell x c a;exact⟨v,z.keeps h⟩
 ·rcases L1 x c e with a | ⟨a,_⟩
  ·exact I.hok.fresh (by have:=g a;show @LE.le Nat _ d.heap.objs.size c;omega)
  ·exact I.freeC x c a
 ·show(inner fr σ).length=N'.length;unfold inner;rw[g6,S.len]
def PTs(X:Cx)(ifs:on Ix)(t:TT):Prop:=
 ∀(pins:on (Iv×Obj)) (s:Iu) (σ:St) (H:Hp) (Q:Bool->Hp->Prop),Inv X pins σ H s->t σ H Q ->
  wpAny IQ X.A (forIn ifs true λ c r=>if r=true then do let ok ←isTrue c X.env (eval c X.env);pure (ForInStep.yield ok)else pure (ForInStep.yield r)) (TP X pins σ Q) X.xe s
noncomputable def tYes:TT:=λ _ H Q=>Q true H
theorem zq:PTs X [] tYes:=λ _ _ _ H _ I h=>wpAny_tests_nil ⟨H,I,h⟩
theorem zr(h:PT X c t):PTs X [c] t:=λ a s b H Q I d=>wpAny_tests_one (h a s b H Q I d)
def ki(J:It)(g:TG)(tc:TT)(te:TE)(Fin:on V->Hp->Prop)(σ:St)(H:Hp):Prop:=
 ∃W:Nat->Nat->on V->St->Hp->Prop,(∃m,W 0 m [] σ H)/\∀i m ys σ H,W i m ys σ H ->
  (J.stop i H/\Fin ys H)\/(J.go i H/\ys.length<sizeLine/\∀x H',J.yld i H x H'->g x σ H' λ σ2 H2=>tc σ2 H2 λ b H3=>
   if b=true then te σ2 H3 λ y H4=>∃m',m'<m/\W (i+1) m' (ys++[y]) σ2 H4 else ∃m',m'<m/\W (i+1) m' ys σ2 H3)
theorem Vals.snoc(r:Vals xs a)(q:RelV x u):Vals (xs++[x]) (a++[u]):=r.append (.cons q .nil)
theorem pL{K:on (Iv×Obj)}
   {RR:Is->Iv->Result->Iu->Prop}
  (S:CompScope X.N L scope X.env.scope fr) (hc:X.calm=true)
  (hg:∀C j a B fp,PG (u7 X scope L C j a B fp) tg g) (ht:∀C j a B fp,PTs (u7 X scope L C j a B fp) a3 tc) (he:∀C j a B fp,PE (u7 X scope L C j a B fp) elt te)
  (I:Inv X K σ H a) (T:Turn X.prog X.w X.K tg J fp it tn) (st:tn 0 a.heap) (f:∀b∈fp,FpOk X K H b) (h:ki J g tc te c0 (inner fr σ) H)
  (c4:∀D C A P m O,Inv X K σ (upd A D (.lst O)) P->A D=none->P.heap.Ns C m->upd A D (.lst O) C=none->C≠X.env.locals->X.s₀.heap.objs.size<=C->(∀x c,X.env.cells.lookup x=some c->c≠C)->(∀p∈X.pn++K,p.1≠C)->c0 O A->RR (.ref D) C (.ok .next) P) :
  wpAny IQ X.A (newList []) (λ b8 a8=>wpAny IQ X.A (newFunctionEnv scope X.env.globals (p5 X.env.cells scope.names []) [] X.env.qual none .none (some X.env)) (λ a1 a7=>
   codeAny IQ X.A (.compStart (.ListComp elt [⟨tg,a0,a3,0⟩] scope pos) 0 (.ref it) b8 {a1 with scope:=relabel scope X.env}) (RR b8 a1.locals) a7) E a8) E a:=by
 have ho:∀b∈fp,b<a.heap.objs.size:=λ b s=>by obtain⟨o,e,_⟩:=T.obj _ _ st b s;exact n7 e
 refine E8 (zn ?_);have b0:(a.heap.push Q0).objs.size=a.heap.objs.size+1:=G7 ..;obtain⟨I4,b6,Z⟩:=zp (C:=a.heap.objs.size+1) S I f ho rfl rfl;show codeAny _ _ _ (RR (.ref a.heap.objs.size) (a.heap.push Q0).objs.size) {a with heap:=pushCells ((a.heap.push Q0).push da) scope.names};rw[b0];generalize b4:a.heap.objs.size=D at *;generalize cellsFrom (D+1+1) scope.names (p5 X.env.cells scope.names [])=j at *;generalize pushCells ((a.heap.push Q0).push da) scope.names=h4 at *;have a4:∀{w:on (Iv×Obj)} {A:Hp},(∀b∈fp,A b=none)->(∀p∈w,p.1=D)->∀b∈fp,FpOk (u7 X scope L (D+1) j a H fp) w A b:=λ {w A} hn N b s=>
  ⟨hn b s,(I4.ok.exf b s).1,I4.ok.exfs b s,.inl s,(I4.ok.exf b s).2,λ p R z=>by
   have R:p∈([]:on (Iv×Obj))++w:=R;rw[cC]at R;have:=ho b s;rw[←z,N p R]at this;exact M9 _ this⟩
 obtain⟨W,⟨m0,w0⟩,a6⟩:=h;have b5:D≠(u7 X scope L (D+1) j a H fp).env.locals:=by show D≠D+1;omega
 have U:∀x c,(u7 X scope L (D+1) j a H fp).env.cells.lookup x=some c->c≠D:=λ x c e z=>by
  obtain⟨v,o,c1,hd⟩:=I4.cell x c e;have q:h4.get? D=some o:=by rw[←z];exact c1
  rw[b6]at q;cases q;cases hd
 have b3:D∉(u7 X scope L (D+1) j a H fp).fs:=λ z=>by
  obtain⟨_,o,c2,_⟩:=I4.ok.funs.mem z
  have:=n7 c2;have e:a.heap.objs.size=D:=b4;exact absurd this (by show ¬D<a.heap.objs.size;omega)
 have Y:codeAny IQ X.A (.compLoop (.ListComp elt [⟨tg,a0,a3,0⟩] scope pos) 0 (.ref it) (.ref D) (compEnvC scope j (D+1) X.env)) (RR (.ref D) (D+1)) {a with heap:=h4}:=by
  refine zo (λ n P=>∃i O l k a5 A,Inv (u7 X scope L (D+1) j a H fp) [] a5 A P/\tn i P.heap/\(∀b∈fp,A b=none)/\A D=none /\
   P.heap.get? D=some {cls:=.type "list",data:=.seq (l:on Is).toArray k} /\ Vals O l/\O.length<=sizeLine/\W i n O a5 A) ?_ m0
   ⟨0,[],[],_,_,H,I4,T.keep _ _ _ st λ b _ o e=>Z b o e,λ b s=>(f b s).1,I.hok.fresh IK,b6,.nil,G3 _,w0⟩
  rintro n s3 ⟨i,O,l,k,σ3,H3,I3,st3,fr3,hD3,oD3,rv,hl,w3⟩
  have b9:Inv (u7 X scope L (D+1) j a H fp) [(D,{cls:=.type "list",data:=.seq l.toArray k})] σ3 H3 s3:=I3.pins_of λ p N=>by
   have e:p=(D,{cls:=.type "list",data:=.seq l.toArray k}):=by simpa using N
   subst e;exact⟨oD3,hD3,b5,b3,λ v z=>by cases z⟩
  have Q:∀p∈[((D:Iv),({cls:=.type "list",data:=.seq l.toArray k}:Obj))],p.1=D:=λ p N=>by
   have e:p=(D,{cls:=.type "list",data:=.seq l.toArray k}):=by simpa using N
   subst e;rfl
  rcases a6 i n O σ3 H3 w3 with⟨a9,c8⟩ | ⟨go,hlt,step⟩
  ·refine thn (T.done (u7 X scope L (D+1) j a H fp) rfl rfl rfl hc i _ s3 σ3 H3 _ b9 (a4 fr3 Q) st3 a9) λ r s4 t0=>?_;obtain⟨hr,F⟩:=t0;subst hr;have oD:=(F.pin (D,_) (y9 _ o5)).1;have un:Un (frs X.stack) fp H H3 a.heap s4.heap:=F.base;have hn:a.heap.get? D=none:=cg (by rw[b4];exact k8 _);obtain⟨mC,c3,_⟩:=F.loc;refine c4 D (D+1) H3 s4 mC O (I.call' F.os (un.track hD3 hn) (F.hok.track hD3 ⟨hl,l,k,rv,oD⟩) F.bare λ b s=>?_) hD3 c3 ?_ ?_ ?_ (λ x c e=>?_) (λ p N=>?_) c8
   ·obtain⟨_,f1,f2,f3,f4,f5⟩:=f b s;exact⟨f3,f1,f4,f5⟩
   ·rw[n6 (show @Ne Nat (D+1) D by omega)];exact F.free
   ·have q:@LT.lt Nat _ X.env.locals a.heap.objs.size:=I.lt;show @Ne Nat (D+1) X.env.locals;omega
   ·have q:@LE.le Nat _ X.s₀.heap.objs.size a.heap.objs.size:=I.sz;show @LE.le Nat _ X.s₀.heap.objs.size (D+1);omega
   ·obtain⟨v,z⟩:=I.cell x c e;have q:@LT.lt Nat _ c a.heap.objs.size:=z.lt;show @Ne Nat c (D+1);omega
   ·have q:@LT.lt Nat _ p.1 a.heap.objs.size:=n7 (I.pin p N).1;show @Ne Nat p.1 (D+1);omega
  ·refine thn (T.item (u7 X scope L (D+1) j a H fp) rfl rfl rfl hc i _ s3 σ3 H3 _ b9 (a4 fr3 Q) st3 go) λ r s4 t0=>?_;obtain⟨u,hr,c6⟩:=t0;subst hr;refine thn c6 λ _ s5 t0=>?_;obtain⟨x,H5,I5,r5,y5,a2,c7⟩:=t0;have c9:=I5.pinned (a4 c7 Q) (T.obj _ _ a2);refine D9 (hg (D+1) j a H fp _ s5 σ3 H5 x u _ c9 r5 (step x H5 y5)) (λ _ s6 ⟨M,H6,I6,q6⟩=>?_) λ _ _ z=>z.elim;refine D9 (ht (D+1) j a H fp _ s6 M H6 _ I6 q6) (λ b s7 ⟨H7,I7,q7⟩=>?_) λ _ _ z=>z.elim;have b7:∀{A:Hp} {P:Iu},Inv (u7 X scope L (D+1) j a H fp) ([(D,{cls:=.type "list",data:=.seq l.toArray k})]++fN fp s5.heap) M A P->tn (i+1) P.heap/\(∀b∈fp,A b=none)/\P.heap.get? D=some {cls:=.type "list",data:=.seq l.toArray k} /\ A D=none:=λ {A P} J'=>by
    refine⟨T.keep _ _ _ a2 λ b s o e=>(J'.pin (b,o) (y9 _ (y9 _ (X4 s e)))).1,λ b s=>?_,?_,?_⟩
    ·obtain⟨o,e,d⟩:=T.obj _ _ a2 b s;exact(J'.pin (b,o) (y9 _ (y9 _ (X4 s e)))).2.1
    ·exact(J'.pin (D,_) (y9 _ (F2 _ o5))).1
    ·exact(J'.pin (D,_) (y9 _ (F2 _ o5))).2.1
   cases b with
   | false=>
    rw[g8 B1]at q7 ⊢;obtain⟨m',hm,w7⟩:=q7;obtain⟨k1,k2,k3,k4⟩:=b7 I7;exact⟨m',hm,i+1,O,l,k,M,H7,I7.pins_of (λ p N=>(nomatch N)),k1,k2,k4,k3,rv,hl,w7⟩
   | true=>
    rw[f8 rfl]at q7 ⊢;refine D9 (he (D+1) j a H fp _ s7 M H7 _ I7 q7) (λ y s8 ⟨v8,H8,I8,r8,q8⟩=>?_) λ _ _ z=>z.elim
    obtain⟨m',hm,w8⟩:=q8;obtain⟨k1,k2,k3,k4⟩:=b7 I8;have b2:l.length<=sizeLine:=by rw[←rv.length];exact hl
    refine append_at k3 (λ h9 b1 c5=>?_) (by rw[v3];exact b2);have I9:Inv (u7 X scope L (D+1) j a H fp) [] M H8 s8:=I8.pins_of λ p N=>(nomatch N);refine⟨m',hm,i+1,O++[v8],l++[y],k+1,M,H8,I9.turned (it:=D) (t':=s8.toks) (λ b o s e=>(b1.2 b s).trans e) k4 b5 (.inr (by show a.heap.objs.size<=D;omega)) U (λ p N=>(nomatch N)),?_,k2,k4,?_,rv.snoc r8,?_,w8⟩
    ·exact T.keep _ _ _ k1 λ b s o e=>(b1.2 b (by have q:@LT.lt Nat _ b D:=ho b s;show @Ne Nat b D;omega)).trans e
    ·rw[c5,List.push_toArray]
    ·rw[u0,T9];omega
 exact codeAny_compStart_list Y (T.self X.A 0 _ _ _ (T.keep _ _ _ st λ b _ o e=>Z b o e) Y)
def kj(fr:on (Ir Nat))(wi:TI)(g:TG)(tc:TT)(te:TE):TE:=λ σ H Q=>wi σ H λ J H1=>ki J g tc te (λ ys H'=>∀p,H' p=none->Q (.ref p) (upd H' p (.lst ys))) (inner fr σ) H1
theorem zt{K:TT}(S:CompScope X.N k scope X.env.scope fr)(hc:X.calm=true)(Y:PI X tg f E)
  (Z:∀C a c d fp,PG (u7 X scope k C a c d fp) tg g) (P:∀C a c d fp,PTs (u7 X scope k C a c d fp) j K) (he:∀C a c d fp,PE (u7 X scope k C a c d fp) elt F)
  (R:∀x,foldedSetIterable f X.env x=pure x:=by intro _;rfl):PE X (.ListComp elt [⟨tg,f,j,0⟩] scope pos) (kj fr E g K F):=by
 intro i s L H Q I h;rw[eval_ListComp];refine nZ rfl R (fQ (λ y N W=>I.ok.has y.1 (S.out y N W))) S.kind (λ x O U=>X5 S.snd (by rw[←U];exact O)) (thn (Y i s L H _ I h) λ v s1 h1=>thn h1 λ M s2 h2=>?_);obtain⟨it,fp,tn,J,H2,e,I2,T,l,f2,w⟩:=h2;subst e;refine pL S hc Z P he I2 T l f2 w ?_;intro D C H' s' m ys I' hD p u A q z r B;exact⟨m,p,λ h' n=>⟨.ref D,_,I'.turned (λ b o hb e=>(n.2 b hb).trans e) u A (.inr q) z r,rfl,B D hD⟩⟩
theorem zu(S:CompScope X.N u scope X.env.scope fr)(hc:X.calm=true)(hN:X.N.Nodup)(L:X.N[i]? = some y)
  (r:X.env.scope.names.lookup y=some .local) (hi:PI X tg j R)
  (hg:∀C c d f fp,PG (u7 X scope u C c d f fp) tg g) (ht:∀C c d f fp,PTs (u7 X scope u C c d f fp) l W) (he:∀C c d f fp,PE (u7 X scope u C c d f fp) elt U)
  (B:swapsWith (.ListComp elt [⟨tg,j,l,0⟩] scope pos) (some (.Name y Y)) k.line X.env=pure true:=by rfl)
  (hs:∀x,foldedSetIterable j X.env x=pure x:=by intro _;rfl):PS X (.Assign [.Name y Y] (.ListComp elt [⟨tg,j,l,0⟩] scope pos) k) (tAsg (kj fr R g W U) (cW i)):=by
 intro n s Z H Dn I h;rw[exec_Assign_Name_used _ _ _ _ B];refine f0 (fx (f0 ?_));show wpAny _ _ _ _ _ s;refine f0 (D9 (nZ rfl hs (fQ (λ y r hk=>I.ok.has y.1 (S.out y r hk))) S.kind (λ x hx hl=>X5 S.snd (by rw[←hl];exact hx))
  (thn (hi n s Z H _ I h) λ v s1 h1=>thn h1 λ itv s2 h2=>?_)) (λ _ s' hq=>g7 (g7 hq)) λ _ _ e=>e)
 obtain⟨it,fp,tn,J,H2,e,I2,T,A,f2,w⟩:=h2;subst e;refine pL S hc hg ht he I2 T A f2 w ?_;intro D C H' s' m ys I' hD K O q M p N P;refine wpAny_assign_Name (oK (v:=.ref D) I' hN L (Or.inl r) rfl (λ s'' Q ⟨a,E,ha⟩=>⟨m,K.sameBut E ?_,λ h' F=>⟨_,_,Q.turned (λ b o hb e=>(F.2 b hb).trans e) O q (.inr M) p N,P D hD⟩⟩) (.inr r));rcases ha with z | z
 ·rw[z];exact q
 ·exact Ne.symm (p y a z)
abbrev cxD(P:IA)(w:Iz)(K:IE)(mg:Str->Ir Is)(base:Iw)(N:on Str)(qual:Str)(scope:IF)(f:Iv)(cd:Is)(A:IB)(outer:on Env)(s:Iu)(H:Hp):Cx:=cxOf CX0 P w K mg base N qual scope f cd A outer s H E0
theorem Inv.track(I:IV pins)(f:H a=none)(k:X.s₀.heap.get? a=none)(j:a≠X.env.locals)(i:∀x c,X.env.cells.lookup x=some c->c≠a)(h:∀p∈X.pn++pins,p.1≠a)(new:u9 X.prog X.w (upd H a o) s.heap a o) :
  Inv X pins σ (upd H a o) s:=
 ⟨I.ok,I.os,I.bare,I.base.track f k,I.loc,I.cell,by rw[n6 j.symm];exact I.free,λ x c e=>by rw[n6 (i x c e)];exact I.freeC x c e,λ p b=>by
  obtain⟨e,n,ne,g,d⟩:=I.pin p b;exact⟨e,by rwa [n6 (h p b)],ne,g,d⟩,I.hok.track f new,I.len⟩
open PySem.W PySem.Calls PySem.Builtin PySem.Builtin.ObjectAttr PySem.Builtin.Getset_descriptor
section
variable {prog:IA} {w:Iz} {K:Frag} {x D:Iv} {M:Model} {h:Iw}
structure ClsK(K:Frag)(D:Addr):Prop where
 ga:findIn K (.ref D) "__getattribute__" = some (some (.builtin "BaseException.__getattribute__"))
 gt:findIn K (.ref D) "__getattr__" = some none
 mb:mroIn K D (.type "BaseException")=some true
 hd:hasDictIn K D=true
 fc:findIn K (.ref D) "__class__" = some (some (.builtin "object.__class__"))
 sg:specialIn K (.builtin "object.__class__") "__get__" = some (some (.builtin "getset_descriptor.__get__"))
 tk:takesIn K (.builtin "object.__class__")=some true
 mo:mroIn K D (.type "object")=some true
end
structure Src(P:Program)(w:World)(ia la:Addr)(vs:Array Value)(S:Nat->Heap->Prop):Prop where
 keep:∀k h h',S k h->(∀o,h.get? ia=some o->h'.get? ia=some o)->(∀o,h.get? la=some o->h'.get? la=some o)->S k h'
 there:∀k h,S k h->∃o xs,h.get? ia=some o/\o.data=.fields xs
 step:∀{A:Around} {E:Value->Shared->Prop} {s:Shared} {Q:Value->Shared->Prop} (k:Nat) (x:Value),S k s.heap->vs[k]? = some x->(∀h',S (k+1) h'->Heap.SameBut ia s.heap h'->Q x {s with heap:=h'}) ->
  wpAny (model P w) A (Builtin.SmallTypes.nextOf (.ref ia)) Q E s
 stop:∀{A:Around} {E:Value->Shared->Prop} {s:Shared} {Q:Value->Shared->Prop} (k:Nat),A.handled=none->S k s.heap->vs[k]? = none ->
  (∀h' e,Heap.ExtBut ia s.heap h'->(∃o,h'.get? e=some o/\o.cls=.type "StopIteration")->E (.ref e) {s with heap:=h'})->wpAny (model P w) A (Builtin.SmallTypes.nextOf (.ref ia)) Q E s
noncomputable def sL(ia la:Iv)(vs:Iy Is):Nat->Iw->Prop:=λ k h=>h.IsListIter ia la k/\h.IsList la vs
noncomputable def sT(ia la:Iv)(vs:Iy Is):Nat->Iw->Prop:=λ k h=>h.IsTupleIter ia la k/\h.IsTuple la vs
theorem zv(ne:a≠b):Src P w b a vs (sL b a vs) where
 keep:=λ k h i ⟨p,q⟩ n m=>⟨p.at n,q.at m⟩
 there:=λ k h ⟨p,q⟩=>by obtain⟨o,e,_,d⟩:=p;exact⟨o,_,e,d⟩
 step:=λ k x ⟨p,q⟩ c f=>wpAny_nextOf_list_item p q c λ i j g=>f i ⟨j,q.extBut g.extBut ne⟩ g
 stop:=λ k l ⟨p,q⟩ c f=>wpAny_nextOf_list_end l p q c f
theorem zw(p:s.heap.IsTupleIter b a k)(q:s.heap.IsTuple a vs)(f:vs[k]? = some x)(g:∀e,e.IsTupleIter b a (k+1)->Heap.SameBut b s.heap e->Q x {s with heap:=e}) :
  wpAny (model P w) A (Builtin.SmallTypes.nextOf (.ref b)) Q E s:=by
 obtain⟨ob,d,j,c⟩:=id p;obtain⟨ot,i,_,nn,h⟩:=q;unfold Builtin.SmallTypes.nextOf;refine f0 (Q8 p.typeIs eH (K2 eH p.typeIs nR ?_ (nQ _)));show wpAny _ _ (field (.ref b) 0 >>= _) _ _ s;refine f0 (G8 d c (x:=.ref a) rfl ?_);show wpAny _ _ _ _ _ s;rw[g8 (show ¬((Value.ref a==Value.none)=true)from B1)];show wpAny _ _ (field (.ref b) 1 >>= _) _ _ s;refine f0 (G8 d c (x:=.int k 0) rfl ?_);show wpAny _ _ (seqItems? (.ref a) >>= _) _ _ s;refine f0 (ai i h ?_);simp only[B7,f];refine f0 (X0 d c IX (g7 ⟨x,rfl,g7 (g _ ?_ (M4 ..))⟩));exact⟨_,Z9 _ d (iS (aT c _)),(ja ..).trans j,by rw[aT c];simp[rawInt]⟩
theorem zx(g:A.handled=none)(p:s.heap.IsTupleIter b a k)(q:s.heap.IsTuple a vs)(h:vs[k]? = none)(i:∀c e,Heap.ExtBut b s.heap c->(∃o,c.get? e=some o/\o.cls=.type "StopIteration")->E (.ref e) {s with heap:=c}) :
  wpAny (model P w) A (Builtin.SmallTypes.nextOf (.ref b)) Q E s:=by
 obtain⟨ob,f,e2,d⟩:=id p;obtain⟨ot,l,_,nn,j⟩:=q;unfold Builtin.SmallTypes.nextOf;refine f0 (Q8 p.typeIs eH (K2 eH p.typeIs nR ?_ (nQ _)));show wpAny _ _ (field _ 0 >>= _) _ _ s;refine f0 (G8 f d (x:=.ref a) rfl ?_);show wpAny _ _ _ _ _ s;rw[g8 (show ¬((Value.ref a==Value.none)=true)from B1)];show wpAny _ _ _ _ _ s;refine f0 (G8 f d rfl ?_);show wpAny _ _ _ _ _ s;refine f0 (ai l j ?_);simp only[B7,h];refine f0 (cT (f0 (X0 f d IX ?_)));show wpAny _ _ _ _ _ _;refine f0 ?_;simp only[newExc,newTuple];refine f0 (E8 ?_ (by size_fits));refine f0 (bh (by first | rfl | (simp only[firstArgMember];rfl)) ?_);refine E8 ?_ (by size_fits);refine f0 (jy ?_)
 first | rw[show A.in1.handled=none from g] | rw[g]
 refine f0 (g7 (wpAny_throw (i _ _ (((M4 ..).extBut.push _).push _) ⟨_,t8 _ rfl,rfl⟩)))
theorem zA(ne:a≠b):Src P w b a vs (sT b a vs) where
 keep:=λ k h i ⟨p,q⟩ n m=>⟨by obtain⟨o,e,r⟩:=p;exact⟨o,n o e,r⟩,by obtain⟨o,e,r⟩:=q;exact⟨o,m o e,r⟩⟩
 there:=λ k h ⟨p,q⟩=>by obtain⟨o,e,_,d⟩:=p;exact⟨o,_,e,d⟩
 step:=λ k x ⟨p,q⟩ c f=>zw p q c λ i j g=>f i ⟨j,q.extBut g.extBut ne⟩ g
 stop:=λ k l ⟨p,q⟩ c f=>zx l p q c f
theorem Src.ext{P:IA}{w:Iz}{k:Nat}{ia la:Iv}{vs:Iy Is}{S:Nat->Iw->Prop}{h h':Iw}{e:Iv}(R:Src P w ia la vs S)(q:S k h)(hs:Heap.ExtBut e h h')(n1:ia≠e)(n2:la≠e):S k h':=R.keep k h h' q (λ o z=>hs _ _ n1 z) (λ o z=>hs _ _ n2 z)
def SqK(t:Bool)(h:Iw)(l:Iv)(vs:Iy Is):Prop:=match t with | false=>h.IsList l vs | true=>h.IsTuple l vs
def sK(t:Bool)(ia la:Iv)(vs:Iy Is):Nat->Iw->Prop:=match t with | false=>sL ia la vs | true=>sT ia la vs
theorem pM(t:Bool)(ne:a≠b):Src P w b a vs (sK t b a vs):=by
 cases t
 ·exact zv ne
 ·exact zA ne
noncomputable def itN:Bool->IJ | false=>"list_iterator" | true=>"tuple_iterator"
abbrev itO(t:Bool)(l:Iv):Obj:={cls:=.type (itN t),data:=.fields #[.ref l,.int 0 0]}
abbrev zH1(h:Iw)(t1:Bool)(l1:Iv):Iw:=h.push (itO t1 l1)
theorem zB{t:Bool}{ia la:Iv}{vs:Iy Is}{h h':Iw}(e:h'.get? ia=some (itO t la))(q:SqK t h la vs)(k:∀c o,h.get? c=some o->h'.get? c=some o):sK t ia la vs 0 h':=by
 cases t
 ·exact⟨⟨_,e,rfl,rfl⟩,Heap.IsList.at q λ o z=>k _ o z⟩
 ·exact⟨⟨_,e,rfl,rfl⟩,by obtain⟨o,z,r⟩:=q;exact⟨o,k _ o z,r⟩⟩
end L2
end
noncomputable section
namespace PySem.SeqAt
open AutoSeq1 (wpAny_loadPart')
open MeetsSeq MeetsSeq2 MeetsSeq3 SeqRoads2
theorem zC(f:Nat->β->Sem (ForInStep β))(I:on Nat->β->Iu->Prop)(Q:β->Iu->Prop)
   (turn:∀x rest b s,I (x::rest) b s->wpAny M A (f x b) (λ r c=>match r with | .yield b'=>I rest b' c | .done b'=>Q b' c) E s)
  (fin:∀b s,I [] b s->Q b s) (h:I (List.range' 0 n 1) b s):wpAny M A (forIn [:n] b f) Q E s:=by
 rw[Std.Legacy.Range.forIn_eq_forIn_range'];have a:([:n]:Std.Legacy.Range).size=n:=by simp[Std.Legacy.Range.size]
 show wpAny M A _ Q E s;rw[a];exact wpAny_forIn_list f I Q turn fin _ b h
theorem zD(l:Iv)(items:Iy Is)(n:Nat)(dd:Ir Iv)(v:Iy (Ir Is))(x:Is)(e:Is->Bool)(j:Nat)(hj:j<items.size)
  (p:e items[j]=true) (o:∀m (f:m<items.size),m<j->e items[m]=false) :
  Meets (Builtin.«tuple.index» ⟨[.ref l,x],[]⟩)
   (λ A R s=>s.heap.get? l=some {cls:=.type "tuple",dict:=dd,data:=.seq items n,slots:=v} /\ (∀y,y∈items->EqAt A.in1 s y x (e y))/\R (.ok (.ret (.int j s.toks))) {s with toks:=s.toks+1}):=
 .of_wp λ c w A R s h=>by
  obtain⟨B,g,d,u,z⟩:=s;obtain⟨C,E,h⟩:=h
  wp_walk using cf C,zC _ (λ rest b k=>b.1=none/\k=⟨B,g,d,u,z⟩/\∃i,i<=j/\rest=List.range' i (items.size - i) 1) _
  case turn=>
   rintro i rest b k ⟨hb,rfl,r,hi',hr⟩
   obtain⟨m,f⟩:∃m,items.size - r=m+1:=⟨items.size - r - 1,by omega⟩;rw[f,List.range'_succ]at hr;obtain⟨rfl,rfl⟩:=fy hr;have a:i<items.size:=by omega
   rw[show items[i]? = some items[i] by simp[a]];refine f0 (E _ (Array.getElem_mem a) c w _ _ ?_);by_cases q:i=j
   ·subst q;rw[p]
    wp_walk
    exact⟨_,rfl,h⟩
   ·rw[o i a IK]
    wp_walk
    exact⟨rfl,rfl,i+1,by omega,by congr 1;omega⟩
  case fin=>
   rintro⟨b1,b2⟩ k ⟨hb,rfl,i,hi,hr⟩
   obtain⟨m,f⟩:∃m,items.size - i=m+1:=⟨items.size - i - 1,by omega⟩;rw[f,List.range'_succ]at hr;cases hr
  case h=>
   exact⟨rfl,rfl,0,G3 _,by simp⟩
theorem pN:∀(a:on PyData) (b:on Is) (c:on Iv),PyData.canLayAll0 a=true->ReadsAll h b a c->b.length=a.length/\∀m (i:m<b.length) (g:m<a.length),PyData.eqv (readOf h b[m]) d=PyData.eqv a[m] d:=by
 intro a b c f r;have e:=readsAll_map a b c f r;refine⟨(by rw[←e,g6]),λ m i g=>?_⟩
 congr 1
 subst e;rw[List.getElem_map]
theorem index_list_reads(B:Reads s.heap c (.list xs) O)(z:Reads s.heap x d bs)(a:PyData.canLayAll0 xs=true)(K:d.canLay0=true)
  (C:A.units+1+min (PyData.depthAll xs) d.depth<cLine) (J:j<xs.length) (b:(j:Int)<2^63 - 1) (i:PyData.eqv xs[j] d=true) (f:∀m (F:m<xs.length),m<j->PyData.eqv xs[m] d=false) (h:Q (.int j s.toks) {s with toks:=s.toks+1}):wpAny IR A (call (.builtin "list.index") [c,x]) Q E s:=by
 cases B with
 | list u r q p=>
  rename_i l o e n N;obtain⟨M,L,v,y⟩:=o;simp at r q;subst r q;obtain⟨I,k⟩:=pN xs e.toList _ a p;have H:e.size=xs.length:=by rw[←I];simp
  refine PySem.call_meets oj ⟨_,u,rfl⟩ PySem.F.entry_list_index (PySem.F.args_list_index_2 _ _)
   (list_indexAt l e _ L y x _ j IK b ?_ ?_) ⟨u,items_eqAt p z a K C,h⟩
  ·rw[←i];exact k j IK J
  ·intro m F g;rw[←f m IK g];exact k m IK IK
theorem index_tuple_reads(B:Reads s.heap c (.tuple xs) M)(z:Reads s.heap x d bs)(a:PyData.canLayAll0 xs=true)(J:d.canLay0=true)
  (C:A.units+1+min (PyData.depthAll xs) d.depth<cLine) (I:j<xs.length) (g:PyData.eqv xs[j] d=true) (e:∀m (i:m<xs.length),m<j->PyData.eqv xs[m] d=false) (h:Q (.int j s.toks) {s with toks:=s.toks+1}):wpAny IR A (call (.builtin "tuple.index") [c,x]) Q E s:=by
 cases B with
 | tuple u r q p=>
  rename_i l o b n;obtain⟨L,K,v,y⟩:=o;simp only at r q;subst r q;obtain⟨H,k⟩:=pN xs b.toList _ a p;have F:b.size=xs.length:=by rw[←H];simp
  refine PySem.call_meets oa ⟨_,u,rfl⟩ PySem.F.entry_tuple_index (PySem.F.args_tuple_index_2 _ _)
   (zD l b _ K y x _ j IK ?_ ?_) ⟨u,items_eqAt p z a J C,h⟩
  ·rw[←g];exact k j (by simpa using(by omega:j<b.size)) I
  ·intro m i f;rw[←e m IK f];exact k m (by simpa using i) IK
end PySem.SeqAt
end
noncomputable section
namespace L2
open PySem
set_option genInjectivity true in
inductive DKey where
 | i (n:Int) | s (x:Str) | t (l:List (Sum Int Str))
 deriving DecidableEq
inductive Bi where
 | len | min | max | sum | sset | int | tuple | list | lrng | lset
 deriving DecidableEq
inductive Mt where
 | bitLength | index | get
 deriving DecidableEq
inductive Tg where
 | one (i:Nat) | many (is:List Nat)
inductive ME where
  | var (i:Nat) | int (i:Int) | bl (b:Bool) | str (x:Str) | non | glb (x:Str)
  | bin (op:Operator) (a b:ME) | neg (a:ME)  | not (a:ME)
  | cmp (op:CmpOp) (a b:ME) | chain (op op':CmpOp) (a b c:ME)
  | and (es:List ME) | or (es:List ME)
  | lst (es:List ME) | tup (es:List ME)
  | ix (a b:ME) | sl (a lo hi:ME) | slf (a lo:ME) | slt (a hi:ME)
   | call (f:Nat) (es:List ME)    | bi (f:Bi) (es:List ME) | isi (a:ME) (ts:List Str) | meth (m:Mt) (a:ME) (es:List ME)
  | comp (elt:ME) (tg:Tg) (it:ME) (fr:List (Option Nat)) | compi (elt:ME) (tg:Tg) (it c:ME) (fr:List (Option Nat))
   | dix (a k:ME)
  | dgp (i:Nat) (k:ME)   | callv (i:Nat) (xs:List (Str×Nat)) (es:List ME)
  | mink (a:ME) (N:List Str) (np:Nat) (lb:ME) (fr:List Nat) | self (np nc:Nat) (es:List ME) | dc2 (x y:Str) (a b:ME)
  | idx (a b:ME)
  | rng (es:List ME) | enu (a:ME)  | itm (a:ME)
structure LamD where
 N:List Str
 np:Nat
 body:ME
 fn:List Str
 bl:List Str
 cl:List Str
set_option genInjectivity true in
inductive DV where
 | non | bl (b:Bool) | int (i:Int) | str (x:Str) | tup (ds:List DV) | lst (ds:List DV) | dct (ks:List DKey) (vs:List DV)
 | fn (x:Str)
 | lam (m:LamD) (ds:List DV)
 | scr (ns:List Int)
inductive Cl where
 | weak | top | strong | fresh
 deriving DecidableEq
set_option genInjectivity true in
inductive Re where
 | ok (d:DV) (c:Cl)
inductive Rs where
 | ok (l:List (DV×Cl))
inductive Rt where
 | ok (b:Bool)
inductive Sv where
 | no | val (d:DV) | own (d:DV)
 | od (d:DV)
inductive Ou where
 | v (d:DV) (fr:Bool)
inductive Out where
 | nx (δ:List Sv) | rt (d:DV) (fr:Bool)
inductive MS where
 | set (i:Nat) (own:Bool) (e:ME)
 | pop (i:Nat) (e:ME) | app (i:Nat) (e:ME) | ext (i:Nat) (e:ME) | seti (i:Nat) (k e:ME)
 | exp (e:ME) | ret (e:ME)  | iff (c:ME) (a b:List MS) | fo (tg:Tg) (it:ME) (body:List MS) | wh (c:ME) (body:List MS)
  | retd (i:Nat)
 | sep (i:Nat) | dpp (i:Nat) (ks:List ME) (e:ME)
 | unk
 | dfr (i:Nat) (fr:List Nat) (es:List ME)
structure CloD where
 N:List Str
 np:Nat
 nc:Nat
 body:List MS
structure FD where
 n:Nat
 np:Nat
 clo:Option CloD:=none
 body:List MS
noncomputable def Re.thn(r:Ir Re)(k:DV->Cl->Ir Re):Ir Re:=match r with
 | none=>none
 | some (.ok d c)=>k d c
def Rs.thn(r:Ir Rs)(k:on (DV×Cl)->Ir Re):Ir Re:=match r with
 | none=>none
 | some (.ok l)=>k l
noncomputable def Re.thnT(r:Ir Re)(k:DV->Cl->Ir Rt):Ir Rt:=match r with
 | none=>none
 | some (.ok d c)=>k d c
mutual
noncomputable def DV.immut:DV->Bool
 | .non=>true | .bl _=>true | .int _=>true | .str _=>true | .fn _=>true | .scr _=>true
 | .tup ds=>DV.immuts ds
 | .lst _=>false
 | .lam _ _=>false
 | .dct _ vs=>DV.immuts vs
noncomputable def DV.immuts:on DV->Bool
 | []=>true
 | d::r=>d.immut&&DV.immuts r
end
mutual
noncomputable def DV.nolam:DV->Bool
 | .lam _ _=>false
 | .tup ds=>DV.nolams ds
 | .lst ds=>DV.nolams ds
 | .dct _ vs=>DV.nolams vs
 | _=>true
noncomputable def DV.nolams:on DV->Bool
 | []=>true
 | d::r=>d.nolam&&DV.nolams r
end
def stro(d:DV):Cl->Bool
 | .strong=>true | .fresh=>true | _=>d.immut
def stros(l:on (DV×Cl)):Bool:=l.all λ p=>stro p.1 p.2
noncomputable def Cl.item:Cl->Cl
 | .weak=>.weak | _=>.strong
noncomputable def Cl.anew:Cl->Cl->Cl
 | .weak,_=>.weak | _,.weak=>.weak | _,_=>.fresh
noncomputable def Cl.notF:Cl->Cl
 | .fresh=>.strong | c=>c
def m7:Nat:=1000000
mutual
noncomputable def deq:DV->DV->Bool
 | .non,.non=>true
 | .bl a,.bl b=>a==b
 | .bl a,.int j=>(if a then 1 else 0)==j
 | .int i,.bl b=>i==(if b then 1 else 0)
 | .int i,.int j=>i==j
 | .str a,.str b=>decide (a=b)
 | .tup a,.tup b=>deqs a b
 | .lst a,.lst b=>deqs a b
 | _,_=>false
noncomputable def deqs:on DV->on DV->Bool
 | [],[]=>true
 | a::r,b::s=>deq a b&&deqs r s
 | _,_=>false
end
mutual
noncomputable def DV.plain:Nat->DV->Bool
 | _,.non=>true | _,.bl _=>true | _,.int _=>true
 | _,.str x=>x.cps.all (· < 0x110000)
 | 0,_=>false
 | n+1,.tup ds=>DV.plains n ds | n+1,.lst ds=>DV.plains n ds
 | _,_=>false
noncomputable def DV.plains:Nat->on DV->Bool
 | _,[]=>true
 | n,d::r=>d.plain n&&DV.plains n r
end
noncomputable def L6:DV->Ir Bool
 | .non=>some false
 | .bl b=>some b
 | .int i=>some (i != 0)
 | .str x=>some (x.cps.size != 0)
 | .tup ds=>some (!ds.isEmpty)
 | .lst ds=>some (!ds.isEmpty)
 | _=>none
noncomputable def E4(n:Nat)(i:Int):Ir Nat:=if 0<=i then(if i<n then some i.toNat else none)else if -(n:Int)<=i then some (i+n).toNat else none
def atD(ds:on DV)(i:Int):Ir DV:=(E4 ds.length i).bind λ j=>ds[j]?
noncomputable def F6(k:DKey):on DKey->on DV->Ir DV
 | k'::ks,v::vs=>if k'=k then some v else F6 k ks vs
 | _,_=>none
noncomputable def putD(k:DKey)(d:DV)(ks:on DKey)(vs:on DV):on DKey×on DV:=
 if k∈ks then(ks,(ks.zip vs).map λ p=>if p.1=k then d else p.2)else(ks++[k],vs++[d])
def ixD(a b:DV):Ir DV:=match a,b with
 | .scr ns,.int i=>((E4 ns.length i).bind λ j=>ns[j]?).map DV.int
 | .lst ds,.int i=>atD ds i
 | .tup ds,.int i=>atD ds i
 | _,_=>none
noncomputable def slIx(n d:Nat):Ir Int->Nat
 | none=>d
 | some v=>if v<0 then(v+(n:Int)).toNat else min v.toNat n
def cutD(ds:on DV)(lo hi:Ir Int):on DV:=(ds.drop (slIx ds.length 0 lo)).take (slIx ds.length ds.length hi - slIx ds.length 0 lo)
def slD(a:DV)(lo hi:Ir Int):Ir DV:=match a with
 | .scr ns=>some (.lst (cutD (ns.map DV.int) lo hi))
 | .lst ds=>some (.lst (cutD ds lo hi))
 | .tup ds=>if slIx ds.length 0 lo=0/\slIx ds.length ds.length hi=ds.length then none else some (.tup (cutD ds lo hi))
 | _=>none
def slCl(a:DV)(c:Cl):Cl:=match a with
 | .scr _=>.fresh
 | .lst _=>Cl.anew c c
 | _=>c.item
noncomputable def Q1(i j:Int):Bool:=(decide (-(2^64)<i)&&decide (i<2^64))||(decide (-(2^64)<j)&&decide (j<2^64))||(decide (i.natAbs<2^2000)&&decide (j.natAbs<2^2000))
noncomputable def asI:DV->Ir Int
 | .int i=>some i
 | _=>none
noncomputable def asL:DV->Ir (on DV)
 | .lst i=>some i
 | _=>none
noncomputable def asTp:DV->Ir (on DV)
 | .tup i=>some i
 | _=>none
def binD(op:Operator)(a b:DV)(ca cb:Cl):Ir Re:=match op with
 | .Add=>match a with
  | .int i=>(asI b).bind λ j=>some (.ok (.int (i+j)) .strong)
  | .lst x=>(asL b).bind λ y=>if x.length+y.length<=m7 then some (.ok (.lst (x++y)) (Cl.anew ca cb))else none
  | .tup x=>(asTp b).bind λ y=>if x.length+y.length<=m7/\x≠[]then some (.ok (.tup (x++y)) (Cl.anew ca cb).notF)else none
  | _=>none
 | .Sub=>(asI a).bind λ i=>(asI b).bind λ j=>some (.ok (.int (i - j)) .strong)
 | .Mult=>match a with
  | .int i=>(asI b).bind λ j=>if Q1 i j then some (.ok (.int (i*j)) .strong)else none
  | .lst x=>(asI b).bind λ k=>if x.length*k.toNat<=m7 /\ -(2^63)<=k/\k<2^63 then some (.ok (.lst (List.replicate k.toNat x).flatten) (Cl.anew ca ca))else none
  | _=>none
 | .Mod=>(asI a).bind λ i=>(asI b).bind λ j=>if 0<j then some (.ok (.int (i%j)) .strong)else if j≠0 then some (.ok (.int (i.fmod j)) .strong)else none
 | .FloorDiv=>(asI a).bind λ i=>(asI b).bind λ j=>if 0<j/\j<2^200 then some (.ok (.int (i/j)) .strong)else none
 | .LShift=>(asI a).bind λ i=>(asI b).bind λ j=>if 0<=j/\j<=1000000/\i.natAbs<2^64 then some (.ok (.int (i*2^j.toNat)) .strong)else none
 | .RShift=>(asI a).bind λ i=>(asI b).bind λ j=>if 0<=j then some (.ok (.int (i/2^j.toNat)) .strong)else none
 | .BitOr=>(asI a).bind λ i=>(asI b).bind λ j=>some (.ok (.int (Builtin.bitOr i j)) .strong)
 | .BitAnd=>(asI a).bind λ i=>(asI b).bind λ j=>some (.ok (.int (Builtin.bitAnd i j)) .strong)
 | _=>none
def cmpD(op:CmpOp)(a b:DV):Ir Bool:=match op with
 | .Lt=>(asI a).bind λ i=>(asI b).bind λ j=>some (decide (i<j))
 | .LtE=>(asI a).bind λ i=>(asI b).bind λ j=>some (decide (i<=j))
 | .Gt=>(asI a).bind λ i=>(asI b).bind λ j=>some (decide (j<i))
 | .Eq=>if a.plain 60&&b.plain 60 then some (deq a b)else none
 | .NotEq=>if a.plain 60&&b.plain 60 then some (!deq a b)else none
 | .In=>match b with
  | .lst ds=>if a.plain 60&&DV.plains 60 ds then some (ds.any λ d=>deq d a)else none
  | _=>none
 | .NotIn=>match b with
  | .lst ds=>if a.plain 60&&DV.plains 60 ds then some (!ds.any λ d=>deq d a)else none
  | _=>none
 | _=>none
noncomputable def ints?:on DV->Ir (on Int)
 | []=>some []
 | .int i::r=>(ints? r).map (i :: ·)
 | _=>none
noncomputable def minI:Int->on Int->Int
 | m,[]=>m
 | m,x::r=>minI (if x<m then x else m) r
noncomputable def maxI:Int->on Int->Int
 | m,[]=>m
 | m,x::r=>maxI (if m<x then x else m) r
noncomputable def insI(x:Int):on Int->on Int
 | []=>[x]
 | y::r=>if x<y then x::y::r else y::insI x r
def K4:on Int->on Int
 | []=>[]
 | x::r=>insI x (K4 r)
noncomputable def dk(σ:on Int)(k:Int):on Int:=if k∈σ then σ else σ++[k]
noncomputable def bt(i:Int):Int:=if i=0 then 0 else(i.natAbs.log2:Int)+1
noncomputable def lenD:on (DV×Cl)->Ir Re
 | [(.lst ds,_)]=>some (.ok (.int ds.length) .strong)
 | [(.tup ds,_)]=>some (.ok (.int ds.length) .strong)
 | [(.scr ns,_)]=>some (.ok (.int ns.length) .strong)
 | _=>none
def minD:on (DV×Cl)->Ir Re
 | [(.int i,_),(.int j,_)]=>some (.ok (.int (if j<i then j else i)) .strong)
 | [(.lst ds,c)]=>match ints? ds with
  | some (n::r)=>some (.ok (.int (minI n r)) .strong)
  | _=>none
 | [(.tup ds,_)]=>match ints? ds with
  | some (n::r)=>some (.ok (.int (minI n r)) .strong)
  | _=>none
 | _=>none
def maxD:on (DV×Cl)->Ir Re
 | [(.int i,_),(.int j,_)]=>some (.ok (.int (if j>i then j else i)) .strong)
 | [(.lst ds,_)]=>match ints? ds with
  | some (n::r)=>some (.ok (.int (maxI n r)) .strong)
  | _=>none
 | [(.tup ds,_)]=>match ints? ds with
  | some (n::r)=>some (.ok (.int (maxI n r)) .strong)
  | _=>none
 | _=>none
def fT:on (DV×Cl)->Ir Re
 | [(.lst ds,_)]=>match ints? ds with
  | some ns=>if ns.length<4000/\(ns.foldl dk []).length<64 then some (.ok (.lst ((K4 (ns.foldl dk [])).map DV.int)) .fresh)else none
  | none=>none
 | _=>none
def kq:on (DV×Cl)->Ir Re
 | [(.lst ds,_)]=>match ints? ds with
  | some ns=>if ns.length<4000 then some (.ok (.int (ns.foldl dk []).length) .strong)else none
  | none=>none
 | _=>none
def sumD:on (DV×Cl)->Ir Re
 | [(.lst ds,_)]=>(ints? ds).map λ ns=>.ok (.int ns.sum) .strong
 | _=>none
noncomputable def intD:on (DV×Cl)->Ir Re
 | [(.int i,_)]=>some (.ok (.int i) .strong)
 | [(.bl b,_)]=>some (.ok (.int (if b then 1 else 0)) .strong)
 | _=>none
def fU:on (DV×Cl)->Ir Re
 | [(.scr ns,_)]=>some (.ok (.lst (ns.map DV.int)) .fresh)
 | [(.lst ds,c)]=>some (.ok (.lst ds) (Cl.anew c c))
 | [(.tup ds,c)]=>some (.ok (.lst ds) (Cl.anew c c))
 | _=>none
def kr:on (DV×Cl)->Ir Re
 | [(.lst ds,c)]=>some (.ok (.tup ds) c.item)
 | [(.tup ds,c)]=>some (.ok (.tup ds) c)
 | _=>none
noncomputable def kt:on (DV×Cl)->Ir Re
 | [(.int j,_)]=>if decide (-(2^62)<=j)&&decide (j<=m7)then some (.ok (.lst ((List.range j.toNat).map λ (i:Nat)=>DV.int (0+i))) .fresh)else none
 | _=>none
def biD(f:Bi)(l:on (DV×Cl)):Ir Re:=match f with
 | .len=>lenD l
 | .min=>minD l
 | .max=>maxD l
 | .int=>intD l
 | .tuple=>kr l
 | .list=>fU l
 | .lrng=>kt l
 | .lset=>kq l
 | .sset=>fT l
 | .sum=>sumD l
noncomputable def biOk:Bi->Bool
 | .len=>true | .min=>true | .max=>true | .int=>true | .tuple=>true | .list=>true | .lrng=>true | .lset=>true | .sset=>true | .sum=>true
def mtD(m:Mt)(a:DV):Ir Re:=match m,a with
 | .bitLength,.int i=>some (.ok (.int (bt i)) .strong)
 | _,_=>none
structure Gs where
 con:List (Str×DV)
 fnl:List Str:=[]
 bll:List Str:=[]
 cll:List Str:=[]
 clo:Option CloD:=none
noncomputable def tyOf:DV->on Str
 | .non=>["NoneType"]
 | .bl _=>["bool","int"]
 | .int _=>["int"]
 | .str _=>["str"]
 | .tup _=>["tuple"]
 | .lst _=>["list"]
 | .dct _ _=>["dict"]
 | _=>[]
noncomputable def X6:on Str:=["int","bool","str","list","tuple","dict"]
def isiD(G:Gs)(d:DV)(ts:on Str):Ir Bool:=match d with
 | .scr _=>none
 | .fn _=>none
 | .lam _ _=>none
 | d=>match ts with
  | [t]=>if X6.contains t then some ((tyOf d).contains t)else none
  | _=>none
noncomputable def upTo(lo:Int)(n:Nat):on DV:=(List.range n).map λ (i:Nat)=>DV.int (lo+i)
noncomputable def J4(i:Int):Bool:=decide (-(2^62)<=i)&&decide (i<2^62)
def O7(y:DV):on DV->Ir Nat
 | []=>none
 | d::r=>if deq d y then some 0 else(O7 y r).map (· + 1)
noncomputable def seqB:DV->Bool
 | .lst _=>true | .tup _=>true | _=>false
def idxD(x y:DV):Ir DV:=match x with
 | .lst ds=>if y.plain 60&&DV.plains 60 ds&&decide (ds.length<=m7)then(O7 y ds).map λ (j:Nat)=>DV.int (j:Int)else none
 | .tup ds=>if y.plain 60&&DV.plains 60 ds&&decide (ds.length<=m7)then(O7 y ds).map λ (j:Nat)=>DV.int (j:Int)else none
 | _=>none
def rngD(l:on (DV×Cl)):Ir (on DV):=match l with
 | [(.int j,_)]=>if J4 j&&decide (j<=m7)then some (upTo 0 j.toNat)else none
 | [(.int i,_),(.int j,_)]=>if J4 i&&J4 j&&decide (j - i<=m7)then some (upTo i (j - i).toNat)else none
 | _=>none
noncomputable def enuD:Nat->on DV->on DV
 | _,[]=>[]
 | k,d::r=>.tup [.int k,d]::enuD (k+1) r
def Cl.meet:Cl->Cl->Cl
 | .weak,_=>.weak | _,.weak=>.weak | .top,_=>.top | _,.top=>.top | _,_=>.strong
noncomputable def ak:DV->Ir (Bool×on DV)
 | .lst ds=>some (false,ds)
 | .tup ds=>some (true,ds)
 | _=>none
def fV(x:DV)(c:Cl):Ir Re:=match ak x with
 | some (_,xs)=>some (.ok (.lst (enuD 0 xs)) (Cl.meet c c))
 | _=>none
noncomputable def kvp?:on DKey->on DV->Ir (on ((Int×Int)×Int))
 | [],[]=>some []
 | .t [.inl a,.inl b]::ks,.int v::vs=>(kvp? ks vs).map (((a,b),v) :: ·)
 | _,_=>none
def itmD(x:DV)(c:Cl):Ir Re:=match x with
 | .dct ks vs=>if c=.strong/\ks.isEmpty=false then(kvp? ks vs).map (λ l=>.ok (.lst (l.map λ p=>.tup [.tup [.int p.1.1,.int p.1.2],.int p.2])) .strong)else none
 | _=>none
def dixD(x y:DV):Ir Re:=match x,y with
 | .dct ks vs,.int k=>(match F6 (.i k) ks vs with
  | some (.int v)=>some (.ok (.int v) .strong)
  | _=>none)
 | .dct ks vs,.tup [.int a,.int b]=>(match F6 (.t [.inl a,.inl b]) ks vs with
  | some (.int v)=>some (.ok (.int v) .strong)
  | _=>none)
 | _,_=>none
noncomputable def asDc:DV->Ir (on DKey×on DV)
 | .dct ks vs=>some (ks,vs)
 | _=>none
def dixC(x:DV)(c:Cl)(y:DV):Ir Re:=match y with
 | .str k=>if c=.strong then(asDc x).bind λ p=>(F6 (.s k) p.1 p.2).map λ d=>.ok d .strong else none
 | y=>dixD x y
def dgpD(ks:on DKey)(vs:on DV)(y:DV):Ir Re:=match y with
 | .tup [.int a,.int b]=>(match F6 (.t [.inl a,.inl b]) ks vs with
  | some (.int v)=>some (.ok (.int v) .strong)
  | _=>none)
 | _=>none
def dppD(i:Nat)(δ:on Sv)(ks:on DKey)(vs:on DV)(l:on (DV×Cl))(d:DV):Ir (on Sv):=match l,d with
 | [(.int a,_),(.int b,_)],.int z=>if ks.length<m7 then some (δ.set i (.od (.tup [.dct (putD (.t [.inl a,.inl b]) (.int z) ks vs).1 (putD (.t [.inl a,.inl b]) (.int z) ks vs).2])))else none
 | _,_=>none
noncomputable def unT:DV->DV
 | .tup [d]=>d
 | d=>d
noncomputable def isDc:DV->Bool
 | .dct _ _=>true
 | .tup [_]=>true
 | _=>false
noncomputable def seqD:DV->Ir (on DV)
 | .scr ns=>some (ns.map DV.int)
 | .lst ds=>some ds
 | .tup ds=>some ds
 | _=>none
noncomputable def bu(δ:on Sv):on Nat->on DV->Ir (on Sv)
 | [],[]=>some δ
 | i::is,d::ds=>bu (δ.set i (.val d)) is ds
 | _,_=>none
def Tg.bind(tg:Tg)(d:DV)(δ:on Sv):Ir (on Sv):=match tg with
 | .one i=>some (δ.set i (.val d))
 | .many is=>match d with
  | .tup ds=>bu δ is ds
  | _=>none
noncomputable def x9(fr:on (Ir Nat))(δ:on Sv):on Sv:=fr.map λ o=>match o with
 | some i=>δ.getD i .no
 | none=>.no
inductive Rc where
 | skip | item (d:DV)
def A3(g:DV->Ir Rc):on DV->Ir (on DV)
 | []=>some []
 | d::r=>match g d with
  | none=>none
  | some .skip=>A3 g r
  | some (.item x)=>match A3 g r with
   | none=>none
   | some xs=>some (x::xs)
noncomputable def X7(r:Ir (on DV)):Ir Re:=match r with
 | none=>none
 | some xs=>some (.ok (.lst xs) .fresh)
noncomputable def fW(r:Ir (on DV)):Ir Re:=match r with
 | none=>none
 | some xs=>some (.ok (.lst xs) .weak)
def Rc.of(r:Ir Re):Ir Rc:=match r with
 | some (.ok d c)=>if stro d c then some (.item d)else none
 | _=>none
noncomputable def Rc.test(t:Ir Rt)(r:Ir Rc):Ir Rc:=match t with
 | some (.ok true)=>r
 | some (.ok false)=>some .skip
 | _=>none
inductive Ri where
 | ok (ds:List DV) (c:Cl)
def Ri.thn(r:Ir Ri)(k:on DV->Cl->Ir Re):Ir Re:=match r with
 | none=>none
 | some (.ok ds c)=>k ds c
noncomputable def Re.thnI(r:Ir Re)(k:DV->Cl->Ir Ri):Ir Ri:=match r with
 | none=>none
 | some (.ok d c)=>k d c
def zE(d:DV)(c:Cl):Ir Ri:=(seqD d).map λ ds=>.ok ds c
def imL:DV->Bool
 | .lst ds=>DV.immuts ds
 | _=>false
def O8(F:Nat->on DV->Ir Ou)(f:Nat)(l:on (DV×Cl)):Ir Re:=match F f (l.map (·.1))with
 | none=>none
 | some (.v d fr)=>some (.ok d (if l.all λ p=>p.2 == .strong||p.2 == .fresh then(if fr then .fresh else .strong)else if fr&&imL d then .fresh else .weak))
def A8:Nat:=1001
def capD(δ:on Sv):on Nat->Ir (on DV)
 | []=>some []
 | i::r=>match δ[i]?,capD δ r with
  | some (.val d),some ds=>if d.nolam then some (d::ds)else none
  | _,_=>none
noncomputable def sS:DV->Ir Str | .str i=>some i | _=>none
noncomputable def tT:DV->Ir (on DV) | .tup l=>some l | _=>none
noncomputable def fX(F:Nat->on DV->Ir Ou)(m:LamD)(cs:on DV)(l:on (DV×Cl)):Ir Re:=if(l.all λ p=>p.2 == .strong||p.2 == .fresh)=true then(match F A8 (.lam m cs::l.map (·.1))with
 | some (.v d false)=>some (.ok d .strong)
 | _=>none)else none
noncomputable def R8(F:Nat->on DV->Ir Ou)(m:DV):on DV->Ir (on Int)
 | []=>some []
 | d::r=>match F A8 [m,d]with
  | some (.v (.int k) false)=>(R8 F m r).map (k :: ·)
  | _=>none
noncomputable def O9(ks:on Int):Ir Nat:=(List.range ks.length).find? λ i=>(List.range ks.length).all λ j=>decide (ks.getD i 0<=ks.getD j 0)&&(decide (i<=j)||decide (ks.getD i 0<ks.getD j 0))
def mnkL(F:Nat->on DV->Ir Ou)(m:DV)(x:DV)(c:Cl):Ir Re:=match x with
 | .lst ds=>if(c == .strong||c == .fresh||c == .top)=true then(R8 F m ds).bind λ ks=>(O9 ks).bind λ i=>ds[i]?.map λ d=>.ok d .strong else none
 | _=>none
def fY(G:Gs)(F:Nat->on DV->Ir Ou)(ra:Ir Re)(N:on Str)(np:Nat)(lb:ME)(o:Ir (on DV)):Ir Re:=match o with
  | some cs=>if G.fnl.isEmpty then none else Re.thn (ra) λ x cx=>mnkL F (.lam ⟨N,np,lb,G.fnl,G.bll,G.cll⟩ cs) x cx
  | none=>none
def C2:Nat:=1003
def o8:Str:="plan_of"
def Q2(F:Nat->on DV->Ir Ou)(np:Nat)(cs:on DV)(l:on (DV×Cl)):Ir Re:=if(l.all λ p=>p.2 == .strong||p.2 == .fresh)=true/\l.length=np then(match F C2 (l.map (·.1)++cs)with
 | some (.v d false)=>if d.nolam then some (.ok d .strong)else none
 | _=>none)else none
def db(G:Gs)(F:Nat->on DV->Ir Ou)(np nc:Nat)(rs:Ir Rs)(o:Ir (on DV)):Ir Re:=match G.clo with
  | some C=>if C.np=np/\C.nc=nc then o.bind λ cs=>Rs.thn rs λ l=>Q2 F np cs l else none
  | none=>none
def dc2D(x y:Str)(a b:DV)(ca cb:Cl):Ir Re:=if stro a ca=true/\stro b cb=true/\x≠y then some (.ok (.dct [.s x,.s y] [a,b]) .strong)else none
def andD(x:DV)(c:Cl)(r:Ir Re):Ir Re:=match L6 x with
 | none=>none
 | some true=>r
 | some false=>some (.ok x c)
def orD(x:DV)(c:Cl)(r:Ir Re):Ir Re:=match L6 x with
 | none=>none
 | some true=>some (.ok x c)
 | some false=>r
def tstD(r:Ir Re):Ir Rt:=Re.thnT r λ x _=>(L6 x).map Rt.ok
def s9(r:Ir Re):Ir Ri:=Re.thnI r λ x c=>zE x c
def varE(o:Ir Sv):Ir Re:=match o with
  | some (.val d)=>some (.ok d .strong)
  | some (.own d)=>some (.ok d .top)
  | _=>none
def fZ(G:Gs)(F:Nat->on DV->Ir Ou)(xs:on (Str×Nat))(rs:Ir Rs)(o:Ir Sv):Ir Re:=match o with
  | some (.val (.fn x))=>(match xs.lookup x with
   | some f=>Rs.thn (rs) λ l=>O8 F f l
   | none=>none)
  | some (.val (.lam m cs))=>if m.fn=G.fnl/\m.bl=G.bll/\m.cl=G.cll/\G.fnl.isEmpty=false then Rs.thn (rs) λ l=>fX F m cs l else none
  | _=>none
mutual
def evE(G:Gs)(F:Nat->on DV->Ir Ou):ME->on Sv->Ir Re
 | .var i,δ=>varE δ[i]?
 | .int i,_=>some (.ok (.int i) .strong)
 | .bl i,_=>some (.ok (.bl i) .strong)
 | .str i,_=>some (.ok (.str i) .strong)
 | .non,_=>some (.ok .non .strong)
 | .glb x,_=>(G.con.lookup x).map λ d=>.ok d .strong
 | .bin op a b,δ=>Re.thn (evE G F a δ) λ x cx=>Re.thn (evE G F b δ) λ y cy=>binD op x y cx cy
 | .neg a,δ=>Re.thn (evE G F a δ) λ x _=>match x with | .int i=>some (.ok (.int (-i)) .strong) | _=>none
 | .not a,δ=>Re.thn (evE G F a δ) λ x _=>(L6 x).map λ k=>.ok (.bl (!k)) .strong
 | .cmp op a b,δ=>Re.thn (evE G F a δ) λ x _=>Re.thn (evE G F b δ) λ y _=>(cmpD op x y).map λ k=>.ok (.bl k) .strong
 | .chain op op' a b c,δ=>Re.thn (evE G F a δ) λ x _=>Re.thn (evE G F b δ) λ y _=>match cmpD op x y with
  | none=>none
  | some false=>some (.ok (.bl false) .strong)
  | some true=>Re.thn (evE G F c δ) λ z _=>(cmpD op' y z).map λ k=>.ok (.bl k) .strong
 | .and es,δ=>N1 G F es δ
 | .or es,δ=>evOr G F es δ
 | .lst es,δ=>Rs.thn (evEs G F es δ) λ l=>if l.length<=m7 then some (.ok (.lst (l.map (·.1))) (if stros l then .fresh else .weak))else none
 | .tup es,δ=>Rs.thn (evEs G F es δ) λ l=>if l.length<=m7 then some (.ok (.tup (l.map (·.1))) (if stros l then .strong else .weak))else none
 | .ix a b,δ=>Re.thn (evE G F a δ) λ x cx=>Re.thn (evE G F b δ) λ y _=>(ixD x y).map λ d=>.ok d cx.item
 | .sl a lo hi,δ=>Re.thn (evE G F a δ) λ x cx=>Re.thn (evE G F lo δ) λ l _=>match l with
  | .int l=>Re.thn (evE G F hi δ) λ h _=>(match h with
   | .int h=>(slD x (some l) (some h)).map λ d=>.ok d (slCl x cx)
   | _=>none)
  | _=>none
 | .slf a lo,δ=>Re.thn (evE G F a δ) λ x cx=>Re.thn (evE G F lo δ) λ l _=>match l with
  | .int l=>(slD x (some l) none).map λ d=>.ok d (slCl x cx)
  | _=>none
 | .slt a hi,δ=>Re.thn (evE G F a δ) λ x cx=>Re.thn (evE G F hi δ) λ h _=>match h with
  | .int h=>(slD x none (some h)).map λ d=>.ok d (slCl x cx)
  | _=>none
 | .call f es,δ=>Rs.thn (evEs G F es δ) λ l=>O8 F f l
 | .bi f es,δ=>if biOk f then Rs.thn (evEs G F es δ) λ l=>biD f l else none
 | .isi a ts,δ=>Re.thn (evE G F a δ) λ x _=>(isiD G x ts).map λ k=>.ok (.bl k) .strong
 | .meth m a _,δ=>if m=.bitLength then Re.thn (evE G F a δ) λ x _=>mtD m x else none
 | .comp elt tg it fr,δ=>Ri.thn (s9 (evE G F it δ)) λ ds c=>if c=.weak\/m7<ds.length then(if c=.weak/\ds.length<=m7 then fW (A3 (λ d=>(tg.bind d (x9 fr [])).bind λ δ'=>Rc.of (evE G F elt δ')) ds)else none)else X7 (A3 (λ d=>(tg.bind d (x9 fr δ)).bind λ δ'=>Rc.of (evE G F elt δ')) ds)
 | .compi elt tg it cd fr,δ=>Ri.thn (s9 (evE G F it δ)) λ ds c=>if c=.weak\/m7<ds.length then none else X7 (A3 (λ d=>(tg.bind d (x9 fr δ)).bind λ δ'=>Rc.test (tstD (evE G F cd δ')) (Rc.of (evE G F elt δ'))) ds)
 | .idx a b,δ=>Re.thn (evE G F a δ) λ x _=>if seqB x then Re.thn (evE G F b δ) λ y _=>(idxD x y).map λ d=>.ok d .strong else none
 | .rng es,δ=>Rs.thn (evEs G F es δ) λ l=>(rngD l).map λ ds=>.ok (.lst ds) .fresh
 | .enu a,δ=>Re.thn (evE G F a δ) λ x c=>fV x c
 | .itm a,δ=>Re.thn (evE G F a δ) λ x c=>itmD x c
 | .dix a k,δ=>Re.thn (evE G F a δ) λ x c=>Re.thn (evE G F k δ) λ y _=>dixC x c y
 | .dgp i k,δ=>match δ[i]? with
  | some (.od (.tup [.dct ks vs]))=>Re.thn (evE G F k δ) λ y _=>dgpD ks vs y
  | _=>none
 | .callv i xs es,δ=>fZ G F xs (evEs G F es δ) δ[i]?
 | .mink a N np lb fr,δ=>fY G F (evE G F a δ) N np lb (capD δ fr)
 | .self np nc es,δ=>db G F np nc (evEs G F es δ) (capD δ (List.range' np nc))
 | .dc2 x y a b,δ=>Re.thn (evE G F a δ) λ d c=>Re.thn (evE G F b δ) λ d' c'=>dc2D x y d d' c c'
def evEs(G:Gs)(F:Nat->on DV->Ir Ou):on ME->on Sv->Ir Rs
 | [],_=>some (.ok [])
 | e::es,δ=>match evE G F e δ with
  | none=>none
  | some (.ok d c)=>match evEs G F es δ with
   | none=>none
   | some (.ok l)=>some (.ok ((d,c)::l))
def N1(G:Gs)(F:Nat->on DV->Ir Ou):on ME->on Sv->Ir Re
 | [],_=>none
 | e::es,δ=>if es.isEmpty then evE G F e δ else Re.thn (evE G F e δ) λ x c=>andD x c (N1 G F es δ)
def evOr(G:Gs)(F:Nat->on DV->Ir Ou):on ME->on Sv->Ir Re
 | [],_=>none
 | e::es,δ=>if es.isEmpty then evE G F e δ else Re.thn (evE G F e δ) λ x c=>orD x c (evOr G F es δ)
end
def gb:Nat:=1000
noncomputable def Re.thnS(δ:on Sv)(r:Ir Re)(k:DV->Cl->Ir Out):Ir Out:=match r with
 | none=>none
 | some (.ok d c)=>k d c
def Rs.thnS(δ:on Sv)(r:Ir Rs)(k:on (DV×Cl)->Ir Out):Ir Out:=match r with
 | none=>none
 | some (.ok l)=>k l
def Rt.thnS(δ:on Sv)(r:Ir Rt)(k:Bool->Ir Out):Ir Out:=match r with
 | none=>none
 | some (.ok b)=>k b
def Ri.thnS(δ:on Sv)(r:Ir Ri)(k:on DV->Cl->Ir Out):Ir Out:=match r with
 | none=>none
 | some (.ok ds c)=>k ds c
def B4(tg:Tg)(body:on Sv->Ir Out):on DV->on Sv->Ir Out
 | [],δ=>some (.nx δ)
 | d::r,δ=>match tg.bind d δ with
  | none=>none
  | some δ1=>match body δ1 with
   | some (.nx δ2)=>B4 tg body r δ2
   | o=>o
def N2(test:on Sv->Ir Rt)(body:on Sv->Ir Out):Nat->on Sv->Ir Out
 | 0,_=>none
 | n+1,δ=>match test δ with
  | none=>none
  | some (.ok false)=>some (.nx δ)
  | some (.ok true)=>match body δ with
   | some (.nx δ2)=>N2 test body n δ2
   | o=>o
def frD:DV->Cl->Bool
 | .lst _,.fresh=>true | .lst _,.top=>true
 | _,_=>false
noncomputable def noOt(i:Nat)(δ:on Sv):Bool:=(List.range δ.length).all λ j=>j==i||(match δ[j]? with | some (.od _)=>false | _=>true)
noncomputable def de(i:Nat)(δ:on Sv)(d:DV)(c:Cl):Ir Out:=match c with
 | .fresh=>some (.nx (δ.set i (.own d)))
 | _=>match d with
  | .non=>some (.nx (δ.set i (.val .non)))
  | _=>none
def retD(d:DV)(c:Cl):Out:=.rt d (frD d c)
def popS(δ:on Sv)(i:Nat)(re:Ir Re)(o:Ir Sv):Ir Out:=match o with
  | some (.own (.lst ds))=>Re.thnS δ re λ k _=>(asI k).bind λ k=>if 0<=k/\k<ds.length/\k<m7 then some (.nx (δ.set i (.own (.lst (ds.eraseIdx k.toNat)))))else none
  | _=>none
def appS(δ:on Sv)(i:Nat)(re:Ir Re)(o:Ir Sv):Ir Out:=match o with
  | some (.own (.lst ds))=>Re.thnS δ (re) λ d c=>if stro d c/\ds.length<m7 then some (.nx (δ.set i (.own (.lst (ds++[d])))))else none
  | _=>none
def pO(δ:on Sv)(i:Nat)(rk re:Ir Re)(o:Ir Sv):Ir Out:=match o with
  | some (.own (.lst ds))=>Re.thnS δ (re) λ d c=>Re.thnS δ (rk) λ k _=>(match k with
   | .int k=>(match E4 ds.length k with
    | some j=>if stro d c then some (.nx (δ.set i (.own (.lst (ds.set j d)))))else none
    | none=>none)
   | _=>none)
  | _=>none
noncomputable def noB:Ir Sv->Bool
 | some .no=>true
 | _=>false
def dfrS(G:Gs)(F:Nat->on DV->Ir Ou)(fr:on Nat)(rs:Ir Rs)(o:Ir (on DV))(oi:Ir Sv):Ir Out:=match G.clo with
  | some C=>if C.nc=fr.length/\noB oi=true/\G.fnl.isEmpty=false then o.bind λ cs=>(Rs.thn rs λ l=>Q2 F C.np cs l).bind λ r=>(match r with
   | .ok d _=>some (.rt d false))else none
  | none=>none
mutual
def evS(G:Gs)(F:Nat->on DV->Ir Ou)(fu:Nat):MS->on Sv->Ir Out
 | .set i own e,δ=>Re.thnS δ (evE G F e δ) λ d c=>if own then de i δ d c else(if stro d c then some (.nx (δ.set i (.val d)))else none)
 | .pop i e,δ=>popS δ i (evE G F e δ) δ[i]?
 | .app i e,δ=>appS δ i (evE G F e δ) δ[i]?
 | .ext i e,δ=>match δ[i]? with
  | some (.own (.lst ds))=>Re.thnS δ (evE G F e δ) λ d c=>if c=.strong\/c=.fresh then(match ak d with
   | some (_,ys)=>if ds.length+ys.length<=m7 then some (.nx (δ.set i (.own (.lst (ds++ys)))))else none
   | none=>none)else none
  | _=>none
 | .seti i k e,δ=>pO δ i (evE G F k δ) (evE G F e δ) δ[i]?
 | .exp e,δ=>Re.thnS δ (evE G F e δ) λ _ _=>some (.nx δ)
 | .ret e,δ=>Re.thnS δ (evE G F e δ) λ d c=>some (retD d c)
 | .iff c a b,δ=>Rt.thnS δ (tstD (evE G F c δ)) λ k=>if k then evSs G F fu a δ else evSs G F fu b δ
 | .fo tg it body,δ=>Ri.thnS δ (s9 (evE G F it δ)) λ ds c=>if c=.strong\/c=.fresh then B4 tg (λ δ'=>evSs G F fu body δ') ds δ else none
 | .wh c body,δ=>N2 (λ δ'=>tstD (evE G F c δ')) (λ δ'=>evSs G F fu body δ') fu δ
 | .retd i,δ=>match δ[i]? with
  | some (.od d)=>if isDc d then some (.rt (unT d) false)else none
  | _=>none
 | .sep i,δ=>if noOt i δ then some (.nx (δ.set i (.od (.tup [.dct [] []]))))else none
 | .dpp i ks e,δ=>match δ[i]? with
  | some (.od (.tup [.dct kk vs]))=>Re.thnS δ (evE G F e δ) λ d _=>Rs.thnS δ (evEs G F ks δ) λ l=>(dppD i δ kk vs l d).map Out.nx
  | _=>none
 | .unk,_=>none
 | .dfr i fr es,δ=>dfrS G F fr (evEs G F es δ) (capD δ fr) δ[i]?
def evSs(G:Gs)(F:Nat->on DV->Ir Ou)(fu:Nat):on MS->on Sv->Ir Out
 | [],δ=>some (.nx δ)
 | s::r,δ=>match evS G F fu s δ with
  | some (.nx δ')=>evSs G F fu r δ'
  | o=>o
end
noncomputable def o9(n:Nat)(ds:on DV):on Sv:=ds.map Sv.val++List.replicate (n - ds.length) .no
def Ou.of(o:Ir Out):Ir Ou:=match o with
 | some (.nx _)=>some (.v .non false)
 | some (.rt d fr)=>some (.v d fr)
 | none=>none
def cloR(G:Gs)(ev:on MS->on Sv->Ir Out)(ds:on DV):Ir Ou:=G.clo.bind λ C=>if ds.length=C.np+C.nc/\DV.nolams ds=true then(match ev C.body (o9 C.N.length ds)with
  | some (.rt d false)=>if d.nolam then some (.v d false)else none
  | _=>none)else none
def lamR(ev:ME->on Sv->Ir Re)(ds:on DV):Ir Ou:=match ds with
 | .lam m cs::args=>if args.length=m.np/\args.length+cs.length=m.N.length/\DV.nolams args=true/\DV.nolams cs=true then(match ev m.body ((args++cs).map Sv.val)with
  | some (.ok d .strong)=>if d.nolam then some (.v d false)else none
  | _=>none)else none
 | _=>none
def run(G:Gs)(T:on FD)(fu:Nat):Nat->Nat->on DV->Ir Ou
 | 0,_,_=>none
 | k+1,f,ds=>match T[f]? with
  | none=>if f=A8 then lamR (evE G (IY k)) ds else if f=C2 then cloR G (evSs G (IY k) fu) ds else none
  | some fd=>if ds.length=fd.np then Ou.of (evSs G (IY k) fu fd.body (o9 fd.n ds))else none
theorem C8:Re.thn (some (.ok d c)) k=k d c:=rfl
theorem dg:Rs.thn (some (.ok l)) k=k l:=rfl
theorem dh:Ri.thn (some (.ok ds c)) k=k ds c:=rfl
theorem pP:Re.thnS δ (some (.ok d c)) k=k d c:=rfl
theorem zF{G:Gs}{F:Nat->on DV->Ir Ou}{fu:Nat}{δ:on Sv}{m:MS}{r:on MS}{δ':on Sv}(h:evS G F fu m δ=some (.nx δ')):evSs G F fu (m::r) δ=evSs G F fu r δ':=by
 rw[show evSs G F fu (m::r) δ=(match evS G F fu m δ with | some (.nx δ')=>evSs G F fu r δ' | o=>o)from rfl,h]
theorem zG(h:evS G F fu m δ=some (.rt d fr)):evSs G F fu (m::r) δ=some (.rt d fr):=by
 rw[show evSs G F fu _ δ=(match evS G F fu m δ with | some (.nx δ')=>evSs G F fu r δ' | o=>o)from rfl,h]
theorem p7(h:T[f]? = some fd)(a:ds.length=fd.np):run G T fu (k+1) f ds=Ou.of (evSs G (IY k) fu fd.body (o9 fd.n ds)):=by
 show(match T[f]? with | none=>if f=A8 then lamR _ ds else if f=C2 then cloR G _ ds else none | some fd=>if ds.length=fd.np then Ou.of (evSs G _ fu fd.body _)else none)=_;rw[h];exact f8 a
end L2
namespace L2
open PySem
theorem gc{I:on Sv->Prop}:∀{ds:on DV} {δ:on Sv},(∀d∈ds,∀δ,I δ->∃b a,tg.bind d δ=some b/\body b=some (.nx a)/\I a)->I δ->∃c,B4 tg body ds δ=some (.nx c)/\I c
 | [],δ,_,i=>⟨δ,rfl,i⟩
 | d::r,δ,h,i=>by obtain⟨b,a,l,k,f⟩:=h d (o5 ..) δ i;obtain⟨c,j,e⟩:=gc (λ d g=>h d (o4 _ g)) f;refine⟨c,?_,e⟩;show(match tg.bind d δ with | none=>none | some b=>(match body b with | some (.nx a)=>B4 tg body r a | o=>o))=_;rw[l];show(match body b with | some (.nx a)=>B4 tg body r a | o=>o)=_;rw[k];exact j
theorem pQ:∀{a:on DV},(∀d∈a,g d=some (if p d then .item d else .skip))->A3 g a=some (a.filter p)
 | [],_=>rfl
 | d::r,h=>by
  have b:=pQ (λ d e=>h d (o4 _ e));unfold A3;rw[(h d (o5 ..))];cases c:p d with
  | false=>rw[eJ (by grind)];exact b
  | true=>
   rw[bX c];show(match A3 g r with | none=>none | some xs=>some _)=_;rw[b]
theorem ky:∀{a:on DV},(∀d∈a,g d=some (.item (f d)))->A3 g a=some (a.map f)
 | [],_=>rfl
 | d::r,h=>by unfold A3;rw[(h d (o5 ..))];show(match A3 g r with | none=>none | some xs=>some _)=_;rw[(ky (λ d b=>h d (o4 _ b)))];rfl
theorem pR(h:d∈upTo a n):∃j:Nat,j<n/\d=.int (a+j):=by
 unfold upTo at h;rw[i8]at h;obtain⟨j,b,rfl⟩:=h;exact⟨j,r9.mp b,rfl⟩
end L2
namespace L2
open PySem
theorem p9(h:evSs G F fu r δ=some (.rt d fr)):Ou.of (evSs G F fu r δ)=some (.v d fr):=by rw[h];rfl
theorem pS{G:Gs}{F:Nat->on DV->Ir Ou}{fu:Nat}{δ δ':on Sv}{r:on MS}(h:evSs G F fu r δ=some (.nx δ')):Ou.of (evSs G F fu r δ)=some (.v .non false):=by rw[h];rfl
theorem i6(h:evS G F fu m δ=some (.nx δ'))(a:evSs G F fu r δ'=o):evSs G F fu (m::r) δ=o:=(zF h).trans a
theorem o6(h:evS G F fu m δ=some (.rt d fr)):evSs G F fu (m::r) δ=some (.rt d fr):=zG h
theorem gf(d:tstD (evE G F c δ)=some (.ok bb)):evS G F fu (.iff c a b) δ=if bb then evSs G F fu a δ else evSs G F fu b δ:=by
 show Rt.thnS δ _ _=_;rw[d];rfl
theorem Q3(d:tstD (evE G F c δ)=some (.ok true))(h:evSs G F fu a δ=some (.nx δ'))(e:evSs G F fu r δ'=o):evSs G F fu (.iff c a b::r) δ=o:=i6 ((gf d).trans h) e
theorem gh(d:tstD (evE G F c δ)=some (.ok false))(h:evSs G F fu b δ=some (.nx δ'))(e:evSs G F fu r δ'=o):evSs G F fu (.iff c a b::r) δ=o:=i6 ((gf d).trans h) e
theorem U8(e:tstD (evE G F c δ)=some (.ok true))(h:evSs G F fu a δ=some (.rt d fr)):evSs G F fu (.iff c a b::r) δ=some (.rt d fr):=o6 ((gf e).trans h)
theorem x8(b:tstD (evE G F c δ)=some (.ok false))(d:evSs G F fu r δ=o):evSs G F fu (.iff c a []::r) δ=o:=gh b rfl d
theorem J5(b:s9 (evE G F it δ)=some (.ok ds cl))(c:cl=.strong\/cl=.fresh)(h:B4 tg (λ δ'=>evSs G F fu body δ') ds δ=some (.nx δ'))(d:evSs G F fu r δ'=o):evSs G F fu (.fo tg it body::r) δ=o:=by
 refine i6 ?_ d;show Ri.thnS δ _ _=_;rw[b];show(if cl=.strong\/cl=.fresh then B4 tg _ ds δ else none)=_
 rwa [f8 c]
theorem n9(h:evE G F e δ=some (.ok d cl))(hs:stro d cl=true):evS G F fu (.set i false e) δ=some (.nx (δ.set i (.val d))):=by
 show Re.thnS δ _ _=_;rw[h];show(if stro d cl then some _ else none)=_;rw[f8 hs]
theorem al(h:evE G F e δ=some (.ok d .fresh)):evS G F fu (.set i true e) δ=some (.nx (δ.set i (.own d))):=by
 show Re.thnS δ _ _=_;rw[h];rfl
theorem r6(h:evE G F e δ=some (.ok d cl)):evS G F fu (.ret e) δ=some (.rt d (frD d cl)):=by
 show Re.thnS δ _ _=_;rw[h];rfl
theorem kz(h:evE G F e δ=some (.ok d cl)):evS G F fu (.exp e) δ=some (.nx δ):=by
 show Re.thnS δ _ _=_;rw[h];rfl
theorem i5(a:evEs G F es δ=some (.ok l))(hs:(l.all λ p=>p.2 == .strong||p.2 == .fresh)=true)(h:F f (l.map (·.1))=some (.v d fr)):evE G F (.call f es) δ=some (.ok d (if fr then .fresh else .strong)):=by
 show Rs.thn _ _=_;rw[a];show O8 F f l=_;unfold O8;rw[h,hs];rfl
theorem o7(h:IM e cl (.bl x)):tstD (evE G F e δ)=some (.ok x):=by rw[h];rfl
theorem di(h:IM e cl (.bl x)):evE G F (.not e) δ=some (.ok (.bl (!x)) .strong):=by
 show Re.thn _ _=_;rw[h];rfl
end L2
namespace L2
open PySem
theorem J6(d:evE G F a δ=some (.ok x cx))(c:evE G F b δ=some (.ok y cy))(h:binD op x y cx cy=r):evE G F (.bin op a b) δ=r:=by
 show Re.thn _ _=_;rw[d,C8,c,C8,h]
theorem H9(d:evE G F a δ=some (.ok x cx))(c:evE G F b δ=some (.ok y cy))(h:cmpD op x y=some t):evE G F (.cmp op a b) δ=some (.ok (.bl t) .strong):=by
 show Re.thn _ _=_;rw[d,C8,c,C8,h];rfl
theorem q9(e:evE G F a δ=some (.ok x cx))(c:evE G F b δ=some (.ok y cy))(h:ixD x y=some d):evE G F (.ix a b) δ=some (.ok d cx.item):=by
 show Re.thn _ _=_;rw[e,C8,c,C8,h];rfl
theorem pT{G:Gs}{F:Nat->on DV->Ir Ou}{δ:on Sv}{a b:ME}{cx:Cl}{t:Bool}(ha:IM a cx (.bl false)):evE G F (.and [a,b]) δ=some (.ok (.bl false) cx):=by
 show Re.thn (evE G F a δ) (λ x c=>andD x c (evE G F b δ))=_;rw[ha];rfl
theorem pU(d:IM a cx (.bl true))(c:evE G F b δ=o):evE G F (.and [a,b]) δ=o:=by
 show Re.thn _ _=_;rw[d];exact c
theorem dm(d:IM a cx (.bl false))(c:evE G F b δ=o):evE G F (.or [a,b]) δ=o:=by
 show Re.thn _ _=_;rw[d];exact c
theorem kC(c:IM a cx (.bl true)):evE G F (.or [a,b]) δ=some (.ok (.bl true) cx):=by
 show Re.thn _ _=_;rw[c];rfl
theorem j9:evEs G F [] δ=some (.ok []):=rfl
theorem f7(b:evE G F a δ=some (.ok x cx))(h:evEs G F es δ=some (.ok l)):evEs G F (a::es) δ=some (.ok ((x,cx)::l)):=by
 unfold evEs;rw[b,h]
end L2
namespace L2
open PySem
theorem pV(c:δ[i]? = some (.own (.lst ds)))(h:evE G F e δ=some (.ok d cl))(a:stro d cl=true)(b:ds.length<m7):evS G F fu (.app i e) δ=some (.nx (δ.set i (.own (.lst (ds++[d]))))):=by
 show appS δ i _ δ[i]? = _;rw[c];show Re.thnS δ _ _=_;rw[h];exact f8 ⟨a,b⟩
theorem pW(f:δ[i]? = some (.own (.lst ds)))(h:evE G F e δ=some (.ok d cl))(b:IM k cx (.int n))(a:stro d cl=true)(c:E4 ds.length n=some j):evS G F fu (.seti i k e) δ=some (.nx (δ.set i (.own (.lst (ds.set j d))))):=by
 show pO δ i _ _ δ[i]? = _;rw[f];show Re.thnS δ _ _=_;rw[h,pP,b,pP];show(match E4 ds.length n with | some j=>if stro d cl then some (Out.nx _)else none | none=>none)=_;rw[c];exact f8 a
theorem zH(h:test δ=some (.ok false)):N2 test body (n+1) δ=some (.nx δ):=by
 unfold N2;rw[h]
theorem zI(h:test δ=some (.ok true))(a:body δ=some (.nx δ'))(hr:N2 test body n δ'=o):N2 test body (n+1) δ=o:=by
 unfold N2
 rwa [h,a]
theorem zJ(h:N2 (λ δ'=>tstD (evE G F c δ')) (λ δ'=>evSs G F fu body δ') fu δ=some (.nx δ'))(b:evSs G F fu r δ'=o):evSs G F fu (.wh c body::r) δ=o:=i6 h b
end L2
namespace L2
open PySem
theorem U9{I:Nat->on Sv->Prop}:∀(n:Nat) (c:Int) {δ:on Sv},(∀j<n,∀δ,I j δ->∃b,body (δ.set i (IU (c+j)))=some (.nx b)/\I (j+1) b)->I 0 δ->∃d,B4 (.one i) body (upTo c n) δ=some (.nx d)/\I n d
 | 0,_,δ,_,g=>⟨δ,rfl,g⟩
 | n+1,c,δ,h,g=>by
  have e:upTo c (n+1)=.int c::upTo (c+1) n:=by
   unfold upTo;rw[iN,B3,q5]
   congr 1
   ·congr 1;omega
   ·apply M5;intro a _;show DV.int _=DV.int _
    congr 1
    push_cast
    omega
  obtain⟨b,k,r⟩:=h 0 IK δ g;rw[show c+_=c by omega]at k;obtain⟨d,u,p⟩:=U9 n (c+1) (λ j hj δ q=>by
   obtain⟨f,m,l⟩:=h (j+1) IK δ q;refine⟨f,?_,l⟩;rw[show c+1+_=c+((j+1:Nat):Int) by push_cast;omega];exact m) r
  refine⟨d,?_,p⟩;rw[e];show(match body (δ.set i _)with | some (.nx b)=>B4 _ body _ b | o=>o)=_;rw[k];exact u
theorem zK(b:s9 (evE G F it δ)=some (.ok ds cl))(hc:cl ≠ .weak)(hl:ds.length<=m7)
  (h:∀d∈ds,∃a,tg.bind d (x9 fr δ)=some a/\tstD (evE G F cd a)=some (.ok (p d))/\evE G F elt a=some (.ok d .strong)):evE G F (.compi elt tg it cd fr) δ=some (.ok (.lst (ds.filter p)) .fresh):=by
 show Ri.thn _ _=_;rw[b,dh,g8 (by grind),pQ (λ d c=>?_)]
 ·rfl
 ·obtain⟨a,g,f,e⟩:=h d c;rw[g,O3,f,e];cases p d<;>rfl
theorem zL(hw:s9 (evE G F it δ)=some (.ok ds cl))(b:cl ≠ .weak)(hl:ds.length<=m7)
  (h:∀d∈ds,∃a,tg.bind d (x9 fr δ)=some a/\evE G F elt a=some (.ok (f d) .strong)):evE G F (.comp elt tg it fr) δ=some (.ok (.lst (ds.map f)) .fresh):=by
 show Ri.thn _ _=_;rw[hw,dh,g8 (by rintro(z | z);exact b z;omega),ky (λ d hd=>?_)]
 ·rfl
 ·obtain⟨a,e,c⟩:=h d hd;rw[e,O3,c];rfl
theorem zM{l:on Int}(h:j<l.length):ixD (.lst (l.map DV.int)) (.int j)=some (.int l[j]):=by
 have a:(j:Int)<((l.map DV.int).length:Int):=by rw[g6];exact_mod_cast h
 simp only[ixD,atD,E4,f8 (E7 j),f8 a,O3,B7,q0,k7 h,O5]
theorem pX{l:on Int}{i:Int}(a:0<=i)(h:i<l.length):∃v,ixD (.lst (l.map DV.int)) (.int i)=some (.int v):=by
 obtain⟨j,rfl⟩:=Int.eq_ofNat_of_zero_le a;exact⟨_,zM IK⟩
end L2
namespace L2
open PySem
theorem zN{J:on Sv->Prop}(hw:s9 (evE G F it δ)=some (.ok ds cl))(b:cl=.strong\/cl=.fresh)(lp:∃a,B4 tg (λ a=>evSs G F fu body a) ds δ=some (.nx a)/\J a)(c:∀a,J a->evSs G F fu r a=o):evSs G F fu (.fo tg it body::r) δ=o:=by
 obtain⟨a,h,j⟩:=lp;exact J5 hw b h (c a j)
end L2
namespace L2
open PySem
theorem i4:evE G F (.int i) δ=some (.ok (.int i) .strong):=rfl
theorem f6(h:δ[n]? = some (.val d)):evE G F (.var n) δ=some (.ok d .strong):=congrArg varE h
theorem X8(h:δ[n]? = some (.own d)):evE G F (.var n) δ=some (.ok d .top):=congrArg varE h
theorem E5(d:IM a cx (.int i))(c:IM b cy (.int j)):evE G F (.bin .Add a b) δ=some (.ok (.int (i+j)) .strong):=J6 d c rfl
theorem am(d:IM a cx (.int i))(c:IM b cy (.int j)):evE G F (.bin .Sub a b) δ=some (.ok (.int (i - j)) .strong):=J6 d c rfl
theorem S0(d:IM a cx (.int i))(c:IM b cy (.int j))(h:Q1 i j=true):evE G F (.bin .Mult a b) δ=some (.ok (.int (i*j)) .strong):=J6 d c (f8 h)
theorem C5(d:IM a cx (.int i))(c:IM b cy (.int j))(h:0<j):evE G F (.bin .Mod a b) δ=some (.ok (.int (i%j)) .strong):=J6 d c (f8 h)
theorem ao(d:IM a cx (.int i))(c:IM b cy (.int j))(h:0<j/\j<1073741824):evE G F (.bin .FloorDiv a b) δ=some (.ok (.int (i/j)) .strong):=J6 d c (f8 ⟨h.1,Int.lt_trans h.2 IL⟩)
theorem b_eq(d:IM a cx (.int i))(c:IM b cy (.int j)):evE G F (.cmp .Eq a b) δ=some (.ok (.bl (i==j)) .strong):=H9 d c rfl
theorem b_lt(d:IM a cx (.int i))(c:IM b cy (.int j)):evE G F (.cmp .Lt a b) δ=some (.ok (.bl (decide (i<j))) .strong):=H9 d c rfl
end L2
namespace L2
open PySem
theorem F7:evE G F (.str x) δ=some (.ok (.str x) .strong):=rfl
theorem N3(h:evEs G F es δ=some (.ok l))(b:l.length<=m7)(a:stros l=true):evE G F (.tup es) δ=some (.ok (.tup (l.map (·.1))) .strong):=by
 show Rs.thn _ _=_;rw[h,dg,f8 b,a];rfl
def Rise(xs:Iy Nat):Prop:=∀(i k x y:Nat),i<k->xs[i]? = some x->xs[k]? = some y->x<y
theorem pY(v:Rise xs):∀(c b a:Nat),b<=a->a<=xs.size->a - b<=c ->
  (∀i x,i<b->xs[i]? = some x->x<j)->(∀i x,a<=i->xs[i]? = some x->j<=x) ->
  (∀i x,i<SetTable.below.go xs j c b a->xs[i]? = some x->x<j)/\(∀i x,SetTable.below.go xs j c b a<=i->xs[i]? = some x->j<=x):=by
 intro c
 induction c with
 | zero=>
  intro b a z w y l k;have:b=a:=by omega
  subst this;exact⟨l,k⟩
 | succ n u=>
  intro b a z w y l k;unfold SetTable.below.go;by_cases g:b<a
  ·rw[f8 g];have hm:(b+a)/2<a:=by omega
   have o:b<=(b+a)/2:=by omega
   have m:(b+a)/2<xs.size:=by omega
   have h:=T7 m;have r:xs.getD ((b+a)/2) j=xs[(b+a)/2]:=(by rw[aP,h];rfl);dsimp only;rw[r];by_cases f:xs[(b+a)/2]<j
   ·rw[f8 f];refine u _ _ IK w IK (λ i x p d=>?_) k;rcases X1 i ((b+a)/2)with q | q
    ·exact cM (v i _ x _ q d h) f
    ·have e:i=(b+a)/2:=by omega
     subst e;rw[h]at d;cases d;exact f
   ·rw[g8 f];refine u _ _ o IK IK l λ i x p d=>?_
    rcases X1 ((b+a)/2) i with q | q
    ·exact i9 (jh f) (U4 (v _ i _ x q h d))
    ·have e:i=(b+a)/2:=by omega
     subst e;rw[h]at d;cases d;exact jh f
  ·rw[g8 g];have:b=a:=by omega
   subst this;exact⟨l,k⟩
theorem kF(b:Rise xs)(h:i<SetTable.below xs j)(a:xs[i]? = some x):x<j:=
 (pY b xs.size 0 xs.size (G3 _) (k8 _) IK (λ i x h=>by omega) λ i x h a=>by
  rw[T8 h]at a;cases a).1 i x h a
theorem gj(b:Rise xs)(h:SetTable.below xs j<=i)(a:xs[i]? = some x):j<=x:=
 (pY b xs.size 0 xs.size (G3 _) (k8 _) IK (λ i x h=>by omega) λ i x h a=>by
  rw[T8 h]at a;cases a).2 i x h a
theorem zO:∀(a c b:Nat),c<=b->SetTable.below.go xs j a c b<=b:=by
 intro a
 induction a with
 | zero=>intro c b h;exact h
 | succ n d=>
  intro c b h;unfold SetTable.below.go;dsimp;split
  ·split
   ·exact d _ _ IK
   ·exact i9 (d _ _ IK) IK
  ·exact h
theorem pZ:SetTable.below xs j<=xs.size:=zO _ _ _ (G3 _)
theorem zP(d:Rise xs)(c:xs[i]? = some x):SetTable.below xs (x+1)=i+1:=by
 have hi:i<xs.size:=by
  rcases X1 i xs.size with h | h
  ·exact h
  ·rw[T8 h]at c;cases c
 rcases Nat.lt_trichotomy _ _ with h | h | h
 ·have:=gj d (j:=x+1) (Nat.le_of_lt_succ h) c;omega
 ·exact h
 ·have h2:SetTable.below xs (x+1)<=xs.size:=pZ;have f:i+1<xs.size:=by omega
  have e:=T7 f;have a:=kF d h e;have b:=d i _ x _ (P6 _) c e;omega
theorem zQ(b:Rise xs):SetTable.below xs 0=0:=by
 rcases iW _ with h | h
 ·exact h
 ·have h2:SetTable.below xs 0<=xs.size:=pZ;have a:=kF b h (T7 IK);omega
theorem Rise.empty:Rise #[]:=λ i k x y _ a=>by simp at a
theorem Rise.range(n:Nat):Rise (Array.range n):=λ i k x y h b a=>by
 rw[Array.getElem?_range]at b a;split at b
 ·split at a
  ·cases b;cases a;exact h
  ·cases a
 ·cases b
theorem qa{l:on Nat}(h:l.Pairwise (· < ·)):Rise l.toArray:=λ i k x y a c b=>by
 obtain⟨e,g⟩:=A9.mp (by simpa using c);obtain⟨d,f⟩:=A9.mp (by simpa using b);rw[←g,←f];exact nV.mp h i k e d a
theorem zR(h:Rise xs):xs.toList.Pairwise (· < ·):=by
 refine nV.mpr λ i k c b a=>?_;exact h i k _ _ a (by rw[←K9];exact k7 c) (by rw[←K9];exact k7 b)
structure Tab(t:SetTable)(b:Bool):Prop where
 rise:Rise t.place
 dum:t.dummies = #[]
 led:t.led=b
theorem Tab.fresh(b:Bool):Tab (SetTable.fresh 0 0 b) b:=⟨Rise.empty,rfl,rfl⟩
theorem Tab.standIn(h:Tab t b)(n:Nat):Tab (t.standIn n) b:=⟨Rise.range n,rfl,h.led⟩
theorem qb(j:Nat):SetTable.has #[] j=false:=by
 unfold SetTable.has;simp
theorem zS(h:Tab t b)(f:Nat->Int)(z:Int):∀(a:Nat) (p:SetTable.Probe) (j:Nat) (d:Ir Nat),p.dummy=none->SetTable.probe.go t f z a p=some (.empty j d)->d=none/\t.slot j=.empty:=by
 intro a
 induction a with
 | zero=>intro p j d c e;cases e
 | succ n g=>
  intro p j d c e;unfold SetTable.probe.go at e;cases hs:t.slot p.j with
  | empty=>rw[hs]at e;cases e;exact⟨c,hs⟩
  | dummy=>
   unfold SetTable.slot at hs;rw[h.dum,qb]at hs;dsimp at hs;split at hs
   ·cases hs
   ·cases hs
  | live i=>
   rw[hs]at e;dsimp at e;split at e
   ·cases e
   ·refine g _ j d ?_ e;unfold SetTable.advance;split
    ·exact c
    ·exact c
theorem zT(h:Tab t b)(e:t.freeSlot z=some (j,w)):t.slot j=.empty:=by
 unfold SetTable.freeSlot at e;split at e
 ·rename_i j' d a;obtain⟨c,hs⟩:=zS h _ _ _ _ _ _ rfl a;subst c;cases e;exact hs
 ·cases e
theorem Tab.put(h:Tab t b)(hs:t.slot j=.empty):Tab (t.put j).1 b:=by
 have m:t.place[SetTable.below t.place j]? ≠ some j:=λ z=>by unfold SetTable.slot at hs;dsimp only at hs;rw[z]at hs;simp at hs
 refine⟨?_,?_,h.led⟩
 ·show Rise _;have g:=zR h.rise;have:(SetTable.insertAt t.place (SetTable.below t.place j) j).toList.Pairwise (· < ·):=by
   rw[(SetTable.toList_insertAt _ _ _),List.pairwise_append];refine⟨g.sublist (fe _ _),M6.mpr ⟨λ y f=>?_,g.sublist (List.drop_sublist _ _)⟩,λ x l y f=>?_⟩
   ·obtain⟨i,d⟩:=eO.mp f;rw[af,K9]at d;rcases Nat.lt_or_eq_of_le (gj h.rise (cu _ _) d)with q | q
    ·exact q
    ·exfalso;subst q;rcases iW i with z | z
     ·subst z;exact m d
     ·have n:SetTable.below t.place j<t.place.size:=by
       rcases X1 (SetTable.below t.place j+i) t.place.size with q | q
       ·omega
       ·rw[T8 q]at d;cases d
      have k:=T7 n;have a:=gj h.rise (k8 _) k;have c:=h.rise _ _ _ _ IK k d;omega
   ·have e:x<j:=by
     obtain⟨i,d⟩:=eO.mp l;rw[List.getElem?_take]at d;split at d
     ·rw[K9]at d;exact kF h.rise IK d
     ·cases d
    rcases i7.mp f with q | q
    ·rw[q];exact e
    ·obtain⟨i,d⟩:=eO.mp q;rw[af,K9]at d;exact u6 e (gj h.rise (cu _ _) d)
  have r:=qa this
  rwa [Array.toArray_toList]at r
 ·show(if SetTable.has t.dummies j then _ else t.dummies) = #[];rw[h.dum,qb];rfl
theorem Tab.orStandIn(h:Tab t b)(n:Nat):Tab (t.orStandIn n) b:=by
 unfold SetTable.orStandIn;split
 ·exact h
 ·exact h.standIn n
theorem Tab.layNew{t:IH}{b:Bool}(h:Tab t b)(es:Iy (Int×Is))(z:Int)(x:Is):Tab (layNew t es z x).2.1 b:=by
 unfold PySem.layNew;split
 ·rename_i j w e;exact(h.put (zT h e)).orStandIn _
 ·exact h.standIn _
theorem qc{f:Nat->Ir Nat}:∀{l:on Nat},l.Pairwise (· < ·)->((l.filterMap λ j=>(f j).map (j,·)).map (·.1)).Pairwise (· < ·)
 | [],_=>.nil
 | a::l,h=>by
  obtain⟨o,n⟩:=M6.mp h;have d:=qc (f:=f) n;rw[eU];cases e:f a with
  | none=>exact d
  | some c=>
   refine M6.mpr ⟨λ y i=>?_,d⟩;obtain⟨p,k,rfl⟩:=i8.mp i;obtain⟨j,m,b⟩:=cq.mp k;cases g:f j with
   | none=>rw[g]at b;cases b
   | some c2=>rw[g]at b;cases b;exact o j m
theorem Tab.relayAll{t:IH}{b:Bool}(h:Tab t b)(es:Iy (Int×Is))(n:Nat):Tab (relayAll t es n).2.1 b:=by
 unfold PySem.relayAll;split
 ·rename_i t' order e;dsimp only;split
  ·show Tab t' b;unfold SetTable.relaid SetTable.laid at e;cases hl:SetTable.layClean (SetTable.sizeAbove n - 1) (es.map (·.1))with
   | none=>rw[hl]at e;cases e
   | some owner=>
    rw[hl]at e;cases e;exact⟨qa (qc (iO)),rfl,h.led⟩
  ·exact h.standIn _
 ·exact h.standIn _
theorem kG{b:Type}{x:b}:∀{l:on b} {i:Nat} (h:i<l.length),l[i]=x->(x::l.eraseIdx i).Perm l
 | [],i,h,_=>by cases h
 | a::l,0,_,e=>by have e:=e;subst e;exact .rfl
 | a::l,i+1,h,e=>by rw[List.eraseIdx_cons_succ];exact(List.Perm.swap a x _).trans (List.Perm.cons a (kG (by simpa using h) (by simpa using e)))
theorem zU(d:Nat->Nat):∀(c k:Nat) (b:on i) (f:Iy i),b.length<=c->(pickOrder.go d c k b f).toList.Perm (f.toList++b):=by
 intro c
 induction c with
 | zero=>
  intro k b f h;have:b=[]:=W0.mp IK;subst this;unfold pickOrder.go;rw[G1]
 | succ n j=>
  intro k b f h;unfold pickOrder.go;cases e:b[d k%b.length]? with
  | none=>
   have:b=[]:=by
    cases b with
    | nil=>rfl
    | cons a r=>
     have g:d k%(a::r).length<(a::r).length:=Nat.mod_lt _ IX;rw[k7 g]at e;cases e
   subst this;rw[G1]
  | some x=>
   obtain⟨g,l⟩:=A9.mp e;refine(j _ _ _ ((by rw[List.length_eraseIdx,f8 g];omega))).trans ?_;rw[Array.toList_push,Q9];refine List.Perm.append_left _ ?_;exact kG g l
theorem qd(a:Nat->Nat)(xs:Iy b):(pickOrder a xs).toList.Perm xs.toList:=by
 unfold pickOrder;exact(zU a xs.size 0 xs.toList #[] IX).trans IX
noncomputable def P0:Is->Int
 | .int n _=>n
 | _=>0
noncomputable def E6(w:Iz):Bool:=w.params.followText "set-order"
def SetI(prog:IA)(w:Iz)(h:Iw)(a:Iv)(ks:on Int):Prop:=
 ∃o es ep t,h.get? a=some o/\o.ExactSet/\o.data=.set es ep t/\ElemsOf (intKind prog w) es.toList/\(es.toList.map λ e=>P0 e.2).Perm ks/\es.size<scanBound/\t.fits es.size=true/\Tab t (!E6 w)
theorem qe(h:ElemsOf (intKind prog w) es)(b:e∈es):∃t,e.2=.int (P0 e.2) t:=by
 obtain⟨⟨k,a,_⟩,_⟩:=h e b;obtain⟨t,q⟩:=Value.isInt_shape a;exact⟨t,by rw[q];rfl⟩
theorem qf(h:ElemsOf (intKind prog w) es)(a:e∈es)(k:Int):(intKind prog w).is k e.2=true↔P0 e.2=k:=by
 obtain⟨t,q⟩:=qe h a;rw[q];show Value.isInt k (.int _ t)=true↔_;simp[Value.isInt,P0]
theorem SetI.at{prog:IA}{w:Iz}{a:Iv}{ks:on Int}{h h':Iw}(x:SetI prog w h a ks)(k:∀o,h.get? a=some o->h'.get? a=some o):SetI prog w h' a ks:=by
 obtain⟨o,es,ep,t,ho,r⟩:=x;exact⟨o,es,ep,t,k o ho,r⟩
theorem qg{h:Iw}(c:h.get? a=some o)(b:o.data=.set es ep t) :
  (h.update a (Obj.putSet es' t')).get? a=some {o with data:=.set es' (ep+1) t'}:=by
 have q:=Z9 (Obj.putSet es' t') c (by rw[putSet_of es' t' b];rfl)
 rwa [putSet_of es' t' b]at q
theorem zV{prog:IA}{w:Iz}{A:IB}{E:Is->Iu->Prop}{s:Iu}{a:Iv}{ks:on Int}{k:Int}{tk:Tok}{Q:Ir Bool->Iu->Prop}{o:Obj}{es:Iy (Int×Is)}{ep:Nat}{t:IH}(ho:s.heap.get? a=some o)(hx:o.ExactSet)(hd:o.data=.set es ep t)
  (hel:ElemsOf (intKind prog w) es.toList) (hp:(es.toList.map λ e=>P0 e.2).Perm ks) (hb:es.size+1<scanBound) (ht:Tab t (!E6 w))
  {es1:Iy (Int×Is)} {t1:IH} (p1:es1.toList.Perm (es.toList++[(hashInt k,Value.int k tk)])) (f1:t1.fits es1.size=true) (g1:Tab t1 (!E6 w)) (wd:Bool) {g:Bool->Sem Unit}
  (hg:∀(b:Bool) (s₁:Iu) (Q':Unit->Iu->Prop),Q' () s₁->wpAny IR A (g b) Q' E s₁)
  (h:∀h',Heap.SameBut a s.heap h'->SetI prog w h' a (ks++[k])->Q (some true) {s with heap:=h'}) :
  wpAny IR A (do
   storeSet a es1 t1
   if(!wd&&t1.tooFull)=true then do
    g (relayAll t1 es1 (SetTable.grown es1.size)).2.2
    storeSet a (relayAll t1 es1 (SetTable.grown es1.size)).1 (relayAll t1 es1 (SetTable.grown es1.size)).2.1
    pure (some true)
   else pure (some true)) Q E s:=by
 have z1:es1.size=es.size+1:=(by have:=p1.length_eq;rw[u0,B6,B6]at this;exact this);have e1:ElemsOf (intKind prog w) es1.toList:=(hel.push (intKind_is prog w k tk) rfl).perm p1;have m1:(es1.toList.map λ e=>P0 e.2).Perm (ks++[k]):=(by refine(p1.map _).trans ?_;rw[C4];exact hp.append_right _);have b1:es1.size<scanBound:=by omega
 refine f0 (wpAny_storeSet_of ho hd ?_ (jb b1));have o1:=qg (es':=es1) (t':=t1) ho hd;have sb:=M4 s.heap a (Obj.putSet es1 t1);split
 ·have p2:=relayAll_perm t1 es1 (SetTable.grown es1.size);have f2:=relayAll_fits t1 es1 (SetTable.grown es1.size);have g2:=g1.relayAll es1 (SetTable.grown es1.size);generalize relayAll t1 es1 (SetTable.grown es1.size)=R at p2 f2 g2 ⊢;have z2:R.1.size=es1.size:=by
   have:=p2.length_eq
   rwa [B6,B6]at this
  have b2:R.1.size<scanBound:=by omega
  refine f0 (hg _ _ _ ?_);refine f0 (wpAny_storeSet_of o1 rfl ?_ (jb b2));refine g7 (h _ (sb.trans (M4 _ a _)) ?_);exact⟨_,R.1,_,R.2.1,qg o1 rfl,hx,rfl,e1.perm p2,(p2.map _).trans m1,b2,f2,g2⟩
 ·refine g7 (h _ sb ?_);exact⟨_,es1,_,t1,o1,hx,rfl,e1,m1,b1,f1,g1⟩
theorem zW(Z:SetI prog w s.heap a ks)(hr:ks.length+1<scanBound)
  (h:∀n b,Heap.SameBut a s.heap n->SetI prog w n a (dk ks k)->Q b {s with heap:=n}) :
  wpAny IR A (setAddHashed a (.int k tk) (hashInt k)) Q E s:=by
 obtain⟨o,es,ep,t,B,W,F,f,u,Y,P,K⟩:=id Z;have hz:es.size=ks.length:=by
  have:=u.length_eq
  rwa [g6,B6]at this
 have M:∀(b:Bool) (d:Iu) (H:Unit->Iu->Prop),H () d->wpAny IR A (match b with | true=>rule "set.scan.the-table-gave-way" | false=>pure ()) H E d:=λ b d H q=>by
  cases b with
  | true=>exact cT q
  | false=>exact g7 q
 unfold setAddHashed setAddHashedIn;refine L4 (f0 (aX B F P ?_));dsimp only;rw[byScan_of rfl Y f,f8 rfl];unfold setAddByScan;refine f0 (f0 (cT (f0 ?_)));refine wpAny_setScan_of (intKind_is prog w k tk) B F P f ?_;cases O:es.toList.findIdx? _ with
 | some j=>
  obtain⟨N,X,_⟩:=List.findIdx?_eq_some_iff_getElem.mp O;have C:=u.mem_iff.mp (i8.mpr ⟨es.toList[j],M8 N,(qf f (M8 N) k).mp X⟩);have m:dk ks k=ks:=by unfold dk;rw[f8 C]
  refine g7 (g7 ?_);have:=h s.heap false (Heap.SameBut.refl a s.heap) (by grind);exact this
 | none=>
  have C:k∉ks:=λ z=>by obtain⟨e,R,q⟩:=i8.mp (u.mem_iff.mpr z);have:=List.findIdx?_eq_none_iff.mp O e R;rw[(qf f R k).mpr q]at this;cases this
  have m:dk ks k=ks++[k]:=(by unfold dk;rw[g8 C]);rw[m]at h;dsimp only;have p1:=layNew_perm t es (hashInt k) (.int k tk);have y:=layNew_fits t es (hashInt k) (.int k tk);have v:=K.layNew es (hashInt k) (.int k tk);show wpAny _ _ _ _ _ _
  change wpAny _ A (match layNew t es (hashInt k) (.int k tk)with | _=>_) _ _ _
  generalize layNew t es _ _=L at p1 y v ⊢;obtain⟨c,J,I,gv⟩:=L;rw[Array.toList_push]at p1;dsimp only at p1 y v ⊢;refine f0 (M gv _ _ ?_);have p:∀g:IH,g.fits c.size=true->Tab g (!E6 w)->wpAny IR A (do
   storeSet a c g
   if(!I&&g.tooFull)=true then do
    (λ b:Bool=>match b with | true=>rule "set.scan.the-table-gave-way" | false=>pure ()) (relayAll g c (SetTable.grown c.size)).2.2
    storeSet a (relayAll g c (SetTable.grown c.size)).1 (relayAll g c (SetTable.grown c.size)).2.1
    pure (some true)
   else pure (some true)) (λ r U=>wpAny IR A (match r with | some l=>pure l | none=>setAddHashedIn a (.int k tk) (hashInt k) 99999) Q E U) E s:=λ g f2 g2=>
   zV B W F f u IK K p1 f2 g2 I M λ n S S'=>g7 (h n true S S')
  split
  ·refine f0 ?_;rw[hashByValue_scannable 8 rfl];refine g7 ?_;exact p J y v
  ·refine f0 (g7 ?_);exact p J y v
open PySem.Spec PyProof.Rows
def fm(val:Nat->Int)(i:Nat):on Int:=((List.range i).map val).foldl dk []
theorem qh(a:Nat->Int)(i:Nat):fm a (i+1)=dk (fm a i) (a i):=by
 unfold fm;rw[jp,C4,List.foldl_append];rfl
theorem gk(σ:on Int)(k:Int):(dk σ k).length<=σ.length+1:=by
 unfold dk;split
 ·exact cO _
 ·rw[u0];exact k8 _
theorem qk(a:Nat->Int):∀i,(fm a i).length<=i
 | 0=>k8 _
 | i+1=>by rw[qh];exact i9 (gk _ _) (Nat.succ_le_succ (qk a i))
theorem SetI.moved(x:SetI prog w s.heap S ks)(b:Moved wr G s a)(c:S∉wr):SetI prog w a.heap S ks:=x.at λ o e=>b.heap S o c e
theorem zX{prog:IA}{w:Iz}{A:IB}{I:Iv}{n:Nat}{St:Nat->Iu->Prop}(W:WalksS prog w A.in1 I fp f G n P St)(S:Iv)(j:S∉fp)(val:Nat->Int)(g:∀i v,P i v->∃t,v=.int (val i) t)(d:n+1<scanBound) :
  ∀(k i:Nat) (s:Iu),i+k=n->St i s->SetI prog w s.heap S (fm val i) ->
   (∀a,Moved (S::f) G s a->SetI prog w a.heap S (fm val n)->R (.ok (.ret .none)) a)->codeAny IR A (.builtin "set.update.loop" ⟨[.ref S,.ref I],[]⟩) R s:=by
 have u:S∉f:=λ z=>j (W.sub S z);have r:∀b∈f,b∈S::f:=λ b z=>o4 S z;intro k
 induction k with
 | zero=>
  intro i s e st hs q;have e:i=n:=e;subst e;refine U2 ol ?_;rw[W1 iM];show wpAny IR A.in1 (pyNext (.ref I) >>= _) _ _ s;refine f0 (W.done s _ _ st λ a h=>?_);show wpAny IR A.in1 (ret Value.none) _ _ a;exact g7 (q a (h.mono r) (hs.moved h u))
 | succ k C=>
  intro i s e st hs q;have H:i<n:=by omega
  refine U2 ol ?_;rw[W1 iM];show wpAny IR A.in1 (pyNext (.ref I) >>= _) _ _ s;refine f0 (W.item i s _ _ H st λ v a J l h=>?_);obtain⟨t,E⟩:=g i v J;subst E;have m:=hs.moved h u;show wpAny IR A.in1 _ _ _ a;refine f0 (L4 ?_);unfold setAdd;refine L4 (f0 ((intKind prog w).pyHash (k:=val i) (intKind_is prog w (val i) t) ?_));have hl:=qk val i;refine zW (s:={a with toks:=a.toks+1}) (k:=val i) (tk:=t) m IK λ x b y L=>?_;have c:∀b o,b≠S->a.heap.get? b=some o->x.get? b=some o:=λ b o d e=>by rw[y.2 b d];exact e
  refine g7 ⟨U3 iM _,C (i+1) _ IK (W.frame (i+1) a x _ l (cO _) λ b d o e=>c b o (λ z=>j (z▸d)) e) (by rw[qh];exact L) λ B p K=>?_⟩;refine q B (Moved.trans W.gtrans ((h.mono r).then_heap (cO _) λ b o d e=>c b o (λ z=>d (z▸o5)) e) p) K
noncomputable def set0(w:Iz):Obj:={cls:=.type "set",dict:=none,data:=.set #[] 0 (.fresh 0 0 (!E6 w))}
theorem zY(e:h.get? a=some (set0 w)):SetI prog w h a []:=
 ⟨_,#[],0,_,e,⟨rfl,rfl,rfl⟩,rfl,λ _ z=>by simp at z,by simp,by decide,by rfl,Tab.fresh _⟩
theorem Aa(v:Is)(h:Q (.ref s.heap.objs.size) {s with heap:=s.heap.push (set0 w)}) :
  codeAny IR A (.call (.builtin "set.__new__") ⟨[.type "set",v],[]⟩) (wants Q E) s:=by
 refine codeAny_of_tree ?_;show wpAny _ A.in1 _ _ _ s;refine f0 (bh (F.newCall_set_1 v) ?_);refine g7 ⟨U3 F.plain_set_new _,U2 F.entry_set_new ?_⟩;rw[W1 F.plain_set_new];unfold Builtin.«set.__new__» Builtin.Frozenset.newClass;have q:=sub_set_self;obtain⟨h0,g0,d0,t0,o0⟩:=s
 wp_walk
 refine aY (g7 ?_);simp[newObj];exact f0 (wpAny_alloc (g7 (g7 h)))
theorem Ab{prog:IA}{w:Iz}{A:IB}{E:Is->Iu->Prop}{s:Iu}{l:Iv}{items:Iy Is}{ns:on Int}{Q:Is->Iu->Prop}(hh:A.handled=none)(hl:s.heap.IsList l items)(hi:IntsAre items.toList ns)(hb:items.size+1<scanBound)
  (h:∀h' tk,SetI prog w h' s.heap.objs.size (fm (λ i=>ns.getD i 0) items.size)->(∀b o,s.heap.get? b=some o->h'.get? b=some o)->Q (.ref s.heap.objs.size) {s with heap:=h',toks:=tk}) :
  wpAny IR A (call (.type "set") [.ref l]) Q E s:=by
 have m0:=F.called_set.mro;obtain⟨c0,r0,m1⟩:=m0;have m2:=F.called_set.made;have m3:=F.called_set.sub;have m4:=F.called_set.notType;have m5:=F.called_set.canCreate;have m6:=F.typeCall_set_1 (.ref l);refine cS (codeAny_of_tree ?_);show wpAny IR _ (callAny (.type "set") _) _ _ _;refine g7 ⟨Code.quiet_builtin _ (by decide +kernel),U2 F.entry_type_call ?_⟩;rw[Around.under_plain (weight_type_call_type "set" [.ref l] []) rfl]
 repeat (any_goals (first | assumption | wp_step))
 refine P7 (Aa (.ref l) (E:=E) (Q:=λ v s1=>v=.ref s.heap.objs.size/\s1 = {s with heap:=s.heap.push (set0 w)}) ⟨rfl,rfl⟩) λ r s1 q=>?_;cases r with
 | error e=>exact q
 | ok f=>
  cases f with
  | ret v=>
   obtain⟨e1,e2⟩:=q;subst e1;subst e2;have g0:(s.heap.push (set0 w)).get? s.heap.objs.size=some (set0 w):=t8 _ rfl;have ty:Shared.TypeIs {s with heap:=s.heap.push (set0 w)} (.ref s.heap.objs.size) "set":=⟨_,g0,rfl⟩;have n1:=F.called_set.init.lookup;have n2:=F.called_set.init.bind (.ref s.heap.objs.size)
   repeat (any_goals (first | assumption | wp_step))
   refine P7 (codeAny_call_builtin (R:=wants (λ v s2=>v=.none/\∃h' tk,s2 = {s with heap:=h',toks:=tk} /\ SetI prog w h' s.heap.objs.size (fm (λ i=>ns.getD i 0) items.size) /\
     ∀b o,s.heap.get? b=some o->h'.get? b=some o) E) F.called_set.init.plain F.entry_set_init (check_set_init_1 ty ?_)) λ r2 s2 q2=>?_
   ·obtain⟨⟨k1,k2,k3,k4⟩,kl,kc,kn,kd⟩:=hl;dsimp only at kc kd;subst kc;subst kd;have kl':(s.heap.push (set0 w)).get? l=some {cls:=.type "list",dict:=k2,data:=.seq items kn,slots:=k4}:=k6 _ kl;have il:(s.heap.push (set0 w)).IsList l items:=⟨_,kl',rfl,kn,rfl⟩;have p1:=F.sub_list_set;have p2:=F.sub_list_frozenset;have p3:(Value.type "list" == Value.type "dict")=false:=by decide
    unfold Builtin.«set.__init__» noKeywords Builtin.Frozenset.updateFrom;generalize hP:pyIter=PI
    wp_walk
    subst hP;refine iZ il (f0 (wpAny_runValue ?_));have l0:l<s.heap.objs.size:=n7 kl;have z1:(s.heap.push (set0 w)).objs.size=s.heap.objs.size+1:=G7 _ _;have a1:l≠(s.heap.push (set0 w)).objs.size:=by rw[z1];exact t9 (M7 l0)
    have a2:s.heap.objs.size∉[(s.heap.push (set0 w)).objs.size,l]:=by
     rw[z1];intro z;rcases i7.mp z with z | z
     ·exact absurd z (t9 (P6 _))
     ·exact absurd (u4.mp z) (R4 l0)
    refine zX ((fI (by show A.handled=none;exact hh) _ l a1 items).toS) s.heap.objs.size a2 (λ i=>ns.getD i 0) (λ i v e=>IntsAre.int_at hi i v (by rw[K9];exact e)) hb
     items.size 0 _ (jD _) ⟨⟨_,t8 _ rfl,rfl,rfl⟩,il.push _⟩ (zY (k6 _ g0)) λ s3 hm S3=>?_
    obtain⟨h3,g3,d3,t3,o3⟩:=s3;have b1:g3=s.gens:=hm.gens;have b2:d3=s.drawn:=hm.drawn;have b3:o3=s.os:=hm.os;subst b1;subst b2;subst b3;show wpAny IR _ _ _ _ _;refine g7 ?_;show wpAny IR _ (ret Value.none) _ _ _;refine g7 ⟨rfl,h3,t3,rfl,S3,λ b o e=>?_⟩;have b4:=n7 e;refine hm.heap b o (λ z=>?_) (k6 _ (k6 _ e));rcases i7.mp z with z | z
    ·exact absurd z (t9 b4)
    ·have:=u4.mp z;rw[z1]at this;exact absurd this (t9 (M7 b4))
   ·cases r2 with
    | error e=>exact q2
    | ok f2=>
     cases f2 with
     | ret v2=>
      obtain⟨c1,h',tk,c2,c3,c4⟩:=q2;subst c1;subst c2
      repeat (any_goals (first | assumption | wp_step))
      exact h h' tk c3 c4
     | _=>exact q2.elim
  | _=>exact q.elim
def F8(h:Iw)(I a:Iv)(f:Is)(i n ep:Nat):Prop:=∃o,h.get? I=some o/\o.cls=.type "set_iterator" /\ o.data=.fields #[f,.int i 0,.ref a,.int n 0,.int ep 0]
def J7(h:Iw)(a:Iv)(es:Iy (Int×Is))(ep:Nat)(t:IH):Prop:=∃o,h.get? a=some o/\o.ExactSet/\o.data=.set es ep t
theorem F8.typeIs{s:Iu}(x:F8 s.heap I a f i n ep):s.TypeIs (.ref I) "set_iterator":=let ⟨o,e,c,_⟩:=x;⟨o,e,c⟩
theorem F8.at{h h':Iw}{I a:Iv}{f:Is}{i n ep:Nat}(x:F8 h I a f i n ep)(k:∀o,h.get? I=some o->h'.get? I=some o):F8 h' I a f i n ep:=let ⟨o,e,c⟩:=x;⟨o,k o e,c⟩
theorem J7.at{h h':Iw}{a:Iv}{es:Iy (Int×Is)}{ep:Nat}{t:IH}(x:J7 h a es ep t)(k:∀o,h.get? a=some o->h'.get? a=some o):J7 h' a es ep t:=let ⟨o,e,c⟩:=x;⟨o,k o e,c⟩
theorem J7.typeIs{s:Iu}(x:J7 s.heap a es ep t):s.TypeIs (.ref a) "set":=let ⟨o,e,c,_⟩:=x;⟨o,e,c.1⟩
theorem Q4:Slot "set_iterator" "__next__" "set_iterator.__next__":=
 .of (owner:="set_iterator") (n:="__next__") (by rw[typeLookup_type,oH];kernel_rfl) (by decide +kernel) (by decide +kernel) (by decide +kernel)
  (by first | exact .inl (by decide +kernel) | exact .inr (by decide +kernel)) (by rw[jv];kernel_rfl)
theorem gl:entryFor table "set_iterator.__next__" = some Builtin.«set_iterator.__next__»:=entryFor_of_tree (by kernel_rfl)
theorem gm(v:Is):argsOk "set_iterator.__next__" ⟨[v],[]⟩:=by unfold argsOk;kernel_rfl
theorem Ac:entryFor table "set.__iter__" = some Builtin.«frozenset.__iter__»:=entryFor_alias (id':="frozenset.__iter__") (by kernel_rfl) rfl (by decide +kernel) (by kernel_rfl)
theorem ql{ep:Nat}{h:Iw}{i:Nat}{n:Nat}(e:h.get? I=some o)(c:o.cls=.type "set_iterator")(d:o.data=.fields #[f,.int i 0,.ref a,.int n 0,.int ep 0]) :
  F8 (h.update I (Obj.mapFields (·.setIfInBounds 1 (rawInt ((i:Int)+1))))) I a f (i+1) n ep:=by
 refine⟨_,Z9 _ e (iS (aT d _)),(ja ..).trans c,?_⟩;rw[aT d];simp[rawInt]
theorem qm{ep:Nat}{h:Iw}(g:Is){i:Nat}{n:Nat}(e:h.get? I=some o)(c:o.cls=.type "set_iterator")(d:o.data=.fields #[f,.int i 0,.ref a,.int n 0,.int ep 0]) :
  F8 (h.update I (Obj.mapFields (·.setIfInBounds 0 g))) I a g i n ep:=by
 refine⟨_,Z9 _ e (iS (aT d _)),(ja ..).trans c,?_⟩;rw[aT d];simp
theorem qo{prog:IA}{w:Iz}{A:IB}{E:Is->Iu->Prop}{s:Iu}{I a:Iv}{es:Iy (Int×Is)}{ep:Nat}{t:IH}{Q:Ir Is->Iu->Prop}{slot i j:Nat}{x:Is}(hI:F8 s.heap I a (.int slot 0) i es.size ep)(hS:J7 s.heap a es ep t)(hf:t.fits es.size=true)
  (hn:∀(A:IB) (E':Is->Iu->Prop) (Q':Ir (Is×Nat)->Iu->Prop),Q' (some (x,j)) s->wpAny IR A (setNext a slot i ep) Q' E' s)
  (hQ:∀h',F8 h' I a (.int j 0) (i+1) es.size ep->Heap.SameBut I s.heap h'->Q (some x) {s with heap:=h'}):wpAny IR A (pyNext (.ref I)) Q E s:=by
 obtain⟨o,ho,hc,hd⟩:=id hI;obtain⟨p,hp,hx,hq⟩:=id hS;unfold pyNext;refine f0 (aj (Q8 (name:=Str.ofString "__next__") hI.typeIs Q4 (K2 Q4 hI.typeIs gl ?_ (gm _))));unfold Builtin.«set_iterator.__next__»;refine f0 (g7 ?_);dsimp only;refine f0 (cG ho hd ?_);dsimp only;refine f0 (cj hp hq hf ?_);rw[show(((es.size:Nat):Int) != ((es.size:Nat):Int))=false by simp,g8 B1];simp only[B7];refine f0 (hn _ _ _ ?_);dsimp only;refine f0 (X0 ho hd IX ?_);have I1:=qm (ep:=ep) (rawInt j) ho hc hd;obtain⟨o1,ho1,hc1,hd1⟩:=id I1;refine f0 (X0 ho1 hd1 IX (g7 ⟨x,rfl,g7 (hQ _ (ql ho1 hc1 hd1) ?_)⟩));exact(M4 ..).trans (M4 ..)
theorem qp{prog:IA}{w:Iz}{A:IB}{E:Is->Iu->Prop}{s:Iu}{I a:Iv}{es:Iy (Int×Is)}{ep:Nat}{t:IH}{Q:Ir Is->Iu->Prop}{slot i:Nat}(hh:A.handled=none)(hI:F8 s.heap I a (.int slot 0) i es.size ep)(hS:J7 s.heap a es ep t)(hf:t.fits es.size=true)
  (hn:∀(A:IB) (E':Is->Iu->Prop) (Q':Ir (Is×Nat)->Iu->Prop),Q' none s->wpAny IR A (setNext a slot i ep) Q' E' s)
  (hQ:∀h',Heap.ExtBut I s.heap h'->Q none {s with heap:=h'}):wpAny IR A (pyNext (.ref I)) Q E s:=by
 obtain⟨o,ho,hc,hd⟩:=id hI;obtain⟨p,hp,hx,hq⟩:=id hS;unfold pyNext;refine f0 (aj (Q8 (name:=Str.ofString "__next__") hI.typeIs Q4 (K2 Q4 hI.typeIs gl ?_ (gm _))));unfold Builtin.«set_iterator.__next__»;refine f0 (g7 ?_);dsimp only;refine f0 (cG ho hd ?_);dsimp only;refine f0 (cj hp hq hf ?_);rw[show(((es.size:Nat):Int) != ((es.size:Nat):Int))=false by simp,g8 B1];simp only[B7];refine f0 (hn _ _ _ ?_);dsimp only;refine f0 (X0 ho hd IX ?_);refine f0 ?_;simp only[newExc,newTuple];refine f0 (E8 ?_ (by size_fits));refine f0 (m:=firstArgMember _ _) (bh (a:=Value.none) (by first | rfl | (simp only[firstArgMember];rfl)) ?_);refine E8 ?_ (by size_fits);simp only[raiseNew];refine f0 (jy ?_);rw[show A.in1.handled=none from hh];refine f0 (g7 (wpAny_throw ?_));refine f0 (cw (T:="StopIteration") (b:=true) ⟨_,t8 _ rfl,rfl⟩ fq ?_);exact g7 (hQ _ (((M4 ..).extBut.push _).push _))
theorem Ad{k:Nat}(f:F8 s.heap I a (.ref q) i es.size ep)(B:J7 s.heap a es ep t)(l:t.fits es.size=true)(r:IsTup s.heap q ps)(u:ps[i]? = some (.int k 0))(n:es[k]? = some (z,x))
  (C:∀g,F8 g I a (.ref q) (i+1) es.size ep->Heap.SameBut I s.heap g->Q (some x) {s with heap:=g}):wpAny IR A (pyNext (.ref I)) Q E s:=by
 obtain⟨o,c,y,e⟩:=id f;obtain⟨p,j,m,h⟩:=id B;unfold pyNext;refine f0 (aj (Q8 f.typeIs Q4 (K2 Q4 f.typeIs gl ?_ (gm _))));unfold Builtin.«set_iterator.__next__»;refine f0 (g7 ?_);refine f0 (cG c e ?_);refine f0 (cj j h l ?_);rw[show(_ != _)=false by simp,g8 B1];simp[B7];obtain⟨oq,b,v,nq,d⟩:=r;refine f0 (ai b d ?_);dsimp only;rw[u];unfold setNextDrawn;simp only[B7];refine f0 (f0 (aX j h l ?_));rw[show(ep != ep)=false by simp,g8 B1];rw[n];refine g7 ?_;refine f0 (X0 c e IX (g7 ⟨x,rfl,g7 (C _ (ql c y e) (M4 ..))⟩))
theorem Ae(v:A.handled=none)(j:F8 s.heap I a (.ref q) i es.size ep)(C:J7 s.heap a es ep t)(x:t.fits es.size=true)(l:IsTup s.heap q ps)(u:ps[i]? = none)
  (F:∀k,Heap.ExtBut I s.heap k->Q none {s with heap:=k}):wpAny IR A (pyNext (.ref I)) Q E s:=by
 obtain⟨o,e,B,h⟩:=id j;obtain⟨p,r,hx,n⟩:=id C;unfold pyNext;refine f0 (aj (Q8 j.typeIs Q4 (K2 Q4 j.typeIs gl ?_ (gm _))));unfold Builtin.«set_iterator.__next__»;refine f0 (g7 ?_);dsimp only;refine f0 (cG e h ?_);dsimp only;refine f0 (cj r n x ?_);rw[show(((es.size:Nat):Int) != ((es.size:Nat):Int))=false by simp,g8 B1];simp only[B7];obtain⟨oq,c,y,nq,f⟩:=l;refine f0 (ai c f ?_);dsimp only;rw[u];dsimp only;refine f0 (X0 e h IX ?_);obtain⟨o1,d,z,g⟩:=qm (ep:=ep) (rawInt 0) e B h;refine f0 (X0 d g IX ?_);refine f0 ?_;simp only[newExc,newTuple];refine f0 (E8 ?_ (by size_fits));refine f0 (m:=firstArgMember _ _) (bh (a:=Value.none) (by first | rfl | (simp only[firstArgMember];rfl)) ?_);refine E8 ?_ (by size_fits);simp only[raiseNew];refine f0 (jy ?_);rw[show A.in1.handled=none from v];refine f0 (g7 (wpAny_throw ?_));refine f0 (cw (T:="StopIteration") (b:=true) ⟨_,t8 _ rfl,rfl⟩ fq ?_);exact g7 (F _ ((((M4 ..).trans (M4 ..)).extBut.push _).push _))
section
variable {prog:IA} {w:Iz} {A:IB} {E:Is->Iu->Prop} {s:Iu} {I a:Iv} {es:Iy (Int×Is)} {ep:Nat} {t:IH}
theorem qr(d:E6 w=true)(g:J7 s.heap a es ep t)(f:t.fits es.size=true)
  (h:Q (((pickOrder (w.params.setOrder a ep) es)[i]?).map λ e=>(e.2,slot)) s):wpAny IR A (setNext a slot i ep) Q E s:=by
 obtain⟨p,c,hx,b⟩:=id g;unfold setNext;refine f0 (aX c b f ?_);dsimp only;unfold setsByText;refine f0 (f0 (aY (g7 ?_)));show wpAny _ A (if E6 w=true then _ else _) Q E s;rw[f8 d];rw[show(ep != ep)=false by simp,g8 B1];refine f0 ?_;unfold setWalk;refine f0 (aX c b f ?_);dsimp only;unfold setsByText;refine f0 (f0 (aY (g7 ?_)));show wpAny IR A (if E6 w=true then _ else _) _ E s;rw[f8 d];exact f0 (aY (g7 (g7 h)))
theorem qt(d:E6 w=false)(g:(!t.plain&&decide (es.size>1))=false)(e:t.led=true)(k:J7 s.heap a es ep t)(f:t.fits es.size=true)
  (h:Q (match es[SetTable.below t.place slot]?,t.place[SetTable.below t.place slot]? with | some (_,x),some j=>some (x,j+1) | _,_=>none) s):wpAny IR A (setNext a slot i ep) Q E s:=by
 obtain⟨p,c,hx,b⟩:=id k;unfold setNext;refine f0 (aX c b f ?_);dsimp only;unfold setsByText;refine f0 (f0 (aY (g7 ?_)));show wpAny _ A (if E6 w=true then _ else _) Q E s;rw[g8 (by rw[d];exact B1)];show wpAny _ A (if(!t.plain&&decide (es.size>1))=true then _ else _) Q E s;rw[g,g8 B1];refine f0 ?_;show wpAny IR A (if(!t.led && !es.isEmpty)=true then _ else _) _ E s;rw[e];exact g7 (g7 h)
theorem Af:∀(n:Nat) (a:on e) (s:Iu),a.length=n->(∀l d,l.Perm a->Q l {s with drawn:=d})->wpAny IR A (drawOrder n a) Q E s:=by
 intro n
 induction n generalizing Q with
 | zero=>
  intro a s c h;have:=W0.mp c;subst this;exact g7 (h [] s.drawn .rfl)
 | succ n g=>
  intro a s c h;cases a with
  | nil=>cases c
  | cons y r=>
   show wpAny _ A _ Q E s;have b:∀i,i<(y::r).length->wpAny _ A (match _[i]? with
     | some x=>do return x::(←drawOrder n ((y::r).eraseIdx i))
     | none=>unsupported "internal:drawOrder") Q E {s with drawn:=s.drawn.bump .order}:=λ i f=>by
    rw[(k7 f)];refine f0 (g _ _ (by grind) λ l d p=>g7 (h _ d ?_));exact(List.Perm.cons _ p).trans (kG f rfl)
   refine f0 λ Γ p j=>⟨by simp,?_⟩;exact b _ (Nat.mod_lt _ IX)
noncomputable def gn(f:Is)(a:Iv)(n ep:Nat):Obj:={cls:=.type "set_iterator",data:=.fields #[f,.int 0 0,.ref a,.int n 0,.int ep 0]}
noncomputable def gp(l:on Nat):Obj:={cls:=.type "tuple",data:=.seq (l.map λ (i:Nat)=>Value.int i 0).toArray}
theorem kH{h:Iw}:F8 (h.push (gn f a n ep)) h.objs.size a f 0 n ep:=⟨_,t8 _ rfl,rfl,rfl⟩
theorem Ag(h:J7 s.heap a es ep t)(f:t.fits es.size=true)(hb:es.size<=sizeLine)
  (m:(!E6 w&&(!t.plain&&decide (es.size>1)))=false->Q (.ref s.heap.objs.size) {s with heap:=s.heap.push (gn (.int 0 0) a es.size ep)})
  (k:∀l d,E6 w=false->l.Perm (List.range es.size)->Q (.ref (s.heap.objs.size+1)) {s with heap:=(s.heap.push (gp l)).push (gn (.ref s.heap.objs.size) a es.size ep),drawn:=d}) :
  wpAny IR A (pyIter (.ref a)) Q E s:=by
 obtain⟨p,c,hx,b⟩:=id h;refine jc h.typeIs F.slot_set_iter (K2 F.slot_set_iter h.typeIs Ac ?_ (F.args_set_iter_1 _));unfold Builtin.«frozenset.__iter__» Builtin.Frozenset.slot0 slotArgs;simp only[ji,Bool.not_true,aU,↓reduceIte,bind_assoc,jq,jd];unfold Builtin.Frozenset.addrOf Builtin.Frozenset.sizeOf;refine f0 (g7 ?_)
 try refine f0 (g7 ?_)
 refine f0 (f0 (cj c b f (g7 ?_)));unfold setDrawn;refine f0 (f0 (aX c b f ?_));unfold setsByText;refine f0 (f0 (aY (g7 (g7 ?_))));show wpAny _ _ (if(!E6 w&&(!t.plain&&decide _))=true then _ else _) _ _ _;by_cases g:(!E6 w&&(!t.plain&&decide (es.size>1)))=true
 ·rw[f8 g];have j:E6 w=false:=by
   cases e:E6 w with
   | false=>rfl
   | true=>rw[e]at g;cases g
  refine f0 (Af es.size _ s (A6) λ l d i=>?_);have hl:l.length=es.size:=by rw[i.length_eq,A6]
  unfold newTuple;refine f0 (E8 ?_ (by show(l.map _).toArray.size<=_;simp;omega));refine f0 (wpAny_setEpoch_of (k6 _ c) b f ?_);refine f0 (E8 (g7 ⟨_,rfl,"set_iterator",_,⟨_,t8 _ rfl,rfl⟩,Q4.lookup,?_⟩));have:=k l d j i;rw[←(G7 _ _)]at this;exact this
 ·rw[g8 g];refine f0 (g7 ?_);refine f0 (wpAny_setEpoch_of c b f ?_);refine f0 (E8 (g7 ⟨_,rfl,"set_iterator",_,⟨_,t8 _ rfl,rfl⟩,Q4.lookup,?_⟩));exact m (by grind)
end
section
variable {prog:IA} {w:Iz} {A:IB} {E:Is->Iu->Prop} {s:Iu} {I a:Iv} {es:Iy (Int×Is)} {ep:Nat} {t:IH}
abbrev Nx(prog:IA)(w:Iz)(I:Iv)(fp:on Iv)(n:Nat)(ws:on Is)(St:Nat->Iw->Prop):Prop:=
 ∀A:IB,A.handled=none->WalksS prog w A I fp [I] (λ a b=>b=a) n (λ i v=>ws[i]? = some v) (λ i s=>St i s.heap)
theorem kJ {fp : on Iv} {n : Nat} {ws : on Is} {St : Nat -> Iw -> Prop} (hI : I ∈ fp) (hz : ws.length = n)
    (fr : ∀ i h h', St i h -> (∀ b ∈ fp, ∀ o, h.get? b = some o -> h'.get? b = some o) -> St i h')
    (it : ∀ (A : IB) (E : Is -> Iu -> Prop) (Q : Ir Is -> Iu -> Prop) (s : Iu) i v, A.handled = none -> ws[i]? = some v -> St i s.heap -> (∀ h', St (i + 1) h' -> Heap.SameBut I s.heap h' -> Q (some v) { s with heap := h' }) -> wpAny IR A (pyNext (.ref I)) Q E s)
    (dn : ∀ (A : IB) (E : Is -> Iu -> Prop) (Q : Ir Is -> Iu -> Prop) (s : Iu), A.handled = none -> St n s.heap -> (∀ h', Heap.ExtBut I s.heap h' -> Q none { s with heap := h' }) -> wpAny IR A (pyNext (.ref I)) Q E s)
    (sf : ∀ (A : IB) (E : Is -> Iu -> Prop) (Q : Is -> Iu -> Prop) (s : Iu) i, St i s.heap -> Q (.ref I) s -> wpAny IR A (pyIter (.ref I)) Q E s) : Nx prog w I fp n ws St := λ A hh =>
  { sub := λ b hb => by rw [u4.mp hb]; exact hI
    grefl := λ _ => rfl
    gtrans := λ _ _ _ h1 h2 => h2.trans h1
    frame := λ i s h' tk st _ k => fr i s.heap h' st k
    item := λ i s Q E hi st hQ => by have hg : ws[i]? = some ws[i] := k7 IK;exact it A E Q s i _ hh hg st λ h' st' sb => hQ _ _ hg st' ⟨λ b o hb e => sb.extBut b o (λ z => hb (u4.mpr z)) e, rfl, rfl, rfl, k8 _⟩
    done := λ s Q E st hQ => dn A E Q s hh st λ h' eb => hQ _ ⟨λ b o hb e => eb b o (λ z => hb (u4.mpr z)) e, rfl, rfl, rfl, k8 _⟩
    self := λ i s Q E st hQ => sf A E Q s i st hQ }
theorem gq{h h':Iw}{b:Iv}(sb:Heap.SameBut I h h')(hb:b≠I):∀o,h.get? b=some o->h'.get? b=some o:=λ o e=>sb.extBut b o hb e
theorem qu:Slot "set_iterator" "__iter__" "set_iterator.__iter__":=
 .of (owner:="set_iterator") (n:="__iter__") (by rw[typeLookup_type,oH];kernel_rfl) (by decide +kernel) (by decide +kernel) (by decide +kernel)
  (by first | exact .inl (by decide +kernel) | exact .inr (by decide +kernel)) (by rw[jv];kernel_rfl)
theorem Ah:entryFor table "set_iterator.__iter__" = some Builtin.«dict_keyiterator.__iter__»:=entryFor_alias (id':="dict_keyiterator.__iter__") (by kernel_rfl) rfl (by decide +kernel) (by kernel_rfl)
theorem Ai(v:Is):argsOk "set_iterator.__iter__" ⟨[v],[]⟩:=by unfold argsOk;kernel_rfl
theorem kO(b:F8 s.heap I a f i n ep)(h:Q (.ref I) s):wpAny IR A (pyIter (.ref I)) Q E s:=by
 refine jc b.typeIs qu (K2 qu b.typeIs Ah ?_ (Ai _));show wpAny _ _ _ _ _ s;exact g7 ⟨_,rfl,"set_iterator",_,b.typeIs,Q4.lookup,h⟩
theorem Aj(l:E6 w=true)(c:t.fits es.size=true)(f:a≠I) :
  Nx prog w I [I,a] es.size ((pickOrder (w.params.setOrder a ep) es).toList.map (·.2)) (λ i h=>F8 h I a (.int (0:Nat) 0) i es.size ep/\J7 h a es ep t):=by
 have hz:(pickOrder (w.params.setOrder a ep) es).size=es.size:=by
  have:=(qd (w.params.setOrder a ep) es).length_eq
  rwa [B6,B6]at this
 refine kJ IX (by grind) (λ i h n st k=>⟨st.1.at (k I IX),st.2.at (k a IX)⟩) (λ A E Q s i v m b st g=>?_) (λ A E Q s m st g=>?_) λ A E Q s i st h=>kO st.1 h
 ·obtain⟨e,he,hev⟩:∃e,(pickOrder (w.params.setOrder a ep) es)[i]? = some e/\e.2=v:=by
   rw[q0,K9]at b;cases q:(pickOrder _ es)[i]? with
   | none=>rw[q]at b;cases b
   | some e=>rw[q]at b;cases b;exact⟨e,rfl,rfl⟩
  refine qo st.1 st.2 c (λ A p o q=>qr l st.2 c (by rwa [he,O5,hev])) λ n d j=>?_;exact g n ⟨d,st.2.at (gq j f)⟩ j
 ·refine qp m st.1 st.2 c (λ A p o q=>qr l st.2 c (by grind)) g
noncomputable def dr(t:IH):Nat->Nat
 | 0=>0
 | i+1=>t.place.getD i 0+1
theorem qv(a:Rise t.place):∀{i:Nat},i<=t.place.size->SetTable.below t.place (dr t i)=i
 | 0,_=>zQ a
 | i+1,h=>by have b:t.place[i]? = some t.place[i]:=T7 IK;show SetTable.below t.place (t.place.getD i 0+1)=i+1;rw[aP,b];exact zP a b
theorem Ak(g:E6 w=false)(y:(!t.plain&&decide (es.size>1))=false)(f:Tab t (!E6 w))(b:t.fits es.size=true)(l:a≠I) :
  Nx prog w I [I,a] es.size (es.toList.map (·.2)) (λ i h=>F8 h I a (.int (dr t i:Nat) 0) i es.size ep/\J7 h a es ep t/\i<=es.size):=by
 have p:t.led=true:=by rw[f.led,g];rfl
 have hz:t.place.size=es.size:=(by unfold SetTable.fits at b;rw[f9]at b;exact g9.mp b.1);refine kJ IX (by rw[g6,B6]) (λ i h B st k=>⟨st.1.at (k I IX),st.2.1.at (k a IX),st.2.2⟩) (λ A E Q s i v r c st n=>?_) (λ A E Q s r st n=>?_) λ A E Q s i st h=>kO st.1 h
 ·obtain⟨z,he⟩:∃z,es[i]? = some (z,v):=by
   rw[q0,K9]at c;cases q:es[i]? with
   | none=>rw[q]at c;cases c
   | some e=>rw[q]at c;cases c;exact⟨e.1,rfl⟩
  have F:i<es.size:=by
   rcases X1 i es.size with h | h
   ·exact h
   ·rw[T8 h]at he;cases he
  have u:t.place[i]? = some t.place[i]:=T7 IK;have m:=qv f.rise (i:=i) IK;have C:dr t (i+1)=t.place[i]+1:=(by show t.place.getD i 0+1=_;rw[aP,u];rfl);refine qo (slot:=dr t i) (j:=dr t (i+1)) (x:=v) st.1 st.2.1 b (λ A J H q=>qt g y p st.2.1 b (by rw[m,he,u];rw[C]at q;exact q)) λ B d o=>?_;exact n B ⟨d,st.2.1.at (gq o l),F⟩ o
 ·have m:=qv f.rise (i:=es.size) IK;refine qp r st.1 st.2.1 b (λ A J H q=>qt g y p st.2.1 b (by rw[m,T8 (k8 _)];exact q)) n
theorem Al{l:on Nat}(n:l.Perm (List.range es.size))(u:t.fits es.size=true)(g:a≠I)(B:q≠I) :
  Nx prog w I [I,a,q] es.size (l.map λ i=>(es.getD i (0,.none)).2) (λ i h=>F8 h I a (.ref q) i es.size ep/\J7 h a es ep t/\IsTup h q (l.map λ (i:Nat)=>Value.int i 0).toArray):=by
 have hl:l.length=es.size:=by rw[n.length_eq,A6]
 refine kJ IX (by grind) (λ i h z st k=>⟨st.1.at (k I IX),st.2.1.at (k a IX),let ⟨o,e,r⟩:=st.2.2;⟨o,k q IX o e,r⟩⟩) (λ A E Q s i v p b st m=>?_) (λ A E Q s p st m=>?_) λ A E Q s i st h=>kO st.1 h
 ·obtain⟨k,hk,hkv⟩:∃k,l[i]? = some k/\(es.getD k _).2=v:=by
   rw[q0]at b;cases q:l[i]? with
   | none=>rw[q]at b;cases b
   | some k=>rw[q]at b;cases b;exact⟨k,rfl,rfl⟩
  have j:=(by have:=n.mem_iff.mp (eO.mpr ⟨i,hk⟩);exact r9.mp this);have y:=T7 j;have f:es[k].2=v:=(by rw[←hkv,aP,y];rfl);refine Ad (x:=v) st.1 st.2.1 u st.2.2 (by rw[←K9,List.toList_toArray,q0,hk];rfl) (by rw[y,←f]) λ z c d=>?_;exact m z ⟨c,st.2.1.at (gq d g),let ⟨o,e,r⟩:=st.2.2;⟨o,gq d B o e,r⟩⟩ d
 ·refine Ae p st.1 st.2.1 u st.2.2 (T8 (by grind)) m
end
section
variable {prog:IA} {w:Iz} {A:IB} {E:Is->Iu->Prop} {s:Iu} {I a:Iv} {es:Iy (Int×Is)} {ep:Nat} {t:IH} {ks:on Int}
theorem Am(d:s.TypeIs (.ref a) "set")(h:Q false s):wpAny IR A (Builtin.List.listLengthHint (.ref a)) Q E s:=by
 unfold Builtin.List.listLengthHint;refine f0 (wpAny_specialOf d F.slot_set_len.lookup ?_);generalize c:("set.__len__" : IJ)=id0
 wp_delta
 rw[show splitId id0=some ("set","__len__")from by subst c;decide +kernel];subst c;refine f0 (cw (b:=true) d (by rw[jv];kernel_rfl) ?_);refine jr (λ z=>absurd z IL) λ _=>?_
 refine jr (λ _=>?_) λ z=>absurd (by decide +kernel) z;exact f0 (fC d (g7 h))
theorem qw{S:Iv}{fp:on Iv}{n c0:Nat}{ws:on Is}{St:Nat->Iw->Prop}{c:Bool->Bool}{s1:Iu}{res:Is}{R:Result->Iu->Prop}{EE:Is->Iu->Prop}(W:Nx prog w I fp n ws St)(hh:A.handled=none)(hn:n<=sizeLine)(hSf:S∉fp)
  (hT:s1.TypeIs (.ref a) "set") (st:St 0 s1.heap) (hS:s1.heap.get? S=some {cls:=.type "list",data:=.seq #[] c0})
  (hR:∀h' tk acc c',(∀b o,b≠S->b≠I->s1.heap.get? b=some o->h'.get? b=some o)->h'.get? S=some {cls:=.type "list",dict:=none,data:=.seq acc c',slots:=#[]} -> acc.toList=ws->R (.ok (.ret res)) {s1 with heap:=h',toks:=tk}) (hw:ws.length=n) :
  wpAny IR A.in1 (do
   let room ←holding [Value.ref I] (Builtin.List.listLengthHint (.ref a))
   if c room=true then do
    rule "list.extend.makes-room"
    Builtin.List.listTouch (.ref S)
    again (.builtin "list.extend.loop" ⟨[.ref S,.ref I,res],[]⟩)
   else again (.builtin "list.extend.loop" ⟨[.ref S,.ref I,res],[]⟩))
   (λ fin s'=>match fin with | .done f=>R (.ok f) s' | .again c'=>c'.quiet=true/\codeAny IR A c' R s') EE s1:=by
 have loop:∀(h:Iw) (c1 tk:Nat),St 0 h->(∀b o,b≠S->s1.heap.get? b=some o->h.get? b=some o)->h.get? S=some {cls:=.type "list",data:=.seq #[] c1} ->
   codeAny IR A (.builtin "list.extend.loop" ⟨[.ref S,.ref I,res],[]⟩) R {s1 with heap:=h,toks:=tk}:=λ h c1 tk st1 k e=>by
  refine codeAny_extend_loopS (W A.in1 hh) hn S hSf res n 0 _ #[] c1 rfl (G3 _) st1 e (ItemsOf.nil _) λ s' acc c' hm e' ac=>?_;have b1:s' = {s1 with heap:=s'.heap,toks:=s'.toks}:=(by have q1:s'.gens=s1.gens:=hm.gens;have q2:s'.drawn=s1.drawn:=hm.drawn;have q3:s'.os=s1.os:=hm.os;obtain⟨h',g',d',t',o'⟩:=s';dsimp only at q1 q2 q3;subst q1;subst q2;subst q3;rfl);rw[b1];refine hR s'.heap s'.toks acc c' (λ b o hb hi q=>hm.heap b o (λ z=>?_) (k b o hb q)) e' ?_
  ·rcases i7.mp z with z | z
   ·exact hb z
   ·exact hi (u4.mp z)
  ·refine je λ j=>?_;by_cases hj:j<n
   ·have hj':j<acc.size:=by rw[ac.1];exact hj
    have q1:acc[j]? = some acc[j]:=T7 hj';rw[K9,q1];exact(ac.2 j _ q1).symm
   ·rw[aa (by rw[B6,ac.1];omega),aa IK]
 refine f0 (L4 (Am hT ?_));refine jr (λ _=>?_) λ _=>g7 ⟨U3 F.plain_extend_loop _,loop s1.heap c0 s1.toks st (λ b o _ e=>e) hS⟩;refine f0 (cT (f0 ?_));show wpAny IR A.in1 (updateSeq S (·.push .none) >>= λ _=>updateSeq S (·.pop)) _ _ _;refine f0 (cD hS rfl ?_);have e2:=Z9 (Obj.mapSeq (·.push Value.none)) hS rfl;refine cD (hz:=by seq_fits) e2 rfl ?_;have e3:=Z9 (Obj.mapSeq (·.pop)) e2 rfl;have oth:∀b o,b≠S->s1.heap.get? b=some o->((s1.heap.update S (Obj.mapSeq (·.push Value.none))).update S (Obj.mapSeq (·.pop))).get? b=some o:=λ b o hb e=>
  (eM _ _ (Ne.symm hb)).trans ((eM _ _ (Ne.symm hb)).trans e)
 refine g7 ⟨U3 F.plain_extend_loop _,loop _ _ s1.toks ?_ oth e3⟩;exact(W A.in1 hh).frame 0 s1 _ s1.toks st (k8 _) λ b hb o e=>oth b o (λ z=>hSf (z▸hb)) e
def EndC(s:Iu)(a:Iv)(ws:on Is)(I:Iv)(d:Drawn)(r:Result)(s':Iu):Prop:=
 ∃h' tk acc c',r=.ok (.ret (.ref s.heap.objs.size))/\s' = {s with heap:=h',toks:=tk,drawn:=d} /\ h'.get? s.heap.objs.size=some {cls:=.type "list",dict:=none,data:=.seq acc c',slots:=#[]} /\ acc.toList=ws /\
  ∀b o,b≠s.heap.objs.size->b≠I->s.heap.get? b=some o->h'.get? b=some o
theorem An(hh:A.handled=none)(hS:SetI prog w s.heap a ks)
  (h:∀K m g d,IntsAre K (K.map P0)->(K.map P0).Perm ks->(∀b o,s.heap.get? b=some o->m.get? b=some o)->s.heap.objs.size<m.objs.size->Q K {s with heap:=m,toks:=g,drawn:=d}):wpAny IR A (collect (.ref a)) Q E s:=by
 obtain⟨o,es,P,t,ho,hx,hd,a2,hp,hb,hf,ht⟩:=id hS;have hz:es.size<=sizeLine:=jb hb;have M:∀K:on Is,K.Perm (es.toList.map (·.2))->IntsAre K (K.map P0)/\(K.map P0).Perm ks:=λ K p=>by
  refine⟨?_,(p.map _).trans (by rw[q5];exact hp)⟩;have all:∀v∈K,∃g,v=.int (P0 v) g:=λ v hv=>by obtain⟨e,he,q⟩:=i8.mp (p.mem_iff.mp hv);obtain⟨g,y⟩:=qe a2 he;exact⟨g,by rw[←q];exact y⟩
  clear p
  induction K with
  | nil=>exact .nil
  | cons v r ih=>
   obtain⟨g,e⟩:=all v (o5 ..);rw[B3];have q:=ih λ u hu=>all u (o4 _ hu)
   generalize hn:P0 v=n at e;subst e;exact .cons n g q
 have L:a<s.heap.objs.size:=n7 ho;unfold collect;refine f0 (wpAny_runValue (U2 F.entry_proto_collect ?_));rw[W1 F.plain_proto_collect];show wpAny IR A.in1 _ _ _ s;refine f0 (E8 ?_);refine g7 ⟨U3 F.plain_list_iadd _,U2 F.entry_list_iadd ?_⟩;rw[W1 F.plain_list_iadd];have a0:(IP).get? s.heap.objs.size=some {cls:=.type "list",data:=.seq ([]:on Is).toArray}:=t8 _ rfl;have O:J7 IP a es P t:=⟨o,k6 _ ho,hx,hd⟩;show wpAny IR A.in1 (Builtin.List.listExtendWith (.ref s.heap.objs.size) (.ref a) (.ref s.heap.objs.size)) _ _ _;unfold Builtin.List.listExtendWith;refine f0 (fC (T:="set") ⟨o,k6 _ ho,hx.1⟩ ?_);have h1:Builtin.List.listSameRef (.ref s.heap.objs.size) (.ref a)=false:=(by unfold Builtin.List.listSameRef;exact B5.mpr (R4 L));have h2:(Value.type "set" == Value.type "list")=false:=by decide
 have h3:(Value.type "set" == Value.type "tuple")=false:=by decide
 simp only[h1,h2,h3,Bool.or_false,aU,if_false];refine f0 (Ag (t:=t) O hf hz ?_ ?_)
 ·intro a1;have N:a≠(IP).objs.size:=by rw[G7];exact t9 (M7 L)
  have X:s.heap.objs.size∉[(IP).objs.size,a]:=λ z=>by
   rw[G7]at z;rcases i7.mp z with z | z
   ·exact absurd z (t9 (P6 _))
   ·exact absurd (u4.mp z) (R4 L)
  obtain⟨S,St,p,W,st⟩:∃S St,S.Perm (es.toList.map (·.2))/\Nx prog w (s.heap.push {cls:=.type "list",data:=.seq ([]:on Is).toArray}).objs.size _ es.size S St /\
    St 0 _:=by
   by_cases I:E6 w=true
   ·exact⟨_,_,(qd _ es).map _,Aj (t:=t) (ep:=P) I hf N,kH,O.at λ _=>k6 _⟩
   ·have I:E6 w=false:=by simpa using I
    rw[I]at a1;exact⟨_,_,.rfl,Ak (ep:=P) I (by grind) ht hf N,kH,O.at λ _=>k6 _,G3 _⟩
  refine D9 (qw (A:=A) (a:=a) (c0:=0) (R:=EndC s a S (IP).objs.size s.drawn)
   W hh hz X ⟨o,k6 _ (k6 _ ho),hx.1⟩ st (k6 _ a0) (λ m g c B k e Z=>⟨m,g,c,B,rfl,rfl,e,Z,λ b u h1 h2 q=>k b u h1 h2 (k6 _ (k6 _ q))⟩) (by rw[p.length_eq,g6,B6])) ?_ λ _ _ e=>e
  have x:∀r H,EndC s a S (IP).objs.size s.drawn r H->∃m g c B,r=.ok (.ret (.ref s.heap.objs.size))/\H = {s with heap:=m,toks:=g} /\ m.get? s.heap.objs.size=some {cls:=.type "list",dict:=none,data:=.seq c B,slots:=#[]} /\ Q c.toList H:=λ r H ⟨m,g,c,B,J,y,e,Z,k⟩=>by obtain⟨q1,q2⟩:=M S p;refine⟨m,g,c,B,J,y,e,?_⟩;rw[Z,y];refine h S m g s.drawn q1 q2 (λ b u q=>k b u (t9 (n7 q)) ?_ q) (n7 e);rw[G7];exact t9 (M7 (n7 q))
  intro Y H C;cases Y with
  | done f=>
   obtain⟨m,g,c,B,J,y,e,U⟩:=x _ _ C;cases J;subst y;exact f0 (cR e (g7 U))
  | again B=>
   refine⟨C.1,P7 C.2 λ r H hr=>?_⟩;obtain⟨m,g,c,B,J,y,e,U⟩:=x _ _ hr;subst J;subst y;exact f0 (cR e (g7 U))
 ·intro l d I pl;have z1:(IP).objs.size=s.heap.objs.size+1:=G7 _ _;have hl:l.length=es.size:=by rw[pl.length_eq,A6]
  have p:(l.map λ i=>(es.getD i (0,.none)).2).Perm (es.toList.map (·.2)):=by
   refine(pl.map _).trans (List.Perm.of_eq ?_);refine je λ j=>?_;have J:es.toList[j]? = es[j]?:=K9;rw[q0,q0,J];by_cases hj:j<es.size
   ·rw[eV hj,O5,aP,T7 hj];rfl
   ·have y:(List.range es.size)[j]? = none:=aa (by grind);rw[y,T8 IK];rfl
  have N:a≠(IP).objs.size+1:=by rw[z1];exact t9 (M7 (M7 L))
  have X:s.heap.objs.size∉[(IP).objs.size+1,a,(IP).objs.size]:=λ z=>by
   rw[z1]at z;rcases i7.mp z with z | z
   ·exact absurd z (t9 (M7 (P6 _)))
   ·rcases i7.mp z with z | z
    ·exact absurd z (R4 L)
    ·exact absurd (u4.mp z) (t9 (P6 _))
  have W:=Al (prog:=prog) (w:=w) (ep:=P) (t:=t) pl hf N (t9 (P6 _));have hI:F8 (((IP).push (gp l)).push (gn (.ref (IP).objs.size) a es.size P))
    ((IP).objs.size+1) a (.ref (IP).objs.size) 0 es.size P:=by
   have:=kH (a:=a) (ep:=P) (h:=(IP).push (gp l)) (f:=.ref (IP).objs.size) (n:=es.size);have z2:((IP).push (gp l)).objs.size=(IP).objs.size+1:=G7 _ _;rw[z2]at this;exact this
  refine D9 (qw (A:=A) (a:=a) (c0:=0) (R:=EndC s a (l.map λ i=>(es.getD i (0,.none)).2) ((IP).objs.size+1) d)
   W hh hz X ⟨o,k6 _ (k6 _ (k6 _ ho)),hx.1⟩ ⟨hI,O.at λ _ e=>k6 _ (k6 _ e),⟨_,k6 _ (t8 _ rfl),rfl,_,rfl⟩⟩ (k6 _ (k6 _ a0)) (λ m g c B k e Z=>⟨m,g,c,B,rfl,rfl,e,Z,λ b u h1 h2 q=>k b u h1 h2 (k6 _ (k6 _ (k6 _ q)))⟩) (by grind)) ?_ λ _ _ e=>e
  have x:∀r H,EndC s a (l.map λ i=>(es.getD i (0,.none)).2) ((IP).objs.size+1) d r H->∃m g c B,r=.ok (.ret (.ref s.heap.objs.size))/\H = {s with heap:=m,toks:=g,drawn:=d} /\ m.get? s.heap.objs.size=some {cls:=.type "list",dict:=none,data:=.seq c B,slots:=#[]} /\ Q c.toList H:=λ r H ⟨m,g,c,B,J,y,e,Z,k⟩=>by obtain⟨q1,q2⟩:=M _ p;refine⟨m,g,c,B,J,y,e,?_⟩;rw[Z,y];refine h _ m g d q1 q2 (λ b u q=>k b u (t9 (n7 q)) ?_ q) (n7 e);rw[z1];exact t9 (M7 (M7 (n7 q)))
  intro Y H C;cases Y with
  | done f=>
   obtain⟨m,g,c,B,J,y,e,U⟩:=x _ _ C;cases J;subst y;exact f0 (cR e (g7 U))
  | again B=>
   refine⟨C.1,P7 C.2 λ r H hr=>?_⟩;obtain⟨m,g,c,B,J,y,e,U⟩:=x _ _ hr;subst J;subst y;exact f0 (cR e (g7 U))
theorem Ao(B:A.handled=none)(F:SetI prog w s.heap a ks)(H:ks.length<64)
  (h:∀k g d p c f e,(∀b o,s.heap.get? b=some o->k.get? b=some o)->s.heap.objs.size<=p->k.get? p=some (seqObj "list" c e)->IntsAre c.toList f->f.Perm ks->f.Pairwise (· <= ·)->Q (.ref p) {s with heap:=k,toks:=g,drawn:=d}) :
  wpAny IR A (call (.builtin "sorted") [.ref a]) Q E s:=by
 refine Calls.call_function_entry kind_sorted plain_sorted entry_sorted (args_sorted1 _) ?_
 unfold Builtin.«sorted»;refine f0 (g7 ?_);refine f0 (An (B) F λ c n g d y p1 l r=>?_);have z:c.length<64:=by have:=p1.length_eq;rw[g6]at this;omega
 refine f0 (wpAny_newList ?_ (by rw[cN];omega));have j:(n.push (seqObj "list" c.toArray 0)).get? n.objs.size=some _:=t8 _ rfl;refine f0 (L4 (K2 slot_list_sort ⟨_,j,rfl⟩ entry_list_sort (list_sort_tree j y z λ i f x v u=>⟨_,rfl,?_⟩) (args_list_sort _)));refine g7 ⟨_,rfl,?_⟩;obtain⟨e,C⟩:=sortedHeap_at j;refine h _ g d _ i f e (λ b o q=>?_) (U4 r) C x (v.trans p1) u;have m:=n7 (l b o q);rw[sortedHeap_old (t9 m) (by rw[size_push'];exact M7 m)];exact k6 _ (l b o q)
end
theorem gr{l:on Int}(h:i<l.length):l.getD i 0∈l:=by
 rw[p6,k7 h];exact M8 h
theorem minL{prog:IA}{w:Iz}{A:IB}{E:Is->Iu->Prop}{s:Iu}{l:Iv}{vs:on Is}{ns:on Int}{Q:Is->Iu->Prop}(hh:A.handled=none)(hl:s.heap.IsList l vs.toArray)(hi:IntsAre vs ns)(hz:ns≠[])
  (h:∀h' M (t:Tok) tk,(∀b o,s.heap.get? b=some o->h'.get? b=some o)->M∈ns->(∀a∈ns,M<=a)->Q (.int M t) {s with heap:=h',toks:=tk}):wpAny IR A (call (.builtin "min") [.ref l]) Q E s:=by
 obtain⟨ys,e⟩:=hi.allInts.items;have en:ns=ys.toList.map (·.1):=by rw[←hi.numsOf,←cI,←e]
 have zy:0<ys.size:=by
  have q:0<ns.length:=eW.mpr hz
  rwa [en,g6,B6]at q
 rw[e]at hl;refine min_intList hh hl zy λ v h1 tk q k=>?_
 obtain⟨t,ev⟩:=bj q;subst ev;obtain⟨g1,g2⟩:=argBest_lt (numAt ys) (ys.size - 1);refine h h1 _ t tk k ?_ λ a ha=>?_
 ·rw[en,X2];exact gr (by rw[g6,B6];omega)
 ·rw[en]at ha;obtain⟨j,hj,ej⟩:=mem_getD ha;subst ej;rw[g6,B6]at hj;rw[←X2];exact g2 j IK
theorem maxL{prog:IA}{w:Iz}{A:IB}{E:Is->Iu->Prop}{s:Iu}{l:Iv}{vs:on Is}{ns:on Int}{Q:Is->Iu->Prop}(hh:A.handled=none)(hl:s.heap.IsList l vs.toArray)(hi:IntsAre vs ns)(hz:ns≠[])
  (h:∀h' M (t:Tok) tk,(∀b o,s.heap.get? b=some o->h'.get? b=some o)->M∈ns->(∀a∈ns,a<=M)->Q (.int M t) {s with heap:=h',toks:=tk}):wpAny IR A (call (.builtin "max") [.ref l]) Q E s:=by
 obtain⟨ys,e⟩:=hi.allInts.items;have en:ns=ys.toList.map (·.1):=by rw[←hi.numsOf,←cI,←e]
 have zy:0<ys.size:=by
  have q:0<ns.length:=eW.mpr hz
  rwa [en,g6,B6]at q
 rw[e]at hl;refine max_intList hh hl zy λ v h1 tk q k=>?_
 obtain⟨t,ev⟩:=bj q;subst ev;obtain⟨g1,g2⟩:=argBest_gt (numAt ys) (ys.size - 1);refine h h1 _ t tk k ?_ λ a ha=>?_
 ·rw[en,X2];exact gr (by rw[g6,B6];omega)
 ·rw[en]at ha;obtain⟨j,hj,ej⟩:=mem_getD ha;subst ej;rw[g6,B6]at hj;rw[←X2];exact g2 j IK
theorem extL(e:s.heap.get? l=some {cls:=.type "list",data:=.seq items n})(m:s.heap.IsList b new\/IsTup s.heap b new)(k:items.size+new.size<=sizeLine)
  (h:Q .none {s with heap:=s.heap.update l (Obj.mapSeq (· ++ new))}):wpAny IR A (call (.builtin "list.extend") [.ref l,.ref b]) Q E s:=by
 refine K2 F.slot_list_extend (⟨_,e,rfl⟩) F.entry_list_extend ?_ (F.args_list_extend_2 _ _);unfold Builtin.«list.extend»;refine f0 (g7 ?_);show wpAny _ _ _ _ _ _;unfold Builtin.List.listExtendWith;obtain⟨a,eb,T,hT,j,hd⟩:∃a,s.heap.get? b=some a/\∃T:IJ,(a.cls=.type T/\(T = "list" \/ T = "tuple"))/\∃j,a.data=.seq new j:=by
  rcases m with⟨o,i,g,f,d⟩ | ⟨o,i,g,f,d⟩
  ·exact⟨o,i,"list",⟨g,.inl rfl⟩,f,d⟩
  ·exact⟨o,i,"tuple",⟨g,.inr rfl⟩,f,d⟩
 refine f0 (fC ⟨a,eb,hT.1⟩ ?_);have c:(Builtin.List.listSameRef (.ref l) (.ref b)||Value.type T == .type "list" || Value.type T == .type "tuple")=true:=by
  rcases hT.2 with z | z<;>subst z
  ·rw[show(Value.type "list" == Value.type "list")=true by decide,jF,jG]
  ·rw[show(Value.type "tuple" == Value.type "tuple")=true by decide,jF]
 rw[f8 c];refine f0 (listItems_at eb hd (f0 (listItems_at e rfl ?_)));rw[g8 (by rw[pG k,Bool.and_false];exact B1)];refine f0 (listUpdate_at e rfl ?_ IK (by grind));exact g7 ⟨_,rfl,h⟩
def Ap(K:IE):V->on V->Hp->VK->Prop:=λ x vs H Q=>∃l b xs zs,x=.ref l/\vs=[.ref b]/\H l=some (.lst xs)/\(SqL K H b zs\/SqT K H b zs)/\xs.length+zs.length<=sizeLine/\Q .non (upd H l (.lst (xs++zs)))
theorem Aq:MtM X "list.extend" (Ap X.K):=by
 intro g s σ H x vs v us Q I k m h;obtain⟨l,b,xs,j,rfl,rfl,i,d,hz,q⟩:=h;cases k;obtain⟨u,rfl,o⟩:=m.one;cases o;obtain⟨z,p,n,r,hl,e⟩:=I.lstM i;obtain⟨a,c,ob⟩:∃a:on Is,Vals j a/\(s.heap.IsList b a.toArray\/IsTup s.heap b a.toArray):=by
  rcases d with d | d
  ·obtain⟨a,c,f,_⟩:=I.list d;exact⟨a,c,.inl f.isList⟩
  ·obtain⟨a,c,f,_⟩:=I.tuple d;exact⟨a,c,.inr f⟩
 have e2:=c.length;refine extL e ob (by grind) ?_;refine⟨.non,_,I.lset i e IX (r.append c) ?_,rfl,q⟩;rw[u0];omega
theorem ap:∀{b:on Int} {a:on Is},Vals (b.map V.int) a->IntsAre a b
 | [],a,h=>by cases h;exact .nil
 | n::b,a,h=>by
  cases h with
  | cons r t=>
   obtain⟨c,rfl⟩:=r;exact .cons n c (ap t)
theorem qx:∀{a:on Int} {us:on Is},IntsAre us a->Vals (a.map V.int) us
 | _,_,.nil=>.nil
 | _,_,.cons n t h=>.cons ⟨t,rfl⟩ (qx h)
theorem Ar(o:X.calm=true):B9 X (.builtin "min") (λ c H Q=>∃(a:Iv) (b:on Int),c=[.ref a]/\SqL X.K H a (b.map V.int)/\b≠[]/\∀M,M∈b->(∀x∈b,M<=x)->Q (.int M) H):=by
 intro d s σ H c us Q I r h;obtain⟨a,b,rfl,n,m,q⟩:=h;obtain⟨u,rfl,f⟩:=K3 r;cases f;obtain⟨l,e,g,_⟩:=I.list n;exact minL (I.ok.hd o) g.isList (ap e) m λ h' M t tk k j i=>⟨.int M,H,I.kept k,⟨t,rfl⟩,q M j i⟩
theorem As(m:X.calm=true):B9 X (.builtin "max") (λ c H Q=>∃(a:Iv) (b:on Int),c=[.ref a]/\SqL X.K H a (b.map V.int)/\b≠[]/\∀M,M∈b->(∀x∈b,x<=M)->Q (.int M) H):=by
 intro d s σ H c us Q I r h;obtain⟨a,b,rfl,l,j,q⟩:=h;obtain⟨u,rfl,r1⟩:=K3 r;cases r1;obtain⟨i,rv,e,_⟩:=I.list l;exact maxL (I.ok.hd m) e.isList (ap rv) j λ h' M t tk k g f=>⟨.int M,H,I.kept k,⟨t,rfl⟩,q M g f⟩
noncomputable def setO(P:IA)(w:Iz)(a:Iv)(ks:on Int):HO:=.ext λ h=>SetI P w h a ks
theorem At{P:IA}{w:Iz}{H:Hp}{h:Iw}{a:Iv}{ks:on Int}(x:SetI P w h a ks):u9 P w H h a (setO P w a ks):=
 ⟨x,let ⟨o,_,_,_,e,_⟩:=x;⟨o,e⟩,λ h1 h2 q k=>q.at k⟩
theorem Au(a:on Int):fm (λ i=>a.getD i 0) a.length=a.foldl dk []:=by
 unfold fm
 congr 1
 refine je λ j=>?_;rw[q0];by_cases b:j<a.length
 ·rw[eV b,O5,p6,k7 b];rfl
 ·rw[aa (by grind),aa IK];rfl
theorem qy(n:X.calm=true):B9 X (.type "set") (λ e H Q=>∃(a:Iv) (b:on Int),e=[.ref a]/\SqL X.K H a (b.map V.int)/\b.length<4000/\∀p,H p=none->Q (.ref p) (upd H p (setO X.prog X.w p (b.foldl dk [])))):=by
 intro g s σ H e us Q I r h;obtain⟨a,b,rfl,m,hz,q⟩:=h;obtain⟨u,rfl,j⟩:=K3 r;cases j;obtain⟨c,f,l,_⟩:=I.list m;have i:c.length=b.length:=by rw[←f.length,g6]
 refine Ab (I.ok.hd n) l.isList (ap f) (by rw[v3,i];show _<4096;omega) λ h' tk S k=>?_;have d:c.toArray.size=b.length:=by rw[v3,i]
 rw[d,Au]at S;exact⟨.ref s.heap.objs.size,_,I.laid k (k8 _) (At S),rfl,q _ I.fresh⟩
theorem Av : B9 X (.builtin "len") (λ a H Q => ∃ (p : Iv) (ks : on Int), a = [.ref p] /\ H p = some (setO X.prog X.w p ks) /\ Q (.int ks.length) H) := by
  intro b s σ H a us Q I r h;obtain ⟨p, ks, rfl, f, q⟩ := h;obtain ⟨u, rfl, r1⟩ := K3 r;cases r1;obtain ⟨o, g, ep, t, e1, e2, e3, _, c, hb, hf, _⟩ : SetI X.prog X.w s.heap p ks := (I.hok p _ f).1;have d : g.size = ks.length := by rw [← c.length_eq, g6, B6]
  refine call_len_set e1 e2 e3 hf (by have : scanBound <= 2 ^ 62 := by decide +kernel
                                      omega) ⟨.int ks.length, H, I.tok _, ⟨_, by rw [d]⟩, q⟩
theorem Aw(z:X.calm=true):B9 X (.builtin "sorted") (λ l H Q=>∃(p:Iv) (f:on Int),l=[.ref p]/\H p=some (setO X.prog X.w p f)/\f.length<64/\∀(q:Iv) (i:on Int),H q=none->i.Perm f->i.Pairwise (· <= ·)->Q (.ref q) (upd H q (.lst (i.map V.int)))):=by
 intro m s σ H l us Q I r h;obtain⟨p,f,rfl,A,x,q⟩:=h;obtain⟨u,rfl,w⟩:=K3 r;cases w;refine Ao (I.ok.hd z) ((I.hok p _ A).1) x λ B v d c o g e k n he y b j=>?_
 have hl:g.length<=sizeLine:=(by rw[b.length_eq,cN];omega);have ok:u9 X.prog X.w (upd H c (.lst (g.map V.int))) B c (.lst _):=⟨by rwa [g6],o.toList,e,(qx y),by rwa [Array.toArray_toList]⟩;have a:=I.laid (t':=v) k n ok;refine⟨.ref c,_,?_,rfl,q c g (I.hok.fresh n) b j⟩;exact⟨a.ok,a.os,a.bare,a.base,a.loc,a.cell,a.free,a.freeC,a.pin,a.hok,a.len⟩
open PySem.Calls PySem.W
theorem Ax(p:A.handled=none)(f:s.heap.IsTuple t (intItems xs))(g:0<xs.size)
  (h:∀v d tk,(intItems xs)[argBest (λ i j=>decide (numAt xs i<numAt xs j)) (xs.size - 1)]? = some v->(∀b o,s.heap.get? b=some o->d.get? b=some o)->Q v {s with heap:=d,toks:=tk}) :
  wpAny IR A (call (.builtin "min") [.ref t]) Q E s:=by
 obtain⟨o,l,hc,n,hd⟩:=id f;have a:=n7 l;refine call_min_walk (aR f ?_);refine⟨_,_,_,_,_,_,_,rfl,Walks.tuple (A:=A.in1) p _ t (t9 a) (intItems xs),⟨⟨_,t8 _ rfl,rfl,rfl⟩,f.push _⟩,λ b c=>?_,by simpa[intItems]using g,CmpOf.ints_lt (numAt xs) (λ _ _=>bj),λ v d tk q m=>?_⟩
 ·show b<(s.heap.push _).objs.size;rw[G7];rcases i7.mp c with rfl | c
  ·exact P6 _
  ·rcases i7.mp c with rfl | c
   ·exact M7 a
   ·cases c
 ·refine h v d tk (by simpa[intItems]using q) λ b o e=>m b o (λ k=>?_) (k6 _ e);rcases i7.mp k with r | k
  ·exact absurd (r▸n7 e) (M9 _)
  ·cases k
theorem Ay(m:A.handled=none)(d:s.heap.IsTuple t (intItems xs))(f:0<xs.size)
  (h:∀v h' tk,(intItems xs)[argBest (λ i j=>decide (numAt xs i>numAt xs j)) (xs.size - 1)]? = some v->(∀b o,s.heap.get? b=some o->h'.get? b=some o)->Q v {s with heap:=h',toks:=tk}) :
  wpAny IR A (call (.builtin "max") [.ref t]) Q E s:=by
 obtain⟨o,k,hc,n,hd⟩:=id d;have a:=n7 k;refine call_max_walk (aR d ?_);refine⟨_,_,_,_,_,_,_,rfl,Walks.tuple (A:=A.in1) m _ t (t9 a) _,⟨⟨_,t8 _ rfl,rfl,rfl⟩,d.push _⟩,λ b c=>?_,by simpa[intItems]using f,CmpOf.ints_gt _ (λ _ _=>bj),λ v h' tk p l=>?_⟩
 ·show b<(s.heap.push _).objs.size;rw[G7];rcases i7.mp c with rfl | c
  ·exact P6 _
  ·rcases i7.mp c with rfl | c
   ·exact M7 a
   ·cases c
 ·refine h v h' tk (by simpa[intItems]using p) λ b o e=>l b o (λ g=>?_) (k6 _ e);rcases i7.mp g with q | g
  ·exact absurd (q▸n7 e) (M9 _)
  ·cases g
theorem minT{prog:IA}{w:Iz}{A:IB}{E:Is->Iu->Prop}{s:Iu}{l:Iv}{vs:on Is}{ns:on Int}{Q:Is->Iu->Prop}(hh:A.handled=none)(hl:s.heap.IsTuple l vs.toArray)(hi:IntsAre vs ns)(hz:ns≠[])
  (h:∀h' M (t:Tok) tk,(∀b o,s.heap.get? b=some o->h'.get? b=some o)->M∈ns->(∀a∈ns,M<=a)->Q (.int M t) {s with heap:=h',toks:=tk}):wpAny IR A (call (.builtin "min") [.ref l]) Q E s:=by
 obtain⟨ys,e⟩:=hi.allInts.items;have en:ns=ys.toList.map (·.1):=by rw[←hi.numsOf,←cI,←e]
 have zy:0<ys.size:=by
  have q:0<ns.length:=eW.mpr hz
  rwa [en,g6,B6]at q
 rw[e]at hl;refine Ax hh hl zy λ v h1 tk q k=>?_
 obtain⟨t,ev⟩:=bj q;subst ev;obtain⟨g1,g2⟩:=argBest_lt (numAt ys) (ys.size - 1);refine h h1 _ t tk k ?_ λ a ha=>?_
 ·rw[en,X2];exact gr (by rw[g6,B6];omega)
 ·rw[en]at ha;obtain⟨j,hj,ej⟩:=mem_getD ha;subst ej;rw[g6,B6]at hj;rw[←X2];exact g2 j IK
theorem maxT{prog:IA}{w:Iz}{A:IB}{E:Is->Iu->Prop}{s:Iu}{l:Iv}{vs:on Is}{ns:on Int}{Q:Is->Iu->Prop}(hh:A.handled=none)(hl:s.heap.IsTuple l vs.toArray)(hi:IntsAre vs ns)(hz:ns≠[])
  (h:∀h' M (t:Tok) tk,(∀b o,s.heap.get? b=some o->h'.get? b=some o)->M∈ns->(∀a∈ns,a<=M)->Q (.int M t) {s with heap:=h',toks:=tk}):wpAny IR A (call (.builtin "max") [.ref l]) Q E s:=by
 obtain⟨ys,e⟩:=hi.allInts.items;have en:ns=ys.toList.map (·.1):=by rw[←hi.numsOf,←cI,←e]
 have zy:0<ys.size:=by
  have q:0<ns.length:=eW.mpr hz
  rwa [en,g6,B6]at q
 rw[e]at hl;refine Ay hh hl zy λ v h1 tk q k=>?_
 obtain⟨t,ev⟩:=bj q;subst ev;obtain⟨g1,g2⟩:=argBest_gt (numAt ys) (ys.size - 1);refine h h1 _ t tk k ?_ λ a ha=>?_
 ·rw[en,X2];exact gr (by rw[g6,B6];omega)
 ·rw[en]at ha;obtain⟨j,hj,ej⟩:=mem_getD ha;subst ej;rw[g6,B6]at hj;rw[←X2];exact g2 j IK
theorem Az(o:X.calm=true):B9 X (.builtin "min") (λ c H Q=>∃(a:Iv) (b:on Int),c=[.ref a]/\SqT X.K H a (b.map V.int)/\b≠[]/\∀M,M∈b->(∀x∈b,M<=x)->Q (.int M) H):=by
 intro d s σ H c us Q I r h;obtain⟨a,b,rfl,n,m,q⟩:=h;obtain⟨u,rfl,f⟩:=K3 r;cases f;obtain⟨l,e,g,_⟩:=I.tuple n;exact minT (I.ok.hd o) g (ap e) m λ h' M t tk k j i=>⟨.int M,H,I.kept k,⟨t,rfl⟩,q M j i⟩
theorem AA(m:X.calm=true):B9 X (.builtin "max") (λ c H Q=>∃(a:Iv) (b:on Int),c=[.ref a]/\SqT X.K H a (b.map V.int)/\b≠[]/\∀M,M∈b->(∀x∈b,x<=M)->Q (.int M) H):=by
 intro d s σ H c us Q I r h;obtain⟨a,b,rfl,l,j,q⟩:=h;obtain⟨u,rfl,r1⟩:=K3 r;cases r1;obtain⟨i,rv,e,_⟩:=I.tuple l;exact maxT (I.ok.hd m) e (ap rv) j λ h' M t tk k g f=>⟨.int M,H,I.kept k,⟨t,rfl⟩,q M g f⟩
theorem sumL{prog:IA}{w:Iz}{A:IB}{E:Is->Iu->Prop}{s:Iu}{l:Iv}{vs:on Is}{ns:on Int}{Q:Is->Iu->Prop}(hh:A.handled=none)(hl:s.heap.IsList l vs.toArray)(hi:IntsAre vs ns)
  (h:∀h' tk t,(∀b o,s.heap.get? b=some o->h'.get? b=some o)->Q (.int ns.sum t) {s with heap:=h',toks:=tk}):wpAny IR A (call (.builtin "sum") [.ref l]) Q E s:=by
 obtain⟨ys,e⟩:=hi.allInts.items;have en:ns=ys.toList.map (·.1):=by rw[←hi.numsOf,←cI,←e]
 rw[e]at hl;refine sum_intListG hh hl λ h' tk t' hk=>?_
 have:=h h' tk t' hk;rw[preSum_eq,iP IX];rw[en]at this;exact this
theorem AB(l:X.calm=true):B9 X (.builtin "sum") (λ c H Q=>∃(a:Iv) (b:on Int),c=[.ref a]/\SqL X.K H a (b.map V.int)/\Q (.int b.sum) H):=by
 intro d s σ H c us Q I r h;obtain⟨a,b,rfl,j,q⟩:=h;obtain⟨u,rfl,f⟩:=K3 r;cases f;obtain⟨i,e,g,_⟩:=I.list j;exact sumL (I.ok.hd l) g.isList (ap e) λ h' tk t k=>⟨.int _,H,I.kept k,⟨t,rfl⟩,q⟩
noncomputable section
open PySem
structure Sg where
 N:List Str
 sc:List (Str×NameKind)
 fn:List Str
 bl:List Str
 cl:List Str
 top:Bool
 lp:Bool
 co:Arguments->List Stmt->Scope->List Str->Bool
noncomputable def noCo:IG->on IC->IF->on Str->Bool:=λ _ _ _ _=>false
noncomputable def t5:Ix->Bool | .Starred _ _=>true | _=>false
noncomputable def V0:Ix->Bool | .Slice _ _ _ _=>true | _=>false
noncomputable def J8:Ix->Bool | .Set _ _ _=>true | _=>false
noncomputable def aq:Ix->Bool | .ListComp _ _ _ _=>true | .SetComp _ _ _ _=>true | .DictComp _ _ _ _ _=>true | _=>false
noncomputable def any1{α:Type}(o:Ir α)(f:α->Bool):Bool:=o.rec false f
theorem C9(h:any1 o f=true):∃a,o=some a/\f a=true:=by
 cases o with
 | none=>cases h
 | some a=>exact⟨a,rfl,h⟩
@[elab_as_elim] theorem au{o:Ir b}(h:any1 o f=true){C:Ir b->Prop}(k:∀a,f a=true->C (some a)):C o:=let ⟨_,q,h⟩:=C9 h;Eq.mpr (congrArg C q) (k _ h)
noncomputable def inNo{α:Type}(o:Ir α)(f:Bool):Bool:=o.rec f λ _=>false
@[elab_as_elim] theorem N4{o:Ir b}(h:inNo o f=true){C:Ir b->Prop}(k:f=true->C none):C o:=by
 cases o with
 | none=>exact k h
 | some a=>cases h
noncomputable def in0{α:Type}(l:on α)(f:Bool):Bool:=l.rec f λ _ _ _=>false
@[elab_as_elim] theorem F9{l:on b}(h:in0 l f=true){C:on b->Prop}(k:f=true->C []):C l:=by
 cases l with
 | nil=>exact k h
 | cons a r=>cases h
noncomputable def inC{α:Type}(l:on α)(f:α->on α->Bool):Bool:=l.rec false λ a r _=>f a r
@[elab_as_elim] theorem qz{f:b->on b->Bool}(h:inC l f=true){C:on b->Prop}(k:∀a r,f a r=true->C (a::r)):C l:=by
 cases l with
 | nil=>cases h
 | cons a r=>exact k a r h
def in1{α:Type}(l:on α)(f:α->Bool):Bool:=inC l λ a r=>in0 r (f a)
@[elab_as_elim] theorem N5{f:b->Bool}(h:in1 l f=true){C:on b->Prop}(k:∀a,f a=true->C [a]):C l:=qz h λ a _ h=>F9 h (k a)
theorem AC(h:in1 l f=true):∃a,l=[a]/\f a=true:=N5 h λ a h=>⟨a,rfl,h⟩
def in2{α:Type}(l:on α)(f:α->α->Bool):Bool:=inC l λ a r=>in1 r (f a)
@[elab_as_elim] theorem X9{f:c->c->Bool}(h:in2 l f=true){C:on c->Prop}(k:∀a b,f a b=true->C [a,b]):C l:=qz h λ a _ h=>N5 h (k a)
noncomputable def qA(e:Ix):Ir {t:Str×Pos // e=.Name t.1 t.2}:=match e with | .Name x p=>some ⟨(x,p),rfl⟩ | _=>none
@[irreducible] def J9(e:Ix)(f:Str->Bool):Bool:=any1 (qA e) λ t=>f t.1.1
@[elab_as_elim] theorem K5(h:J9 e g=true){C:Ix->Prop}(k:∀x p,g x=true->C (.Name x p)):C e:=by
 unfold J9 at h;exact let ⟨t,_,h⟩:=C9 h;Eq.mpr (congrArg C t.2) (k _ _ h)
noncomputable def AD(e:Ix):Ir {t:Const×Nat×Pos // e=.Constant t.1 t.2.1 t.2.2}:=match e with | .Constant x k p=>some ⟨(x,k,p),rfl⟩ | _=>none
noncomputable def qB(e:Ix):Ir {t:Ix×Operator×Ix×Pos // e=.BinOp t.1 t.2.1 t.2.2.1 t.2.2.2}:=match e with | .BinOp a o b p=>some ⟨(a,o,b,p),rfl⟩ | _=>none
@[irreducible] def kR(e:Ix)(f:Ix->Operator->Ix->Bool):Bool:=any1 (qB e) λ t=>f t.1.1 t.1.2.1 t.1.2.2.1
@[elab_as_elim] theorem qC(h:kR e g=true){C:Ix->Prop}(k:∀a o b p,g a o b=true->C (.BinOp a o b p)):C e:=by
 unfold kR at h;exact let ⟨t,_,h⟩:=C9 h;Eq.mpr (congrArg C t.2) (k _ _ _ _ h)
noncomputable def AE(e:Ix):Ir {t:UnaryOp×Ix×Pos // e=.UnaryOp t.1 t.2.1 t.2.2}:=match e with | .UnaryOp o a p=>some ⟨(o,a,p),rfl⟩ | _=>none
@[irreducible] def inUn(e:Ix)(f:UnaryOp->Ix->Bool):Bool:=any1 (AE e) λ t=>f t.1.1 t.1.2.1
@[elab_as_elim] theorem gu(h:inUn e g=true){C:Ix->Prop}(k:∀o a p,g o a=true->C (.UnaryOp o a p)):C e:=by
 unfold inUn at h;exact let ⟨t,_,h⟩:=C9 h;Eq.mpr (congrArg C t.2) (k _ _ _ h)
noncomputable def AF(e:Ix):Ir {t:Ix×(on CmpOp)×(on Ix)×Pos // e=.Compare t.1 t.2.1 t.2.2.1 t.2.2.2}:=match e with | .Compare a os bs p=>some ⟨(a,os,bs,p),rfl⟩ | _=>none
@[irreducible] def gw(e:Ix)(f:Ix->(on CmpOp)->(on Ix)->Bool):Bool:=any1 (AF e) λ t=>f t.1.1 t.1.2.1 t.1.2.2.1
@[elab_as_elim] theorem qD(h:gw e g=true){C:Ix->Prop}(k:∀a b bs p,g a b bs=true->C (.Compare a b bs p)):C e:=by
 unfold gw at h;exact let ⟨t,_,h⟩:=C9 h;Eq.mpr (congrArg C t.2) (k _ _ _ _ h)
noncomputable def AG(e:Ix):Ir {t:BoolOp×(on Ix)×Pos // e=.BoolOp t.1 t.2.1 t.2.2}:=match e with | .BoolOp o es p=>some ⟨(o,es,p),rfl⟩ | _=>none
@[irreducible] def gx(e:Ix)(f:BoolOp->(on Ix)->Bool):Bool:=any1 (AG e) λ t=>f t.1.1 t.1.2.1
@[elab_as_elim] theorem gy(h:gx e g=true){C:Ix->Prop}(k:∀o a p,g o a=true->C (.BoolOp o a p)):C e:=by
 unfold gx at h;exact let ⟨t,_,h⟩:=C9 h;Eq.mpr (congrArg C t.2) (k _ _ _ h)
noncomputable def AH(e:Ix):Ir {t:(on Ix)×Pos // e=.List t.1 t.2}:=match e with | .List es p=>some ⟨(es,p),rfl⟩ | _=>none
@[irreducible] def kS(e:Ix)(f:(on Ix)->Bool):Bool:=any1 (AH e) λ t=>f t.1.1
@[elab_as_elim] theorem qE(h:kS e g=true){C:Ix->Prop}(k:∀a p,g a=true->C (.List a p)):C e:=by
 unfold kS at h;exact let ⟨t,_,h⟩:=C9 h;Eq.mpr (congrArg C t.2) (k _ _ h)
noncomputable def qF(e:Ix):Ir {t:(on Ix)×Nat×Pos // e=.Tuple t.1 t.2.1 t.2.2}:=match e with | .Tuple es k p=>some ⟨(es,k,p),rfl⟩ | _=>none
@[irreducible] def gz(e:Ix)(f:(on Ix)->Bool):Bool:=any1 (qF e) λ t=>f t.1.1
@[elab_as_elim] theorem kU(h:gz e g=true){C:Ix->Prop}(k:∀a k p,g a=true->C (.Tuple a k p)):C e:=by
 unfold gz at h;exact let ⟨t,_,h⟩:=C9 h;Eq.mpr (congrArg C t.2) (k _ _ _ h)
noncomputable def AI(e:Ix):Ir {t:Ix×Ix×Pos // e=.Subscript t.1 t.2.1 t.2.2}:=match e with | .Subscript a b p=>some ⟨(a,b,p),rfl⟩ | _=>none
@[irreducible] def S2(e:Ix)(f:Ix->Ix->Bool):Bool:=any1 (AI e) λ t=>f t.1.1 t.1.2.1
@[elab_as_elim] theorem L7(h:S2 e g=true){C:Ix->Prop}(k:∀a b p,g a b=true->C (.Subscript a b p)):C e:=by
 unfold S2 at h;exact let ⟨t,_,h⟩:=C9 h;Eq.mpr (congrArg C t.2) (k _ _ _ h)
noncomputable def AJ(e:Ix):Ir {t:(Ir Ix)×(Ir Ix)×(Ir Ix)×Pos // e=.Slice t.1 t.2.1 t.2.2.1 t.2.2.2}:=match e with | .Slice a b c p=>some ⟨(a,b,c,p),rfl⟩ | _=>none
@[irreducible] def dt(e:Ix)(f:(Ir Ix)->(Ir Ix)->(Ir Ix)->Bool):Bool:=any1 (AJ e) λ t=>f t.1.1 t.1.2.1 t.1.2.2.1
@[elab_as_elim] theorem kW(h:dt e g=true){C:Ix->Prop}(k:∀a b c p,g a b c=true->C (.Slice a b c p)):C e:=by
 unfold dt at h;exact let ⟨t,_,h⟩:=C9 h;Eq.mpr (congrArg C t.2) (k _ _ _ _ h)
noncomputable def AK(e:Ix):Ir {t:Ix×(on Ix)×(on Keyword)×Pos // e=.Call t.1 t.2.1 t.2.2.1 t.2.2.2}:=match e with | .Call f as ks p=>some ⟨(f,as,ks,p),rfl⟩ | _=>none
@[irreducible] def gA(e:Ix)(f:Ix->(on Ix)->(on Keyword)->Pos->Bool):Bool:=any1 (AK e) λ t=>f t.1.1 t.1.2.1 t.1.2.2.1 t.1.2.2.2
@[elab_as_elim] theorem qG(h:gA e g=true){C:Ix->Prop}(k:∀f as a p,g f as a p=true->C (.Call f as a p)):C e:=by
 unfold gA at h;exact let ⟨t,_,h⟩:=C9 h;Eq.mpr (congrArg C t.2) (k _ _ _ _ h)
noncomputable def AL(e:Ix):Ir {t:Ix×Str×Pos // e=.Attribute t.1 t.2.1 t.2.2}:=match e with | .Attribute a n p=>some ⟨(a,n,p),rfl⟩ | _=>none
@[irreducible] def Y0(e:Ix)(f:Ix->Str->Pos->Bool):Bool:=any1 (AL e) λ t=>f t.1.1 t.1.2.1 t.1.2.2
@[elab_as_elim] theorem bv(h:Y0 e g=true){C:Ix->Prop}(k:∀a n p,g a n p=true->C (.Attribute a n p)):C e:=by
 unfold Y0 at h;exact let ⟨t,_,h⟩:=C9 h;Eq.mpr (congrArg C t.2) (k _ _ _ h)
noncomputable def AM(e:Ix):Ir {t:Ix×(on Comprehension)×IF×Pos // e=.ListComp t.1 t.2.1 t.2.2.1 t.2.2.2}:=match e with | .ListComp x gs sc p=>some ⟨(x,gs,sc,p),rfl⟩ | _=>none
@[irreducible] def kX(e:Ix)(f:Ix->(on Comprehension)->IF->Bool):Bool:=any1 (AM e) λ t=>f t.1.1 t.1.2.1 t.1.2.2.1
@[elab_as_elim] theorem AN(h:kX e g=true){C:Ix->Prop}(k:∀x a sc p,g x a sc=true->C (.ListComp x a sc p)):C e:=by
 unfold kX at h;exact let ⟨t,_,h⟩:=C9 h;Eq.mpr (congrArg C t.2) (k _ _ _ _ h)
noncomputable def AO(e:Ix):Ir {t:(on (Ir Ix))×(on Ix)×Pos // e=.Dict t.1 t.2.1 t.2.2}:=match e with | .Dict ks vs p=>some ⟨(ks,vs,p),rfl⟩ | _=>none
@[irreducible] def gB(e:Ix)(f:(on (Ir Ix))->(on Ix)->Bool):Bool:=any1 (AO e) λ t=>f t.1.1 t.1.2.1
@[elab_as_elim] theorem qH(h:gB e g=true){C:Ix->Prop}(k:∀ks vs p,g ks vs=true->C (.Dict ks vs p)):C e:=by
 unfold gB at h;exact let ⟨t,_,h⟩:=C9 h;Eq.mpr (congrArg C t.2) (k _ _ _ h)
noncomputable def AQ(e:Ix):Ir {t:IG×Ix×IF×Pos // e=.Lambda t.1 t.2.1 t.2.2.1 t.2.2.2}:=match e with | .Lambda pr bd sc p=>some ⟨(pr,bd,sc,p),rfl⟩ | _=>none
@[irreducible] def kY(e:Ix)(f:IG->Ix->IF->Pos->Bool):Bool:=any1 (AQ e) λ t=>f t.1.1 t.1.2.1 t.1.2.2.1 t.1.2.2.2
@[elab_as_elim] theorem AR(h:kY e g=true){C:Ix->Prop}(k:∀a b sc p,g a b sc p=true->C (.Lambda a b sc p)):C e:=by
 unfold kY at h;exact let ⟨t,_,h⟩:=C9 h;Eq.mpr (congrArg C t.2) (k _ _ _ _ h)
noncomputable def AS(e:IC):Ir {t:(on Ix)×Ix×Pos // e=.Assign t.1 t.2.1 t.2.2}:=match e with | .Assign t v p=>some ⟨(t,v,p),rfl⟩ | _=>none
@[irreducible] def kZ(e:IC)(f:(on Ix)->Ix->Pos->Bool):Bool:=any1 (AS e) λ t=>f t.1.1 t.1.2.1 t.1.2.2
@[elab_as_elim] theorem AT(h:kZ e g=true){C:IC->Prop}(k:∀t v p,g t v p=true->C (.Assign t v p)):C e:=by
 unfold kZ at h;exact let ⟨t,_,h⟩:=C9 h;Eq.mpr (congrArg C t.2) (k _ _ _ h)
noncomputable def AU(e:IC):Ir {t:Ix×Pos // e=.Expr t.1 t.2}:=match e with | .Expr v p=>some ⟨(v,p),rfl⟩ | _=>none
@[irreducible] def bw(e:IC)(f:Ix->Pos->Bool):Bool:=any1 (AU e) λ t=>f t.1.1 t.1.2
@[elab_as_elim] theorem gC(h:bw e g=true){C:IC->Prop}(k:∀v p,g v p=true->C (.Expr v p)):C e:=by
 unfold bw at h;exact let ⟨t,_,h⟩:=C9 h;Eq.mpr (congrArg C t.2) (k _ _ h)
noncomputable def AV(e:IC):Ir {t:(Ir Ix)×Pos // e=.Return t.1 t.2}:=match e with | .Return v p=>some ⟨(v,p),rfl⟩ | _=>none
@[irreducible] def lg(e:IC)(f:(Ir Ix)->Pos->Bool):Bool:=any1 (AV e) λ t=>f t.1.1 t.1.2
@[elab_as_elim] theorem AW(h:lg e g=true){C:IC->Prop}(k:∀v p,g v p=true->C (.Return v p)):C e:=by
 unfold lg at h;exact let ⟨t,_,h⟩:=C9 h;Eq.mpr (congrArg C t.2) (k _ _ h)
noncomputable def AX(e:IC):Ir {t:Ix×(on IC)×(on IC)×Pos // e=.If t.1 t.2.1 t.2.2.1 t.2.2.2}:=match e with | .If c a b p=>some ⟨(c,a,b,p),rfl⟩ | _=>none
@[irreducible] def lh(e:IC)(f:Ix->(on IC)->(on IC)->Pos->Bool):Bool:=any1 (AX e) λ t=>f t.1.1 t.1.2.1 t.1.2.2.1 t.1.2.2.2
@[elab_as_elim] theorem AY(h:lh e g=true){C:IC->Prop}(k:∀c a b p,g c a b p=true->C (.If c a b p)):C e:=by
 unfold lh at h;exact let ⟨t,_,h⟩:=C9 h;Eq.mpr (congrArg C t.2) (k _ _ _ _ h)
noncomputable def AZ(e:IC):Ir {t:Ix×Ix×(on IC)×(on IC)×Pos // e=.For t.1 t.2.1 t.2.2.1 t.2.2.2.1 t.2.2.2.2}:=match e with | .For t i b o p=>some ⟨(t,i,b,o,p),rfl⟩ | _=>none
@[irreducible] def li(e:IC)(f:Ix->Ix->(on IC)->(on IC)->Pos->Bool):Bool:=any1 (AZ e) λ t=>f t.1.1 t.1.2.1 t.1.2.2.1 t.1.2.2.2.1 t.1.2.2.2.2
@[elab_as_elim] theorem Ba(h:li e g=true){C:IC->Prop}(k:∀t i b o p,g t i b o p=true->C (.For t i b o p)):C e:=by
 unfold li at h;exact let ⟨t,_,h⟩:=C9 h;Eq.mpr (congrArg C t.2) (k _ _ _ _ _ h)
noncomputable def Bb(e:IC):Ir {t:Ix×(on IC)×(on IC)×Pos // e=.While t.1 t.2.1 t.2.2.1 t.2.2.2}:=match e with | .While t b o p=>some ⟨(t,b,o,p),rfl⟩ | _=>none
@[irreducible] def inWh(e:IC)(f:Ix->(on IC)->(on IC)->Pos->Bool):Bool:=any1 (Bb e) λ t=>f t.1.1 t.1.2.1 t.1.2.2.1 t.1.2.2.2
@[elab_as_elim] theorem Bc(h:inWh e g=true){C:IC->Prop}(k:∀t b o p,g t b o p=true->C (.While t b o p)):C e:=by
 unfold inWh at h;exact let ⟨t,_,h⟩:=C9 h;Eq.mpr (congrArg C t.2) (k _ _ _ _ h)
def qI(e:Ix)(f:Ix->CmpOp->Ix->Bool):Bool:=gw e λ a os bs=>in1 os λ o=>in1 bs λ b=>f a o b
@[elab_as_elim] theorem qK(h:qI e f=true){C:Ix->Prop}(k:∀a o b p,f a o b=true->C (.Compare a [o] [b] p)):C e:=qD h λ a _ _ p h=>N5 h λ o h=>N5 h λ b h=>k a o b p h
def qL(e:Ix)(f:Ix->CmpOp->CmpOp->Ix->Ix->Bool):Bool:=gw e λ a os bs=>in2 os λ o o2=>in2 bs λ b c=>f a o o2 b c
@[elab_as_elim] theorem qM(h:qL e f=true){C:Ix->Prop}(k:∀a o d b c p,f a o d b c=true->C (.Compare a [o,d] [b,c] p)):C e:=qD h λ a _ _ p h=>X9 h λ o d h=>X9 h λ b c h=>k a o d b c p h
def qN(e:Ix)(f:Ix->Bool):Bool:=dt e λ a b c=>inNo b (inNo c (any1 a f))
@[elab_as_elim] theorem Bd(h:qN e f=true){C:Ix->Prop}(k:∀x p,f x=true->C (.Slice (some x) none none p)):C e:=kW h λ _ _ _ p h=>N4 h λ h=>N4 h λ h=>au h λ x h=>k x p h
def qO(e:Ix)(f:Ix->Bool):Bool:=dt e λ a b c=>inNo a (inNo c (any1 b f))
@[elab_as_elim] theorem Be(h:qO e f=true){C:Ix->Prop}(k:∀x p,f x=true->C (.Slice none (some x) none p)):C e:=kW h λ _ _ _ p h=>N4 h λ h=>N4 h λ h=>au h λ x h=>k x p h
def qP(e:Ix)(f:Ix->Ix->Bool):Bool:=dt e λ a b c=>inNo c (any1 a λ x=>any1 b (f x))
@[elab_as_elim] theorem Bf(h:qP e f=true){C:Ix->Prop}(k:∀x y p,f x y=true->C (.Slice (some x) (some y) none p)):C e:=kW h λ _ _ _ p h=>N4 h λ h=>au h λ x h=>au h λ y h=>k x y p h
def inCl(e:Ix)(f:Ix->on Ix->Pos->Bool):Bool:=gA e λ g as ks p=>in0 ks (f g as p)
@[elab_as_elim] theorem K0(h:inCl e f=true){C:Ix->Prop}(k:∀g as p,f g as p=true->C (.Call g as [] p)):C e:=qG h λ g as _ p h=>F9 h (k g as p)
def lj(e:Ix)(f:Ix->Pos->Bool):Bool:=inCl e λ g as p=>in0 as (f g p)
@[elab_as_elim] theorem ll(h:lj e f=true){C:Ix->Prop}(k:∀g p,f g p=true->C (.Call g [] [] p)):C e:=K0 h λ g _ p h=>F9 h (k g p)
def bx(e:Ix)(f:Ix->Ix->Pos->Bool):Bool:=inCl e λ g as p=>in1 as λ a=>f g a p
@[elab_as_elim] theorem bz(h:bx e f=true){C:Ix->Prop}(k:∀g a p,f g a p=true->C (.Call g [a] [] p)):C e:=K0 h λ g _ p h=>N5 h λ a h=>k g a p h
def qQ(e:Ix)(f:Ix->Ix->Ix->Pos->Bool):Bool:=inCl e λ g as p=>in2 as λ a b=>f g a b p
@[elab_as_elim] theorem qR(h:qQ e f=true){C:Ix->Prop}(k:∀g a b p,f g a b p=true->C (.Call g [a,b] [] p)):C e:=K0 h λ g _ p h=>X9 h λ a b h=>k g a b p h
def qU(e:Ix)(f:Bool):Bool:=gB e λ ks vs=>in0 ks (in0 vs f)
@[elab_as_elim] theorem Bg(h:qU e f=true){C:Ix->Prop}(k:∀p,f=true->C (.Dict [] [] p)):C e:=qH h λ _ _ p h=>F9 h λ h=>F9 h λ h=>k p h
def qV(e:Ix)(f:Ix->Ix->Ix->Ix->Bool):Bool:=gB e λ ks vs=>in2 ks λ a b=>any1 a λ a=>any1 b λ b=>in2 vs λ c d=>f a b c d
@[elab_as_elim] theorem qW(h:qV e f=true){C:Ix->Prop}(k:∀a b c d p,f a b c d=true->C (.Dict [some a,some b] [c,d] p)):C e:=qH h λ _ _ p h=>X9 h λ _ _ h=>au h λ a h=>au h λ b h=>X9 h λ c d h=>k a b c d p h
noncomputable def Bh(e:IC):Ir {t:Str×IG×on IC×IF×Str×Pos // e=.FunctionDef t.1 t.2.1 t.2.2.1 [] none [] t.2.2.2.1 none t.2.2.2.2.1 t.2.2.2.2.2}:=match e with | .FunctionDef n a b [] none [] sc none bd p=>some ⟨(n,a,b,sc,bd,p),rfl⟩ | _=>none
@[irreducible] def inFd(e:IC)(f:Str->IG->on IC->IF->Str->Bool):Bool:=any1 (Bh e) λ t=>f t.1.1 t.1.2.1 t.1.2.2.1 t.1.2.2.2.1 t.1.2.2.2.2.1
@[elab_as_elim] theorem Bj(h:inFd e g=true){C:IC->Prop}(k:∀n a b sc bd p,g n a b sc bd=true->C (.FunctionDef n a b [] none [] sc none bd p)):C e:=by
 unfold inFd at h;exact let ⟨t,_,h⟩:=C9 h;Eq.mpr (congrArg C t.2) (k _ _ _ _ _ _ h)
def qX(e:Ix)(f:Ix->on Ix->Ir Str->Ix->Bool):Bool:=gA e λ g as ks p=>in1 ks λ w=>f g as w.arg w.value
@[elab_as_elim] theorem Bk(h:qX e f=true){C:Ix->Prop}(k:∀g b a v q p,f g b a v=true->C (.Call g b [⟨a,v,q⟩] p)):C e:=qG h λ g b _ p h=>N5 h λ ⟨a,v,q⟩ h=>k g b a v q p h
def inCk(e:Ix)(f:Ix->Ix->Ir Str->Ix->Bool):Bool:=qX e λ g as a v=>in1 as λ b=>f g b a v
@[elab_as_elim] theorem qY(h:inCk e f=true){C:Ix->Prop}(k:∀g b a v q p,f g b a v=true->C (.Call g [b] [⟨a,v,q⟩] p)):C e:=Bk h λ g _ a v q p h=>N5 h λ b h=>k g b a v q p h
def du(e:IC)(f:Ix->Ix->Pos->Bool):Bool:=kZ e λ ts v p=>in1 ts λ t=>f t v p
@[elab_as_elim] theorem gD(h:du e f=true){C:IC->Prop}(k:∀t v p,f t v p=true->C (.Assign [t] v p)):C e:=AT h λ _ v p h=>N5 h λ t h=>k t v p h
def gE(e:IC)(f:Ix->Pos->Bool):Bool:=lg e λ o p=>any1 o λ v=>f v p
@[elab_as_elim] theorem lq(h:gE e f=true){C:IC->Prop}(k:∀v p,f v p=true->C (.Return (some v) p)):C e:=AW h λ _ p h=>au h λ v h=>k v p h
def qZ(e:IC)(f:Ix->Ix->on IC->Pos->Bool):Bool:=li e λ t i b o p=>in0 o (f t i b p)
@[elab_as_elim] theorem Bl(h:qZ e f=true){C:IC->Prop}(k:∀t i b p,f t i b p=true->C (.For t i b [] p)):C e:=Ba h λ t i b _ p h=>F9 h (k t i b p)
def rd(e:IC)(f:Ix->on IC->Pos->Bool):Bool:=inWh e λ t b o p=>in0 o (f t b p)
@[elab_as_elim] theorem Bm(h:rd e f=true){C:IC->Prop}(k:∀t b p,f t b p=true->C (.While t b [] p)):C e:=Bc h λ t b _ p h=>F9 h (k t b p)
def L8(e:Ix):Ir Str:=(qA e).map λ t=>t.1.1
def Y1(e:Ix):Ir Const:=(AD e).map λ t=>t.1.1
def Q5(e:Ix):Ir (on Ix):=(qF e).map λ t=>t.1.1
def rf(e:Ix):Ir (Ix×Operator×Ix):=(qB e).map λ t=>(t.1.1,t.1.2.1,t.1.2.2.1)
theorem mpd{o:Ir d}(h:o.map f=some b):∃a,f a=b:=by
 cases o with
 | none=>cases h
 | some a=>cases h;exact⟨a,rfl⟩
theorem V1(h:L8 e=some x):∃p,e=.Name x p:=let ⟨t,h⟩:=mpd h;⟨_,h▸t.2⟩
theorem gF(h:Y1 e=some x):∃k p,e=.Constant x k p:=let ⟨t,h⟩:=mpd h;⟨_,_,h▸t.2⟩
theorem lr{e:Ix}{es:on Ix}(h:Q5 e=some es):∃k p,e=.Tuple es k p:=let ⟨t,h⟩:=mpd h;⟨_,_,h▸t.2⟩
theorem Bn(h:rf e=some (a,o,b)):∃p,e=.BinOp a o b p:=by
 obtain⟨⟨⟨_,_,_,p⟩,z⟩,h⟩:=mpd h;cases h;exact⟨p,z⟩
structure CParts where
 elt:Expr
 tg:Expr
 it:Expr
 ifs:List Expr
 sc:Scope
def inCp(e:Ix)(f:CParts->Bool):Bool:=kX e λ x gs sc=>in1 gs λ g=>decide (g.is_async=0)&&f ⟨x,g.target,g.iter,g.ifs,sc⟩
@[elab_as_elim] theorem gG(h:inCp e f=true){C:Ix->Prop}(k:∀c p,f c=true->C (.ListComp c.elt [⟨c.tg,c.it,c.ifs,0⟩] c.sc p)):C e:=by
 refine AN h λ x gs d p h=>N5 h λ ⟨b,g,a,w⟩ h=>?_;obtain⟨i,h⟩:=L3.mp h;obtain rfl:=jf i;exact k ⟨x,b,g,a,d⟩ p h
noncomputable def visB(sg:Sg)(x:Str):Bool:=sg.sc.lookup x==some .local||sg.sc.lookup x==some .cell||sg.sc.lookup x==some .free
noncomputable def gloB(sg:Sg)(x:Str):Bool:=sg.sc.lookup x==some .globalImplicit
noncomputable def locB(sg:Sg)(x:Str):Bool:=sg.sc.lookup x==some .local||sg.sc.lookup x==some .cell
def Q6(sg:Sg)(i:Nat)(x:Str):Bool:=sg.N[i]? == some x&&visB sg x&&x != "__debug__" && x != "__classdict__"
def bltB(sg:Sg)(x:Str)(f:Ix):Bool:=L8 f==some x&&gloB sg x&&sg.bl.contains x
noncomputable def Bo:Bi->Str
 | .len=>"len" | .min=>"min" | .max=>"max" | .sum=>"sum" | .sset=>"sorted" | .int=>"int" | .tuple=>"tuple" | .list=>"list" | .lrng=>"list" | .lset=>"len"
noncomputable def rg:Mt->Str
 | .bitLength=>"bit_length" | .index=>"index" | .get=>"get"
noncomputable def K1(sg:Sg)(tn:on Str)(fr:on (Ir Nat)):on Str:=tn++(fr.drop tn.length).map λ o=>match o with | some i=>sg.N.getD i "" | none=>""
def rh:Tg->Ix->Ir (on Str)
 | .one _,e=>(L8 e).map λ x=>[x]
 | .many is,e=>match Q5 e with
  | some es=>if es.length=is.length then es.mapM L8 else none
  | none=>none
def tgOk(sg:Sg):Tg->Ix->Bool
 | .one i,e=>match L8 e with
  | some x=>sg.N[i]? == some x&&locB sg x
  | none=>false
 | .many is,e=>match Q5 e with
  | some es=>es.length==is.length&&2<=es.length&&(is.zip es).all λ p=>match L8 p.2 with
   | some x=>sg.N[p.1]? == some x&&locB sg x
   | none=>false
  | none=>false
noncomputable def P1:on Str->Bool
 | []=>true
 | x::r=>!r.contains x&&P1 r
noncomputable def av:Tg->on Nat
 | .one i=>[i]
 | .many is=>is
def aw(sg:Sg)(N':on Str)(fr:on (Ir Nat))(sc:IF)(tg:Tg):Bool:=(av tg).all (λ i=>fr[i]? == some none) &&
 sc.kind == .function&&P1 N'&&P1 (sc.names.map (·.1))&&fr.length==N'.length &&
 (fr.zip N').all (λ p=>match p.1 with | some i=>sg.N[i]? == some p.2&&sc.names.contains (p.2,.free) | none=>true) &&
 sc.names.all λ y=>if y.2 == .free then sg.sc.lookup y.1==some .cell||sg.sc.lookup y.1==some .free else true
def Bp(p:IG)(ps:on Str):Bool:=match p with | ⟨po,ar,va,ko,kd,kw,df⟩=>in0 po (in2 ar λ a b=>inNo va (in0 ko (in0 kd (inNo kw (in0 df (a.arg == "r" && b.arg == "c" && ps==(["r","c"]:on Str)))))))
def Bq(p:IG)(ps:on Str):Bool:=match p with | ⟨po,ar,va,ko,kd,kw,df⟩=>in0 po (in1 ar λ a=>inNo va (in0 ko (in0 kd (inNo kw (in0 df ((["way","entry","word"]:on Str).contains a.arg&&ps==[a.arg]))))))
def dv(p:IG)(ps:on Str):Bool:=Bp p ps||Bq p ps
@[elab_as_elim] theorem rj(h:dv p ps=true){C:IG->on Str->Prop}(k:∀x y z w,C ⟨[],[⟨"r",x,y⟩,⟨"c",z,w⟩],none,[],[],none,[]⟩ ["r","c"])
  (k1:∀a x y,a∈(["way","entry","word"]:on Str)->C ⟨[],[⟨a,x,y⟩],none,[],[],none,[]⟩ [a]):C p ps:=by
 obtain⟨po,ar,va,ko,kd,kw,df⟩:=p;rcases Bool.or_eq_true_iff.mp h with h | h
 ·refine F9 h λ h=>X9 h λ ⟨x,b,p1⟩ ⟨y,c,p2⟩ h=>N4 h λ h=>F9 h λ h=>F9 h λ h=>N4 h λ h=>F9 h λ h=>?_;simp only[f9,g9]at h;obtain⟨⟨rfl,rfl⟩,rfl⟩:=h;exact k b p1 c p2
 ·refine F9 h λ h=>N5 h λ ⟨x,b,p1⟩ h=>N4 h λ h=>F9 h λ h=>F9 h λ h=>N4 h λ h=>F9 h λ h=>?_;simp only[f9,g9,G0]at h;obtain⟨d,rfl⟩:=h;exact k1 x b p1 d
def rm(sg:Sg)(kd:II)(N:on Str)(np:Nat)(fr:on Nat)(pr:IG)(sc:IF):Bool:=dv pr (N.take np)&&sc.kind == .function && !sc.isCoroutine && !sc.isGenerator&&P1 N&&P1 (sc.names.map (·.1))&&decide (N.length=np+fr.length) &&
 (N.take np).all (λ x=>sc.names.lookup x==some .local)&&sc.names.all (λ y=>y.2 != .cell)&&(N.drop np).all (λ x=>sc.names.lookup x==some .free)&&(fr.zip (N.drop np)).all (λ p=>sg.N[p.1]? == some p.2) &&
 sg.sc.lookup o8 != some .cell&&sc.names.all λ y=>if y.2 == .free then sg.sc.lookup y.1==some kd else true
def dw(p:IG)(ps:on Str):Bool:=match p with | ⟨po,ar,va,ko,kd,kw,df⟩=>in0 po (in2 ar λ a b=>inNo a.annotation (inNo b.annotation (inNo va (in0 ko (in0 kd (inNo kw (in0 df (a.arg == "rows" && b.arg == "columns" && ps==(["rows","columns"]:on Str)))))))))
@[elab_as_elim] theorem ro(h:dw p ps=true){C:IG->on Str->Prop}(k:∀x y,C ⟨[],[⟨"rows",none,x⟩,⟨"columns",none,y⟩],none,[],[],none,[]⟩ ["rows","columns"]):C p ps:=by
 obtain⟨po,ar,va,ko,kd,kw,df⟩:=p;refine F9 h λ h=>X9 h λ ⟨x,b,p1⟩ ⟨y,a,p2⟩ h=>N4 (o:=b) h λ h=>N4 (o:=a) h λ h=>N4 h λ h=>F9 h λ h=>F9 h λ h=>N4 h λ h=>F9 h λ h=>?_
 simp only[f9,g9]at h;obtain⟨⟨rfl,rfl⟩,rfl⟩:=h;exact k p1 p2
def lu(sg:Sg)(i:Nat)(fr:on Nat)(ss:on IC)(f:on Ix->Bool):Bool:=sg.top&&sg.sc.lookup o8==some .cell&&(in2 ss λ a b=>inFd a λ n pr bd sc x=>n==o8&&x==o8&&sg.N[i]? == some o8&&sg.co pr bd sc (fr.map λ j=>sg.N.getD j "")&&fr.all (λ j=>decide (j<sg.N.length)) &&
 (sc.names.all λ y=>if y.2 == .free then sg.sc.lookup y.1==some .cell else true)&&(gE b λ v _=>inCl v λ ef es _=>(J9 ef λ x=>x==o8) && !es.isEmpty&&f es))
noncomputable def rq:ME->Bool
 | .comp _ _ _ _=>true
 | .compi _ _ _ _ _=>true
 | _=>false
noncomputable def isZp:ME->Bool
 | .enu _=>true
 | .itm _=>true
 | _=>false
mutual
def corE(sg:Sg)(w:Bool):ME->Ix->Bool
 | .var i,e=>J9 e λ x=>Q6 sg i x
 | .int i,e=>Y1 e==some (.int i)
 | .bl i,e=>Y1 e==some (.bool i)
 | .str x,e=>Y1 e==some (.str x)&&decide (x.length<=1000)
 | .non,e=>Y1 e==some .none
 | .glb x,e=>L8 e==some x&&gloB sg x&&x != "__debug__"
 | .bin op a b,e=>kR e λ ea o eb=>o==op&&corE sg false a ea&&corE sg false b eb
 | .neg a,e=>inUn e λ o ea=>o == .USub&&corE sg false a ea
 | .not a,e=>inUn e λ o ea=>o == .Not&&corE sg false a ea
 | .cmp op a b,e=>qI e λ ea o eb=>o==op&&corE sg false a ea&&corE sg false b eb && !J8 eb
 | .chain op op' a b c,e=>qL e λ ea o o' eb ec=>o==op&&o'==op'&&corE sg false a ea&&corE sg false b eb&&corE sg false c ec && !J8 ec
 | .and ms,e=>gx e λ o es=>o == .And&&u5 sg ms es
 | .or ms,e=>gx e λ o es=>o == .Or&&u5 sg ms es
 | .lst ms,e=>kS e λ es=>u5 sg ms es
 | .tup ms,e=>gz e λ es=>u5 sg ms es
 | .ix a b,e=>S2 e λ ea eb=>corE sg false a ea&&corE sg false b eb && !V0 eb
 | .sl a lo hi,e=>S2 e λ ea es=>(qP es λ el eh=>corE sg false a ea&&corE sg false lo el&&corE sg false hi eh)
 | .slf a lo,e=>S2 e λ ea es=>(qN es λ el=>corE sg false a ea&&corE sg false lo el)
 | .slt a hi,e=>S2 e λ ea es=>(qO es λ eh=>corE sg false a ea&&corE sg false hi eh)
 | .call f ms,e=>inCl e λ ef es _=>(J9 ef λ x=>sg.fn[f]? == some x&&gloB sg x&&x != "__debug__") && !es.isEmpty&&u5 sg ms es
 | .bi f ms,e=>inCl e λ ef es _=>bltB sg (Bo f) ef && !es.isEmpty&&(match f with
   | .lrng=>(in1 es λ e1=>inCl e1 λ ef' es' _=>bltB sg "range" ef'&&es'.length==1&&u5 sg ms es')
   | .sset | .lset=>(in1 es λ e1=>inCl e1 λ ef' es' _=>bltB sg "set" ef'&&es'.length==1&&u5 sg ms es')
   | _=>u5 sg ms es)
 | .isi a ts,e=>qQ e λ ef ea et _=>bltB sg "isinstance" ef&&corE sg false a ea && !t5 ea && !t5 et&&(match ts with
   | [t]=>L8 et==some t&&gloB sg t&&sg.bl.contains t&&X6.contains t
   | _=>false)
 | .meth m a ms,e=>lj e λ ef pos=>(Y0 ef λ ea n apos=>n==rg m&&corE sg false a ea&&((L8 ea).isSome||(rf ea).isSome)&&apos.endLine==pos.line&&ms.isEmpty)
 | .comp elt tg it fr,e=>inCp e λ c=>c.ifs.isEmpty&&(corE sg true it c.it&&(!isZp it||(Q5 c.tg).isSome)) && !J8 c.it&&(any1 (rh tg c.tg) λ tn=>aw sg (K1 sg tn fr) fr c.sc tg&&tgOk ⟨K1 sg tn fr,c.sc.names,sg.fn,sg.bl,sg.cl,false,false,noCo⟩ tg c.tg&&corE ⟨K1 sg tn fr,c.sc.names,sg.fn,sg.bl,sg.cl,false,false,noCo⟩ false elt c.elt)
 | .compi elt tg it cd fr,e=>inCp e λ c=>(corE sg true it c.it&&(!isZp it||(Q5 c.tg).isSome)) && !J8 c.it&&(any1 (rh tg c.tg) λ tn=>in1 c.ifs λ ec=>aw sg (K1 sg tn fr) fr c.sc tg&&tgOk ⟨K1 sg tn fr,c.sc.names,sg.fn,sg.bl,sg.cl,false,false,noCo⟩ tg c.tg&&corE ⟨K1 sg tn fr,c.sc.names,sg.fn,sg.bl,sg.cl,false,false,noCo⟩ false elt c.elt&&corE ⟨K1 sg tn fr,c.sc.names,sg.fn,sg.bl,sg.cl,false,false,noCo⟩ false cd ec)
 | .idx a b,e=>bx e λ ef eb pos=>(Y0 ef λ ea n apos=>n == "index" && corE sg false a ea&&(L8 ea).isSome&&apos.endLine==pos.line&&corE sg false b eb && !t5 eb)
 | .rng ms,e=>w&&(inCl e λ ef es _=>bltB sg "range" ef&&u5 sg ms es&&decide (es.length<=2))
 | .enu a,e=>w&&(bx e λ ef ea _=>bltB sg "enumerate" ef&&corE sg false a ea && !t5 ea)
 | .itm a,e=>w&&(lj e λ ef pos=>(Y0 ef λ o n apos=>n == "items" && corE sg false a o&&apos.endLine==pos.line&&(L8 o).isSome))
 | .dix a k,e=>S2 e λ ea eb=>corE sg false a ea&&corE sg false k eb && !V0 eb
 | .dgp i k,e=>S2 e λ o ek=>(J9 o λ x=>Q6 sg i x)&&corE sg false k ek && !V0 ek
 | .callv i xs ms,e=>inCl e λ ef es _=>(J9 ef λ x=>Q6 sg i x)&&(xs.all λ p=>sg.fn[p.2]? == some p.1) && !es.isEmpty&&u5 sg ms es
 | .mink a N np lb fr,e=>(sg.lp && !sg.top)&&(inCk e λ ef ea kn el=>bltB sg "min" ef&&kn==some "key" && corE sg false a ea && !t5 ea&&(kY el λ pr bd sc _=>rm sg .free N np fr pr sc&&corE ⟨N,sc.names,sg.fn,sg.bl,sg.cl,false,false,noCo⟩ false lb bd))
 | .self _ _ ms,e=>(sg.lp && !sg.top)&&(inCl e λ ef es _=>(J9 ef λ x=>x==o8) && !es.isEmpty&&u5 sg ms es)
 | .dc2 x y a b,e=>qV e λ ka kb ea eb=>Y1 ka==some (.str x)&&Y1 kb==some (.str y)&&x != y&&corE sg false a ea&&corE sg false b eb
def u5(sg:Sg):on ME->on Ix->Bool
 | [],[]=>true
 | m::ms,e::es=>corE sg false m e && !t5 e&&u5 sg ms es
 | _,_=>false
end
mutual
def corS(sg:Sg):MS->IC->Bool
 | .set i _ e,s=>du s λ t v pos=>(J9 t λ x=>sg.N[i]? == some x&&locB sg x&&corE sg false e v&&(!aq v||rq e))
 | .pop i e,s=>bw s λ v _=>(bx v λ ef ea pos=>(Y0 ef λ o n apos=>n == "pop" && (J9 o λ x=>Q6 sg i x)&&corE sg false e ea && !t5 ea&&apos.endLine==pos.line))
 | .app i e,s=>bw s λ v _=>(bx v λ ef ea pos=>(Y0 ef λ o n apos=>n == "append" && (J9 o λ x=>Q6 sg i x)&&corE sg false e ea && !t5 ea&&apos.endLine==pos.line))
 | .ext i e,s=>bw s λ v _=>(bx v λ ef ea pos=>(Y0 ef λ o n apos=>n == "extend" && (J9 o λ x=>Q6 sg i x)&&corE sg false e ea && !t5 ea&&apos.endLine==pos.line))
 | .seti i k e,s=>du s λ t v _=>(S2 t λ o ek=>(J9 o λ x=>Q6 sg i x)&&corE sg false k ek && !V0 ek&&corE sg false e v)
 | .exp e,s=>bw s λ v _=>corE sg false e v && !aq v
 | .ret e,s=>gE s λ v _=>corE sg false e v
 | .iff c a b,s=>lh s λ ec ea eb _=>corE sg false c ec&&K6 sg a ea&&K6 sg b eb
 | .fo tg it body,s=>qZ s λ t i b _=>sg.lp&&tgOk sg tg t&&(corE sg true it i&&(!isZp it||(Q5 t).isSome)) && !J8 i&&K6 sg body b
 | .wh c body,s=>rd s λ t b _=>sg.lp&&corE sg false c t&&K6 sg body b
 | .sep i,s=>du s λ t v _=>(J9 t λ x=>(qU v (sg.N[i]? == some x&&locB sg x)))
 | .dpp i ks e,s=>du s λ t v _=>(S2 t λ o ek=>(J9 o λ x=>Q6 sg i x)&&(gz ek λ es=>u5 sg ks es)&&corE sg false e v && !aq v)
 | .retd i,s=>gE s λ v _=>(J9 v λ x=>Q6 sg i x)
 | .unk,_=>true
 | .dfr _ _ _,_=>false
def K6(sg:Sg):on MS->on IC->Bool
 | [],[]=>true
 | .dfr i fr es::ms,ss=>lu sg i fr ss (u5 sg es)&&ms.isEmpty
 | m::ms,s::ss=>corS sg m s&&K6 sg ms ss
 | _,_=>false
end
def Y2(C:CloD)(fn bl cl:on Str)(pr:IG)(bd:on IC)(sc:IF)(cap:on Str):Bool:=dw pr (C.N.take C.np)&&sc.kind == .function && !sc.isCoroutine && !sc.isGenerator&&P1 C.N&&decide (C.np+C.nc<=C.N.length)&&P1 (sc.names.map (·.1)) &&
 (C.N.take C.np).all (λ x=>sc.names.lookup x==some .local)&&sc.names.all (λ y=>y.2 != .cell)&&(cap==(C.N.drop C.np).take C.nc)&&cap.all (λ x=>sc.names.lookup x==some .free)&&sc.names.lookup o8==some .free&&K6 ⟨C.N,sc.names,fn,bl,cl,false,true,noCo⟩ C.body bd
end
end L2
end
noncomputable section
namespace L2
open PySem PySem.Spec PyProof.Rows
def P2(H:Hp)(q:Str)(params:IG)(body:Ix)(scope:IF)(cl:on (Str×Iv))(f:Iv):Prop:=
 ∃c' oc u vs t pm ctv,H f=some (.frz (PySem.W.kla_obj "<lambda>" q params body scope cl pm c' ctv) (.own f))/\H c'=some (.frz oc u)/\oc.data=.fields vs/\vs[1]? = some (.str q t)
theorem P2.mono(e:Same H c)(h:P2 H q a body scope cl f):P2 c q a body scope cl f:=by
 obtain⟨l,i,u,d,t,g,b,k,j,r⟩:=h;exact⟨l,i,u,d,t,g,b,e _ _ k,e _ _ j,r⟩
structure LamScope(N ps:List Str)(sc:Scope)(cl:List (Str×Addr))(l:List Addr):Prop where
 kind:sc.kind=.function
 co:sc.isCoroutine=false
 gen:sc.isGenerator=false
 nd:N.Nodup
 pre:N.take ps.length=ps
 par:∀x∈ps,sc.names.lookup x=some .local
 nocell:∀y∈sc.names,y.2 ≠ .cell
 fre:∀i x,ps.length<=i->N[i]? = some x->sc.names.lookup x=some .free
 has:∀x,sc.names.lookup x=some .free->∃c,cl.lookup x=some c
 inj:∀x y c,cl.lookup x=some c->cl.lookup y=some c->x=y
 mem:∀x c,cl.lookup x=some c->c∈l
def dz(H:Hp)(N:on Str)(np:Nat)(cl:on (Str×Iv))(l:on Iv)(ws:on V):Prop:=N.length=np+ws.length/\(∀c∈l,∃o v,H c=some (.frz o (.own c))/\o.data=.cell v) /\
 ∀(i:Nat) x v,N[np+i]? = some x->ws[i]? = some v->∃c o u,cl.lookup x=some c/\H c=some (.frz o (.own c))/\o.data=.cell (some u)/\RelV v u
theorem dz.mono(e:Same H d)(h:dz H N np cl l ws):dz d N np cl l ws:=
 ⟨h.1,λ c f=>by obtain⟨o,v,b,a⟩:=h.2.1 c f;exact⟨o,v,e _ _ b,a⟩,λ i x v j g=>by obtain⟨c,o,u,b,a,r⟩:=h.2.2 i x v j g;exact⟨c,o,u,b,e _ _ a,r⟩⟩
noncomputable def ax(m:LamD)(params:IG)(body:Ix)(scope:IF):Bool:=dv params (m.N.take m.np)&&corE ⟨m.N,scope.names,m.fn,m.bl,m.cl,false,false,noCo⟩ false m.body body
theorem Br(h:dv c ps=true)(d:e.length=ps.length):bindArgs (PySem.W.kla_fn "<lambda>" q c b sc cl pm cd g) ⟨e,[]⟩=pure (ps.zip e):=by
 revert d;refine rj h (λ x y z w d=>?_) λ a x y f d=>?_
 ·obtain⟨u,v,rfl⟩:∃u v,e=[u,v]:=by
   cases e with
   | nil=>cases d
   | cons u r=>cases r with
    | nil=>cases d
    | cons v r=>cases r with
     | nil=>exact⟨u,v,rfl⟩
     | cons _ _=>cases d
  rfl
 ·obtain⟨u,rfl⟩:∃u,e=[u]:=by
   cases e with
   | nil=>cases d
   | cons u r=>cases r with
    | nil=>exact⟨u,rfl⟩
    | cons _ _=>cases d
  simp only[i7,W6,X3]at f;rcases f with z | z | z<;>(subst z;rfl)
structure Dm where
 K:PySem.W.Frag
 mg:Str->Option Value
abbrev Cx.D(X:Cx):Dm:=⟨X.K,X.mg⟩
def SqS(K:IE)(H:Hp)(a:Iv)(xs:on V):Prop:=(∃o,H a=some (.frz o (.lst xs))) \/
 ∃(o:Obj) (its:Iy Is) (n:Nat),K.lookup a=some o/\o.cls=.type "list" /\ o.dict=none/\o.data=.seq its n/\its.size<=sizeLine/\Vals xs its.toList
theorem SqS.sq{K:IE}(h:SqS K H a xs):SqL K H a xs:=by
 rcases h with h | h
 ·exact .inl (.inr h)
 ·exact .inr h
theorem SqS.of{K:IE}(b:Only H)(h:SqL K H a xs):SqS K H a xs:=by
 rcases h with(h | h) | h
 ·rcases b a with z | z
  ·rw[h]at z;cases z
  ·rcases z with⟨o,ys,z⟩ | ⟨q,z⟩<;>(rw[h]at z;cases z)
 ·exact .inl h
 ·exact .inr h
theorem Same.sqs{K:IE}(e:Same H b)(h:SqS K H a xs):SqS K b a xs:=by
 rcases h with⟨o,h⟩ | h
 ·exact .inl ⟨o,e _ _ h⟩
 ·exact .inr h
noncomputable def dKey:Key->DKey
 | .inl i=>.i i
 | .inr x=>.s x
noncomputable def mutO:HO->Bool
 | .lst _=>true
 | .dK _=>true
 | .dT _=>true
 | _=>false
mutual
def Rep(D:Dm)(H:Hp):DV->V->Prop
 | .non,v=>v=.non
 | .bl b,v=>v=.bl b
 | .int i,v=>v=.int i
 | .str x,v=>v=.str x/\x.length<=sizeLine
 | .tup ds,v=>∃a xs,v=.ref a/\SqT D.K H a xs/\RepL D H ds xs
 | .lst ds,v=>∃a xs,v=.ref a/\H a=some (.lst xs)/\RepL D H ds xs
 | .dct ks vs,v=>(∃a o kvs,v=.ref a/\H a=some (.frz o (.dK kvs))/\kvs.map (λ p=>dKey p.1)=ks/\RepL D H vs (kvs.map (·.2)))\/∃a o kvs,v=.ref a/\H a=some (.frz o (.dT kvs))/\kvs.map (λ p=>DKey.t p.1)=ks/\RepL D H vs (kvs.map (·.2))
 | .fn x,v=>∃f,v=.ref f/\D.mg x=some (.ref f)
 | .lam m cs,v=>∃f pr bd sc q cl l ws,v=.ref f/\P2 H q pr bd sc cl f/\ax m pr bd sc=true/\LamScope m.N (m.N.take m.np) sc cl l/\RepL D H cs ws/\dz H m.N m.np cl l ws
 | .scr ns,v=>∃a,v=.ref a/\SqS D.K H a (ns.map V.int)
def RepL(D:Dm)(H:Hp):on DV->on V->Prop
 | [],xs=>xs=[]
 | d::ds,xs=>∃v vs,xs=v::vs/\Rep D H d v/\RepL D H ds vs
end
theorem Same.tseq{K:IE}(e:Same H b)(h:SqT K H a xs):SqT K b a xs:=by
 rcases h with(h | ⟨o,h⟩) | h
 ·exact .inl (.inl (e _ _ h))
 ·exact .inl (.inr ⟨o,e _ _ h⟩)
 ·exact .inr h
mutual
theorem Rep.mono{D:Dm}{H H':Hp}(e:Same H H'):∀{d:DV} {v:V},Rep D H d v->Rep D H' d v
 | .non,_,h=>by unfold Rep at h ⊢;exact h
 | .bl _,_,h=>by unfold Rep at h ⊢;exact h
 | .int _,_,h=>by unfold Rep at h ⊢;exact h
 | .str _,_,h=>by unfold Rep at h ⊢;exact h
 | .tup ds,_,h=>by unfold Rep at h ⊢;obtain⟨a,xs,e1,e2,e3⟩:=h;exact⟨a,xs,e1,e.tseq e2,RepL.mono e e3⟩
 | .lst ds,_,h=>by unfold Rep at h ⊢;obtain⟨a,xs,e1,e2,e3⟩:=h;exact⟨a,xs,e1,e _ _ e2,RepL.mono e e3⟩
 | .dct _ _,_,h=>by
  unfold Rep at h ⊢;rcases h with⟨a,o,kvs,e1,e2,e3,e4⟩ | ⟨a,o,kvs,e1,e2,e3,e4⟩
  ·exact .inl ⟨a,o,kvs,e1,e _ _ e2,e3,RepL.mono e e4⟩
  ·exact .inr ⟨a,o,kvs,e1,e _ _ e2,e3,RepL.mono e e4⟩
 | .fn _,_,h=>by unfold Rep at h ⊢;exact h
 | .lam m cs,_,h=>by unfold Rep at h ⊢;obtain⟨f,pr,bd,sc,q,cl,l,ws,e1,e2,e3,e4,e5,e6⟩:=h;exact⟨f,pr,bd,sc,q,cl,l,ws,e1,e2.mono e,e3,e4,RepL.mono e e5,e6.mono e⟩
 | .scr _,_,h=>by unfold Rep at h ⊢;obtain⟨a,e1,e2⟩:=h;exact⟨a,e1,e.sqs e2⟩
theorem RepL.mono{D:Dm}{H H':Hp}(e:Same H H'):∀{ds:on DV} {xs:on V},RepL D H ds xs->RepL D H' ds xs
 | [],_,h=>by unfold RepL at h ⊢;exact h
 | d::ds,_,h=>by unfold RepL at h ⊢;obtain⟨v,vs,e1,e2,e3⟩:=h;exact⟨v,vs,e1,Rep.mono e e2,RepL.mono e e3⟩
end
theorem C3:Rep D H (.int i) v↔v=.int i:=by unfold Rep;exact O6
theorem bA:Rep D H (.bl i) v↔v=.bl i:=by unfold Rep;exact O6
theorem dB:Rep D H (.str i) v↔(v=.str i/\i.length<=sizeLine):=by unfold Rep;exact O6
theorem bB:Rep D H .non v↔v=.non:=by unfold Rep;exact O6
theorem J0:Rep D H (.tup ds) v↔∃a b,v=.ref a/\SqT D.K H a b/\RepL D H ds b:=by unfold Rep;exact O6
theorem L9:Rep D H (.lst ds) v↔∃a b,v=.ref a/\H a=some (.lst b)/\RepL D H ds b:=by unfold Rep;exact O6
theorem gH:Rep D H (.lam m cs) v↔∃f pr c a q cl l b,v=.ref f/\P2 H q pr c a cl f/\ax m pr c a=true/\LamScope m.N (m.N.take m.np) a cl l/\RepL D H cs b/\dz H m.N m.np cl l b:=by unfold Rep;exact O6
theorem lv:Rep D H (.fn x) v↔∃f,v=.ref f/\D.mg x=some (.ref f):=by unfold Rep;exact O6
theorem Y3{D:Dm}{H:Hp}{v:V}{ns:on Int}:Rep D H (.scr ns) v↔∃a,v=.ref a/\SqS D.K H a (ns.map V.int):=by unfold Rep;exact O6
theorem S4:Rep D H (.dct ks vs) v↔((∃a o b,v=.ref a/\H a=some (.frz o (.dK b))/\b.map (λ p=>dKey p.1)=ks/\RepL D H vs (b.map (·.2)))\/∃a o b,v=.ref a/\H a=some (.frz o (.dT b))/\b.map (λ p=>DKey.t p.1)=ks/\RepL D H vs (b.map (·.2))):=by unfold Rep;exact O6
theorem E3{D:Dm}{H:Hp}{xs:on V}:RepL D H [] xs↔xs=[]:=by unfold RepL;exact O6
theorem x4:RepL D H (d::ds) xs↔∃v a,xs=v::a/\Rep D H d v/\RepL D H ds a:=by
 constructor
 ·intro h;exact h
 ·intro h;exact h
theorem RepL.length:∀{a:on DV} {xs:on V},RepL D H a xs->xs.length=a.length
 | [],_,h=>by rw[E3.mp h];rfl
 | d::a,_,h=>by obtain⟨v,vs,c,_,b⟩:=x4.mp h;rw[c,w6,w6,RepL.length b]
theorem RepL.get:∀{ds:on DV} {xs:on V} {i:Nat} {d:DV},RepL D H ds xs->ds[i]? = some d->∃v,xs[i]? = some v/\Rep D H d v
 | [],_,_,_,_,e=>by simp at e
 | d::ds,_,i,d',h,e=>by
  obtain⟨v,vs,c,b,a⟩:=x4.mp h;subst c;cases i with
  | zero=>simp at e;subst e;exact⟨v,rfl,b⟩
  | succ i=>simpa using RepL.get a (by simpa using e)
theorem RepL.append:∀{a es:on DV} {xs ys:on V},RepL D H a xs->RepL D H es ys->RepL D H (a++es) (xs++ys)
 | [],_,_,_,h,b=>by rwa [E3.mp h]
 | d::a,_,_,_,h,b=>by obtain⟨v,vs,f,e,c⟩:=x4.mp h;subst f;exact x4.mpr ⟨v,_,rfl,e,RepL.append c b⟩
theorem RepL.one(h:Rep D H d v):RepL D H [d] [v]:=x4.mpr ⟨v,[],rfl,h,E3.mpr rfl⟩
theorem RepL.take:∀{a:on DV} {xs:on V} (n:Nat),RepL D H a xs->RepL D H (a.take n) (xs.take n)
 | _,_,0,_=>E3.mpr rfl
 | [],_,n+1,h=>by rw[E3.mp h];exact E3.mpr rfl
 | d::a,_,n+1,h=>by obtain⟨v,vs,e,c,b⟩:=x4.mp h;subst e;exact x4.mpr ⟨v,_,rfl,c,RepL.take n b⟩
theorem RepL.drop:∀{a:on DV} {xs:on V} (n:Nat),RepL D H a xs->RepL D H (a.drop n) (xs.drop n)
 | _,_,0,h=>h
 | [],_,n+1,h=>by rw[E3.mp h];exact E3.mpr rfl
 | d::a,_,n+1,h=>by obtain⟨v,vs,c,e2,b⟩:=x4.mp h;subst c;exact RepL.drop n b
theorem RepL.set(q:Rep D H d v):∀{a:on DV} {xs:on V} (n:Nat),RepL D H a xs->RepL D H (a.set n d) (xs.set n v)
 | [],_,n,h=>by rw[E3.mp h];exact E3.mpr rfl
 | _::a,_,0,h=>by obtain⟨v,f,c,e,b⟩:=x4.mp h;subst c;exact x4.mpr ⟨_,_,rfl,q,b⟩
 | _::a,_,n+1,h=>by obtain⟨v,f,c,e,b⟩:=x4.mp h;subst c;exact x4.mpr ⟨_,_,rfl,e,RepL.set q n b⟩
theorem RepL.rep{D:Dm}{H:Hp}{ds:on DV}{xs:on V}(h:RepL D H ds xs):∀k:Nat,RepL D H (List.replicate k ds).flatten (List.replicate k xs).flatten
 | 0=>E3.mpr rfl
 | k+1=>by rw[W3,W3,W4,W4];exact h.append (RepL.rep h k)
theorem bC:∀(a:on Int),RepL D H (a.map DV.int) (a.map V.int)
 | []=>E3.mpr rfl
 | n::a=>x4.mpr ⟨_,_,rfl,C3.mpr rfl,bC a⟩
noncomputable def wo(O:on Iv)(H:Hp):Hp:=λ b=>if b∈O then none else H b
theorem Y4(h:b∈O):wo O H b=none:=f8 h
theorem k9(h:b∉O):wo O H b=H b:=g8 h
theorem C6(h:wo O H b=some o):b∉O/\H b=some o:=by
 by_cases a:b∈O
 ·rw[Y4 a]at h;cases h
 ·rw[k9 a]at h;exact⟨a,h⟩
theorem Same.wo{O:on Iv}{H H':Hp}(e:Same H H'):Same (wo O H) (wo O H'):=λ b o h=>by
 obtain⟨hb,h⟩:=C6 h;rw[k9 hb];exact e b o h
theorem A4:Same (L2.wo O H) H:=λ b o h=>(C6 h).2
theorem N6(h:∀b∈a,b∈O):Same (L2.wo O H) (L2.wo a H):=λ b o e=>by
 obtain⟨c,e⟩:=C6 e
 rwa [k9 λ z=>c (h b z)]
theorem v4(h:H p=none):Same H (upd H p o):=λ b u q=>by rwa [n6 (A7 q h)]
structure Hid(O W:List Addr)(H0 H:Hp):Prop where
 ot:∀a∈O++W,H0 a≠none
 same:Same H0 H
 wl:∀a∈W,∃o,H0 a=some o/\mutO o=true
 dj:∀a∈W,a∉O
 om:∀a∈O,∃o,H0 a=some o/\mutO o=true
def Hdn(O:on Iv)(H:Hp):Prop:=∀a∈O,∃o,H a=some o/\mutO o=true
theorem Hdn.ne(h:Hdn O H):∀a∈O,H a≠none:=λ a b q=>by obtain⟨o,e,_⟩:=h a b;rw[q]at e;cases e
theorem Hid.omS(h:Hid O W b H)(e:Same b c):Hdn O c:=λ a d=>by obtain⟨o,q,m⟩:=h.om a d;exact⟨o,e _ _ q,m⟩
theorem Hid.omW(h:Hid O W b H)(c:p∈W):Hdn O (upd b p x):=λ a d=>by
 obtain⟨o,q,m⟩:=h.om a d;exact⟨o,by rw[n6 λ z=>h.dj p c (by grind)];exact q,m⟩
theorem Hid.hdO(h:Hid O W a H):Hdn O H:=h.omS h.same
theorem Hid.hdA(h:Hid O W c H):Hdn (O++W) H:=λ a b=>by
 rcases F5.mp b with z | z
 ·exact h.hdO a z
 ·obtain⟨o,q,m⟩:=h.wl a z;exact⟨o,h.same _ _ q,m⟩
theorem Hid.mono(h:Hid O W a H)(e:Same H b):Hid O W a b:=⟨h.ot,h.same.trans e,h.wl,h.dj,h.om⟩
theorem Hid.newOut(h:Hid O W b H)(a:H p=none):p∉O++W:=λ z=>h.ot p z (h.same.free a)
mutual
theorem Rep.immut{D:Dm}{O W:on Iv}{H:Hp}(hw:∀a∈W,∃o,H a=some o/\mutO o=true):∀{d:DV} {v:V},d.immut=true->Rep D (L2.wo O H) d v->Rep D (L2.wo (O++W) H) d v
 | .non,_,_,h=>by unfold Rep at h ⊢;exact h
 | .bl _,_,_,h=>by unfold Rep at h ⊢;exact h
 | .int _,_,_,h=>by unfold Rep at h ⊢;exact h
 | .str _,_,_,h=>by unfold Rep at h ⊢;exact h
 | .tup ds,_,m,h=>by
  unfold Rep at h ⊢;obtain⟨a,xs,e1,e2,e3⟩:=h;have m':DV.immuts ds=true:=by unfold DV.immut at m;exact m
  refine⟨a,xs,e1,?_,RepL.immut hw m' e3⟩;rcases e2 with(h | ⟨o,h⟩) | h
  ·obtain⟨ha,h⟩:=C6 h;refine .inl (.inl ?_);rw[k9 λ z=>?_]
   ·exact h
   ·rcases F5.mp z with z | z
    ·exact ha z
    ·obtain⟨ys,q,m⟩:=hw a z;rw[h]at q;cases q;cases m
  ·obtain⟨ha,h⟩:=C6 h;refine .inl (.inr ⟨o,?_⟩);rw[k9 λ z=>?_]
   ·exact h
   ·rcases F5.mp z with z | z
    ·exact ha z
    ·obtain⟨ys,q,m⟩:=hw a z;rw[h]at q;cases q;cases m
  ·exact .inr h
 | .lst ds,_,m,_=>by unfold DV.immut at m;cases m
 | .dct ks vs,_,m,h=>by
  have m':DV.immuts vs=true:=by unfold DV.immut at m;exact m
  have ou:∀{a:Iv} {o:Obj} {u:HO},L2.wo O H a=some (.frz o u)->L2.wo (O++W) H a=some (.frz o u):=λ {a o u} e=>by
   obtain⟨ha,h⟩:=C6 e;rw[k9 λ z=>?_]
   ·exact h
   ·rcases F5.mp z with z | z
    ·exact ha z
    ·obtain⟨ys,q,m⟩:=hw a z;rw[h]at q;cases q;cases m
  rcases S4.mp h with⟨a,o,kvs,e1,e2,e3,e4⟩ | ⟨a,o,kvs,e1,e2,e3,e4⟩
  ·exact S4.mpr (.inl ⟨a,o,kvs,e1,ou e2,e3,RepL.immut hw m' e4⟩)
  ·exact S4.mpr (.inr ⟨a,o,kvs,e1,ou e2,e3,RepL.immut hw m' e4⟩)
 | .fn _,_,_,h=>by unfold Rep at h ⊢;exact h
 | .lam _ _,_,m,_=>by unfold DV.immut at m;cases m
 | .scr ns,_,_,h=>by
  unfold Rep at h ⊢;obtain⟨a,e1,e2⟩:=h;refine⟨a,e1,?_⟩;rcases e2 with⟨o,h⟩ | h
  ·obtain⟨ha,h⟩:=C6 h;refine .inl ⟨o,?_⟩;rw[k9 λ z=>?_]
   ·exact h
   ·rcases F5.mp z with z | z
    ·exact ha z
    ·obtain⟨ys,q,m⟩:=hw a z;rw[h]at q;cases q;cases m
  ·exact .inr h
theorem RepL.immut{D:Dm}{O W:on Iv}{H:Hp}(hw:∀a∈W,∃o,H a=some o/\mutO o=true):∀{ds:on DV} {xs:on V},DV.immuts ds=true->RepL D (L2.wo O H) ds xs->RepL D (L2.wo (O++W) H) ds xs
 | [],_,_,h=>by unfold RepL at h ⊢;exact h
 | d::ds,_,m,h=>by unfold RepL at h ⊢;obtain⟨v,vs,e1,e2,e3⟩:=h;unfold DV.immuts at m;rw[f9]at m;exact⟨v,vs,e1,Rep.immut hw m.1 e2,RepL.immut hw m.2 e3⟩
end
def RepT(D:Dm)(W:on Iv)(Ht H:Hp)(d:DV)(v:V):Prop:=match d with
 | .lst ds=>∃a xs,v=.ref a/\a∈W/\Ht a=some (.lst xs)/\RepL D H ds xs
 | d=>Rep D H d v
theorem RepT.mono(k:Same g f)(e:Same H i)(h:RepT D W g H d v):RepT D W f i d v:=by
 cases d with
 | lst ds=>obtain⟨a,j,n,o,m,l⟩:=h;exact⟨a,j,n,o,k _ _ m,l.mono e⟩
 | non=>exact Rep.mono e h
 | bl b=>exact Rep.mono e h
 | int b=>exact Rep.mono e h
 | str b=>exact Rep.mono e h
 | tup b=>exact Rep.mono e h
 | dct b c=>exact Rep.mono e h
 | fn b=>exact Rep.mono e h
 | lam b c=>exact Rep.mono e h
 | scr b=>exact Rep.mono e h
theorem RepT.rep(e:Same H f)(h:RepT D W f H d v):Rep D f d v:=by
 cases d with
 | lst ds=>obtain⟨a,g,k,e0,j,i⟩:=h;exact L9.mpr ⟨a,g,k,j,i.mono e⟩
 | non=>exact Rep.mono e h
 | bl b=>exact Rep.mono e h
 | int b=>exact Rep.mono e h
 | str b=>exact Rep.mono e h
 | tup b=>exact Rep.mono e h
 | dct b c=>exact Rep.mono e h
 | fn b=>exact Rep.mono e h
 | lam b c=>exact Rep.mono e h
 | scr b=>exact Rep.mono e h
def Got(D:Dm)(O W:on Iv)(H0 H:Hp)(d:DV)(c:Cl)(v:V):Prop:=match c with
 | .weak=>Rep D (L2.wo O H) d v
 | .top=>RepT D W (L2.wo O H) (L2.wo (O++W) H) d v
 | .strong=>Rep D (L2.wo (O++W) H) d v
 | .fresh=>∃p xs ds,v=.ref p/\d=.lst ds/\H0 p=none/\H p=some (.lst xs)/\RepL D (L2.wo (p::(O++W)) H) ds xs
section
variable {D:Dm} {O W:on Iv} {H0 H H':Hp} {d:DV} {ds:on DV} {c:Cl} {v:V}
theorem bD:∀b∈O,b∈O++W:=λ _ h=>F2 _ h
theorem Got.mono(h:Got D O W H0 H d c v)(e:Same H H'):Got D O W H0 H' d c v:=by
 cases c with
 | weak=>exact Rep.mono e.wo h
 | top=>exact RepT.mono e.wo e.wo h
 | strong=>exact Rep.mono e.wo h
 | fresh=>
  obtain⟨p,a,k,j,i,g,f,b⟩:=h;exact⟨p,a,k,j,i,g,e _ _ f,b.mono e.wo⟩
theorem Got.since(h:Got D O W a H d c v)(e:Same H0 a):Got D O W H0 H d c v:=by
 cases c with
 | weak=>exact h
 | top=>exact h
 | strong=>exact h
 | fresh=>
  obtain⟨p,b,l,k,j,i,g,f⟩:=h;exact⟨p,b,l,k,j,e.free i,g,f⟩
theorem Got.strong(h:Got D O W H0 H d .fresh v)(c:Hid O W H0 H):Rep D (L2.wo (O++W) H) d v:=by
 obtain⟨p,a,ds,j,i,g,e4,f⟩:=h;rw[i];exact L9.mpr ⟨p,a,j,by rwa [k9 (λ z=>c.ot p z g)],f.mono (N6 λ b e=>o4 _ e)⟩
theorem Got.weak(h:Got D O W H0 H d c v)(hd:Hid O W H0 H):Rep D (L2.wo O H) d v:=by
 cases c with
 | weak=>exact h
 | top=>exact RepT.rep (N6 bD) h
 | strong=>exact Rep.mono (N6 bD) h
 | fresh=>exact Rep.mono (N6 bD) (h.strong hd)
theorem Got.all(h:Got D O W H0 H d c v)(a:Hid O W H0 H):Rep D H d v:=Rep.mono A4 (h.weak a)
theorem Got.stro(h:Got D O W H0 H d c v)(hd:Hid O W H0 H)(g:L2.stro d c=true):Rep D (L2.wo (O++W) H) d v:=by
 cases c with
 | strong=>exact h
 | fresh=>exact h.strong hd
 | weak=>exact Rep.immut (λ a f=>by obtain⟨b,e,m⟩:=hd.wl a f;exact⟨b,hd.same _ _ e,m⟩) g (h.weak hd)
 | top=>exact Rep.immut (λ a f=>by obtain⟨b,e,m⟩:=hd.wl a f;exact⟨b,hd.same _ _ e,m⟩) g (h.weak hd)
theorem Got.items(h:Got D O W H0 H (.lst ds) c v)(hd:Hid O W H0 H)(f:c ≠ .weak):∃a xs,v=.ref a/\H a=some (.lst xs)/\RepL D (L2.wo (O++W) H) ds xs:=by
 cases c with
 | weak=>exact absurd rfl f
 | top=>
  obtain⟨a,xs,e,e0,d,b⟩:=h;exact⟨a,xs,e,A4 _ _ d,b⟩
 | strong=>
  obtain⟨a,xs,e,d,b⟩:=L9.mp h;exact⟨a,xs,e,A4 _ _ d,b⟩
 | fresh=>
  obtain⟨a,xs,e,d,b⟩:=L9.mp (h.strong hd);exact⟨a,xs,e,A4 _ _ d,b⟩
theorem Got.itemsT(h:Got D O W H0 H (.tup f) c v)(hd:Hid O W H0 H)(g:c ≠ .weak):∃a xs,v=.ref a/\SqT D.K H a xs/\RepL D (L2.wo (O++W) H) f xs:=by
 cases c with
 | weak=>exact absurd rfl g
 | top=>
  obtain⟨a,xs,e,b,d⟩:=J0.mp (h);exact⟨a,xs,e,A4.tseq b,d⟩
 | strong=>
  obtain⟨a,xs,e,b,d⟩:=J0.mp h;exact⟨a,xs,e,A4.tseq b,d⟩
 | fresh=>
  obtain⟨p,xs,f,e,b,d,e4,e5⟩:=h;cases b
theorem Got.lst(h:Got D O W H0 H (.lst ds) c v)(d:Hid O W H0 H):∃a b,v=.ref a/\H a=some (.lst b)/\RepL D (L2.wo O H) ds b:=by
 obtain⟨a,b,g,f,e⟩:=L9.mp (h.weak d);exact⟨a,b,g,A4 _ _ f,e⟩
theorem Got.tup(h:Got D O W H0 H (.tup ds) c v)(d:Hid O W H0 H):∃a b,v=.ref a/\SqT D.K H a b/\RepL D (L2.wo O H) ds b:=by
 obtain⟨a,b,g,f,e⟩:=J0.mp (h.weak d);exact⟨a,b,g,A4.tseq f,e⟩
noncomputable def M0(O W:on Iv):Cl->on Iv
 | .weak=>O
 | _=>O++W
theorem Got.lstC(h:Got D O W H0 H (.lst ds) c v)(hd:Hid O W H0 H):∃a xs,v=.ref a/\H a=some (.lst xs)/\RepL D (L2.wo (M0 O W c) H) ds xs:=by
 cases c with
 | weak=>exact h.lst hd
 | top=>exact h.items hd IT
 | strong=>exact h.items hd IT
 | fresh=>exact h.items hd IT
theorem Got.tupC(h:Got D O W H0 H (.tup ds) c v)(hd:Hid O W H0 H):∃a xs,v=.ref a/\SqT D.K H a xs/\RepL D (L2.wo (M0 O W c) H) ds xs:=by
 cases c with
 | weak=>exact h.tup hd
 | top=>exact h.itemsT hd IT
 | strong=>exact h.itemsT hd IT
 | fresh=>exact h.itemsT hd IT
theorem Got.item(h:Rep D (L2.wo (M0 O W c) H) d v):Got D O W H0 H d c.item v:=by
 cases c<;>exact h
theorem x5(a:c ≠ .fresh:=by intro z;cases z):Got D O W H0 H (.int i) c (.int i):=by
 have q:∀H,Rep D H _ (.int i):=λ H=>C3.mpr rfl;cases c with
 | fresh=>exact absurd rfl a
 | weak=>exact q (L2.wo O H)
 | strong=>exact q (L2.wo (O++W) H)
 | top=>exact q (L2.wo (O++W) H)
theorem ay:Got D O W H0 H (.bl i) .strong (.bl i):=(bA.mpr rfl:Rep D (L2.wo (O++W) H) _ _)
theorem Bs:Got D O W H0 H .non .strong .non:=(bB.mpr rfl:Rep D (L2.wo (O++W) H) .non .non)
theorem Got.int(h:Got D O W H0 H (.int i) c v)(a:Hid O W H0 H):v=.int i:=C3.mp (h.weak a)
theorem Got.bl(h:Got D O W H0 H (.bl i) c v)(a:Hid O W H0 H):v=.bl i:=bA.mp (h.weak a)
theorem S5(c:Hid O W H0 H)(a:H p=none)(r:RepL D (L2.wo (O++W) H) ds xs):Got D O W H0 (upd H p (.lst xs)) (.lst ds) .fresh (.ref p):=by
 refine⟨p,xs,ds,rfl,rfl,c.same.free a,x3,r.mono λ b o e=>?_⟩;obtain⟨hb,e⟩:=C6 e
 rwa [k9 (by grind),n6 (A7 e a)]
theorem lw(b:Hid O W H0 H)(a:H p=none)(r:RepL D (L2.wo O H) ds xs):Got D O W H0 (upd H p (.lst xs)) (.lst ds) .weak (.ref p):=by
 exact L9.mpr ⟨p,xs,rfl,by rw[k9 (λ z=>b.newOut a (F2 _ z))];exact x3,r.mono (v4 a).wo⟩
theorem gI(hd:Hid O W H0 H)(a:H p=none)(r:RepL D (L2.wo (M0 O W c) H) ds xs):Got D O W H0 (upd H p (.lst xs)) (.lst ds) (Cl.anew c c) (.ref p):=by
 cases c with
 | weak=>exact lw hd a r
 | top=>exact S5 hd a r
 | strong=>exact S5 hd a r
 | fresh=>exact S5 hd a r
theorem dF(b:Hid O W H0 H)(a:H p=none)(r:RepL D (L2.wo (O++W) H) ds xs):Got D O W H0 (upd H p (.tup xs)) (.tup ds) .strong (.ref p):=
 J0.mpr ⟨p,xs,rfl,SqT.of (by rw[k9 (b.newOut a)];exact x3),r.mono (v4 a).wo⟩
theorem lx(b:Hid O W H0 H)(a:H p=none)(r:RepL D (L2.wo O H) ds xs):Got D O W H0 (upd H p (.tup xs)) (.tup ds) .weak (.ref p):=
 J0.mpr ⟨p,xs,rfl,SqT.of (by rw[k9 λ z=>b.newOut a (F2 _ z)];exact x3),r.mono (v4 a).wo⟩
theorem rr(hd:Hid O W H0 H)(a:H p=none)(r:RepL D (L2.wo (M0 O W c) H) ds xs):Got D O W H0 (upd H p (.tup xs)) (.tup ds) c.item (.ref p):=by
 cases c with
 | weak=>exact lx hd a r
 | top=>exact dF hd a r
 | strong=>exact dF hd a r
 | fresh=>exact dF hd a r
end
inductive GotL (D:Dm) (O W:List Addr) (H0 H:Hp):List (DV×Cl)->List V->Prop where
 | nil:GotL D O W H0 H [] []
 | cons {d:DV} {c:Cl} {v:V} {l:List (DV×Cl)} {vs:List V}:Got D O W H0 H d c v->GotL D O W H0 H l vs->GotL D O W H0 H ((d,c)::l) (v::vs)
theorem GotL.repL(h:GotL D O W H0 H l vs)(b:Hid O W H0 H):RepL D (L2.wo O H) (l.map (·.1)) vs:=by
 induction h with
 | nil=>exact E3.mpr rfl
 | cons h _ a=>exact x4.mpr ⟨_,_,rfl,h.weak b,a⟩
theorem GotL.stros(h:GotL D O W H0 H l vs)(b:Hid O W H0 H)(hs:L2.stros l=true):RepL D (L2.wo (O++W) H) (l.map (·.1)) vs:=by
 induction h with
 | nil=>exact E3.mpr rfl
 | cons h _ a=>
  unfold L2.stros at hs;rw[List.all_cons,f9]at hs;exact x4.mpr ⟨_,_,rfl,h.stro b hs.1,a hs.2⟩
theorem GotL.length(h:GotL D O W H0 H l vs):vs.length=l.length:=by
 induction h with
 | nil=>rfl
 | cons _ _ a=>rw[w6,w6,a]
theorem GotL.strong(h:GotL D O W H0 H l vs)(b:Hid O W H0 H)(hs:(l.all λ p=>p.2 == .strong||p.2 == .fresh)=true):RepL D (L2.wo (O++W) H) (l.map (·.1)) vs:=by
 refine h.stros b ?_;unfold L2.stros;rw[F4]at hs ⊢;intro p a;have:=hs p a;unfold L2.stro;cases e:p.2<;>rw[e]at this<;>first | rfl | cases this
theorem GotL.one(h:GotL D O W H0 H [(d,c)] vs):∃v,vs=[v]/\Got D O W H0 H d c v:=by
 cases h with
 | cons h t=>cases t;exact⟨_,rfl,h⟩
theorem GotL.two(h:GotL D O W H0 H [(d,c),(b,f)] vs):∃v a,vs=[v,a]/\Got D O W H0 H d c v/\Got D O W H0 H b f a:=by
 cases h with
 | cons h t=>obtain⟨a,e,g⟩:=t.one;subst e;exact⟨_,_,rfl,h,g⟩
noncomputable def oeD(L:on ((Int×Int)×Int)):DV:=.dct (L.map λ p=>.t [.inl p.1.1,.inl p.1.2]) (L.map λ p=>.int p.2)
noncomputable def oeK(L:on ((Int×Int)×Int)):on (on Key×V):=L.map λ p=>([.inl p.1.1,.inl p.1.2],.int p.2)
noncomputable def dicO:HO->Bool
 | .dK _=>true
 | .dT _=>true
 | _=>false
def OdOk(d:DV)(_:Iv)(o:HO):Prop:=∃L,d=.tup [oeD L]/\o=.dT (oeK L)
theorem OdOk.dic(h:OdOk d a o):dicO o=true:=by obtain⟨L,_,e⟩:=h;rw[e];rfl
theorem OdOk.mut(h:OdOk d a o):mutO o=true:=by obtain⟨L,_,e⟩:=h;rw[e];rfl
def OdAt(H:Hp)(σ:St)(δ:on Sv)(W:on Iv):Prop:=∀(i:Nat) d,δ[i]? = some (.od d)->(∃a o,OdOk d a o/\σ[i]? = some (some (.ref a))/\a∈W/\H a=some o)/\∀(j:Nat) d',δ[j]? = some (.od d')->j=i
theorem OdAt.step{H H':Hp}{σ σ':St}{δ δ':on Sv}{W W':on Iv}(h:OdAt H σ δ W)(hδ:∀(j:Nat) d,δ'[j]? = some (.od d)->δ[j]? = some (.od d)/\σ'[j]? = σ[j]?)(hW:∀a∈W,(∃o,H a=some o/\dicO o=true)->a∈W')(hH:∀a o,a∈W->H a=some o->dicO o=true->H' a=some o):OdAt H' σ' δ' W':=λ i d q=>by
 obtain⟨q1,q2⟩:=hδ i d q;obtain⟨⟨a,L,e0,e1,e2,e3⟩,u⟩:=h i d q1;exact⟨⟨a,L,e0,by rw[q2];exact e1,hW a e2 ⟨_,e3,e0.dic⟩,hH a _ e2 e3 e0.dic⟩,λ j d' z=>u j d' (hδ j d' z).1⟩
theorem ly{σ:St}{δ:on Sv}(x:Ir V)(c:∀d,X ≠ .od d):∀(j:Nat) d,(δ.set i X)[j]? = some (.od d)->δ[j]? = some (.od d)/\(σ.set i x)[j]? = σ[j]?:=λ j d h=>by
 have b:j≠i:=λ z=>by
  subst z;have a:j<δ.length:=by have:=(A9.mp h).1;rw[E9]at this;exact this
  rw[O0 a]at h;exact c d (E2 h)
 rw[A5 b.symm]at h ⊢;exact⟨h,rfl⟩
theorem Bt{σ:St}{δ:on Sv}(a:∀d,X ≠ .od d):∀(j:Nat) d,(δ.set i X)[j]? = some (.od d)->δ[j]? = some (.od d)/\σ[j]? = σ[j]?:=λ j d h=>⟨(ly (σ:=σ) none a j d h).1,rfl⟩
structure RSt(D:Dm)(H:Hp)(σ:St)(δ:List Sv)(O W:List Addr):Prop where
 val:∀(i:Nat) d,δ[i]? = some (.val d)->∃v,σ[i]? = some (some v)/\Rep D (L2.wo (O++W) H) d v
 own:∀(i:Nat) d,δ[i]? = some (.own d)->∃a xs ds,d=.lst ds/\σ[i]? = some (some (.ref a))/\a∈W/\H a=some (.lst xs)/\RepL D (L2.wo (O++W) H) ds xs
 inj:∀(i j:Nat) a d d',δ[i]? = some (.own d)->δ[j]? = some (.own d')->σ[i]? = some (some (.ref a))->σ[j]? = some (some (.ref a))->i=j
 od:OdAt H σ δ W
 len:σ.length=δ.length
 hid:Hid O W H H
theorem Hid.later(h:Hid O W H H)(e:Same H c):Hid O W c c:=⟨λ a b q=>h.ot a b (e.free q),Same.refl _,λ a b=>by obtain⟨d,q,m⟩:=h.wl a b;exact⟨d,e _ _ q,m⟩,h.dj,h.omS e⟩
theorem RSt.mono(R:RSt D H σ δ O W)(e:Same H g):RSt D g σ δ O W where
 val:=λ i d h=>by obtain⟨v,c,b⟩:=R.val i d h;exact⟨v,c,b.mono e.wo⟩
 own:=λ i f h=>by obtain⟨a,k,f,o,c,b,n,m⟩:=R.own i f h;exact⟨a,k,f,o,c,b,e _ _ n,m.mono e.wo⟩
 inj:=R.inj
 od:=R.od.step (λ j d h=>⟨h,rfl⟩) (λ _ h _=>h) (λ a l _ h _=>e _ _ h)
 len:=R.len
 hid:=R.hid.later e
noncomputable def Post(D:Dm)(O W:on Iv)(H0 H:Hp)(Q:VK):Re->Prop
 | .ok d c=>∀v H',Same H H'->Got D O W H0 H' d c v->Q v H'
def dE(D:Dm)(δ:on Sv)(r:Re):TE:=λ σ H Q=>∃O W,RSt D H σ δ O W/\Post D O W H H Q r
noncomputable def Bu(D:Dm)(O W:on Iv)(H0 H:Hp)(Q:on V->Hp->Prop):Rs->Prop
 | .ok l=>∀vs H',Same H H'->GotL D O W H0 H' l vs->Q vs H'
def dA(D:Dm)(δ:on Sv)(r:Rs):TA:=λ σ H Q=>∃O W,RSt D H σ δ O W/\Bu D O W H H Q r
noncomputable def gJ(D:Dm)(H:Hp)(Q:Bool->Hp->Prop):Rt->Prop
 | .ok b=>∀H',Same H H'->Q b H'
def dT(D:Dm)(δ:on Sv)(r:Rt):TT:=λ σ H Q=>∃O W,RSt D H σ δ O W/\gJ D H Q r
theorem Post.step(h:Post D O W b H Q r)(e:Same H a):Post D O W b a Q r:=by
 cases r with
 | ok d c=>exact λ v f s g=>h v f (e.trans s) g
theorem Post.later(h:Post D O W b H Q r)(e:Same H a)(f:Same b a):Post D O W a a Q r:=by
 cases r with
 | ok d c=>exact λ v i s g=>h v i (e.trans s) (g.since f)
theorem GotL.since(h:GotL D O W a H l vs)(e:Same b a):GotL D O W b H l vs:=by
 induction h with
 | nil=>exact .nil
 | cons g _ c=>exact .cons (g.since e) c
theorem gJ.later(h:gJ D H Q r)(e:Same H a):gJ D a Q r:=by
 cases r with
 | ok b=>exact λ c s=>h c (e.trans s)
theorem PE.weak(h:PE X e t)(k:∀a H Q,t' a H Q->t a H Q):PE X e t':=λ b s a H Q I q=>h b s a H Q I (k a H Q q)
theorem PT.weak(h:PT X e t)(k:∀a H Q,t' a H Q->t a H Q):PT X e t':=λ b s a H Q I q=>h b s a H Q I (k a H Q q)
theorem PW.weak(h:PW X e t)(k:∀b H Q,t' b H Q->t b H Q):PW X e t':=λ a c s b H Q I q=>h a c s b H Q I (k b H Q q)
theorem PA.weak(h:PA X e t)(k:∀a H Q,t' a H Q->t a H Q):PA X e t':=λ c b s a H Q I q=>h c b s a H Q I (k a H Q q)
theorem PS.weak(h:PS X e t)(k:∀D a H,t' D a H->t D a H):PS X e t':=λ b s a H D I q=>h b s a H D I (k D a H q)
theorem PSs.weak(h:PSs X e t)(k:∀D a H,t' D a H->t D a H):PSs X e t':=λ b s a H D I q=>h b s a H D I (k D a H q)
theorem rx:PW X e (λ _ _ _=>False):=λ _ _ _ _ _ _ _ h=>h.elim
theorem lz:PE X e (λ _ _ _=>False):=λ _ _ _ _ _ _ h=>h.elim
theorem S6(h:n<=m7):n<=sizeLine:=i9 h IL
theorem ry(g:∀j,PE X a j->PE X e (tUn r j))(m:∀q,f=some q->PE X a IZ)(h:Re.thn f k=some c)
  (l:∀O W i H x Q d cx (σ:St),k d cx=some c->Hid O W i H->Got X.D O W i H d cx x->Post X.D O W i H Q c->r x H Q):PE X e (dE X.D δ c):=by
 cases b:f with
 | none=>rw[b]at h;cases h
 | some q=>
  rw[b]at h;have A:=m q b;cases q with
  | ok d cx=>
   exact(g _ A).weak λ σ H Q ⟨O,W,R,p⟩=>⟨O,W,R,λ x o s1 n=>l O W H o x Q d cx σ h (R.hid.mono s1) n (p.step s1)⟩
theorem rA{k:DV->Cl->DV->Cl->Ir Re}(v:∀q,m=some q->PE X a IZ)(u:∀q,l=some q->PE X b IZ)
  (h:(Re.thn m λ x cx=>Re.thn l λ y cy=>k x cx y cy)=some e)
  (s:∀O W j H x y Q i cx g cy (σ:St),k i cx g cy=some e->Hid O W j H->Got X.D O W j H i cx x->Got X.D O W j H g cy y->Post X.D O W j H Q e->r x y H Q) :
  ∃o n,PE X a o/\PE X b n/\∀σ H Q,dE X.D δ e σ H Q->tOp r o n σ H Q:=by
 cases d:m with
 | none=>rw[d]at h;cases h
 | some q=>
  rw[d]at h;have A:=v q d;cases q with
  | ok i cx=>
   have f:=h;cases c:l with
   | none=>rw[c]at f;cases f
   | some q=>
    rw[c]at f;have B:=u q c;cases q with
    | ok g cy=>
     exact⟨_,_,A,B,λ σ H Q ⟨O,W,R,p⟩=>⟨O,W,R,λ x H1 s1 z=>⟨O,W,R.mono s1,λ y C s2 w=>
      s O W H C x y Q i cx g cy σ f ((R.hid.mono s1).mono s2) (z.mono s2) (w.since s1) (p.step (s1.trans s2))⟩⟩⟩
theorem lA{k:DV->Cl->DV->Cl->Ir Re}(i:∀g f,PE X a g->PE X b f->PE X e (tOp r g f))(s:∀q,l=some q->PE X a IZ)(p:∀q,j=some q->PE X b IZ)
  (h:(Re.thn l λ x cx=>Re.thn j λ y cy=>k x cx y cy)=some c)
  (o:∀O W d H x y Q n cx m cy (σ:St),k n cx m cy=some c->Hid O W d H->Got X.D O W d H n cx x->Got X.D O W d H m cy y->Post X.D O W d H Q c->r x y H Q):PE X e (dE X.D δ c):=by
 obtain⟨g,f,A,B,q⟩:=rA s p h o;exact(i _ _ A B).weak q
theorem az(d:∀t,PA X es t->PE X e (tCB r t))(i:∀q,c=some q->PA X es (dA X.D δ q))(h:Rs.thn c k=some b)
  (g:∀O W f H vs Q l (σ:St),k l=some b->Hid O W f H->GotL X.D O W f H l vs->Post X.D O W f H Q b->r vs H Q):PE X e (dE X.D δ b):=by
 cases a:c with
 | none=>rw[a]at h;cases h
 | some q=>
  rw[a]at h;have A:=i q a;cases q with
  | ok l=>
   exact(d _ A).weak λ σ H Q ⟨O,W,R,p⟩=>⟨O,W,R,λ vs m s1 j=>g O W H m vs Q l σ h (R.hid.mono s1) j (p.step s1)⟩
theorem Bv{i:Nat}(g:X.N[i]? = some x)(hv:Vis X.env.scope x)(hd:(x==("__debug__" : Str))=false)(c:(x==("__classdict__" : Str))=false)
  (h:varE δ[i]? = some r):PE X (.Name x pos) (dE X.D δ r):=
 (R6 g hv hd c).weak λ σ H Q ⟨O,W,R,p⟩=>by
  unfold varE at h;split at h
  ·rename_i d q;cases h;obtain⟨v,e,b⟩:=R.val i d q;exact⟨v,e,p v H (Same.refl H) b⟩
  ·rename_i d q;cases h;obtain⟨a,f,ds,l,e,b,k,j⟩:=R.own i d q;subst l;refine⟨.ref a,e,p _ H (Same.refl H) ⟨a,f,rfl,b,?_,j⟩⟩;rw[k9 (R.hid.dj a b)];exact k
  ·cases h
theorem Bw:PE X (.Constant (.int i) j pos) (dE X.D δ (.ok (.int i) .strong)):=xu.weak λ σ H Q ⟨O,W,R,p⟩=>p _ H (Same.refl H) x5
theorem Bx:PE X (.Constant (.bool i) j pos) (dE X.D δ (.ok (.bl i) .strong)):=xv.weak λ σ H Q ⟨O,W,R,p⟩=>p _ H (Same.refl H) ay
theorem By(h:i.length<=sizeLine):PE X (.Constant (.str i) j pos) (dE X.D δ (.ok (.str i) .strong)):=jL.weak λ σ H Q ⟨O,W,R,p⟩=>p _ H (Same.refl H) (dB.mpr ⟨rfl,h⟩:Rep X.D (L2.wo (O++W) H) _ _)
theorem Bz:PE X (.Constant .none j pos) (dE X.D δ (.ok .non .strong)):=xw.weak λ σ H Q ⟨O,W,R,p⟩=>p _ H (Same.refl H) Bs
section
variable {X:Cx} {δ:on Sv} {a b c e:Ix} {pos:Pos} {ra rb:Ir Re} {re:Re}
theorem bE{a:Hp}(b:Hid O W a H)(e:Got D O W a H (.int i) h x)(d:Got D O W a H (.int j) f y)(c:C i j)(q:Q (g i j) H):rI C g x y H Q:=
 ⟨i,j,e.int b,d.int b,c,q⟩
theorem gK{a:Hp}{e:Cl}(b:Hid O W a H)(d:Got D O W a H (.int i) f x)(c:Got D O W a H (.int j) e y)(q:Q (g i j) H):rI0 g x y H Q:=
 ⟨i,j,d.int b,c.int b,q⟩
theorem rC{b a:Cl}(h:b ≠ .weak)(c:a ≠ .weak):Cl.anew b a=.fresh:=by
 cases b<;>cases a<;>first | rfl | exact absurd rfl h | exact absurd rfl c
def gL(i j:Int):Prop:=CMul i j\/(i.natAbs<2^2000/\j.natAbs<2^2000)
theorem rD(h:i.natAbs<2^n):Builtin.Int.intBits i<=n:=by
 unfold Builtin.Int.intBits;by_cases a:i=0
 ·subst a;exact G3 n
 ·rw[g8 (by grind)];have:=λ z=>a (Int.natAbs_eq_zero.mp z)
  exact(fE this).mpr h
theorem gL.ok(h:gL i j):IntMulOk i j:=by
 rcases h with h | ⟨h1,h2⟩
 ·exact h.ok
 ·unfold IntMulOk;have b1:=rD h1;have b2:=rD h2;have:Builtin.Int.intTooBig ((Builtin.Int.intBits i:Int)+(Builtin.Int.intBits j:Int))=false:=by
   unfold Builtin.Int.intTooBig;rw[C7];have:((bitsLine:Nat):Int)=134217728:=by decide
   omega
  rw[this,Bool.and_false];exact B1
theorem BA:OpR X (binaryOp .Mult) (rI gL λ i j=>.int (i*j)):=opI λ _ _ _ _ _ _ _ a q=>mul_int q a.ok
theorem BB:OpR X (binaryOp .FloorDiv) (rI (λ _ j=>0<j/\j<2^200) λ i j=>.int (i/j)):=opI λ i j _ _ _ _ _ a q=>by
 have h1:=a.1;have b:j.natAbs<2^200:=by have:=a.2;omega
 refine floordiv_int IK (by rw[nU i IK];exact q) (.inl (PyProof.noPylong_of_log2 ?_));exact u6 ((fE IK).mpr b) IL
def binR(X:Cx):Operator->R2
 | .Add=>λ x y H Q=>rI0 (λ i j=>.int (i+j)) x y H Q\/rCat x y H Q\/pA X.K x y H Q
 | .Sub=>rI0 λ i j=>.int (i - j)
 | .Mult=>λ x y H Q=>rI gL (λ i j=>.int (i*j)) x y H Q\/rRep x y H Q
 | .Mod=>λ x y H Q=>rI (λ _ j=>0<j) (λ i j=>.int (i%j)) x y H Q\/rI (λ _ j=>j≠0) (λ i j=>.int (i.fmod j)) x y H Q
 | .FloorDiv=>rI (λ _ j=>0<j/\j<2^200) λ i j=>.int (i/j)
 | .LShift=>rI CPow λ i j=>.int (i*2^j.toNat)
 | .RShift=>rI (λ _ j=>0<=j) λ i j=>.int (i/2^j.toNat)
 | .BitAnd=>rI0 λ i j=>.int (Builtin.bitAnd i j)
 | .BitOr=>rI0 λ i j=>.int (Builtin.bitOr i j)
 | _=>λ _ _ _ _=>False
theorem BC:OpR X (binaryOp op) (binR X op):=by
 cases op with
 | Add=>exact yb.or (ze.or yM)
 | Sub=>exact yc
 | Mult=>exact BA.or zg
 | Mod=>exact yd.or ye
 | FloorDiv=>exact BB
 | LShift=>exact yf
 | RShift=>exact yg
 | BitAnd=>exact yh
 | BitOr=>exact yi
 | BitXor=>exact λ _ _ _ _ _ _ _ _ _ _ _ _ h=>h.elim
 | MatMult=>exact λ _ _ _ _ _ _ _ _ _ _ _ _ h=>h.elim
 | Div=>exact λ _ _ _ _ _ _ _ _ _ _ _ _ h=>h.elim
 | Pow=>exact λ _ _ _ _ _ _ _ _ _ _ _ _ h=>h.elim
theorem D6(h:asI d=some i):d=.int i:=by cases d<;>cases h;rfl
theorem BD(h:asL d=some i):d=.lst i:=by cases d<;>cases h;rfl
theorem BE(h:asTp d=some i):d=.tup i:=by cases d<;>cases h;rfl
theorem BF(h:binD op E C cx cy=some re)(hd:Hid O W v H)(c:Got X.D O W v H E cx x)(d:Got X.D O W v H C cy y)
  (p:Post X.D O W v H Q re):binR X op x y H Q:=by
 unfold binD at h;cases op
 case Add=>
  dsimp only at h;split at h
  ·rename_i o
   replace h:=v5.mp h
   obtain⟨n,a,h⟩:=h;have a:=D6 a;subst a;cases h;exact .inl (gK hd c d (p _ H (Same.refl H) x5))
  ·rename_i B
   replace h:=v5.mp h
   obtain⟨A,a,h⟩:=h;have a:=BD a;subst a;split at h
   ·rename_i m;cases h;by_cases g:cx ≠ .weak/\cy ≠ .weak
    ·obtain⟨j,i,b,l,r1⟩:=c.items hd g.1;obtain⟨s,r,a,u,f⟩:=d.items hd g.2;refine .inr (.inl ⟨j,s,i,r,b,a,l,u,by rw[r1.length,f.length];exact S6 m,λ q e=>p _ _ (v4 e) ?_⟩);rw[rC g.1 g.2];exact S5 hd e (r1.append f)
    ·obtain⟨j,i,b,l,r1⟩:=c.lst hd;obtain⟨s,r,a,u,f⟩:=d.lst hd;refine .inr (.inl ⟨j,s,i,r,b,a,l,u,by rw[r1.length,f.length];exact S6 m,λ q e=>p _ _ (v4 e) ?_⟩);have:Cl.anew cx cy=.weak:=(by cases cx<;>cases cy<;>first | rfl | exact absurd ⟨(by intro z;cases z),IT⟩ g);rw[this];exact lw hd e (r1.append f)
   ·cases h
  ·rename_i B
   replace h:=v5.mp h
   obtain⟨A,a,h⟩:=h;have a:=BE a;subst a;split at h
   ·rename_i m;cases h;by_cases g:cx ≠ .weak/\cy ≠ .weak
    ·obtain⟨j,i,b,l,r1⟩:=c.itemsT hd g.1;obtain⟨s,r,a,u,f⟩:=d.itemsT hd g.2;have cl:(Cl.anew cx cy).notF=.strong:=by rw[rC g.1 g.2];rfl
     rw[cl]at p;refine .inr (.inr ⟨j,s,i,r,b,a,l,u,λ z=>m.2 (by have:=r1.length;rw[z]at this;exact W0.mp this.symm),by rw[r1.length,f.length];exact S6 m.1,λ z=>?_,λ _ q e=>p _ _ (v4 e) (dF hd e (r1.append f))⟩);refine p _ _ (Same.refl _) ?_;have w:A=[]:=by have:=f.length;rw[z]at this;exact W0.mp this.symm
     subst w;rw[G1];cases cx with
     | weak=>exact absurd rfl g.1
     | top=>rw[←b];exact c
     | strong=>rw[←b];exact c
     | fresh=>obtain⟨_,_,_,_,q,_⟩:=c;cases q
    ·obtain⟨j,i,b,l,r1⟩:=c.tup hd;obtain⟨s,r,a,u,f⟩:=d.tup hd;have cl:(Cl.anew cx cy).notF=.weak:=(by cases cx<;>cases cy<;>first | rfl | exact absurd ⟨(by intro z;cases z),IT⟩ g);rw[cl]at p;refine .inr (.inr ⟨j,s,i,r,b,a,l,u,λ z=>m.2 (by have:=r1.length;rw[z]at this;exact W0.mp this.symm),by rw[r1.length,f.length];exact S6 m.1,λ z=>?_,λ _ q e=>p _ _ (v4 e) (lx hd e (r1.append f))⟩);refine p _ _ (Same.refl _) ?_;have w:A=[]:=by have:=f.length;rw[z]at this;exact W0.mp this.symm
     subst w;rw[G1,←b];exact c.weak hd
   ·cases h
  ·cases h
 case Sub=>
  dsimp only at h
  replace h:=v5.mp h
  obtain⟨o,b,h⟩:=h
  replace h:=v5.mp h
  obtain⟨n,a,h⟩:=h;have b:=D6 b;have a:=D6 a;subst b a;cases h;exact gK hd c d (p _ H (Same.refl H) x5)
 case Mult=>
  dsimp only at h;split at h
  ·rename_i o
   replace h:=v5.mp h
   obtain⟨n,a,h⟩:=h;have a:=D6 a;subst a;split at h
   ·rename_i m;cases h;refine .inl (bE hd c d ?_ (p _ H (Same.refl H) x5));unfold Q1 at m;simp only[F0,f9,B2]at m;exact m
   ·cases h
  ·rename_i B
   replace h:=v5.mp h
   obtain⟨k,a,h⟩:=h;have a:=D6 a;subst a;split at h
   ·rename_i m;cases h;obtain⟨j,i,b,l,r1⟩:=c.lstC hd;refine .inr ⟨j,k,i,b,d.int hd,l,m.2.1,m.2.2,by rw[r1.length];exact S6 m.1,λ q e=>p _ _ (v4 e) (gI hd e (r1.rep _))⟩
   ·cases h
  ·cases h
 case Mod=>
  dsimp only at h
  replace h:=v5.mp h
  obtain⟨o,b,h⟩:=h
  replace h:=v5.mp h
  obtain⟨n,a,h⟩:=h;have b:=D6 b;have a:=D6 a;subst b a;split at h
  ·rename_i m;cases h;exact .inl (bE hd c d m (p _ H (Same.refl H) x5))
  ·split at h
   ·rename_i m;cases h;exact .inr (bE hd c d m (p _ H (Same.refl H) x5))
   ·cases h
 case FloorDiv=>
  dsimp only at h
  replace h:=v5.mp h
  obtain⟨o,b,h⟩:=h
  replace h:=v5.mp h
  obtain⟨n,a,h⟩:=h;have b:=D6 b;have a:=D6 a;subst b a;split at h
  ·rename_i m;cases h;exact bE hd c d m (p _ H (Same.refl H) x5)
  ·cases h
 case LShift=>
  dsimp only at h
  replace h:=v5.mp h
  obtain⟨o,b,h⟩:=h
  replace h:=v5.mp h
  obtain⟨n,a,h⟩:=h;have b:=D6 b;have a:=D6 a;subst b a;split at h
  ·rename_i m;cases h;exact bE hd c d m (p _ H (Same.refl H) x5)
  ·cases h
 case RShift=>
  dsimp only at h
  replace h:=v5.mp h
  obtain⟨o,b,h⟩:=h
  replace h:=v5.mp h
  obtain⟨n,a,h⟩:=h;have b:=D6 b;have a:=D6 a;subst b a;split at h
  ·rename_i m;cases h;exact bE hd c d m (p _ H (Same.refl H) x5)
  ·cases h
 case BitOr=>
  dsimp only at h
  replace h:=v5.mp h
  obtain⟨o,b,h⟩:=h
  replace h:=v5.mp h
  obtain⟨n,a,h⟩:=h;have b:=D6 b;have a:=D6 a;subst b a;cases h;exact gK hd c d (p _ H (Same.refl H) x5)
 case BitAnd=>
  dsimp only at h
  replace h:=v5.mp h
  obtain⟨o,b,h⟩:=h
  replace h:=v5.mp h
  obtain⟨n,a,h⟩:=h;have b:=D6 b;have a:=D6 a;subst b a;cases h;exact gK hd c d (p _ H (Same.refl H) x5)
 all_goals (dsimp only at h;cases h)
theorem BG(f:∀q,ra=some q->PE X a IZ)(e:∀q,rb=some q->PE X b IZ)(h:(Re.thn ra λ x d=>Re.thn rb λ y c=>binD op x y d c)=some re):PE X (.BinOp a op b pos) (dE X.D δ re):=
 lA (λ _ _=>xY BC) f e h λ O W H0 H x y Q dx d dy c σ k hd i g p=>BF k hd i g p
theorem BH(b:∀q,ra=some q->PE X a IZ)(h:(Re.thn ra λ x _=>match x with | .int i=>some (.ok (.int (-i)) .strong) | _=>none)=some re):PE X (.UnaryOp .USub a pos) (dE X.D δ re):=
 ry (λ _=>xZ yj) b h λ O W H0 H x Q dx cx σ k hd c p=>by
  split at k
  ·cases k;exact⟨_,c.int hd,p _ H (Same.refl H) x5⟩
  ·cases k
theorem BI:atD ds i=L2.atI ds i:=rfl
theorem RepL.atI(h:RepL D H ds xs)(e:atD ds i=some d):∃v,L2.atI xs i=some v/\Rep D H d v:=by
 rw[BI]at e;unfold L2.atI at e ⊢;rw[h.length];cases q:ixN ds.length i with
 | none=>rw[q]at e;cases e
 | some j=>
  rw[q]at e;exact h.get e
theorem BJ(h:((ixD A w).map λ d=>Re.ok d cx.item)=some re)(hd:Hid O W k H)(s:Got X.D O W k H A cx x)(r:Got X.D O W k H w cy y)
  (p:Post X.D O W k H Q re):rIx X.K x y H Q:=by
 obtain⟨d,e,F⟩:=B0.mp h;cases F;unfold ixD at e;split at e
 ·rename_i c i;obtain⟨a,g,f⟩:=Y3.mp (s.all hd);obtain⟨n,E,C⟩:=B0.mp e;cases C;have q:L2.atI (c.map V.int) i=some (.int n):=by
   unfold L2.atI;rw[g6];have b:((ixN c.length i).bind λ j=>c[j]?)=some n:=E;cases z:ixN c.length i with
   | none=>rw[z]at b;cases b
   | some j=>
    rw[z]at b;have B:c[j]? = some n:=b;show(c.map V.int)[j]? = _;rw[q0,B];rfl
  refine .inl ⟨a,_,i,_,g,r.int hd,f.sq,q,p _ H (Same.refl H) ?_⟩;cases cx<;>exact x5
 ·obtain⟨a,l,g,f,u⟩:=s.lstC hd;obtain⟨v,o,m⟩:=u.atI e;exact .inl ⟨a,l,_,v,g,r.int hd,SqL.of f,o,p _ H (Same.refl H) (Got.item m)⟩
 ·obtain⟨a,l,g,f,u⟩:=s.tupC hd;obtain⟨v,o,m⟩:=u.atI e;exact .inr (.inl ⟨a,l,_,v,g,r.int hd,f,o,p _ H (Same.refl H) (Got.item m)⟩)
 ·cases e
theorem BK(g:∀q,ra=some q->PE X a IZ)(f:∀q,rb=some q->PE X b IZ)(e:V0 b=false)(h:(Re.thn ra λ x c=>Re.thn rb λ y _=>(ixD x y).map λ d=>.ok d c.item)=some re):PE X (.Subscript a b pos) (dE X.D δ re):=
 lA (λ _ _ j i=>yO yS j i (by cases b<;>first | (intro _ _;rfl) | cases e)) g f h λ O W H0 H x y Q dx c dy cy σ k hd m l p=>BJ k hd m l p
theorem gM(n d:Nat)(o:Ir Int):slIx n d o=HT.sIx n d o:=by cases o<;>rfl
theorem RepL.cut(h:RepL D H ds xs)(a b:Ir Int):RepL D H (cutD ds a b) (cutV xs a b):=by
 unfold cutD cutV;rw[gM,gM,←h.length];exact(h.drop _).take _
theorem lB{e:Ir Int}(h:((slD n e f).map λ d=>Re.ok d (slCl n cx))=some re)(hd:Hid O W o H)(l:Got X.D O W o H n cx x)
  (p:Post X.D O W o H Q re):rSlL X.K x e f H Q\/rSlT X.K x e f H Q:=by
 obtain⟨d,c,s⟩:=B0.mp h;cases s;unfold slD at c;split at c
 ·rename_i r;cases c;obtain⟨a,i,g⟩:=Y3.mp (l.all hd);exact .inl ⟨a,_,i,g.sq,λ q b=>p _ _ (v4 b) (S5 hd b ((bC r).cut e f))⟩
 ·cases c;obtain⟨a,k,i,g,j⟩:=l.lstC hd;exact .inl ⟨a,k,i,SqL.of g,λ q b=>p _ _ (v4 b) (gI hd b (j.cut e f))⟩
 ·rename_i ds;split at c
  ·cases c
  ·rename_i m;cases c;obtain⟨a,k,i,g,j⟩:=l.tupC hd;refine .inr ⟨a,k,i,g,?_,λ q b=>p _ _ (v4 b) (rr hd b (j.cut e f))⟩;rw[gM,gM,←j.length]at m;exact m
 ·cases c
theorem lC:SlR X (λ x a b H Q=>rSlL X.K x a b H Q\/rSlT X.K x a b H Q):=yY.or yL
theorem gO(h:PE X b (dE X.D δ (.ok (.int i) cl))):PO X (some b) (λ d H Q=>∃O W,RSt X.D H d δ O W/\∀c,Same H c->Q (some i) c):=λ a s d H Q I ⟨O,W,R,p⟩=>
 yK h a s d H Q I ⟨O,W,R,λ v c s1 g=>⟨i,g.int (R.hid.mono s1),p c s1⟩⟩
theorem BL(j:∀q,ra=some q->PE X a IZ)(i:∀q,rb=some q->PE X b IZ)(h:(Re.thn ra λ x g=>Re.thn rb λ l _=>match l with
  | .int l=>(slD x (some l) none).map λ d=>.ok d (slCl x g) | _=>none)=some re):PE X (.Subscript a (.Slice (some b) none none p2) pos) (dE X.D δ re):=by
 cases e:ra with
 | none=>rw[e]at h;cases h
 | some q=>
  rw[e]at h;have A:=j q e;cases q with
  | ok n g=>
   cases c:rb with
   | none=>rw[c]at h;cases h
   | some q=>
    rw[c]at h;have B:=i q c;cases q with
    | ok m cy=>
     have f:(match(generalizing:=false) m with | .int l=>(slD n _ none).map λ d=>Re.ok d _ | _=>none)=some re:=h;split at f
     ·rename_i l;exact(jU lC A (gO B) pw).weak λ σ H Q ⟨O,W,R,p⟩=>⟨O,W,R,λ x H1 s1 k=>⟨O,W,R.mono s1,λ H2 s2=>lB f ((R.hid.mono s1).mono s2) (k.mono s2) (p.step (s1.trans s2))⟩⟩
     ·cases f
theorem BM(j:∀q,ra=some q->PE X a IZ)(i:∀q,rb=some q->PE X b IZ)(h:(Re.thn ra λ x g=>Re.thn rb λ l _=>match l with
  | .int l=>(slD x none (some l)).map λ d=>.ok d (slCl x g) | _=>none)=some re):PE X (.Subscript a (.Slice none (some b) none p2) pos) (dE X.D δ re):=by
 cases e:ra with
 | none=>rw[e]at h;cases h
 | some q=>
  rw[e]at h;have A:=j q e;cases q with
  | ok n g=>
   cases c:rb with
   | none=>rw[c]at h;cases h
   | some q=>
    rw[c]at h;have B:=i q c;cases q with
    | ok m cy=>
     have f:(match(generalizing:=false) m with | .int l=>(slD n none _).map λ d=>Re.ok d _ | _=>none)=some re:=h;split at f
     ·rename_i l;exact(jU lC A pw (gO B)).weak λ σ H Q ⟨O,W,R,p⟩=>⟨O,W,R,λ x H1 s1 k=>⟨O,W,R.mono s1,λ H2 s2=>lB f ((R.hid.mono s1).mono s2) (k.mono s2) (p.step (s1.trans s2))⟩⟩
     ·cases f
theorem BN(v:∀q,ra=some q->PE X a IZ)(s:∀q,rb=some q->PE X b IZ)(r:∀q,j=some q->PE X c IZ)(h:(Re.thn ra λ x o=>Re.thn rb λ l _=>match l with
  | .int l=>Re.thn j λ u _=>(match u with
   | .int u=>(slD x (some l) (some u)).map λ d=>.ok d (slCl x o) | _=>none) | _=>none)=some re):PE X (.Subscript a (.Slice (some b) (some c) none p2) pos) (dE X.D δ re):=by
 cases g:ra with
 | none=>rw[g]at h;cases h
 | some q=>
  rw[g]at h;have A:=v q g;cases q with
  | ok n o=>
   cases f:rb with
   | none=>rw[f]at h;cases h
   | some q=>
    rw[f]at h;have B:=s q f;cases q with
    | ok z cy=>
     have i:(match(generalizing:=false) z with | .int l=>Re.thn j λ u _=>(match u with | .int u=>(slD n (some l) (some u)).map λ d=>Re.ok d _ | _=>none) | _=>none)=some re:=h;split at i
     ·rename_i l;cases e:j with
      | none=>rw[e]at i;cases i
      | some q=>
       rw[e]at i;have C:=r q e;cases q with
       | ok y cz=>
        have m:(match(generalizing:=false) y with | .int u=>(slD n (some l) (some u)).map λ d=>Re.ok d (slCl n o) | _=>none)=some re:=i;split at m
        ·rename_i u;exact(jU lC A (gO B) (gO C)).weak λ σ H Q ⟨O,W,R,p⟩=>⟨O,W,R,λ x H1 s1 w=>⟨O,W,R.mono s1,λ H2 s2=>⟨O,W,(R.mono s1).mono s2,λ H3 k=>lB m (((R.hid.mono s1).mono s2).mono k) ((w.mono s2).mono k) (p.step (s1.trans (s2.trans k)))⟩⟩⟩
        ·cases m
     ·cases i
end
mutual
noncomputable def toP:DV->PyData
 | .non=>.none | .bl b=>.bool b | .int i=>.int i | .str x=>.str x
 | .tup ds=>.tuple (toPs ds) | .lst ds=>.list (toPs ds)
 | _=>.none
noncomputable def toPs:on DV->on PyData
 | []=>[]
 | d::r=>toP d::toPs r
end
mutual
theorem dG:∀(n m:Nat) (d e:DV),d.plain n=true->e.plain m=true->PyData.eqv (toP d) (toP e)=deq d e
 | n,m,.non,e,_,h=>by cases e<;>first | (cases m<;>simp[DV.plain]at h;done) | (simp only[toP,PyData.eqv,deq])
 | n,m,.bl _,e,_,h=>by cases e<;>first | (cases m<;>simp[DV.plain]at h;done) | (simp only[toP,PyData.eqv,deq])
 | n,m,.int _,e,_,h=>by cases e<;>first | (cases m<;>simp[DV.plain]at h;done) | (simp only[toP,PyData.eqv,deq])
 | n,m,.str x,e,_,h=>by
  cases e with
  | str y=>simp only[toP,PyData.eqv,deq];rfl
  | non=>simp only[toP,PyData.eqv,deq]
  | bl _=>simp only[toP,PyData.eqv,deq]
  | int _=>simp only[toP,PyData.eqv,deq]
  | tup _=>simp only[toP,PyData.eqv,deq]
  | lst _=>simp only[toP,PyData.eqv,deq]
  | dct _ _=>cases m<;>simp[DV.plain]at h
  | fn _=>cases m<;>simp[DV.plain]at h
  | lam _ _=>cases m<;>simp[DV.plain]at h
  | scr _=>cases m<;>simp[DV.plain]at h
 | 0,_,.tup _,_,h,_=>by simp[DV.plain]at h
 | 0,_,.lst _,_,h,_=>by simp[DV.plain]at h
 | n+1,m,.tup ds,e,h,h'=>by
  cases e with
  | tup es=>
   cases m with
   | zero=>simp[DV.plain]at h'
   | succ m=>
    simp only[toP,PyData.eqv,deq];exact lD n m ds es (by simpa[DV.plain]using h) (by simpa[DV.plain]using h')
  | non=>simp only[toP,PyData.eqv,deq]
  | bl _=>simp only[toP,PyData.eqv,deq]
  | int _=>simp only[toP,PyData.eqv,deq]
  | str _=>simp only[toP,PyData.eqv,deq]
  | lst _=>simp only[toP,PyData.eqv,deq]
  | dct _ _=>cases m<;>simp[DV.plain]at h'
  | fn _=>cases m<;>simp[DV.plain]at h'
  | lam _ _=>cases m<;>simp[DV.plain]at h'
  | scr _=>cases m<;>simp[DV.plain]at h'
 | n+1,m,.lst ds,e,h,h'=>by
  cases e with
  | lst es=>
   cases m with
   | zero=>simp[DV.plain]at h'
   | succ m=>
    simp only[toP,PyData.eqv,deq];exact lD n m ds es (by simpa[DV.plain]using h) (by simpa[DV.plain]using h')
  | non=>simp only[toP,PyData.eqv,deq]
  | bl _=>simp only[toP,PyData.eqv,deq]
  | int _=>simp only[toP,PyData.eqv,deq]
  | str _=>simp only[toP,PyData.eqv,deq]
  | tup _=>simp only[toP,PyData.eqv,deq]
  | dct _ _=>cases m<;>simp[DV.plain]at h'
  | fn _=>cases m<;>simp[DV.plain]at h'
  | lam _ _=>cases m<;>simp[DV.plain]at h'
  | scr _=>cases m<;>simp[DV.plain]at h'
 | n,_,.dct _ _,_,h,_=>by cases n<;>simp[DV.plain]at h
 | n,_,.fn _,_,h,_=>by cases n<;>simp[DV.plain]at h
 | n,_,.lam _ _,_,h,_=>by cases n<;>simp[DV.plain]at h
 | n,_,.scr _,_,h,_=>by cases n<;>simp[DV.plain]at h
theorem lD:∀(n m:Nat) (ds es:on DV),DV.plains n ds=true->DV.plains m es=true->PyData.eqvAll (toPs ds) (toPs es)=deqs ds es
 | _,_,[],[],_,_=>by simp only[toPs,PyData.eqvAll,deqs]
 | _,_,[],_::_,_,_=>by simp only[toPs,PyData.eqvAll,deqs]
 | _,_,_::_,[],_,_=>by simp only[toPs,PyData.eqvAll,deqs]
 | n,m,d::ds,e::es,h,h'=>by simp only[DV.plains,f9]at h h';simp only[toPs,PyData.eqvAll,deqs,dG n m d e h.1 h'.1,lD n m ds es h.2 h'.2]
end
mutual
theorem bF:∀(n:Nat) (d:DV),d.plain n=true->(toP d).canLay0=true/\(toP d).depth<=n
 | n,.non,_=>by simp[toP,PyData.canLay0,PyData.depth]
 | n,.bl _,_=>by simp[toP,PyData.canLay0,PyData.depth]
 | n,.int _,_=>by simp[toP,PyData.canLay0,PyData.depth]
 | n,.str x,h=>by
  have h':(x.cps.all (· < 0x110000))=true:=by cases n<;>simpa[DV.plain]using h
  simp only[toP,PyData.canLay0,PyData.depth];exact⟨h',G3 _⟩
 | 0,.tup _,h=>by simp[DV.plain]at h
 | 0,.lst _,h=>by simp[DV.plain]at h
 | n+1,.tup ds,h=>by have q:=aA n ds (by simpa[DV.plain]using h);simp only[toP,PyData.canLay0,PyData.depth,q.1,true_and];have:=q.2;omega
 | n+1,.lst ds,h=>by have q:=aA n ds (by simpa[DV.plain]using h);simp only[toP,PyData.canLay0,PyData.depth,q.1,true_and];have:=q.2;omega
 | n,.dct _ _,h=>by cases n<;>simp[DV.plain]at h
 | n,.fn _,h=>by cases n<;>simp[DV.plain]at h
 | n,.lam _ _,h=>by cases n<;>simp[DV.plain]at h
 | n,.scr _,h=>by cases n<;>simp[DV.plain]at h
theorem aA:∀(n:Nat) (ds:on DV),DV.plains n ds=true->PyData.canLayAll0 (toPs ds)=true/\PyData.depthAll (toPs ds)<=n
 | _,[],_=>by simp[toPs,PyData.canLayAll0,PyData.depthAll]
 | n,d::ds,h=>by simp only[DV.plains,f9]at h;have q:=bF n d h.1;have q':=aA n ds h.2;simp only[toPs,PyData.canLayAll0,PyData.depthAll,q.1,q'.1,Bool.and_self,true_and];have a:=q.2;have b:=q'.2;omega
end
section
variable {X:Cx} {pins:on (Iv×Obj)} {σ:St} {H:Hp} {s:Iu}
mutual
theorem N7(I:IV pins):∀(n:Nat) {d:DV} {v:V} {u:Is},d.plain n=true->Rep X.D H d v->RelV v u->∃as,Reads s.heap u (toP d) as
 | _,.non,_,_,_,h,r=>by rw[bB.mp h]at r;cases r;exact⟨_,Reads.none⟩
 | _,.bl b,_,_,_,h,r=>by rw[bA.mp h]at r;cases r;exact⟨_,Reads.bool b⟩
 | _,.int i,_,_,_,h,r=>by rw[C3.mp h]at r;obtain⟨t,rfl⟩:=r;exact⟨_,Reads.int i t⟩
 | _,.str x,_,_,_,h,r=>by rw[(dB.mp h).1]at r;obtain⟨t,rfl⟩:=r;exact⟨_,Reads.str x t⟩
 | 0,.tup _,_,_,p,_,_=>by simp[DV.plain]at p
 | 0,.lst _,_,_,p,_,_=>by simp[DV.plain]at p
 | n+1,.tup ds,_,_,p,h,r=>by obtain⟨a,xs,e1,e2,e3⟩:=J0.mp h;rw[e1]at r;cases r;obtain⟨its,rv,⟨o,h1,h2,k,h3⟩,_⟩:=I.tuple e2;obtain⟨as,q⟩:=lE I n (by simpa[DV.plain]using p) e3 rv;rw[toP];exact⟨as,Reads.tuple h1 h2 h3 (by simpa using q)⟩
 | n+1,.lst ds,_,_,p,h,r=>by obtain⟨a,xs,e1,e2,e3⟩:=L9.mp h;rw[e1]at r;cases r;obtain⟨_,its,k,rv,_,h1⟩:=I.lstM e2;obtain⟨as,q⟩:=lE I n (by simpa[DV.plain]using p) e3 rv;rw[toP];exact⟨_,Reads.list h1 rfl rfl (by simpa using q)⟩
 | n,.dct _ _,_,_,h,_,_=>by cases n<;>simp[DV.plain]at h
 | n,.fn _,_,_,h,_,_=>by cases n<;>simp[DV.plain]at h
 | n,.lam _ _,_,_,h,_,_=>by cases n<;>simp[DV.plain]at h
 | n,.scr _,_,_,h,_,_=>by cases n<;>simp[DV.plain]at h
theorem lE(I:IV pins):∀(n:Nat) {ds:on DV} {vs:on V} {us:on Is},DV.plains n ds=true->RepL X.D H ds vs->Vals vs us->∃as,ReadsAll s.heap us (toPs ds) as
 | _,[],_,_,_,h,r=>by rw[E3.mp h]at r;cases r;exact⟨_,ReadsAll.nil⟩
 | n,d::ds,_,_,p,h,r=>by
  simp only[DV.plains,f9]at p;obtain⟨v,vs,e1,e2,e3⟩:=x4.mp h;subst e1;cases r with
  | cons r1 r2=>
   obtain⟨as,q⟩:=N7 I n p.1 e2 r1;obtain⟨bs,q'⟩:=lE I n p.2 e3 r2;rw[toPs];exact⟨_,ReadsAll.cons q q'⟩
end
theorem gP(h:d.plain 60=true):SeqAt.shaped (toP d)=true:=by
 have q:=bF 60 d h;unfold SeqAt.shaped;rw[q.1,cJ];exact A0 (i9 q.2 IL)
theorem lF(h:d.plain 60=true):∀(a:on DV),DV.plains 60 a=true->((toPs a).any λ y=>PyData.eqv y (toP d))=a.any λ x=>deq x d
 | [],_=>rfl
 | e::a,p=>by simp[DV.plains,f9]at p;rw[toPs,G2,G2,dG 60 60 e d p.1 h,lF h a p.2]
end
section
variable {X:Cx} {δ:on Sv} {a b c e:Ix} {pos:Pos} {ra rb rc:Ir Re} {re:Re}
def cmpR(X:Cx)(op:CmpOp):R2:=λ x y H Q=>∃dx dy k,cmpD op dx dy=some k/\Rep X.D H dx x/\Rep X.D H dy y/\Q (.bl k) H
theorem bG(C:X.A.units+64<cLine):OpR X (compareOp op) (cmpR X op):=by
 intro b s r H x y v u Q I j i h;obtain⟨dx,dy,k,a,r1,l,q⟩:=h;have g:∀{w:Bool},w=k->EP X b r Q _ s:=λ {w} e=>⟨.bl w,H,I,rfl,by rw[e];exact q⟩
 unfold cmpD at a;cases op
 case Lt=>
  dsimp only at a
  replace a:=v5.mp a
  obtain⟨B,d,a⟩:=a
  replace a:=v5.mp a
  obtain⟨A,c,a⟩:=a;have d:=D6 d;have c:=D6 c;subst d c;cases a;exact yk b s r H x y v u Q I j i ⟨_,_,C3.mp r1,C3.mp l,q⟩
 case LtE=>
  dsimp only at a
  replace a:=v5.mp a
  obtain⟨B,d,a⟩:=a
  replace a:=v5.mp a
  obtain⟨A,c,a⟩:=a;have d:=D6 d;have c:=D6 c;subst d c;cases a;exact yl b s r H x y v u Q I j i ⟨_,_,C3.mp r1,C3.mp l,q⟩
 case Gt=>
  dsimp only at a
  replace a:=v5.mp a
  obtain⟨B,d,a⟩:=a
  replace a:=v5.mp a
  obtain⟨A,c,a⟩:=a;have d:=D6 d;have c:=D6 c;subst d c;cases a;exact ym b s r H x y v u Q I j i ⟨_,_,C3.mp r1,C3.mp l,q⟩
 case Eq=>
  dsimp only at a;split at a
  ·rename_i p;rw[f9]at p;cases a;obtain⟨z,m⟩:=N7 I 60 p.1 r1 j;obtain⟨bs,f⟩:=N7 I 60 p.2 l i;exact eq_dataH m f (gP p.1) (gP p.2) C (g (dG 60 60 _ _ p.1 p.2))
  ·cases a
 case NotEq=>
  dsimp only at a;split at a
  ·rename_i p;rw[f9]at p;cases a;obtain⟨z,m⟩:=N7 I 60 p.1 r1 j;obtain⟨bs,f⟩:=N7 I 60 p.2 l i;exact ne_dataH m f (gP p.1) (gP p.2) C (g (by rw[dG 60 60 _ _ p.1 p.2]))
  ·cases a
 case In=>
  dsimp only at a;split at a
  ·rename_i o;split at a
   ·rename_i p;rw[f9]at p;cases a;obtain⟨z,m⟩:=N7 I 60 p.1 r1 j;obtain⟨bs,f⟩:=N7 I 61 (by simpa[DV.plain]using p.2) l i;rw[toP]at f;have n:=bF 60 _ p.1;have F:=aA 60 o p.2;have E:=n.2;exact SeqAt.in_list_reads f m F.1 n.1 IK (g (lF p.1 o p.2))
   ·cases a
  ·cases a
 case NotIn=>
  dsimp only at a;split at a
  ·rename_i o;split at a
   ·rename_i p;rw[f9]at p;cases a;obtain⟨z,m⟩:=N7 I 60 p.1 r1 j;obtain⟨bs,f⟩:=N7 I 61 (by simpa[DV.plain]using p.2) l i;rw[toP]at f;have n:=bF 60 _ p.1;have E:=n.2;exact SeqAt.notIn_list_reads f m (aA 60 o p.2).1 n.1 IK (g (by rw[lF p.1 o p.2]))
   ·cases a
  ·cases a
 all_goals (cases a)
theorem lG(h:J8 b=false):behindInMarks op b=false:=by
 cases b<;>first | rfl | cases h
theorem BO(d:X.A.units+64<cLine)(g:∀q,ra=some q->PE X a IZ)(f:∀q,rb=some q->PE X b IZ)(e:J8 b=false)
  (h:(Re.thn ra λ x _=>Re.thn rb λ y _=>(cmpD op x y).map λ k=>.ok (.bl k) .strong)=some re):PE X (.Compare a [op] [b] pos) (dE X.D δ re):=
 lA (λ _ _ j i=>yn (bG d) j i (lG e)) g f h λ O W H0 H x y Q s cx r cy σ k hd m l p=>by obtain⟨c,o,n⟩:=B0.mp k;cases n;exact⟨s,r,c,o,m.all hd,l.all hd,p _ H (Same.refl H) ay⟩
theorem BP(g:∀q,ra=some q->PE X a IZ)(f:∀q,rb=some q->PE X b IZ)
  (h:(Re.thn ra λ x _=>Re.thn rb λ y _=>(cmpD op x y).map λ k=>.ok (.bl k) .strong)=some re):∃d c,PE X a d/\PE X b c/\∀σ H Q,dE X.D δ re σ H Q->tOp (cmpR X op) d c σ H Q:=
 rA g f h λ O W H0 H x y Q o cx n cy σ k hd j i p=>by obtain⟨e,m,l⟩:=B0.mp k;cases l;exact⟨o,n,e,m,j.all hd,i.all hd,p _ H (Same.refl H) ay⟩
theorem rE(b:∀d c,re=.ok d c->∃k,d=.bl k)(h:tstD (some re)=some r)(q:dT X.D δ r σ H Q):dE X.D δ re σ H (λ x a=>∃k,x=.bl k/\Q k a):=by
 obtain⟨O,W,R,p⟩:=q;cases re with
 | ok d c=>
  obtain⟨k,rfl⟩:=b d c rfl;cases h;exact⟨O,W,R,λ v a s g=>⟨k,g.bl (R.hid.mono s),p a s⟩⟩
theorem BQ(h:(Re.thn ra λ x _=>Re.thn rb λ y _=>(cmpD op x y).map λ k=>.ok (.bl k) .strong)=some re):∀d c,re=.ok d c->∃k,d=.bl k:=by
 intro d c e;subst e;cases ra with
 | none=>cases h
 | some q=>
  cases q with
  | ok d c=>
   cases rb with
   | none=>cases h
   | some q=>
    cases q with
    | ok d' c'=>
     obtain⟨k,_,e⟩:=B0.mp (h);cases e;exact⟨k,rfl⟩
theorem BR(d:X.A.units+64<cLine)(g:∀q,ra=some q->PE X a IZ)(f:∀q,rb=some q->PE X b IZ)(e:J8 b=false)
  (h:tstD (Re.thn ra λ x _=>Re.thn rb λ y _=>(cmpD op x y).map λ k=>.ok (.bl k) .strong)=some r):PT X (.Compare a [op] [b] pos) (dT X.D δ r):=by
 cases q:(Re.thn ra λ x _=>Re.thn rb λ y _=>(cmpD op x y).map λ k=>Re.ok _ .strong)with
 | none=>rw[q]at h;cases h
 | some re=>
  rw[q]at h;obtain⟨ta,tb,A,B,w⟩:=BP g f q;exact(yp (bG d) A B (lG e)).weak λ c H Q z=>w c H _ (rE (BQ q) h z)
theorem rF{a:CmpOp}(h:J8 c=false):lastMarks [op,a] [b,c]=false:=by
 show behindInMarks a c=false;exact lG h
theorem rG{e:CmpOp}(I:∀q,ra=some q->PE X a IZ)(F:∀q,rb=some q->PE X b IZ)(E:∀q,rc=some q->PE X c IZ)
  (h:(Re.thn ra λ x _=>Re.thn rb λ y _=>match cmpD op x y with
   | none=>none
   | some false=>some (.ok (.bl false) .strong)
   | some true=>Re.thn rc λ z _=>(cmpD e y z).map λ k=>.ok (.bl k) .strong)=some re):∃w v u,PE X a w/\PE X b v/\PE X c u/\(∀σ H Q,dE X.D δ re σ H Q->jO (cmpR X op) (cmpR X e) w v u σ H Q)/\∀d cl,re=.ok d cl->∃k,d=.bl k:=by
 cases i:ra with
 | none=>rw[i]at h;cases h
 | some q=>
  rw[i]at h;have A:=I q i;cases q with
  | ok s cx=>
   cases g:rb with
   | none=>rw[g]at h;cases h
   | some q=>
    rw[g]at h;have B:=F q g;cases q with
    | ok l cy=>
     have j:(match(generalizing:=false) cmpD op s l with
      | none=>none
      | some false=>some (Re.ok (.bl false) .strong)
      | some true=>Re.thn rc λ z _=>(cmpD e l z).map λ k=>.ok (.bl k) .strong)=some re:=h
     split at j
     ·cases j
     ·rename_i r;cases j;exact⟨_,_,_,A,B,lz,λ σ H Q ⟨O,W,R,p⟩=>⟨O,W,R,λ x P s1 o=>⟨O,W,R.mono s1,λ y N s2 n=>
       ⟨s,l,false,r,(o.mono s2).all ((R.hid.mono s1).mono s2),n.all ((R.mono s1).hid.mono s2),false,rfl,by rw[g8 B1];exact p _ _ (s1.trans s2) ay⟩⟩⟩,λ d cl z=>by cases z;exact⟨_,rfl⟩⟩
     ·rename_i r;cases f:rc with
      | none=>rw[f]at j;cases j
      | some q=>
       rw[f]at j;have C:=E q f;cases q with
       | ok M cz=>
        obtain⟨k,L,K⟩:=B0.mp (j);cases K;exact⟨_,_,_,A,B,C,λ σ H Q ⟨O,W,R,p⟩=>⟨O,W,R,λ x P s1 o=>⟨O,W,R.mono s1,λ y N s2 n=>
         ⟨s,l,true,r,(o.mono s2).all ((R.hid.mono s1).mono s2),n.all ((R.mono s1).hid.mono s2),true,rfl,by
          rw[f8 rfl];exact⟨O,W,(R.mono s1).mono s2,λ z H3 m J=>⟨l,M,k,L,(n.mono m).all (((R.mono s1).hid.mono s2).mono m),J.all (((R.mono s1).mono s2).hid.mono m),p _ _ (s1.trans (s2.trans m)) ay⟩⟩⟩⟩⟩,λ d cl z=>by cases z;exact⟨_,rfl⟩⟩
theorem BS(e:X.A.units+64<cLine)(j:∀q,ra=some q->PE X a IZ)(i:∀q,rb=some q->PE X b IZ)(g:∀q,rc=some q->PE X c IZ)(f:J8 c=false)
  (h:(Re.thn ra λ x _=>Re.thn rb λ y _=>match cmpD op x y with
   | none=>none
   | some false=>some (.ok (.bl false) .strong)
   | some true=>Re.thn rc λ z _=>(cmpD d y z).map λ k=>.ok (.bl k) .strong)=some re):PE X (.Compare a [op,d] [b,c] pos) (dE X.D δ re):=by
 obtain⟨ta,tb,tc,A,B,C,w,_⟩:=rG j i g h;exact(yq (bG e) (bG e) A B C (rF f)).weak w
theorem BU(f:X.A.units+64<cLine)(m:∀q,ra=some q->PE X a IZ)(l:∀q,rb=some q->PE X b IZ)(j:∀q,rc=some q->PE X c IZ)(i:J8 c=false)
  (h:tstD (Re.thn ra λ x _=>Re.thn rb λ y _=>match cmpD op x y with
   | none=>none
   | some false=>some (.ok (.bl false) .strong)
   | some true=>Re.thn rc λ z _=>(cmpD d y z).map λ k=>.ok (.bl k) .strong)=some r):PT X (.Compare a [op,d] [b,c] pos) (dT X.D δ r):=by
 cases q:(Re.thn ra λ x _=>Re.thn rb λ y _=>match cmpD op x y with
   | none=>none
   | some false=>some _
   | some true=>Re.thn rc λ z _=>(cmpD d y z).map λ k=>.ok _ .strong)with
 | none=>rw[q]at h;cases h
 | some re=>
  rw[q]at h;obtain⟨ta,tb,tc,A,B,C,w,e⟩:=rG m l j q;exact(yr (bG f) (bG f) A B C (rF i)).weak λ g H Q z=>w g H _ (rE e h z)
end
theorem bH(h:L6 d=some k)(r:Rep D H d v):TruV D.K v H k:=by
 cases d with
 | non=>cases h;rw[bB.mp r];rfl
 | bl b=>cases h;rw[bA.mp r];rfl
 | int i=>cases h;rw[C3.mp r];rfl
 | str x=>
  cases h;obtain⟨f,e⟩:=dB.mp r;rw[f];refine⟨e,?_⟩;show(x.cps.size != 0)=(((x.cps.size:Nat):Int) != 0);cases x.cps.size with
  | zero=>rfl
  | succ n=>simp only[bne,Nat.add_eq_zero_iff];rw[W7];simp;omega
 | tup j=>
  cases h;obtain⟨a,c,f,e,g⟩:=J0.mp r;rw[f];refine .inr (.inl ⟨c,e,?_⟩);have:=g.length;cases c<;>cases j<;>first | rfl | cases this
 | lst j=>
  cases h;obtain⟨a,c,f,e,g⟩:=L9.mp r;rw[f];refine .inl ⟨c,SqL.of e,?_⟩;have:=g.length;cases c<;>cases j<;>first | rfl | cases this
 | dct _ _=>cases h
 | fn _=>cases h
 | lam _ _=>cases h
 | scr _=>cases h
theorem BV(g:∀q,c=some q->PE X e IZ)(f:∀a,isTrue e X.env a=(do let v ←a;standAt e.pos;holding [v] (truthy v)))(h:tstD c=some r):PT X e (dT X.D δ r):=by
 cases b:c with
 | none=>rw[b]at h;cases h
 | some q=>
  rw[b]at h;have A:=g q b;cases q with
  | ok d cl=>
   obtain⟨k,l,j⟩:=B0.mp (h);cases j;exact(yu A f).weak λ σ H Q ⟨O,W,R,p⟩=>⟨O,W,R,λ x m s1 i=>⟨k,bH l (i.all (R.hid.mono s1)),p m s1⟩⟩
theorem BW(j:PE X a f):PE X (.UnaryOp .Not a pos) (tUn (λ x H Q=>∃k,TruV X.K x H k/\Q (.bl (!k)) H) f):=by
 intro c s e H Q I h;refine UnaryOp_ (thn (j c s e H _ I h) λ v s1 t0=>?_);obtain⟨x,g,o,i,d⟩:=t0;obtain⟨k,t,d⟩:=d;exact not_of (thn (fO c s1 e g x v (λ b q=>b=k/\q=g) o i ⟨k,t,rfl,rfl⟩) λ b s2 ⟨p,n,m,l⟩=>by
  subst m l;exact⟨.bl (!b),p,n,rfl,d⟩)
theorem BX(e:∀q,d=some q->PE X a IZ)(h:(Re.thn d λ x _=>(L6 x).map λ k=>.ok (.bl (!k)) .strong)=some c):PE X (.UnaryOp .Not a pos) (dE X.D δ c):=
 ry (λ _=>BW) e h λ O W H0 H x Q dx cx σ k hd f p=>by obtain⟨b,i,g⟩:=B0.mp k;cases g;exact⟨b,bH i (f.all hd),p _ H (Same.refl H) ay⟩
theorem rH(q:PE X a j)(p:PE X (.BoolOp .And (b::es) pos) i):PE X (.BoolOp .And (a::b::es) pos) (λ e H Q=>j e H λ x f=>∃k,TruV X.K x f k/\if k=true then i e f Q else Q x f):=by
 intro d s e H Q I h;refine BoolOp_and (thn (q d s e H _ I h) λ v s1 t0=>?_);obtain⟨x,f,w,l,g⟩:=t0;obtain⟨k,t,g⟩:=g;refine thn (fO d s1 e f x v (λ b y=>b=k/\y=f) w l ⟨k,t,rfl,rfl⟩) λ c o t0=>?_;obtain⟨n,m,u,r⟩:=t0
 subst u r;cases c with
 | true=>exact p d o e n Q m g
 | false=>exact⟨x,n,m,l,g⟩
theorem rJ(p:PE X a i)(o:PE X (.BoolOp .Or (b::es) pos) tb):PE X (.BoolOp .Or (a::b::es) pos) (λ e H Q=>i e H λ x f=>∃k,TruV X.K x f k/\if k=true then Q x f else tb e f Q):=by
 intro d s e H Q I h;refine BoolOp_or (thn (p d s e H _ I h) λ v s1 t0=>?_);obtain⟨x,f,u,j,g⟩:=t0;obtain⟨k,t,g⟩:=g;refine thn (fO d s1 e f x v (λ b w=>b=k/\w=f) u j ⟨k,t,rfl,rfl⟩) λ c n t0=>?_;obtain⟨m,l,r,q⟩:=t0
 subst r q;cases c with
 | false=>exact o d n e m Q l g
 | true=>exact⟨x,m,l,j,g⟩
theorem BY(o:∀q,k=some q->PE X a IZ)(n:∀q,j=some q->PE X (.BoolOp .And (b::es) pos) IZ)(h:(Re.thn k λ x c=>andD x c j)=some g):PE X (.BoolOp .And (a::b::es) pos) (dE X.D δ g):=by
 cases e:k with
 | none=>rw[e]at h;cases h
 | some q=>
  rw[e]at h;have A:=o q e;cases q with
  | ok d cl=>
   have f:andD d cl j=some g:=h;unfold andD at f;split at f
   ·cases f
   ·rename_i t;exact(rH A (n g f)).weak λ m H Q ⟨O,W,R,p⟩=>⟨O,W,R,λ x l s1 i=>⟨true,bH t (i.all (R.hid.mono s1)),iteT ⟨O,W,R.mono s1,p.later s1 s1⟩⟩⟩
   ·rename_i t;cases f;exact(rH A lz).weak λ m H Q ⟨O,W,R,p⟩=>⟨O,W,R,λ x l s1 i=>⟨false,bH t (i.all (R.hid.mono s1)),iteF (p _ l s1 i)⟩⟩
theorem BZ(o:∀q,k=some q->PE X a IZ)(n:∀q,j=some q->PE X (.BoolOp .Or (b::es) pos) IZ)(h:(Re.thn k λ x c=>orD x c j)=some g):PE X (.BoolOp .Or (a::b::es) pos) (dE X.D δ g):=by
 cases e:k with
 | none=>rw[e]at h;cases h
 | some q=>
  rw[e]at h;have A:=o q e;cases q with
  | ok d cl=>
   have f:orD d cl j=some g:=h;unfold orD at f;split at f
   ·cases f
   ·rename_i t;cases f;exact(rJ A lz).weak λ m H Q ⟨O,W,R,p⟩=>⟨O,W,R,λ x l s1 i=>⟨true,bH t (i.all (R.hid.mono s1)),iteT (p _ l s1 i)⟩⟩
   ·rename_i t;exact(rJ A (n g f)).weak λ m H Q ⟨O,W,R,p⟩=>⟨O,W,R,λ x l s1 i=>⟨false,bH t (i.all (R.hid.mono s1)),iteF ⟨O,W,R.mono s1,p.later s1 s1⟩⟩⟩
theorem lH(h:tstD (Re.thn b k)=some r):∃d c,b=some (.ok d c)/\tstD (k d c)=some r:=by
 cases a:b with
 | none=>rw[a]at h;cases h
 | some q=>
  rw[a]at h;cases q with
  | ok d c=>exact⟨d,c,rfl,h⟩
theorem rK(h:tstD (some (.ok d c))=some r):∃k,L6 d=some k/\r=.ok k:=by
 obtain⟨k,b,a⟩:=B0.mp (h);exact⟨k,b,a.symm⟩
theorem Ca(f:∀q,tstD e=some q->PT X a (dT X.D δ q))(h:tstD (Re.thn e λ x _=>(L6 x).map λ k=>.ok (.bl (!k)) .strong)=some r):PT X (.UnaryOp .Not a pos) (dT X.D δ r):=by
 obtain⟨d,c,g,b⟩:=lH h
 ·cases t:L6 d with
  | none=>rw[t]at b;cases b
  | some k=>
   rw[t]at b;cases b;have A:=f _ (by rw[g];show(L6 d).map Rt.ok=_;rw[t];rfl);exact(xB A).weak λ σ H Q ⟨O,W,R,p⟩=>⟨O,W,R,λ i s1=>p i s1⟩
theorem Cb(n:∀q,tstD i=some q->PT X a (dT X.D δ q))(m:∀q,tstD g=some q->PW X (.BoolOp .And (b::es) pos) (dT X.D δ q))(h:tstD (Re.thn i λ x c=>andD x c g)=some r):PW X (.BoolOp .And (a::b::es) pos) (dT X.D δ r):=by
 obtain⟨d,c,o,e⟩:=lH h
 ·unfold andD at e;cases t:L6 d with
  | none=>rw[t]at e;cases e
  | some k=>
   rw[t]at e;have A:=n _ (by rw[o];show(L6 d).map Rt.ok=_;rw[t];rfl);cases k with
   | true=>exact(oN A (m r e)).weak λ l H Q ⟨O,W,R,p⟩=>⟨O,W,R,λ j s1=>iteT ⟨O,W,R.mono s1,p.later s1⟩⟩
   | false=>
    obtain⟨k,f,rfl⟩:=rK e;rw[t]at f;cases f;exact(oN A rx).weak λ l H Q ⟨O,W,R,p⟩=>⟨O,W,R,λ j s1=>iteF (p j s1)⟩
theorem Cc(n:∀q,tstD i=some q->PT X a (dT X.D δ q))(m:∀q,tstD g=some q->PW X (.BoolOp .Or (b::es) pos) (dT X.D δ q))(h:tstD (Re.thn i λ x c=>orD x c g)=some r):PW X (.BoolOp .Or (a::b::es) pos) (dT X.D δ r):=by
 obtain⟨d,c,o,e⟩:=lH h
 ·unfold orD at e;cases t:L6 d with
  | none=>rw[t]at e;cases e
  | some k=>
   rw[t]at e;have A:=n _ (by rw[o];show(L6 d).map Rt.ok=_;rw[t];rfl);cases k with
   | false=>exact(oO A (m r e)).weak λ l H Q ⟨O,W,R,p⟩=>⟨O,W,R,λ j s1=>iteF ⟨O,W,R.mono s1,p.later s1⟩⟩
   | true=>
    obtain⟨k,f,rfl⟩:=rK e;rw[t]at f;cases f;exact(oO A rx).weak λ l H Q ⟨O,W,R,p⟩=>⟨O,W,R,λ j s1=>iteT (p j s1)⟩
theorem w4(h:t5 e=false):starEach (e::es) env=(false,eval e env)::starEach es env:=by
 cases e<;>first | rfl | cases h
theorem Cd:PA X [] (dA X.D δ (.ok [])):=U7.weak λ σ H Q ⟨O,W,R,p⟩=>p [] H (Same.refl H) .nil
theorem Ce(i:t5 e=false)(k:∀q,g=some q->PE X e IZ)(j:∀q,f=some q->PA X es (dA X.D δ q))
  (h:(match(generalizing:=false) g with | none=>none | some (.ok d c)=>(match(generalizing:=false) f with | none=>none | some (.ok l)=>some (.ok ((d,c)::l))))=some q):PA X (e::es) (dA X.D δ q):=by
 cases b:g with
 | none=>rw[b]at h;cases h
 | some z=>
  rw[b]at h;have A:=k z b;cases z with
  | ok d cl=>
   cases a:f with
   | none=>rw[a]at h;cases h
   | some y=>
    rw[a]at h;have B:=j y a;cases y with
    | ok l=>
     cases h;exact(R7 A B (w4 i)).weak λ σ H Q ⟨O,W,R,p⟩=>⟨O,W,R,λ x H1 s1 n=>⟨O,W,R.mono s1,λ vs o s2 m=>p _ o (s1.trans s2) (.cons (n.mono s2) (m.since s1))⟩⟩
theorem Cf(d:∀q,b=some q->PA X es (dA X.D δ q))(h:(Rs.thn b λ l=>if l.length<=m7 then some (.ok (.lst (l.map (·.1))) (if stros l then .fresh else .weak))else none)=some c):PE X (.List es pos) (dE X.D δ c):=
 az (λ _=>yx) d h λ O W H0 H vs Q l σ k hd g p=>by
  split at k
  ·rename_i m;cases k;refine⟨by rw[g.length];exact S6 m,λ q a=>p _ _ (v4 a) ?_⟩;by_cases z:stros l=true
   ·rw[f8 z];exact S5 hd a (g.stros hd z)
   ·rw[g8 z];exact lw hd a (g.repL hd)
  ·cases k
theorem Cg(e:∀q,b=some q->PA X es (dA X.D δ q))(h:(Rs.thn b λ l=>if l.length<=m7 then some (.ok (.tup (l.map (·.1))) (if stros l then .strong else .weak))else none)=some c):PE X (.Tuple es d pos) (dE X.D δ c):=
 az (λ _=>pc) e h λ O W H0 H vs Q l σ k hd g p=>by
  split at k
  ·rename_i m;cases k;refine⟨by rw[g.length];exact S6 m,λ q a=>p _ _ (v4 a) ?_⟩;by_cases z:stros l=true
   ·rw[f8 z];exact dF hd a (g.stros hd z)
   ·rw[g8 z];exact lx hd a (g.repL hd)
  ·cases k
theorem lI:∀a:on DV,toPs a=a.map toP
 | []=>by rw[toPs];rfl
 | d::r=>by rw[toPs,lI r];rfl
theorem lJ:∀{a:on DV} {j:Nat},O7 y a=some j->∃h:j<a.length,deq a[j] y=true/\∀m (b:m<a.length),m<j->deq a[m] y=false
 | [],j,h=>by cases h
 | d::r,j,h=>by
  unfold O7 at h;split at h
  ·rename_i e;cases h;exact⟨Nat.succ_pos _,e,λ m _ b=>absurd b (cE _)⟩
  ·rename_i e;obtain⟨k,l,rfl⟩:=B0.mp h;obtain⟨f,i,g⟩:=lJ l;refine⟨Nat.succ_lt_succ f,i,λ m b c=>?_⟩;cases m with
   | zero=>exact Bool.eq_false_iff.mpr e
   | succ m=>exact g m _ (Nat.lt_of_succ_lt_succ c)
theorem rM:∀{ds:on DV} {m:Nat} (h:m<ds.length),DV.plains n ds=true->(ds[m]).plain n=true
 | d::r,0,_,p=>by simp[DV.plains,f9]at p;exact p.1
 | d::r,m+1,h,p=>by simp[DV.plains,f9]at p;exact rM (ds:=r) _ p.2
section
variable {X:Cx} {pins:on (Iv×Obj)} {σ:St} {H:Hp} {s:Iu} {δ:on Sv} {o e:Ix} {to te:TE} {apos cpos:Pos} {ra rb:Ir Re} {re:Re}
theorem rN(p:y.plain 60=true)(q:DV.plains 60 ds=true)(h:O7 y ds=some j) :
  ∃h:j<(toPs ds).length,PyData.eqv (toPs ds)[j] (toP y)=true/\∀m (c:m<(toPs ds).length),m<j->PyData.eqv (toPs ds)[m] (toP y)=false:=by
 obtain⟨f,e,a⟩:=lJ h;have hl:(toPs ds).length=ds.length:=by rw[lI,g6]
 have d:∀m _ (a:m<ds.length),PyData.eqv (toPs ds)[m] _=deq ds[m] y:=λ m e a=>by
  rw[←dG 60 60 ds[m] y (rM a q) p]
  congr 1
  simp[lI,List.getElem_map]
 exact⟨by omega,(d j IK f).trans e,λ m c b=>(d m c IK).trans (a m IK b)⟩
theorem Ch(hu:X.A.units+64<cLine)(I:IV pins)(e:RelV x v)(d:RelV y u)(g:Rep X.D H (.lst ds) x)(f:Rep X.D H a y)(p:a.plain 60=true)(q:DV.plains 60 ds=true)(hl:ds.length<=m7)
  (h:O7 a ds=some j) (k:Q (.int j) H):wpAny IQ X.A (call (.builtin "list.index") [v,u]) (EP X pins σ Q) X.xe s:=by
 obtain⟨as,i⟩:=N7 I 60 p f d;obtain⟨bs,b⟩:=N7 I 61 (by simpa[DV.plain]using q) g e;rw[toP]at b;have c:=bF 60 _ p;have l3:=c.2;obtain⟨m,o,n⟩:=rN p q h;have l:=(lJ h).1;exact SeqAt.index_list_reads b i (aA 60 ds q).1 c.1 IK m (by have:m7=1000000:=rfl;omega) o n ⟨.int j,H,I.tok _,⟨_,rfl⟩,k⟩
theorem Ci(hu:X.A.units+64<cLine)(I:IV pins)(e:RelV x v)(d:RelV y u)(g:Rep X.D H (.tup ds) x)(f:Rep X.D H a y)(p:a.plain 60=true)(q:DV.plains 60 ds=true)
  (h:O7 a ds=some j) (k:Q (.int j) H):wpAny IQ X.A (call (.builtin "tuple.index") [v,u]) (EP X pins σ Q) X.xe s:=by
 obtain⟨as,i⟩:=N7 I 60 p f d;obtain⟨bs,b⟩:=N7 I 61 (by simpa[DV.plain]using q) g e;rw[toP]at b;have c:=bF 60 _ p;have l3:=c.2;obtain⟨l,n,m⟩:=rN p q h;exact SeqAt.index_tuple_reads b i (aA 60 ds q).1 c.1 IK l n m ⟨.int j,H,I.tok _,⟨_,rfl⟩,k⟩
def tIdx(X:Cx)(to te:TE):TE:=λ σ H Q=>to σ H λ x H1=>(∃ds,Rep X.D H1 (.lst ds) x/\te σ H1 λ y H2=>∃ds dy j,Rep X.D H2 (.lst ds) x/\Rep X.D H2 dy y/\dy.plain 60=true/\DV.plains 60 ds=true/\ds.length<=m7/\O7 dy ds=some j/\Q (.int j) H2) \/
 (∃ds,Rep X.D H1 (.tup ds) x/\te σ H1 λ y H2=>∃ds dy j,Rep X.D H2 (.tup ds) x/\Rep X.D H2 dy y/\dy.plain 60=true/\DV.plains 60 ds=true/\O7 dy ds=some j/\Q (.int j) H2)
theorem Cj(M:X.A.units+64<cLine)(Z:PE X o to)(N:PE X e te)(g:attributeBase o "index" X.env (eval o X.env)=eval o X.env)(f:(apos.endLine==cpos.line)=true)(hs:starEach [e] X.env=[(false,eval e X.env)]) :
  PE X (.Call (.Attribute o "index" apos) [e] [] cpos) (tIdx X to te):=by
 intro d s m H Q I h;refine oB g (by rw[hs];rfl) f rfl (thn (Z d s m H _ I h) λ v s1 t0=>?_);obtain⟨x,O,l,F,i⟩:=t0;rcases i with⟨ds,C,i⟩ | ⟨ds,C,i⟩
 ·obtain⟨a,P,w,r,e3⟩:=L9.mp C;subst w;cases(F);obtain⟨Y,_,J,_⟩:=l.list (SqL.of r);refine⟨"list","list.index",eK,oj,PySem.F.type_list_index,J.isList.typeIs,λ b q=>?_,?_⟩
  ·cases q;obtain⟨o,n,e,c,hd,_⟩:=J;exact⟨o,e,hd⟩
  ·rw[hs];refine bY rfl (iU (eY (thn (N d s1 m O _ l i) λ u R ⟨y,H2,E,p,z,dy,j,B,A,p1,p2,p3,S,k⟩=>fb ?_)));exact Ch M E (show RelV (.ref a) _ from rfl) p B A p1 p2 p3 S k
 ·obtain⟨a,P,w,r,e3⟩:=J0.mp C;subst w;cases(F);obtain⟨K,L,W,U⟩:=l.tupleN r;refine⟨"tuple","tuple.index",PySem.F.plainAttrs_tuple,oa,PySem.F.type_tuple_index,⟨K,L,W⟩,λ b q=>?_,?_⟩
  ·cases q;exact⟨K,L,U⟩
  ·rw[hs];refine bY rfl (iU (eY (thn (N d s1 m O _ l i) λ u R ⟨y,H2,E,p,z,dy,j,B,A,p1,p2,p3,k⟩=>fb ?_)));exact Ci M E (show RelV (.ref a) _ from rfl) p B A p1 p2 p3 k
theorem Ck(I:X.A.units+64<cLine)(L:∀q,ra=some q->PE X o IZ)(K:∀q,rb=some q->PE X e IZ)(g:attributeBase o "index" X.env (eval o X.env)=eval o X.env)(f:(apos.endLine==cpos.line)=true)(J:starEach [e] X.env=[(false,eval e X.env)])
  (h:(Re.thn ra λ x _=>if seqB x then Re.thn rb λ y _=>(idxD x y).map λ d=>.ok d .strong else none)=some re):PE X (.Call (.Attribute o "index" apos) [e] [] cpos) (dE X.D δ re):=by
 cases c:ra with
 | none=>rw[c]at h;cases h
 | some q=>
  rw[c]at h;have A:=L q c;cases q with
  | ok r cx=>
   have l:(if seqB r then Re.thn rb λ y _=>(idxD r y).map λ d=>Re.ok d .strong else none)=some re:=h;have s:seqB r=true:=by
    cases z:seqB r with
    | true=>rfl
    | false=>rw[z]at l;cases l
   rw[f8 s]at l;have n:=l;cases b:rb with
   | none=>rw[b]at n;cases n
   | some q=>
    rw[b]at n;have B:=K q b;have C:=Cj I A B g f J;cases q with
    | ok E cy=>
     obtain⟨d,a,M⟩:=B0.mp n;subst M;unfold idxD at a;split at a
     ·rename_i k;split at a
      ·rename_i m;obtain⟨j,v,rfl⟩:=B0.mp a;rw[f9,f9,B2]at m;exact C.weak λ F H Q ⟨O,W,R,p⟩=>⟨O,W,R,λ x N s1 i=>.inl ⟨k,i.all (R.hid.mono s1),O,W,R.mono s1,λ y w s2 u=>
        ⟨k,E,j,(i.mono s2).all ((R.hid.mono s1).mono s2),(u.since s1).all ((R.hid.mono s1).mono s2),m.1.1,m.1.2,m.2,v,p _ w (s1.trans s2) x5⟩⟩⟩
      ·cases a
     ·rename_i k;split at a
      ·rename_i m;obtain⟨j,v,rfl⟩:=B0.mp a;rw[f9,f9,B2]at m;exact C.weak λ F H Q ⟨O,W,R,p⟩=>⟨O,W,R,λ x N s1 i=>.inr ⟨k,i.all (R.hid.mono s1),O,W,R.mono s1,λ y w s2 u=>
        ⟨k,E,j,(i.mono s2).all ((R.hid.mono s1).mono s2),(u.since s1).all ((R.hid.mono s1).mono s2),m.1.1,m.1.2,v,p _ w (s1.trans s2) x5⟩⟩⟩
      ·cases a
     ·cases a
end
def GotR(D:Dm)(O:on Iv)(H0 H:Hp)(d:DV)(fr:Bool)(v:V):Prop:=match fr with
 | false=>Rep D (L2.wo O H) d v
 | true=>∃p xs ds,v=.ref p/\d=.lst ds/\H0 p=none/\H p=some (.lst xs)/\RepL D (L2.wo (p::O) H) ds xs
def spF(D:Dm)(n:Nat)(f:on DV->Ir Ou):Sp:=λ vs H Q E=>∃O ds o,Hdn O H/\ds.length=n/\RepL D (L2.wo O H) ds vs/\f ds=some o /\
 (match o with | .v d fr=>∀v H',Same H H'->GotR D O H H' d fr v->Q v H')
theorem rO{ps:on Str}{j:St->Hp->Prop}(M:∀ds o,F f ds=some o->ds.length=ps.length)(C:∀q,n=some q->PA X U (dA X.D δ q)->PE X S (λ σ H Q=>j σ H/\jR (spF X.D ps.length (F f)) [] E0 (dA X.D δ q) σ H Q))(E:∀σ H O W,RSt X.D H σ δ O W->j σ H)(I:∀q,n=some q->PA X U (dA X.D δ q))
  (h:(Rs.thn n λ l=>O8 F f l)=some B):PE X S (dE X.D δ B):=by
 cases c:n with
 | none=>rw[c]at h;cases h
 | some q=>
  rw[c]at h;have A:=I q c
  replace C:=C q c
  cases q with
  | ok l=>
   have r:O8 F f l=some B:=h;unfold O8 at r;split at r
   ·cases r
   ·rename_i d P i;cases r;refine(C A).weak λ σ H Q ⟨O,W,R,p⟩=>⟨E _ _ _ _ R,O,W,R,λ vs Z s1 N=>?_⟩
    have hd:=R.hid.mono s1;show spF X.D ps.length (F f) _ Z Q E0;rw[G1];by_cases z:(l.all λ p=>p.2 == .strong||p.2 == .fresh)=true
    ·rw[f8 z]at p;refine⟨O++W,_,_,hd.hdA,M _ _ i,N.strong hd z,i,λ v K s g=>p v K (s1.trans s) ?_⟩;cases P with
     | false=>exact g
     | true=>
      obtain⟨q,k,ds,i,J,x,w,u⟩:=g;exact⟨q,k,ds,i,J,s1.free x,w,u⟩
    ·rw[g8 z]at p;refine⟨O,_,_,hd.hdO,M _ _ i,N.repL hd,i,λ v K s g=>p v K (s1.trans s) ?_⟩;cases P with
     | false=>exact g
     | true=>
      obtain⟨q,k,ds,L,J,x,w,u⟩:=g;subst J;rw[cJ];cases y:imL (.lst ds)with
      | true=>exact⟨q,k,ds,L,rfl,s1.free x,w,RepL.immut (λ a I=>by obtain⟨o,e,m⟩:=hd.wl a I;exact⟨o,s _ _ (hd.same _ _ e),m⟩) y u⟩
      | false=>
       exact L9.mpr ⟨q,k,L,by rw[k9 (λ z=>hd.ot q (F2 _ z) (s1.free x))];exact w,u.mono (N6 λ b Y=>o4 _ Y)⟩
theorem Cm(fo:FnOk X.prog X.w X.K X.mg X.base CX0 k c fd ps (spF X.D ps.length (F f)))(n:∀ds o,F f ds=some o->ds.length=ps.length)(m:Room k X.A)(u:Gl X x)(r:X.mg x=some (.ref c))(s:PySem.W.keepIn X.K (.ref c)=true)
  (v:P9 X.K fd ps []) (w:∀q,d=some q->PA X (e::es) (dA X.D δ q)) (b:(x==("__debug__" : Str))=false) (j:t5 e=false) (a:es.any t5=false)
  (h:(Rs.thn d λ l=>O8 F f l)=some g):PE X (.Call (.Name x p) (e::es) [] pos) (dE X.D δ g):=by
 have plain:∀(es:on Ix),es.any t5=false->(backTo pos (starEach es X.env)).any (·.1)=false:=by
  intro es
  induction es with
  | nil=>intro _;rfl
  | cons y ys i=>
   intro q;rw[G2,O1]at q;rw[w4 q.1];show(false||(backTo pos _).any (·.1))=false;rw[i q.2];rfl
 exact rO n (λ t _ z=>(yy fo m u r s v .nil pJ z b (w4 j) (plain es a)).weak λ σ H Q h=>h.2) (λ _ _ _ _ _=>trivial) w h
section
variable {X:Cx} {δ:on Sv} {e:Ix} {es:on Ix} {pos p:Pos} {re:Re} {rs:Ir Rs}
theorem aB:∀(es:on Ix),es.any t5=false->(backTo pos (starEach es env)).any (·.1)=false
 | [],_=>rfl
 | y::a,q=>by rw[G2,O1]at q;rw[w4 q.1];show(false||(backTo pos _).any (·.1))=false;rw[aB a q.2];rfl
theorem Cn(fo:FnOk X.prog X.w X.K X.mg X.base CX0 k c fd ps j)(o:Room k X.A)(hv:PE X (.Name x p) (tVar i))(w:PySem.W.keepIn X.K (.ref c)=true)(z:P9 X.K fd ps ds)(hd:Vals d ds)
  (A:PA X (e::es) t) (y:starEach (e::es) X.env=(false,eval e X.env)::starEach es X.env:=by rfl) (f:(backTo pos (starEach es X.env)).any (·.1)=false:=by rfl) :
  PE X (.Call (.Name x p) (e::es) [] pos) (λ b H Q=>b[i]? = some (some (.ref c))/\jR j d E0 t b H Q):=by
 intro a s b H Q I h;obtain⟨B,h⟩:=h;refine ae (thn (hv a s b H (λ v g=>v=.ref c/\g=H) I ⟨_,B,rfl,rfl⟩) λ u s1 t0=>?_);obtain⟨v,g,C,r1,n,m⟩:=t0;subst n m;obtain rfl:u=Value.ref c:=r1;refine PySem.W.callWith_K I.ok.mod.kin w (thn (A pos a s1 b g _ C h) λ us s2 ⟨vs,H2,l,r,q⟩=>⟨l.kIn,?_⟩) y f;exact pf fo o z hd pJ l r q
theorem Co(fo:FnOk X.prog X.w X.K X.mg X.base CX0 k b fd ps (spF X.D ps.length (F f)))(r:∀ds o,F f ds=some o->ds.length=ps.length)(n:Room k X.A)(hv:PE X (.Name x p) (tVar i))(s:X.mg y=some (.ref b))(u:PySem.W.keepIn X.K (.ref b)=true)
  (z:P9 X.K fd ps []) (w:δ[i]? = some (.val (.fn y))) (A:∀q,rs=some q->PA X (e::es) (dA X.D δ q)) (m:t5 e=false) (a:es.any t5=false)
  (h:(Rs.thn rs λ l=>O8 F f l)=some re):PE X (.Call (.Name x p) (e::es) [] pos) (dE X.D δ re):=by
 refine rO r (λ t _ B=>Cn fo n hv u z .nil B (w4 m) (aB es a)) (λ σ H O W R=>?_) A h;obtain⟨v,E,C⟩:=R.val i _ w;obtain⟨g,j,d⟩:=lv.mp C;have c:X.mg y=some _:=d;rw[s]at c;cases c;rw[E,j]
noncomputable def biR(X:Cx)(k:on (DV×Cl)->Ir Re):on V->Hp->VK->Prop:=λ vs H Q=>∃l re O W H0,k l=some re/\Hid O W H0 H/\GotL X.D O W H0 H l vs/\∃d c,re=.ok d c/\∀v H',Same H H'->Got X.D O W H0 H' d c v->Q v H'
theorem gQ(r:B9 X (.builtin f) (biR X k))(o:Gl X x)(m:X.mg x=none)(hv:bootBuiltins x=some (.builtin f))(j:x ≠ "__name__")(b:(x==("__debug__" : Str))=false)
  (s:∀q,rs=some q->PA X (e::es) (dA X.D δ q)) (i:t5 e=false) (a:es.any t5=false) (h:Rs.thn rs k=some re):PE X (.Call (.Name x p) (e::es) [] pos) (dE X.D δ re):=
 az (λ _ u=>fP r o m hv u j b (w4 i) (aB es a)) s h λ O W v H vs Q l σ n hd g p=>by obtain⟨d,c⟩:=re;exact⟨l,_,O,W,v,n,hd,g,d,c,rfl,p⟩
theorem lK(o:B9 X (.type T) (biR X k))(n:Gl X x)(j:X.mg x=none)(hv:bootBuiltins x=some (.type T))(i:x ≠ "__name__")(b:(x==("__debug__" : Str))=false)
  (r:∀q,rs=some q->PA X (e::es) (dA X.D δ q)) (f:t5 e=false) (a:es.any t5=false) (h:Rs.thn rs k=some re):PE X (.Call (.Name x p) (e::es) [] pos) (dE X.D δ re):=
 az (λ _ s=>jT o n j hv s i b (w4 f) (aB es a)) r h λ O W u H vs Q l σ m hd g p=>by obtain⟨d,c⟩:=re;exact⟨l,_,O,W,u,m,hd,g,d,c,rfl,p⟩
theorem Y5:∀{ds:on DV} {b:on Int} {a:on V},ints? ds=some b->RepL D H ds a->a=b.map V.int
 | [],b,a,h,r=>by cases h;exact E3.mp r
 | .int i::ds,b,a,h,r=>by obtain⟨ms,g,f⟩:=B0.mp h;obtain⟨v,vs,e,d,c⟩:=x4.mp r;rw[←f,e,B3,C3.mp d,(Y5 g c)]
 | .non::ds,b,a,h,_=>by cases h
 | .bl _::ds,b,a,h,_=>by cases h
 | .str _::ds,b,a,h,_=>by cases h
 | .tup _::ds,b,a,h,_=>by cases h
 | .lst _::ds,b,a,h,_=>by cases h
 | .dct _ _::ds,b,a,h,_=>by cases h
 | .fn _::ds,b,a,h,_=>by cases h
 | .lam _ _::ds,b,a,h,_=>by cases h
 | .scr _::ds,b,a,h,_=>by cases h
theorem rP:∀(r:on Int) (m:Int),(minI m r=m\/minI m r∈r)/\minI m r<=m/\∀x∈r,minI m r<=x
 | [],m=>⟨.inl rfl,fF _,λ x h=>by cases h⟩
 | y::r,m=>by
  obtain⟨b,d,a⟩:=rP r (if y<m then y else m);unfold minI;by_cases q:y<m
  ·rw[f8 q]at b d a ⊢;refine⟨.inr ?_,by omega,λ x c=>?_⟩
   ·rcases b with z | z
    ·rw[z];exact o5 ..
    ·exact o4 _ z
   ·rcases i7.mp c with z | z
    ·rwa [z]
    ·exact a x z
  ·rw[g8 q]at b d a ⊢;refine⟨b.imp id (o4 _),d,λ x c=>?_⟩;rcases i7.mp c with z | z
   · omega
   ·exact a x z
theorem rQ:∀(r:on Int) (m:Int),(maxI m r=m\/maxI m r∈r)/\m<=maxI m r/\∀x∈r,x<=maxI m r
 | [],m=>⟨.inl rfl,fF _,λ x h=>by cases h⟩
 | y::r,m=>by
  obtain⟨c,b,a⟩:=rQ r (if m<y then y else m);unfold maxI;by_cases q:m<y
  ·rw[f8 q]at c b a ⊢;refine⟨.inr ?_,by omega,λ x d=>?_⟩
   ·rcases c with z | z
    ·rw[z];exact o5 ..
    ·exact o4 _ z
   ·rcases i7.mp d with z | z
    ·rw[z];exact b
    ·exact a x z
  ·rw[g8 q]at c b a ⊢;refine⟨c.imp id (o4 _),b,λ x d=>?_⟩;rcases i7.mp d with z | z
   ·rw[z];omega
   ·exact a x z
theorem rR(g:M∈n::r)(d:∀x∈n::r,M<=x):M=minI n r:=by
 obtain⟨a,b,c⟩:=rP r n;have e:=d _ (a.elim (λ z=>by rw[z];exact o5 ..) (o4 _));have f:minI n r<=M:=by
  rcases i7.mp g with z | z
  ·rwa [z]
  ·exact c M z
 omega
theorem rS(g:M∈n::r)(d:∀x∈n::r,x<=M):M=maxI n r:=by
 obtain⟨a,b,c⟩:=rQ r n;have e:=d _ (a.elim (λ z=>by rw[z];exact o5 ..) (o4 _));have f:M<=maxI n r:=by
  rcases i7.mp g with z | z
  ·rw[z];exact b
  ·exact c M z
 omega
theorem lL(x:Int):∀l:on Int,(insI x l).Perm (x::l)
 | []=>.rfl
 | y::r=>by
  unfold insI;split
  ·exact .rfl
  ·exact(List.Perm.cons y (lL x r)).trans (List.Perm.swap x y r)
theorem rT:∀l:on Int,(K4 l).Perm l
 | []=>.rfl
 | x::r=>(lL x _).trans (List.Perm.cons x (rT r))
theorem rV(x:Int):∀{l:on Int},l.Pairwise (· <= ·)->(insI x l).Pairwise (· <= ·)
 | [],_=>List.pairwise_singleton _ _
 | y::r,h=>by
  obtain⟨b,c⟩:=M6.mp h;unfold insI;split
  ·rename_i q;refine M6.mpr ⟨λ z a=>?_,h⟩;rcases i7.mp a with e | e
   ·omega
   ·have:=b z e;omega
  ·rename_i q;refine M6.mpr ⟨λ z a=>?_,rV x c⟩;rcases i7.mp ((lL x r).mem_iff.mp a)with e | e
   ·omega
   ·exact b z e
theorem rW:∀l:on Int,(K4 l).Pairwise (· <= ·)
 | []=>.nil
 | x::r=>rV x (rW r)
theorem rX:∀{a b:on Int},a.Perm b->a.Pairwise (· <= ·)->b.Pairwise (· <= ·)->a=b
 | [],b,p,_,_=>(List.Perm.nil_eq p)
 | x::a,b,p,f,d=>by
  cases b with
  | nil=>exact absurd p.length_eq IX
  | cons y b=>
   obtain⟨j,i⟩:=M6.mp f;obtain⟨h,g⟩:=M6.mp d;have e:x=y:=by
    rcases i7.mp (p.mem_iff.mp (o5)) with z | z
    ·exact z
    ·rcases i7.mp (p.mem_iff.mpr (o5)) with c | c
     ·exact c.symm
     ·have:=j y c;have:=h x z;omega
   subst e;rw[rX (List.Perm.cons_inv p) i g]
theorem Cp:B9 X (.builtin "len") (biR X lenD):=by
 intro b s k H xs n Q I r h;obtain⟨l,re,O,W,H0,e,o,g,d,c,rfl,p⟩:=h;unfold lenD at e;split at e
 ·cases e;obtain⟨v,rfl,f⟩:=g.one;obtain⟨a,m,j,i,q⟩:=f.lst o;exact jW b s k H _ n Q I r ⟨a,m,by rw[j],.inl (SqL.of i),by rw[q.length];exact p _ H (Same.refl H) x5⟩
 ·cases e;obtain⟨v,rfl,f⟩:=g.one;obtain⟨a,m,j,i,q⟩:=f.tup o;exact jW b s k H _ n Q I r ⟨a,m,by rw[j],.inr i,by rw[q.length];exact p _ H (Same.refl H) x5⟩
 ·cases e;obtain⟨v,rfl,f⟩:=g.one;obtain⟨a,j,i⟩:=Y3.mp (f.all o);exact jW b s k H _ n Q I r ⟨a,_,by rw[j],.inl i.sq,by rw[g6];exact p _ H (Same.refl H) x5⟩
 ·cases e
theorem Cq(w:X.calm=true)(hu:X.A.units+1<cLine):B9 X (.builtin "min") (biR X minD):=by
 intro b s j H xs k Q I r h;obtain⟨l,re,O,W,H0,e,i,g,d,c,rfl,p⟩:=h;unfold minD at e;split at e
 ·cases e;obtain⟨v,v',rfl,f,x⟩:=g.two;exact yw w b s j H _ k Q I r ⟨_,_,by rw[f.int i,x.int i],p _ H (Same.refl H) x5⟩
 ·split at e
  ·rename_i n m u;cases e;obtain⟨v,rfl,f⟩:=g.one;obtain⟨a,C,B,A,z⟩:=f.lst i;have y:=Y5 u z;subst y;exact Ar w b s j H _ k Q I r ⟨a,n::m,by rw[B],SqL.of A,by simp,λ M q o=>by rw[rR q o];exact p _ H (Same.refl H) x5⟩
  ·cases e
 ·split at e
  ·rename_i n m u;cases e;obtain⟨v,rfl,f⟩:=g.one;obtain⟨a,C,B,A,z⟩:=f.tup i;have y:=Y5 u z;subst y;exact Az w b s j H _ k Q I r ⟨a,n::m,by rw[B],A,by simp,λ M q o=>by rw[rR q o];exact p _ H (Same.refl H) x5⟩
  ·cases e
 ·cases e
theorem Cr(u:X.calm=true):B9 X (.builtin "max") (biR X maxD):=by
 intro b s i H xs j Q I r h;obtain⟨l,re,O,W,H0,e,hd,g,d,c,rfl,p⟩:=h;unfold maxD at e;split at e
 ·cases e;obtain⟨v,v',rfl,f,w⟩:=g.two;exact yv u b s i H _ j Q I r ⟨_,_,by rw[f.int hd,w.int hd],p _ H (Same.refl H) x5⟩
 ·split at e
  ·rename_i n k q;cases e;obtain⟨v,rfl,f⟩:=g.one;obtain⟨a,B,A,z,y⟩:=f.lst hd;have x:=Y5 q y;subst x;exact As u b s i H _ j Q I r ⟨a,n::k,by rw[A],SqL.of z,by simp,λ M o m=>by rw[rS o m];exact p _ H (Same.refl H) x5⟩
  ·cases e
 ·split at e
  ·rename_i n k q;cases e;obtain⟨v,rfl,f⟩:=g.one;obtain⟨a,B,A,z,y⟩:=f.tup hd;have x:=Y5 q y;subst x;exact AA u b s i H _ j Q I r ⟨a,n::k,by rw[A],z,by simp,λ M o m=>by rw[rS o m];exact p _ H (Same.refl H) x5⟩
  ·cases e
 ·cases e
theorem Cs(o:X.calm=true):B9 X (.builtin "sum") (biR X sumD):=by
 intro b s i H xs j Q I r h;obtain⟨l,re,O,W,H0,f,n,g,d,c,rfl,p⟩:=h;unfold sumD at f;split at f
 ·obtain⟨k,m,e⟩:=B0.mp f;cases e;obtain⟨v,rfl,q⟩:=g.one;obtain⟨a,ys,y,x,w⟩:=q.lst n;have u:=Y5 m w;subst u;exact AB o b s i H _ j Q I r ⟨a,k,by rw[y],SqL.of x,p _ H (Same.refl H) x5⟩
 ·cases f
theorem Cu:bootBuiltins "sum" = some (.builtin "sum"):=by decide +kernel
theorem Cv:bootBuiltins "sorted" = some (.builtin "sorted"):=by decide +kernel
theorem rY:bootBuiltins "set" = some (.type "set"):=by decide +kernel
theorem Cw(u:X.calm=true)(J:Gl X "sorted")(I:X.mg "sorted" = none)(n:Gl X "set")(m:X.mg "set" = none)
  (K:∀q,rs=some q->PA X [e] (dA X.D δ q)) (E:t5 e=false) (h:Rs.thn rs fT=some re):PE X (.Call (.Name "sorted" p) [.Call (.Name "set" s) [e] [] b] [] pos) (dE X.D δ re):=
 az (r:=λ o H Q=>(∃(a:Iv) (d:on Int),o=[.ref a]/\SqL X.K H a (d.map V.int)/\d.length<4000/\∀p,H p=none->∃(p1:Iv) (ks:on Int),[V.ref p]=[.ref p1]/\upd H p (setO X.prog X.w p (d.foldl dk [])) p1=some (setO X.prog X.w p1 ks)/\ks.length<64 /\
   ∀(q:Iv) (j:on Int),upd H p (setO X.prog X.w p (d.foldl dk [])) q=none->j.Perm ks->j.Pairwise (· <= ·)->Q (.ref q) (upd (upd H p (setO X.prog X.w p (d.foldl dk []))) q (.lst (j.map V.int)))))
  (λ t L=>by
   have z:=jT (p:=s) (pos:=b) (qy u) n m rY L IL IL (w4 E) rfl;have y:=fP (p:=p) (pos:=pos) (Aw u) J I Cv (R7 z U7) IL IL rfl rfl;exact y.weak λ x H Q h=>h) K h λ O W H0 H o Q l x f hd g B=>by
  unfold fT at f;split at f
  ·split at f
   ·rename_i ds c d F;split at f
    ·rename_i w;cases f;obtain⟨v,rfl,M⟩:=g.one;obtain⟨a,ys,U,S,R⟩:=M.lst hd;have P:=Y5 F R;subst P;refine⟨a,d,by rw[U],SqL.of S,w.1,λ p1 k=>⟨p1,_,rfl,x3,w.2,λ q j i C A=>?_⟩⟩;have N:=rX (C.trans (rT _).symm) A (rW _);subst N;have s1:Same H (upd H p1 (setO X.prog X.w p1 (d.foldl dk []))):=v4 k;exact B _ _ (s1.trans (v4 i)) (S5 (hd.mono s1) i (bC _))
    ·cases f
   ·cases f
  ·cases f
theorem Cy(B:X.calm=true)(A:Gl X "len")(z:X.mg "len" = none)(k:Gl X "set")(j:X.mg "set" = none)
  (E:∀q,rs=some q->PA X [e] (dA X.D δ q)) (x:t5 e=false) (h:Rs.thn rs kq=some re):PE X (.Call (.Name "len" p) [.Call (.Name "set" n) [e] [] b] [] pos) (dE X.D δ re):=
 az (r:=λ m H Q=>(∃(a:Iv) (f:on Int),m=[.ref a]/\SqL X.K H a (f.map V.int)/\f.length<4000/\∀p,H p=none->∃(p1:Iv) (ks:on Int),[V.ref p]=[.ref p1]/\upd H p _ p1=some _/\Q _ _))
  (λ t F=>by
   have u:=jT (p:=n) (pos:=b) (qy B) k j rY F IL IL (w4 x) rfl;have s:=fP (p:=p) (pos:=pos) Av A z boot_len (R7 u U7) IL IL rfl rfl;exact s.weak λ o H Q h=>h) E h λ O W H0 H m Q l o d hd g w=>by
  unfold kq at d;split at d
  ·split at d
   ·rename_i ds c f y;split at d
    ·rename_i C;cases d;obtain⟨v,rfl,I⟩:=g.one;obtain⟨a,ys,M,L,K⟩:=I.lst hd;have J:=Y5 y K;subst J;exact⟨a,f,by rw[M],SqL.of L,C,λ p1 i=>⟨p1,_,rfl,x3,w _ _ (v4 i) x5⟩⟩
    ·cases d
   ·cases d
  ·cases d
theorem Cz:B9 X (.type "int") (biR X intD):=by
 intro a s f H xs i Q I r h;obtain⟨l,re,O,W,H0,b,j,g,d,c,rfl,p⟩:=h;unfold intD at b;split at b
 ·cases b;obtain⟨v,rfl,e⟩:=g.one;exact oY a s f H _ i Q I r (.inl ⟨_,by rw[e.int j],p _ H (Same.refl H) x5⟩)
 ·cases b;obtain⟨v,rfl,e⟩:=g.one;exact oY a s f H _ i Q I r (.inr ⟨_,by rw[e.bl j],p _ H (Same.refl H) x5⟩)
 ·cases b
theorem CA:B9 X (.type "list") (biR X fU):=by
 intro b s n H xs u Q I r h;obtain⟨l,re,O,W,H0,i,f,g,d,c,rfl,p⟩:=h;unfold fU at i;split at i
 ·cases i;obtain⟨v,rfl,j⟩:=g.one;obtain⟨a,m,k⟩:=Y3.mp (j.all f);exact jX b s n H _ u Q I r ⟨a,_,by rw[m],.inl k.sq,λ q e=>p _ _ (v4 e) (S5 f e (bC _))⟩
 ·cases i;obtain⟨v,rfl,j⟩:=g.one;obtain⟨a,o,m,k,w⟩:=j.lstC f;exact jX b s n H _ u Q I r ⟨a,o,by rw[m],.inl (SqL.of k),λ q e=>p _ _ (v4 e) (gI f e w)⟩
 ·cases i;obtain⟨v,rfl,j⟩:=g.one;obtain⟨a,o,m,k,w⟩:=j.tupC f;exact jX b s n H _ u Q I r ⟨a,o,by rw[m],.inr k,λ q e=>p _ _ (v4 e) (gI f e w)⟩
 ·cases i
theorem CB:B9 X (.type "tuple") (biR X kr):=by
 intro b s n H xs o Q I r h;obtain⟨l,re,O,W,H0,e,i,g,d,c,rfl,p⟩:=h;unfold kr at e;split at e
 ·cases e;obtain⟨v,rfl,j⟩:=g.one;obtain⟨a,f,m,k,w⟩:=j.lstC i;exact pC b s n H _ o Q I r ⟨a,f,by rw[m],.inl ⟨SqL.of k,λ q u=>p _ _ (v4 u) (rr i u w)⟩⟩
 ·cases e;obtain⟨v,rfl,j⟩:=g.one;obtain⟨a,f,m,k,w⟩:=j.tupC i;exact pC b s n H _ o Q I r ⟨a,f,by rw[m],.inr ⟨k,p _ _ (Same.refl H) (by grind)⟩⟩
 ·cases e
end
noncomputable def tyS:DV->Ir IJ
 | .non=>some "NoneType" | .bl _=>some "bool" | .int _=>some "int" | .str _=>some "str" | .tup _=>some "tuple" | .lst _=>some "list" | .dct _ _=>some "dict"
 | _=>none
noncomputable def rZ(T t:IJ):Ir Bool:=if(Value.type T==Value.type t)=true then some true else if PySem.W.kitMeta t=true then(fastBuiltinMro T).map (·.contains (.type t))else none
theorem CC:(["NoneType","bool","int","str","tuple","list","dict"]:on IJ).all (λ T=>(["int","bool","str","list","tuple","dict"]:on IJ).all λ t=>rZ T t==some (T==t||(T == "bool" && t == "int")))=true:=by decide +kernel
theorem Y6{K:IE}(T t:IJ)(b:T∈["NoneType","bool","int","str","tuple","list","dict"])(a:t∈["int","bool","str","list","tuple","dict"]) :
  PySem.W.kitOne K (.type T) (.type t)=some (T==t||(T == "bool" && t == "int")):=by
 exact(show rZ T t=_ from by simpa using (F4.mp (F4.mp CC T b) t a))
section
variable {X:Cx} {δ:on Sv} {e e':Ix} {pos p p':Pos} {re:Re} {ra:Ir Re}
theorem CD(I:IV k)(r:Rep X.D H d v)(c:RelV v u)(e:tyS d=some T)(f:t∈["int","bool","str","list","tuple","dict"])
  (h:∀tk,Q (.bool (T==t||(T == "bool" && t == "int"))) {s with toks:=tk}):wpAny IQ X.A (call (.builtin "isinstance") [u,.type t]) Q A s:=by
 cases d with
 | non=>cases e;rw[bB.mp r]at c;cases c;exact W8 PySem.W.kitx_none I.kIn True.intro (Y6 _ _ IX f) (λ z=>nomatch z) h
 | bl b=>cases e;rw[bA.mp r]at c;cases c;exact W8 PySem.W.kitx_bool I.kIn True.intro (Y6 _ _ IX f) (λ z=>nomatch z) h
 | int b=>cases e;rw[C3.mp r]at c;obtain⟨tk,rfl⟩:=c;exact W8 PySem.W.kitx_int I.kIn True.intro (Y6 _ _ IX f) (λ z=>nomatch z) h
 | str b=>cases e;rw[(dB.mp r).1]at c;obtain⟨tk,rfl⟩:=c;exact W8 PySem.W.kitx_str I.kIn True.intro (Y6 _ _ IX f) (λ z=>nomatch z) h
 | tup y=>
  cases e;obtain⟨a,w,j,i,x⟩:=J0.mp r;rw[j]at c;cases c;obtain⟨q,_,⟨o,g,l,_⟩,_⟩:=I.tuple i;exact W8 PySem.W.kitx_tuple I.kIn ⟨o,g,l⟩ (Y6 _ _ IX f) (λ z=>nomatch z) h
 | lst y=>
  cases e;obtain⟨a,w,j,i,x⟩:=L9.mp r;rw[j]at c;cases c;obtain⟨_,q,n,_,_,g⟩:=I.lstM i;exact W8 PySem.W.kitx_list I.kIn ⟨_,g,rfl⟩ (Y6 _ _ IX f) (λ z=>nomatch z) h
 | dct ks vs=>
  cases e;rcases S4.mp r with⟨a,m,p,j,i,_⟩ | ⟨a,m,p,j,i,_⟩
  ·rw[j]at c;cases c;obtain⟨_,_,_,_,_,⟨o,_,_,g,l,_⟩⟩:=(show u9 X.prog X.w H s.heap a (.frz m _)from I.hok a _ i);exact W8 PySem.W.kitx_dict I.kIn ⟨o,g,l.1⟩ (Y6 _ _ IX f) (λ z=>nomatch z) h
  ·rw[j]at c;cases c;obtain⟨_,_,_,_,_,o,_,_,g,l,_⟩:=(show u9 X.prog X.w H s.heap a (.frz m _)from I.hok a _ i);exact W8 PySem.W.kitx_dict I.kIn ⟨o,g,l.1⟩ (Y6 _ _ IX f) (λ z=>nomatch z) h
 | fn _=>cases e
 | lam _ _=>cases e
 | scr _=>cases e
def rIsi(X:Cx):on V->Hp->VK->Prop:=λ xs H Q=>∃d T t x,xs=[x,.ty t]/\Rep X.D H d x/\tyS d=some T/\t∈["int","bool","str","list","tuple","dict"]/\Q (.bl (T==t||(T == "bool" && t == "int"))) H
theorem CF:B9 X (.builtin "isinstance") (rIsi X):=by
 intro b s σ H xs us Q I r h;obtain⟨d,T,t,x,rfl,f,i,g,q⟩:=h;obtain⟨u,w',rfl,e,a⟩:=jP r;cases a;exact CD I f e i g λ c=>⟨.bl _,H,I.tok c,rfl,q⟩
noncomputable def bI:Str->Ir IJ:=λ x=>(["int","bool","str","list","tuple","dict"]:on IJ).find? λ t=>Str.ofString t==x
theorem se(h:bI x=some t):bootBuiltins x=some (.type t)/\t∈["int","bool","str","list","tuple","dict"]/\Str.ofString t=x:=by
 unfold bI at h;have a:=iJ h;have b:Str.ofString t=x:=by simpa using (js h)
 refine⟨?_,a,b⟩;subst b;simp[i7,W6,X3]at a;rcases a with rfl | rfl | rfl | rfl | rfl | rfl
 ·exact boot_int
 ·exact boot_bool
 ·exact boot_str
 ·exact boot_list
 ·exact boot_tuple
 ·exact boot_dict
noncomputable def sh:IJ->on Str
 | "NoneType"=>["NoneType"] | "bool"=>["bool","int"] | "int"=>["int"] | "str"=>["str"] | "tuple"=>["tuple"] | "list"=>["list"] | "dict"=>["dict"]
 | _=>[]
theorem CG:(["NoneType","bool","int","str","tuple","list","dict"]:on IJ).all (λ T=>(["int","bool","str","list","tuple","dict"]:on IJ).all λ t=>(sh T).contains (Str.ofString t)==(T==t||(T == "bool" && t == "int")))=true:=by decide +kernel
theorem CH(h:bI x=some t)(b:tyS d=some T):(tyOf d).contains x=(T==t||(T == "bool" && t == "int")):=by
 obtain⟨_,e,c⟩:=se h;subst c;have a:∀T∈_,(sh T).contains _=(T==t||_):=λ T b=>by have q:=F4.mp (F4.mp CG T b) t e;simpa using q
 cases d<;>cases b
 ·exact a "NoneType" IX
 ·exact a "bool" IX
 ·exact a "int" IX
 ·exact a "str" IX
 ·exact a "tuple" IX
 ·exact a "list" IX
 ·exact a "dict" IX
theorem CI(m:bI x=some t)(z:Gl X "isinstance")(u:X.mg "isinstance" = none)(i:Gl X x)(g:X.mg x=none)(f:x ≠ "__name__")(j:(x==("__debug__" : Str))=false)
  (B:∀q,ra=some q->PE X e IZ) (n:t5 e=false) (h:(Re.thn ra λ y _=>(isiD G y [x]).map λ k=>.ok (.bl k) .strong)=some re):PE X (.Call (.Name "isinstance" p) [e,.Name x p'] [] pos) (dE X.D δ re):=by
 obtain⟨K,l,J⟩:=se m;have T:PE X (.Name x p') (tC (.ty t)):=xy i g K rfl f j;have C:=λ r (E:PE X e r)=>fP (p:=p) (pos:=pos) CF z u boot_isinstance (R7 E (R7 T U7) (w4 n)) IL IL (w4 n)
 cases a:ra with
 | none=>rw[a]at h;cases h
 | some q=>
  rw[a]at h;have A:=B q a;cases q with
  | ok d cl=>
   obtain⟨k,b,I⟩:=B0.mp (h);cases I;have c:∃T,tyS d=some T/\k=(tyOf d).contains x:=by
    unfold isiD at b;have s:X6.contains x=true:=by
     rw[←J];simp only[i7,W6,X3]at l;rcases l with rfl | rfl | rfl | rfl | rfl | rfl<;>decide +kernel
    cases d<;>first
     | (simp only[s,if_true]at b;cases b;exact⟨_,rfl,rfl⟩)
     | cases b
   obtain⟨T,o,w⟩:=c;exact(C _ A).weak λ σ H Q ⟨O,W,R,p⟩=>⟨O,W,R,λ v L s1 F=>⟨d,T,t,v,rfl,F.all (R.hid.mono s1),o,l,by rw[←CH m o,←w];exact p _ L s1 ay⟩⟩
end
theorem CJ(a:Str):N0 (a ++ "<lambda>")=false:=by
 have c:∀b:Str,b.cps.toList.getLast? = some 102->(a++_==b)=false:=λ b d=>by
  rw[B5];intro z;rw[←z]at d;have e:(a++("<lambda>" : Str)).cps.toList.getLast? = some 62:=by show(a.cps++("<lambda>" : Str).cps).toList.getLast? = _;rw[cn,List.getLast?_append];rfl
  rw[e]at d;cases d
 unfold N0;rw[c _ rfl,c _ rfl];rfl
theorem lM:∀(l:on Is),TriplesOk l->(∃i t,a=.int i t)->(∃i t,b=.int i t)->codeAmong pos' (l++[a,b,c])=some cv->codeAmong pos' l=some cv\/cv=c
 | [],_,⟨i,t,k⟩,⟨j,u,g⟩,h=>by
  subst k g;have d:(if i==pos'.line&&j==pos'.col then some c else codeAmong pos' [])=some cv:=h;split at d
  ·exact .inr (E2 d).symm
  ·cases d
 | .int i t :: .int j u::x::r,ok,f,e,h=>by
  have d:(if i==pos'.line&&j==pos'.col then some x else codeAmong pos' _)=some cv:=h;show(if i==pos'.line&&j==pos'.col then some x else codeAmong pos' r)=some cv\/cv=c;split at d
  ·rename_i z;rw[f8 z];exact .inl d
  ·rename_i z;rw[g8 z];exact lM r ok f e d
theorem lN(e:∃i t,a=.int i t)(d:∃i t,b=.int i t):∀(l:on Is),TriplesOk l->TriplesOk (l++[a,b,c])
 | [],_=>by obtain⟨i,t,rfl⟩:=e;obtain⟨j,u,rfl⟩:=d;exact trivial
 | .int i t :: .int j u::x::r,ok=>lN e d r ok
structure LamAt(X:Cx)(scope:Scope)(c P:Addr):Prop where
 code:X.env.code=.ref c
 hd:∀{pins:List (Addr×Obj)} {σ:List (Option V)} {H:Hp} {s:Shared},Inv X pins σ H s->PySem.W.CodeHd s.heap c P
 tab:∀{pins:List (Addr×Obj)} {σ:List (Option V)} {H:Hp} {s:Shared},Inv X pins σ H s->H P=some (.tbl (X.env.qual ++ "<lambda>"))
 fre:∀y∈scope.names,y.2=NameKind.free->X.env.kindOf y.1=some .cell\/X.env.kindOf y.1=some .free
theorem LamAt.has(L:LamAt X scope c P)(ok:X.Ok):∀y∈scope.names,y.2=NameKind.free->∃a,X.env.cells.lookup y.1=some a:=λ y b d=>ok.has y.1 (L.fre y b d)
theorem CK(I:IV r)(L:LamAt X scope c P)(a3:defaultsOf g X.env=([],[]))
  (h:∀f k s',Inv X r σ k s'->Same H k->H f=none->P2 k (X.env.qual ++ "<lambda>") g body scope (p5 X.env.cells scope.names []) f->Q (.ref f) s') :
  wpAny M A (eval (.Lambda g body scope pos) X.env) Q E s:=by
 refine PySem.W.kla_eval a3 ?_;have hP:=L.tab I;obtain⟨ps,hp,ht,x⟩:=I.hok _ _ hP;have a5:=fQ (scope:=scope) (env:=X.env) (L.has I.ok);have hg:s.heap.Ns mainGlobals X.mg:=I.ok.mod.glob.keeps I.bk;have c0:mainGlobals≠P:=λ z=>by obtain⟨o,es,ep,e,d,_⟩:=hg;rw[z,hp]at e;cases e;cases d
 obtain⟨bm,ob,b1,b2,b3,b4,b5,b6⟩:=I.ok.mod.bmod;have p:=I.bs _ _ b3;have c1:bm≠P:=λ z=>by rw[z,hP]at p;cases p.2
 have c3:bm≠mainGlobals:=λ z=>by obtain⟨o,es,ep,e,d,_⟩:=hg;rw[←z,p.1]at e;cases e;rw[b6]at d;cases d
 have hb:s.heap.BuiltinsAt X.mg P:=⟨bm,ob,b1,b2,c3,c1,p.1,b4,b5,b6⟩;have C:=L.hd I;cases hf:codeAmong pos ps.toList with
 | some cv=>
  obtain⟨j,N,u,vs,t,e1,e2,e3,e4⟩:=x pos cv hf;subst e1;refine PySem.W.kla_makeFunctionHit (mg:=X.mg) a5 I.ok.glob hg L.code C hp ht hf hb λ m i tk hk W=>?_
  have hn:H i.objs.size=none:=I.hok.fresh W;refine h _ (upd H i.objs.size (.frz _ (.own i.objs.size))) _ (I.laid (t':=tk) (λ b u e=>k6 _ (hk b u e)) W ⟨t8 _ rfl,_,t8 _ rfl⟩) (v4 hn) hn ?_;refine⟨j,N,u,vs,t,_,m,x3,?_,e3,e4.1⟩;rw[n6 (A7 e2 hn)];exact e2
 | none=>
  refine PySem.W.kla_makeFunction (mg:=X.mg) a5 I.ok.glob hg L.code C hp ht hf c0 hb λ j m i tk hx l B Y U=>?_;obtain⟨c5,N,vs,t,e2,Z,hd,hv⟩:=Y;cases e2;have b9:H j=none:=I.hok.fresh l;have a0:H i.objs.size=none:=I.hok.fresh (i9 l (U4 B));have S:∀{b:Iv} {u:HO},H b=some u->b≠j/\b≠i.objs.size:=λ e=>⟨A7 e b9,A7 e a0⟩;have v:∀{b:Iv} {o:Obj},s.heap.get? b=some o->b≠j/\b≠i.objs.size:=λ {b o} e=>⟨t9 (u6 (n7 e) l),t9 (u6 (n7 e) (i9 l (U4 B)))⟩;generalize a2:PySem.W.kla_obj "<lambda>" (X.env.qual ++ "<lambda>") g body scope _ _ j m=fo;have a1:fo.isFreed=false:=by rw[←a2];rfl
  generalize F:upd (upd H j (.frz N (.own j))) i.objs.size (.frz fo (.own i.objs.size))=k;have a8:k i.objs.size=some (.frz fo (.own i.objs.size)):=by rw[←F];exact x3
  have at2:k j=some (.frz N (.own j)):=by rw[←F,n6 (t9 B)];exact x3
  have K:∀{b:Iv},b≠j->b≠i.objs.size->k b=H b:=λ h1 h2=>by rw[←F,n6 h2,n6 h1]
  have sm:Same H k:=λ b o e=>by rw[K (S e).1 (S e).2];exact e
  have kp:∀b o,b≠P->s.heap.get? b=some o->(i.push fo).get? b=some o:=λ b o hb e=>k6 _ (hx b o hb e);have a6:∀b,H b=none->b≠P:=λ b n z=>by rw[z,hP]at n;cases n
  have un:Un X.fs [] H k s.heap (i.push fo):=by
   refine⟨λ b o e n _ _=>kp b o (a6 b n) e,λ b o e n _ _=>⟨o.slots,kp b o (a6 b n) e⟩,λ b o e n _=>by rw[K (v e).1 (v e).2];exact n,λ b o e _=>?_,λ b xs e=>sm _ _ e,λ b o u e=>sm _ _ e,λ b q e=>sm _ _ e⟩;by_cases z:b=P
   ·subst z;exact⟨_,k6 _ U⟩
   ·exact⟨o,kp b o z e⟩
  have b8:HOk X.prog X.w k (i.push fo):=λ b u e=>by
   by_cases z1:b=i.objs.size
   ·subst z1;rw[a8]at e;cases e;exact⟨t8 _ a1,_,t8 _ a1⟩
   ·by_cases z2:b=j
    ·subst z2;rw[at2]at e;cases e;exact⟨k6 _ Z,_,k6 _ Z⟩
    ·rw[K z2 z1]at e;by_cases z3:b=P
     ·subst z3;rw[hP]at e;cases e;refine⟨_,k6 _ U,?_,λ R cv a4=>?_⟩
      ·rw[cn];exact lN ⟨_,_,rfl⟩ ⟨_,_,rfl⟩ _ ht
      ·rw[cn]at a4;rcases lM (a:=rawInt pos.line) (b:=rawInt pos.col) (c:=.ref j) ps.toList ht ⟨_,_,rfl⟩ ⟨_,_,rfl⟩ a4 with w | w
       ·obtain⟨c2,b0,u2,a9,t2,f1,f2,f3,f4⟩:=x R cv w;refine⟨c2,b0,u2,a9,t2,f1,sm _ _ f2,f3,f4.1,λ y=>?_⟩;obtain⟨y0,T,a7,tf,J,tg,b7,O,tt,y1,y2,y3,y4,y5,y6,y7,y8⟩:=f4.2 y;exact⟨y0,T,a7,tf,J,tg,b7,O,tt,y1,y2,y3,y4,y5,y6,y7,sm _ _ y8⟩
       ·exact⟨j,N,_,vs,t,w,at2,hd,hv,λ y=>by rw[show N0 (X.env.qual ++ "<lambda>")=false from CJ _]at y;cases y⟩
     ·refine(I.hok b u e).stay (λ b' u' c4 q=>kp b' u' ?_ q) (λ b' q=>sm _ _ q) (λ b' xs q=>sm _ _ q) (λ b' xs q=>sm _ _ q) λ b' _ _ _ _ q=>sm _ _ q;rcases c4 with w | w
      ·rw[w];exact z3
      ·intro z;rw[z,hP]at w;cases w
  refine h i.objs.size k _ (I.un (t':=tk) un b8) sm a0 ⟨j,N,_,vs,t,(X.mg "__name__").getD .none,m,by rw[a8,←a2],at2,hd,hv⟩
end L2
namespace L2
open PySem PySem.Spec PyProof.Rows
noncomputable def trC(l:on Iv)(h:Iw)(H:Hp):Hp:=λ b=>if b∈l then(h.get? b).map λ o=>HO.frz o (.own b)else H b
theorem Y7(a:b∈l)(e:h.get? b=some o):trC l h H b=some (.frz o (.own b)):=by
 unfold trC;rw[f8 a,e];rfl
theorem aC(a:b∉l):trC l h H b=H b:=g8 a
structure Cells(l:List Addr)(h:Heap)(H:Hp):Prop where
 none:∀c∈l,H c=none
 cel:∀c∈l,∃o v,h.get? c=some o/\o.data=.cell v
section
variable {P:IA} {w:Iz} {K:IE} {mg:Str->Ir Is} {base:Iw} {A:IB} {outer:on Env} {s s':Iu} {H:Hp} {l:on Iv} {Q Q':VK} {u:Is}
theorem Cells.same(C:Cells l s.heap H):Same H (trC l s.heap H):=λ b o e=>by
 rw[aC λ z=>by rw[C.none b z]at e;cases e];exact e
theorem HOk.trC(C:Cells l s.heap H)(x:HOk P w H s.heap):HOk P w (trC l s.heap H) s.heap:=λ b u e=>by
 by_cases hb:b∈l
 ·obtain⟨o,v,g,_⟩:=C.cel b hb;rw[Y7 hb g]at e;cases e;exact⟨g,o,g⟩
 ·rw[aC hb]at e;exact(x b u e).stay (λ _ _ _ q=>q) (λ _ q=>C.same _ _ q) (λ _ _ q=>C.same _ _ q) (λ _ _ q=>C.same _ _ q) λ _ _ _ _ _ q=>C.same _ _ q
theorem Env0.trC(C:Cells l s.heap H)(hb:∀c∈l,base.get? c=none)(hf:∀c∈l,c∉frs outer)(e:Env0 P w K mg base A outer s H):Env0 P w K mg base A outer s (trC l s.heap H):=
 ⟨e.frames,e.mod,λ b o q=>⟨(e.bs b o q).1,by rw[aC λ z=>by rw[hb b z]at q;cases q];exact(e.bs b o q).2⟩,e.bsz,e.funs,⟨λ b q=>by rw[aC λ z=>hf b z q];exact e.frf.1 b q,λ p hp=>C.same _ _ (e.frf.2 p hp)⟩,HOk.trC C e.hok,e.bare⟩
theorem CE.trC(C:Cells l s.heap H)(h:CE outer P w (trC l s.heap H) s Q' u s')(hq:∀v H',Same (trC l s.heap H) H'->Q' v H'->Q v (L2.wo l H'))(hs:∀v H',Q' v H'->Same (trC l s.heap H) H'):CE outer P w H s Q u s':=by
 obtain⟨v,H',os,bare,un,hok,r,q⟩:=h;have at1:∀{b:Iv},b∈l->∃o v,s.heap.get? b=some o/\o.data=.cell v/\H' b=some (.frz o (.own b))/\s'.heap.get? b=some o:=λ {b} hb=>by obtain⟨o,v,g,d⟩:=C.cel b hb;have z:=un.frzs b o _ (Y7 hb g);exact⟨o,v,g,d,z,(hok b _ z).1⟩
 refine⟨v,L2.wo l H',os,bare,⟨λ b o e n hf hx=>?_,λ b o e n hf hx=>?_,λ b o e n hx=>?_,un.there,λ b xs e=>?_,λ b o x e=>?_,λ b x e=>?_⟩,λ b x e=>?_,r,hq v H' (hs v H' q) q⟩
 ·by_cases hb:b∈l
  ·obtain⟨o',_,g,_,_,g'⟩:=at1 hb;rw[e]at g;cases g;exact g'
  ·exact un.keep b o e (by rw[aC hb];exact n) hf hx
 ·by_cases hb:b∈l
  ·obtain⟨o',_,g,_,_,g'⟩:=at1 hb;rw[e]at g;cases g;exact⟨o.slots,g'⟩
  ·exact un.slot b o e (by rw[aC hb];exact n) hf hx
 ·by_cases hb:b∈l
  ·exact Y4 hb
  ·rw[k9 hb];exact un.free b o e (by rw[aC hb];exact n) hx
 ·rw[k9 λ z=>by rw[C.none b z]at e;cases e];exact un.tups b xs (C.same _ _ e)
 ·rw[k9 λ z=>by rw[C.none b z]at e;cases e];exact un.frzs b o x (C.same _ _ e)
 ·rw[k9 λ z=>by rw[C.none b z]at e;cases e];exact un.tbls b x (C.same _ _ e)
 ·obtain⟨hb,e⟩:=C6 e;refine(hok b x e).stay (λ _ _ _ q=>q) (λ b' q=>?_) (λ b' _ q=>?_) (λ b' _ q=>?_) λ b' o' _ vs d q=>?_
  ·rw[k9 λ z=>by obtain⟨_,_,_,_,g,_⟩:=at1 z;rw[q]at g;cases g];exact q
  ·rw[k9 λ z=>by obtain⟨_,_,_,_,g,_⟩:=at1 z;rw[q]at g;cases g];exact q
  ·rw[k9 λ z=>by obtain⟨_,_,_,_,g,_⟩:=at1 z;rw[q]at g;cases g];exact q
  ·rw[k9 λ z=>by obtain⟨_,_,_,d',g,_⟩:=at1 z;rw[q]at g;cases g;rw[d]at d';cases d'];exact q
structure CellsT(l:List Addr)(h:Heap)(H:Hp):Prop where
 at_:∀c∈l,∃o v,H c=some (.frz o (.own c))/\h.get? c=some o/\o.data=.cell v
noncomputable def ov(l:on Iv)(H H':Hp):Hp:=λ b=>if b∈l then H b else H' b
theorem gR(h:b∈l):ov l H a b=H b:=f8 h
theorem S8(h:b∉l):ov l H a b=a b:=g8 h
theorem HOk.woC(C:CellsT l s.heap H)(x:HOk P w H s.heap):HOk P w (L2.wo l H) s.heap:=λ b u e=>by
 obtain⟨hb,e⟩:=C6 e;refine(x b u e).stay (λ _ _ _ q=>q) (λ a q=>?_) (λ a _ q=>?_) (λ a _ q=>?_) λ a o' _ vs d q=>?_
 ·rw[k9 λ z=>by obtain⟨_,_,g,_⟩:=C.at_ _ z;rw[q]at g;cases g];exact q
 ·rw[k9 λ z=>by obtain⟨_,_,g,_⟩:=C.at_ _ z;rw[q]at g;cases g];exact q
 ·rw[k9 λ z=>by obtain⟨_,_,g,_⟩:=C.at_ _ z;rw[q]at g;cases g];exact q
 ·rw[k9 λ z=>by obtain⟨_,_,g,_,c⟩:=C.at_ _ z;rw[q]at g;cases g;rw[d]at c;cases c];exact q
theorem CE.woC(C:CellsT l s.heap H)(m:∀b∈frs outer,H b=none)(h:CE outer P w (L2.wo l H) s Q' u s')(J:∀v i,(∀c∈l,i c=none)->Q' v i->Q v (ov l H i)):CE outer P w H s Q u s':=by
 obtain⟨v,i,F,p,un,A,r,q⟩:=h;have I:∀c∈l,c∉frs outer:=λ c y z=>by obtain⟨_,_,g,_⟩:=C.at_ c y;rw[m c z]at g;cases g
 have f:∀c∈l,i c=none:=λ c y=>by obtain⟨o,_,_,g,_⟩:=C.at_ c y;exact un.free c o g (Y4 y) IX
 refine⟨v,ov l H i,F,p,⟨λ b o e n m j=>?_,λ b o e n m j=>?_,λ b o e n j=>?_,un.there,λ b E e=>?_,λ b o x e=>?_,λ b x e=>?_⟩,λ b x e=>?_,r,J v i f q⟩
 ·have a:b∉l:=λ z=>by obtain⟨_,_,g,_⟩:=C.at_ b z;rw[n]at g;cases g
  exact un.keep b o e (by rw[k9 a];exact n) m j
 ·have a:b∉l:=λ z=>by obtain⟨_,_,g,_⟩:=C.at_ b z;rw[n]at g;cases g
  exact un.slot b o e (by rw[k9 a];exact n) m j
 ·have a:b∉l:=λ z=>by obtain⟨_,_,g,_⟩:=C.at_ b z;rw[n]at g;cases g
  rw[S8 a];exact un.free b o e (by rw[k9 a];exact n) j
 ·have a:b∉l:=λ z=>by obtain⟨_,_,g,_⟩:=C.at_ b z;rw[e]at g;cases g
  rw[S8 a];exact un.tups b E (by rw[k9 a];exact e)
 ·by_cases a:b∈l
  ·rw[gR a];exact e
  ·rw[S8 a];exact un.frzs b o x (by rw[k9 a];exact e)
 ·have a:b∉l:=λ z=>by obtain⟨_,_,g,_⟩:=C.at_ b z;rw[e]at g;cases g
  rw[S8 a];exact un.tbls b x (by rw[k9 a];exact e)
 ·by_cases a:b∈l
  ·rw[gR a]at e;obtain⟨o,_,g,K,_⟩:=C.at_ b a;rw[g]at e;cases e;have k:=un.keep b o K (Y4 a) (I b a) IX;exact⟨k,o,k⟩
  ·rw[S8 a]at e;refine(A b x e).stay (λ _ _ _ q=>q) (λ B q=>?_) (λ B _ q=>?_) (λ B _ q=>?_) λ B o' _ vs d q=>?_
   all_goals (rw[S8 λ z=>by rw[f _ z]at q;cases q];exact q)
end
noncomputable def S9(P:IA)(w:Iz)(K:IE)(mg:Str->Ir Is)(base:Iw)(N:on Str)(qual:Str)(scope:IF)(f:Iv)(cd:Is)(cl:on (Str×Iv))(A:IB)(outer:on Env)(s:Iu)(H:Hp):Cx where
 prog:=P
 w:=w
 K:=K
 mg:=mg
 base:=base
 A:=A.deeper (PySem.W.envX qual scope s.heap.objs.size f cd cl)
 N:=N
 s₀:=s
 H₀:=H
 env:=PySem.W.envX qual scope s.heap.objs.size f cd cl
 outer:=outer
 stack:=PySem.W.envX qual scope s.heap.objs.size f cd cl::outer
 ex:=[]
 calm:=true
 fn:=λ _=>false
 pn:=[]
 xe:=λ _ _=>False
theorem CL{P:IA}{w:Iz}{K:IE}{mg:Str->Ir Is}{base:Iw}{A:IB}{outer:on Env}{s:Iu}{H:Hp}{l:on Iv}{N ps:on Str}{q:Str}{scope:IF}{cl:on (Str×Iv)}{f:Iv}{us:on Is}{vs ws:on V}{cd:Is}{h₁:Iw}{tk:Nat}(S:LamScope N ps scope cl l)(C:CellsT l s.heap H)(hd:A.handled=none)(e0:Env0 P w K mg base A outer s H)(hl:vs.length=ps.length)(r:Vals vs us)(hlen:N.length=ps.length+ws.length)
  (hw:∀i x v,N[ps.length+i]? = some x->ws[i]? = some v->∃c u,cl.lookup x=some c/\s.heap.IsCell c (some u)/\RelV v u)
  (hns:h₁.Ns s.heap.objs.size (λ x=>(ps.zip us).reverse.lookup x)) (hk:∀b o,s.heap.get? b=some o->h₁.get? b=some o) :
  Inv (S9 P w K mg base N q scope f cd cl A outer s (L2.wo l H)) [] ((vs++ws).map some) (L2.wo l H) {s with heap:=h₁,toks:=tk}:=by
 have nl:∀{b:Iv},H b=none->b∉l:=λ {b} n z=>by obtain⟨_,_,g,_⟩:=C.at_ b z;rw[n]at g;cases g
 have noA:∀b:Iv,b∉(S9 P w K mg base N q scope f cd cl A outer s (L2.wo l H)).ex:=λ b z=>absurd (show b∈([]:on Iv)from z) IX;have wn:∀{b:Iv},H b=none->L2.wo l H b=none:=λ {b} n=>by rw[k9 (nl n)];exact n
 have cellAt:∀x c,cl.lookup x=some c->∃v,h₁.IsCell c v:=λ x c e=>by obtain⟨o,v,_,g,d⟩:=C.at_ c (S.mem x c e);exact⟨v,o,hk _ _ g,d⟩
 refine⟨⟨e0.mod,S.kind,rfl,rfl,k8 _,S.inj,λ y hy=>?_,λ y c z=>(nomatch z),λ _=>hd,iT e0.frames,.inr ⟨rfl,rfl⟩,λ b z=>absurd z (noA b),λ b o e=>⟨(e0.bs b o e).1,wn (e0.bs b o e).2⟩,e0.bsz,λ b _ _=>noA b,λ b z=>absurd z (noA b),e0.funs,λ b hb=>wn (e0.frf.1 b hb),λ p hp=>?_⟩,
  rfl,e0.bare,Un.kept hk,⟨_,hns,λ i y v h1 h2 h3=>?_⟩,cellAt,?_,λ y c h=>Y4 (S.mem y c h),λ p hp=>absurd (show p∈([]:on (Iv×Obj))from hp) IX,(HOk.woC C e0.hok).kept hk,?_⟩
 ·have hy:scope.names.lookup y=some .cell\/scope.names.lookup y=some .free:=hy;rcases hy with hy | hy
  ·exact absurd rfl (S.nocell _ (D7 hy))
  ·exact S.has y hy
 ·have z:=e0.frf.2 p hp;show L2.wo l H p.1=_;rw[k9 λ m=>by obtain⟨_,_,g,_⟩:=C.at_ _ m;rw[z]at g;cases g];exact z
 ·have h1:N[i]? = some y:=h1;rw[q0]at h2;have h2':(vs++ws)[i]? = some v:=by
   cases z:(vs++ws)[i]? with
   | none=>rw[z]at h2;cases h2
   | some a=>rw[z]at h2;exact congrArg some (E2 (E2 h2))
  by_cases hi:i<ps.length
  ·rw[P3 IK]at h2';obtain⟨u,hu,rv⟩:=r.get h2';have hp:ps[i]? = some y:=by rw[←S.pre,aQ hi];exact h1
   have ndP:ps.Nodup:=by rw[←S.pre];exact S.nd.sublist (fe _ _)
   refine⟨u,rv,.inl ⟨S.par y (L0 hp),?_⟩⟩;show(ps.zip us).reverse.lookup y=some u;have nd2:((ps.zip us).reverse.map (·.1)).Nodup:=by rw[List.map_reverse,List.map_fst_zip (by have:=r.length;omega)];exact oI.mpr (jg (λ h=>Ne.symm h) ndP)
   refine X5 nd2 (List.mem_reverse.mpr ?_);have hz:(ps.zip us)[i]? = some (y,u):=by rw[eI];exact⟨hp,hu⟩
   exact L0 hz
  ·rw[Q7 IK]at h2';obtain⟨c,u,e1,e2,e3⟩:=hw (i - vs.length) y v (by rw[show ps.length+(i - vs.length)=i by omega];exact h1) h2';exact⟨u,e3,.inr ⟨.inr (S.fre i y IK h1),c,e1,e2.keeps hk⟩⟩
 ·show L2.wo l H s.heap.objs.size=none;exact wn (e0.hok.fresh (k8 _))
 ·show((vs++ws).map some).length=N.length;rw[g6,u0];omega
theorem CM{K:IE}(S:LamScope N ps scope cl l)(C:CellsT l s.heap H)(M:A.depth<recursionLimit/\A.handled=none)(m:Env0 P w K mg base A outer s H)(hf:P2 H q params body scope cl f)
  (h:∀B a j,bindArgs (PySem.W.kla_fn "<lambda>" q params body scope cl B (.ref a) j) ⟨us,[]⟩=pure (ps.zip us)) (hl:vs.length=ps.length) (r:Vals vs us) (p:N.length=ps.length+ws.length)
  (Y:∀i x v,N[ps.length+i]? = some x->ws[i]? = some v->∃c u,cl.lookup x=some c/\s.heap.IsCell c (some u)/\RelV v u)
  (g:∀a,∃t,PE (S9 P w K mg base N q scope f (.ref a) cl A outer s (L2.wo l H)) body t/\t ((vs++ws).map some) (L2.wo l H) (λ v k=>(∀c∈l,k c=none)->Q v (ov l H k))) :
  codeAny (model P w) A (.call (.ref f) ⟨us,[]⟩) (CR CX outer P w H s Q E) s:=by
 obtain⟨a,W,u,y,t,B,j,h1,h2,h3,h4⟩:=hf;refine PySem.W.kla_callFunE M.1 ((m.hok f _ h1).1) rfl S.co S.gen rfl ⟨a,W,y,t,rfl,((m.hok a _ h2).1),h3,h4⟩ ?_;show wpAny _ _ _ _ _ s;rw[h B a j];refine g7 (wpAny_newFunctionEnv S.nocell (λ x X=>S.par x.1 (cB X).1) (λ L I n=>⟨(m.mod.nolimit.keeps λ b o e=>(m.bs b o e).1).fresh _ n,?_⟩) S.kind);show codeAny _ _ _ _ _;obtain⟨t,Z,hq⟩:=g a;exact PySem.W.kla_codeExpr (D9 (Z [] _ _ _ _ (CL S C M.2 m hl r p Y I (λ b o e=>n.extBut b o (t9 (n7 e)) (k6 _ e))) hq) (λ v R ⟨O,k,J,U,z⟩=>CE.woC (Q':=λ v k=>(∀c∈l,k c=none)->Q v (ov l H k)) C m.frf.1 ⟨O,k,J.os,J.bare,J.base,J.hok,U,z⟩ λ _ _ z q=>q z) λ e R z=>(z:False).elim)
open PySem.Calls
theorem CN(F:closureFor sc env=pure cl)(B:env.globals=mainGlobals)(L:s.heap.Ns mainGlobals mg)(hc:env.code=.ref c)(C:PySem.W.CodeHd s.heap c P)(N:s.heap.get? P=some (PySem.W.tabObj ps))(ht:TriplesOk ps.toList)(hn:codeAmong pos ps.toList=none)(u:mainGlobals≠P)(hb:s.heap.BuiltinsAt mg P)
  (h:∀a T K I h' tk,Heap.ExtBut P s.heap h'->s.heap.objs.size<=a->a<h'.objs.size->s.heap.objs.size<=T->h'.IsCode a T #[]->h'.TableAt a T #[]->h'.CodeRec (.ref a) p->h'.get? P=some (PySem.W.tabObj (ps ++ #[rawInt pos.line,rawInt pos.col,.ref a])) ->
   Q (.ref h'.objs.size) {s with heap:=h'.push (PySem.W.fnMade nm p y bd sc cl I ((mg "__name__").getD .none) a K),toks:=tk}) :
  wpAny M A (makeFunction nm p y (.stmts bd) sc env [] [] [] pos R) Q E s:=by
 obtain⟨bm,ob,b1,Z,_,Y,X,W,U,S⟩:=hb;have O:∀(s1:Iu),(∀b o,s.heap.get? b=some o->s1.heap.get? b=some o)->s.heap.objs.size<=s1.heap.objs.size->s1.gens=s.gens->s1.drawn=s.drawn->s1.os=s.os ->
   wpAny M A (functionCode env pos R nm p y sc (.stmts bd)) (λ J w=>∃a T h' tk,J=.ref a/\w = {s with heap:=h',toks:=tk} /\ Heap.ExtBut P s.heap h'/\s.heap.objs.size<=a/\a<h'.objs.size/\s.heap.objs.size<=T/\h'.IsCode a T #[]/\h'.TableAt a T #[]/\h'.CodeRec (.ref a) p/\h'.get? P=some (PySem.W.tabObj (ps ++ #[rawInt pos.line,rawInt pos.col,.ref a]))) E s1:=λ s1 k z g1 g2 g3=>by
  have C1:=C.keeps k;refine wpAny_functionCodeX hc (C1.code (k _ _ N) ht) (C1.tab (k _ _ N)) hn λ a h' tk d n m _ l j x6=>?_
  obtain⟨T,i,g,f⟩:=x6;refine⟨a,T,h',tk,rfl,by rw[g1,g2,g3],λ b o H e=>d b o H (k b o e),i9 z n,m,i9 z i,g,f,l,j.2⟩
 rw[makeFunction_eq];simp only[List.zip_nil_right,List.filterMap_nil,ji,if_true,pure_bind];unfold makeTail;rw[F,B];refine f0 (g7 ?_);cases cl with
 | nil=>
  simp only[ji,if_true];refine f0 (g7 (f0 (D9 (O s (λ _ _ e=>e) (k8 _) rfl rfl rfl) (λ J w q=>?_) λ _ _ x=>x)));obtain⟨a,T,h',tk,rfl,rfl,d,n,m,i,g,f,l,j⟩:=q;have v:=L.extBut d u;refine f0 (wpAny_builtinsFor v b1 Z (d _ _ Y X) W U S (f0 (wpAny_nsGet v ?_)));cases hd:docOf bd with
  | none=>exact f0 (g7 (E8 (h a T _ _ h' tk d n m i g f l j) (by size_fits)))
  | some t=>exact f0 (wpAny_mkText (E8 (h a T _ _ h' _ d n m i g f l j) (by size_fits)))
 | cons q r=>
  simp only[List.isEmpty_cons,aU,if_false];refine f0 (wpAny_newTextTuple (f0 (D9 (O _ (λ b o e=>k6 _ e) (by rw[G7];omega) rfl rfl rfl) (λ J w q=>?_) λ _ _ x=>x)));obtain⟨a,T,h',tk,rfl,rfl,d,n,m,i,g,f,l,j⟩:=q;have v:=L.extBut d u;refine f0 (wpAny_builtinsFor v b1 Z (d _ _ Y X) W U S (f0 (wpAny_nsGet v ?_)));cases hd:docOf bd with
  | none=>exact f0 (g7 (E8 (h a T _ _ h' tk d n m i g f l j) (by size_fits)))
  | some t=>exact f0 (wpAny_mkText (E8 (h a T _ _ h' _ d n m i g f l j) (by size_fits)))
structure DefAt(X:Cx)(scope:Scope)(c P:Addr)(q:Str):Prop where
 code:X.env.code=.ref c
 hd:∀h:Heap,X.K.In h->PySem.W.CodeHd h c P
 tab:(P,q)∈A2 X.K
 fre:∀y∈scope.names,y.2=NameKind.free->X.env.kindOf y.1=some .cell
 dq:N0 q=true
def K7(H:Hp)(nm q:Str)(pr:IG)(bd:on IC)(sc:IF)(cl:on (Str×Iv))(f:Iv):Prop:=
 ∃(c':Iv) (oc:Obj) (u:HO) (vs:Iy Is) (t:Tok) (doc pm ctv:Is) (T:Iv),H f=some (.frz (PySem.W.fnMade nm q pr bd sc cl doc pm c' ctv) (.own f))/\H c'=some (.frz oc u)/\oc.data=.fields vs/\vs[1]? = some (.str q t)/\H T=some (.tbl (q ++ ".<locals>." ++ "<lambda>")) /\
  ∀h:Iw,h.get? c'=some oc->PySem.W.CodeHd h c' T
theorem K7.mono(e:Same H d)(h:K7 H nm q c bd sc cl f):K7 d nm q c bd sc cl f:=by
 obtain⟨p,j,u,g,t,a,i,b,T,o,n,m,l,k,r⟩:=h;exact⟨p,j,u,g,t,a,i,b,T,e _ _ o,e _ _ n,m,l,e _ _ k,r⟩
theorem CO(I:IV U)(L:DefAt X sc c P q)
  (h:∀f r s',Inv X U σ r s'->Same H r->H f=none->K7 r nm q pr bd sc (p5 X.env.cells sc.names []) f->Q (.ref f) s') :
  wpAny M A (makeFunction nm q pr (.stmts bd) sc X.env [] [] [] pos fl) Q E s:=by
 have hP:=I.tabs _ L.tab;obtain⟨ps,hp,ht,Y⟩:=I.hok _ _ hP;have a9:=fQ (scope:=sc) (env:=X.env) λ y hy hf=>I.ok.has y.1 (.inl (L.fre y hy hf));have hg:s.heap.Ns mainGlobals X.mg:=I.ok.mod.glob.keeps I.bk;have c9:mainGlobals≠P:=λ z=>by obtain⟨o,es,ep,e,d,_⟩:=hg;rw[z,hp]at e;cases e;cases d
 obtain⟨bm,ob,b1,b2,b3,b4,b5,b6⟩:=I.ok.mod.bmod;have R:=I.bs _ _ b3;have d0:bm≠P:=λ z=>by rw[z,hP]at R;cases R.2
 have e0:bm≠mainGlobals:=λ z=>by obtain⟨o,es,ep,e,d,_⟩:=hg;rw[←z,R.1]at e;cases e;rw[b6]at d;cases d
 have hb:s.heap.BuiltinsAt X.mg P:=⟨bm,ob,b1,b2,e0,d0,R.1,b4,b5,b6⟩;have C:=L.hd s.heap I.kIn;have W:∀{l:Iv} {x:Obj} {p:Iy Is} {T:Iv} {j:Str} {tf:Tok} {g:Int} {tg:Tok} {m:Bool} {i:Int} {tt:Tok},x.data=.fields p->x.cls=.type "code" -> p[11]? = some (.ref T)->p.getD 11 .none=.ref T->p.getD 18 .none=.str j tf->p.getD 7 .none=.int g tg->p.getD 9 .none=.bool m->p.getD 10 .none=.int i tt->l≠T ->
   ∀h:Iw,h.get? l=some x->PySem.W.CodeHd h l T:=λ d1 d2 d3 d4 d5 d6 d7 d8 d9 h e=>⟨_,_,_,_,_,_,_,_,_,e,d2,d1,d3,d4,d5,d6,d7,d8,d9⟩
 cases hf:codeAmong pos ps.toList with
 | some cv=>
  obtain⟨l,x,u,p,t,e1,e2,e3,e4,e5⟩:=Y pos cv hf;subst e1;obtain⟨y0,T,j,tf,g,tg,m,i,tt,y1,y2,y3,y4,y5,y6,y7,y8⟩:=e5 L.dq;refine PySem.W.makeFunction_hit (mg:=X.mg) a9 I.ok.glob hg L.code C hp ht hf hb λ O N k tk hk a4=>?_
  have hn:H k.objs.size=none:=I.hok.fresh a4;refine h _ (upd H k.objs.size (.frz _ (.own k.objs.size))) _ (I.laid (t':=tk) (λ b u e=>k6 _ (hk b u e)) a4 ⟨t8 _ rfl,_,t8 _ rfl⟩) (v4 hn) hn ?_;refine⟨l,x,u,p,t,N,_,O,T,x3,?_,e3,e4,?_,W e3 y0 y1 y2 y3 y4 y5 y6 y7⟩
  ·rw[n6 (A7 e2 hn)];exact e2
  ·rw[n6 (A7 y8 hn)];exact y8
 | none=>
  refine CN (mg:=X.mg) a9 I.ok.glob hg L.code C hp ht hf c9 hb λ l T O N k tk hx F a0 b0 c8 c4 a5 a3=>?_;obtain⟨e9,x,p,t,e2,B,hd,hv⟩:=a5;cases e2;obtain⟨⟨o1,c1,g1,g2,g3,g4⟩,b7⟩:=c4;rw[B]at g1;cases g1;rw[hd]at g3;cases g3;obtain⟨o1,c1,j,tf,g,tg,m,i,tt,op,j1,j2,j3,j4,j5,j6,j7,_,_,_,j8⟩:=c8;rw[B]at j1;cases j1;rw[hd]at j2;cases j2;have c6:H l=none:=I.hok.fresh F;have c7:H T=none:=I.hok.fresh b0;have a6:H k.objs.size=none:=I.hok.fresh (i9 F (U4 a0));have e7:T<k.objs.size:=n7 b7;have e8:T≠k.objs.size:=t9 e7;have Z:∀{b:Iv} {u:HO},H b=some u->b≠l/\b≠T/\b≠k.objs.size:=λ e=>⟨A7 e c6,A7 e c7,A7 e a6⟩;have v:∀{b:Iv} {o:Obj},s.heap.get? b=some o->b≠l/\b≠T/\b≠k.objs.size:=λ {b o} e=>⟨t9 (u6 (n7 e) F),t9 (u6 (n7 e) b0),t9 (u6 (n7 e) (i9 F (U4 a0)))⟩;generalize a8:PySem.W.fnMade nm q pr bd sc _ N _ l O=fo;have a7:fo.isFreed=false:=by rw[←a8];rfl
  generalize K:upd (upd (upd H l (.frz x (.own l))) T (.tbl (q ++ ".<locals>." ++ "<lambda>"))) k.objs.size (.frz fo (.own k.objs.size))=r;have b9:r k.objs.size=some (.frz fo (.own k.objs.size)):=by rw[←K];exact x3
  have a1:r T=some (.tbl (q ++ ".<locals>." ++ "<lambda>")):=by rw[←K,n6 e8];exact x3
  have at2:r l=some (.frz x (.own l)):=by rw[←K,n6 (t9 a0),n6 j8];exact x3
  have a2:∀{b:Iv},b≠l->b≠T->b≠k.objs.size->r b=H b:=λ h1 h2 h3=>by rw[←K,n6 h3,n6 h2,n6 h1]
  have sm:Same H r:=λ b o e=>by rw[a2 (Z e).1 (Z e).2.1 (Z e).2.2];exact e
  have kp:∀b o,b≠P->s.heap.get? b=some o->(k.push fo).get? b=some o:=λ b o hb e=>k6 _ (hx b o hb e);have b8:∀b,H b=none->b≠P:=λ b n z=>by rw[z,hP]at n;cases n
  have un:Un X.fs [] H r s.heap (k.push fo):=by
   refine⟨λ b o e n _ _=>kp b o (b8 b n) e,λ b o e n _ _=>⟨o.slots,kp b o (b8 b n) e⟩,λ b o e n _=>by rw[a2 (v e).1 (v e).2.1 (v e).2.2];exact n,λ b o e _=>?_,λ b xs e=>sm _ _ e,λ b o u e=>sm _ _ e,λ b q e=>sm _ _ e⟩;by_cases z:b=P
   ·subst z;exact⟨_,k6 _ a3⟩
   ·exact⟨o,kp b o z e⟩
  have c5:HOk X.prog X.w r (k.push fo):=λ b u e=>by
   by_cases z1:b=k.objs.size
   ·subst z1;rw[b9]at e;cases e;exact⟨t8 _ a7,_,t8 _ a7⟩
   ·by_cases z0:b=T
    ·subst z0;rw[a1]at e;cases e;exact⟨#[],k6 _ b7,trivial,λ S cv J=>by cases J⟩
    ·by_cases z2:b=l
     ·subst z2;rw[at2]at e;cases e;exact⟨k6 _ B,_,k6 _ B⟩
     ·rw[a2 z2 z0 z1]at e;by_cases z3:b=P
      ·subst z3;rw[hP]at e;cases e;refine⟨_,k6 _ a3,?_,λ S cv J=>?_⟩
       ·rw[cn];exact lN ⟨_,_,rfl⟩ ⟨_,_,rfl⟩ _ ht
       ·rw[cn]at J;rcases lM (a:=rawInt pos.line) (b:=rawInt pos.col) (c:=.ref l) ps.toList ht ⟨_,_,rfl⟩ ⟨_,_,rfl⟩ J with w | w
        ·obtain⟨c2,c3,u2,c0,t2,f1,f2,f3,f4⟩:=Y S cv w;refine⟨c2,c3,u2,c0,t2,f1,sm _ _ f2,f3,f4.1,λ y=>?_⟩;obtain⟨y0,T2,j,tf,g,tg,m,i,tt,y1,y2,y3,y4,y5,y6,y7,y8⟩:=f4.2 y;exact⟨y0,T2,j,tf,g,tg,m,i,tt,y1,y2,y3,y4,y5,y6,y7,sm _ _ y8⟩
        ·exact⟨l,x,_,p,t,w,at2,hd,hv,λ _=>⟨g2,T,j,tf,g,tg,m,i,tt,g4,j3,j4,j5,j6,j7,j8,a1⟩⟩
      ·refine(I.hok b u e).stay (λ b' u' e6 q=>kp b' u' ?_ q) (λ b' q=>sm _ _ q) (λ b' xs q=>sm _ _ q) (λ b' xs q=>sm _ _ q) λ b' _ _ _ _ q=>sm _ _ q;rcases e6 with w | w
       ·rw[w];exact z3
       ·intro z;rw[z,hP]at w;cases w
  exact h k.objs.size r _ (I.un (t':=tk) un c5) sm a6 ⟨l,x,_,p,t,N,(X.mg "__name__").getD .none,O,T,by rw[b9,←a8],at2,hd,hv,a1,W hd g2 g4 j3 j4 j5 j6 j7 j8⟩
structure CloScope(N ps:List Str)(n:Nat)(sc:Scope)(cl:List (Str×Addr))(l:List Addr):Prop where
 kind:sc.kind=.function
 co:sc.isCoroutine=false
 gen:sc.isGenerator=false
 nd:N.Nodup
 pre:N.take ps.length=ps
 par:∀x∈ps,sc.names.lookup x=some .local
 nocell:∀y∈sc.names,y.2 ≠ .cell
 fre:∀i x,ps.length<=i->i<ps.length+n->N[i]? = some x->sc.names.lookup x=some .free
 has:∀x,sc.names.lookup x=some .free->∃c,cl.lookup x=some c
 inj:∀x y c,cl.lookup x=some c->cl.lookup y=some c->x=y
 mem:∀x c,cl.lookup x=some c->c∈l
theorem CP{K:IE}(S:CloScope N ps ws.length scope cl l)(C:CellsT l s.heap H)(hd:A.handled=none)(k:Env0 P w K mg base A outer s H)(hl:vs.length=ps.length)(r:Vals vs M)(Y:N.length=ps.length+ws.length+n)
  (hw:∀i x v,N[ps.length+i]? = some x->ws[i]? = some v->∃c u,cl.lookup x=some c/\s.heap.IsCell c (some u)/\RelV v u)
  (X:j.Ns s.heap.objs.size (λ x=>(ps.zip M).reverse.lookup x)) (R:∀b o,s.heap.get? b=some o->j.get? b=some o) :
  Inv (S9 P w K mg base N q scope f cd cl A outer s (L2.wo l H)) [] ((vs++ws).map some++List.replicate n none) (L2.wo l H) {s with heap:=j,toks:=tk}:=by
 have nl:∀{b:Iv},H b=none->b∉l:=λ {b} n z=>by obtain⟨_,_,g,_⟩:=C.at_ b z;rw[n]at g;cases g
 have I:∀b:Iv,b∉(S9 P w K mg base N q scope f cd cl A outer s (L2.wo l H)).ex:=λ b z=>absurd (show b∈([]:on Iv)from z) IX;have wn:∀{b:Iv},H b=none->L2.wo l H b=none:=λ {b} n=>by rw[k9 (nl n)];exact n
 have E:∀x c,cl.lookup x=some c->∃v,j.IsCell c v:=λ x c e=>by obtain⟨o,v,_,g,d⟩:=C.at_ c (S.mem x c e);exact⟨v,o,R _ _ g,d⟩
 refine⟨⟨k.mod,S.kind,rfl,rfl,k8 _,S.inj,λ y J=>?_,λ y c z=>(nomatch z),λ _=>hd,iT k.frames,.inr ⟨rfl,rfl⟩,λ b z=>absurd z (I b),λ b o e=>⟨(k.bs b o e).1,wn (k.bs b o e).2⟩,k.bsz,λ b _ _=>I b,λ b z=>absurd z (I b),k.funs,λ b hb=>wn (k.frf.1 b hb),λ p L=>?_⟩,
  rfl,k.bare,Un.kept R,⟨_,X,λ i y v Q F h3=>?_⟩,E,?_,λ y c h=>Y4 (S.mem y c h),λ p L=>absurd (show p∈([]:on (Iv×Obj))from L) IX,(HOk.woC C k.hok).kept R,?_⟩
 ·have J:=J;rcases J with J | J
  ·exact absurd rfl (S.nocell _ (D7 J))
  ·exact S.has y J
 ·have z:=k.frf.2 p L;show L2.wo l H p.1=_;rw[k9 λ m=>by obtain⟨_,_,g,_⟩:=C.at_ _ m;rw[z]at g;cases g];exact z
 ·have Q:N[i]? = some y:=Q;have O:i<(vs++ws).length:=by
   by_cases z:i<(vs++ws).length
   ·exact z
   ·rw[Q7 (by rw[g6];omega),bW]at F;split at F<;>cases F
  rw[P3 (by rw[g6];exact O),q0]at F;have B:(vs++ws)[i]? = some v:=by
   cases z:(vs++ws)[i]? with
   | none=>rw[z]at F;cases F
   | some a=>rw[z]at F;exact congrArg some (E2 (E2 F))
  by_cases hi:i<ps.length
  ·rw[P3 IK]at B;obtain⟨u,hu,rv⟩:=r.get B;have L:ps[i]? = some y:=by rw[←S.pre,aQ hi];exact Q
   have U:ps.Nodup:=by rw[←S.pre];exact S.nd.sublist (fe _ _)
   refine⟨u,rv,.inl ⟨S.par y (L0 L),?_⟩⟩;show(ps.zip M).reverse.lookup y=some u;have W:((ps.zip M).reverse.map (·.1)).Nodup:=by rw[List.map_reverse,List.map_fst_zip (by have:=r.length;omega)];exact oI.mpr (jg (λ h=>Ne.symm h) U)
   refine X5 W (List.mem_reverse.mpr ?_);have Z:(ps.zip M)[i]? = some (y,u):=by rw[eI];exact⟨L,hu⟩
   exact L0 Z
  ·rw[Q7 IK]at B;obtain⟨c,u,e1,e2,e3⟩:=hw (i - vs.length) y v (by rw[show ps.length+(i - vs.length)=i by omega];exact Q) B;exact⟨u,e3,.inr ⟨.inr (S.fre i y IK (by rw[u0]at O;omega) Q),c,e1,e2.keeps R⟩⟩
 ·show L2.wo l H s.heap.objs.size=none;exact wn (k.hok.fresh (k8 _))
 ·show((vs++ws).map some++List.replicate n none).length=N.length;rw[u0,g6,u0,eN];omega
theorem CQ{K:IE}(S:CloScope N ps ws.length scope cl l)(C:CellsT l s.heap H)(Y:A.depth<recursionLimit/\A.handled=none)(y:Env0 P w K mg base A outer s H)(hf:K7 H nm q a body scope cl f)
  (k:∀m pm d p,bindArgs (PySem.W.fnX nm q a body scope cl .none .none m pm none (.ref d) p) ⟨L,[]⟩=pure (ps.zip L)) (hl:vs.length=ps.length) (r:Vals vs L) (I:N.length=ps.length+ws.length+n)
  (hw:∀i x v,N[ps.length+i]? = some x->ws[i]? = some v->∃c u,cl.lookup x=some c/\s.heap.IsCell c (some u)/\RelV v u)
  (j:∀d B u T,H d=some (.frz B u)->H T=some (.tbl (q ++ ".<locals>." ++ "<lambda>"))->(∀h:Iw,h.get? d=some B->PySem.W.CodeHd h d T)->∃t,PSs (S9 P w K mg base N q scope f (.ref d) cl A outer s (L2.wo l H)) body t/\t {nx:=λ _ _=>False,rt:=λ v O=>(∀c∈l,O c=none)->Q v (ov l H O)} ((vs++ws).map some++List.replicate n none) (L2.wo l H)) :
  codeAny (model P w) A (.call (.ref f) ⟨L,[]⟩) (CR CX outer P w H s Q E) s:=by
 obtain⟨d,B,u,R,t,m,pm,p,T,h1,Z,h3,h4,h5,h6⟩:=hf;have U:=(y.hok d _ Z).1;refine oG Y.1 ((y.hok f _ h1).1) rfl S.co S.gen rfl ⟨d,B,R,t,rfl,U,h3,h4⟩ ?_
 show wpAny _ _ _ _ _ s;rw[k m pm d p];refine g7 (wpAny_newFunctionEnv S.nocell (λ x hx=>S.par x.1 (cB hx).1) (λ X W F=>⟨(y.mod.nolimit.keeps λ b o e=>(y.bs b o e).1).fresh _ F,?_⟩) S.kind);have g:=λ b o e=>F.extBut b o (t9 (n7 e)) (k6 _ e)
 obtain⟨t,ht,hq⟩:=j d B u T Z h5 h6;refine codeAny_func (D9 (ht [] _ _ _ _ (CP S C Y.2 y hl r I hw W g) hq) (λ fl s' M=>?_) λ e s' z=>(z:False).elim)
 cases fl with
 | ret u=>
  obtain⟨v',σ',O,J,rv,z⟩:=M;exact CE.woC C y.frf.1 ⟨v',O,J.os,J.bare,J.base,J.hok,rv,z⟩ λ _ _ z q=>q z
 | next=>obtain⟨_,_,_,z⟩:=M;exact False.elim z
 | brk=>obtain⟨_,_,_,z⟩:=M;exact False.elim z
 | cont=>obtain⟨_,_,_,z⟩:=M;exact False.elim z
theorem CS{K:IE}(C:CellsT l s.heap H)(k:H a=some (.frz i u))(hd:∀v,i.data ≠ .cell v)(j:H T=some (.tbl (q ++ ".<locals>." ++ "<lambda>")))(r:∀h:Iw,h.get? a=some i->PySem.W.CodeHd h a T)
  (c:∀y∈sc.names,y.2=NameKind.free->scope.names.lookup y.1=some .free):LamAt (S9 P w K mg base N q scope f (.ref a) cl A outer s (L2.wo l H)) sc a T where
 code:=rfl
 hd:=λ {b m x s1} I=>by have e:L2.wo l H a=some _:=(by rw[k9 λ z=>by obtain⟨o,v,g,_,d⟩:=C.at_ _ z;rw[k]at g;cases g;exact hd v d];exact k);exact r _ (I.hok _ _ (I.base.frzs _ _ _ e)).1
 tab:=λ {b m x s1} I=>I.base.tbls _ _ (show L2.wo l H T=_ by
  rw[k9 λ z=>by obtain⟨o,v,g,_,d⟩:=C.at_ _ z;rw[j]at g;cases g];exact j)
 fre:=λ y n p=>.inr (c y n p)
structure RoomL(k:Nat)(A:Around):Prop where
 hd:A.handled=none
 dp:A.depth+3*k+5<recursionLimit
 un:A.units+16*k+198<cLine
theorem Room.toL(r:Room k A):RoomL k A:=⟨r.hd,r.dp,by have:=r.un;omega⟩
theorem RoomL.deeper(r:RoomL (k+1) A)(env:Env):Room k (A.deeper env):=
 ⟨r.hd,by have:=r.dp;show A.depth+1+3*k+5<_;omega,by have:=r.un;show A.units+3+16*k+200<_;omega⟩
theorem RoomL.ok(r:RoomL k A):A.depth<recursionLimit/\A.handled=none:=⟨by have:=r.dp;omega,r.hd⟩
def Y8(P:IA)(w:Iz)(K:IE)(mg:Str->Ir Is)(base:Iw)(fn bl cl:on Str)(k:Nat)(Fl:on DV->Ir Ou):Prop:=
 ∀(A:IB) (outer:on Env) (s:Iu) (H:Hp) (us:on Is) (vs:on V) (Q:VK) (E:XK) (O:on Iv) (f:Iv) (m:LamD) (cs ds:on DV) (d:DV),RoomL k A->Env0 P w K mg base A outer s H->Vals vs us->Hdn O H->m.fn=fn->m.bl=bl->m.cl=cl ->
  Rep ⟨K,mg⟩ (L2.wo O H) (.lam m cs) (.ref f)->RepL ⟨K,mg⟩ (L2.wo O H) ds vs->Fl (.lam m cs::ds)=some (.v d false)->(∀v H',Same H H'->Rep ⟨K,mg⟩ (L2.wo O H') d v->Q v H') ->
  codeAny (model P w) A (.call (.ref f) ⟨us,[]⟩) (CR CX0 outer P w H s Q E) s
theorem si{m:LamD}{cs:on DV}{X:Cx}{pins:on (Iv×Obj)}{σ:St}{H:Hp}{s:Iu}{O:on Iv}{f:Iv}(I:IV pins)(h:Rep X.D (L2.wo O H) (.lam m cs) (.ref f)):PySem.W.FnAt f s.heap:=by
 obtain⟨f',pr,bd,sc,q,cl,l,ws,e1,⟨c',oc,u,vs,t,pm,ctv,h1,_⟩,_⟩:=gH.mp h;cases e1;exact⟨_,_,_,_,(I.hok _ _ (C6 h1).2).1⟩
theorem CT{K:Ir Rs}(lo:Y8 X.prog X.w X.K X.mg X.base fn bl cl k (F A8))(hr:Room k X.A)(hv:PE X (.Name x p) (tVar i))(h1:m.fn=fn)(h2:m.bl=bl)(h3:m.cl=cl)(S:δ[i]? = some (.val (.lam m cs)))
  (ha:∀q,K=some q->PA X (e::es) (dA X.D δ q)) (hs:t5 e=false) (M:es.any t5=false) (h:(Rs.thn K λ l=>fX F m cs l)=some L):PE X (.Call (.Name x p) (e::es) [] pos) (dE X.D δ L):=by
 have C:∀{t:TA},PA X (e::es) t->PE X (.Call (.Name x p) (e::es) [] pos) (λ c H Q=>∃(O W:on Iv) (v:V),RSt X.D H c δ O W/\c[i]? = some (some v)/\t c H λ B b=>Same H b/\∃J d,RepL X.D (L2.wo (O++W) b) J B/\F A8 (.lam m cs::J)=some (.v d false)/\∀v y,Same b y->Rep X.D (L2.wo (O++W) y) d v->Q v y):=λ {t} A=>by
  intro a s c H Q I h;obtain⟨O,W,v,R,U,h⟩:=h;obtain⟨v',E,w⟩:=R.val i _ S;rw[U]at E;cases E;obtain⟨f,_,_,_,_,_,_,_,ev,_⟩:=gH.mp w;subst ev;refine ae (thn (hv a s c H (λ v b=>v=.ref f/\b=H) I ⟨_,U,rfl,rfl⟩) λ u s1 t0=>?_);obtain⟨v,b,Z,r1,q1,q2⟩:=t0;subst q1 q2;obtain rfl:u=Value.ref f:=r1;refine PySem.W.callWith_F (si Z w) (thn (A pos a s1 c b _ Z h) λ us s2 ⟨B,H2,P,r,sm,J,d,N,g2,g3⟩=>?_) (w4 hs) (aB es M);have Y:=w.mono sm.wo;refine⟨si P Y,?_⟩;refine cS (P7 (lo X.A X.stack s2 H2 us B Q (λ _ _ _=>False) (O++W) f m cs J d hr.toL P.env0 r (R.hid.mono sm).hdA h1 h2 h3 Y N g2 g3) λ r s' o=>?_);cases r with
  | error e=>exact(o:False).elim
  | ok fl=>
   cases fl with
   | ret u=>exact P.after o
   | next=>exact False.elim o
   | brk=>exact False.elim o
   | cont=>exact False.elim o
 cases j:K with
 | none=>rw[j]at h;cases h
 | some q=>
  rw[j]at h;have A:=ha q j;cases q with
  | ok l=>
   have n:fX F m cs l=some L:=h;unfold fX at n;split at n
   ·rename_i z;split at n
    ·rename_i d E;cases n;exact(C A).weak λ c H Q ⟨O,W,R,p⟩=>by obtain⟨v,w,_⟩:=R.val i _ S;exact⟨O,W,v,R,w,O,W,R,λ B b s1 N=>⟨s1,_,d,N.strong (R.hid.mono s1) z,E,λ v y s g=>p v y (s1.trans s) g⟩⟩
    ·cases n
   ·cases n
section
variable {D:Dm} {O l:on Iv} {H:Hp}
theorem bJ(d:∀c∈l,∃o,H c=some (.frz o (.own c)))(h:L2.wo O H b=some u)(a:∀o c,u ≠ .frz o (.own c)):L2.wo O (L2.wo l H) b=some u:=by
 obtain⟨f,e⟩:=C6 h;rw[k9 f,k9 λ z=>by obtain⟨o,g⟩:=d b z;rw[e]at g;cases g;exact a _ _ rfl];exact e
mutual
theorem sj(hl:∀c∈l,∃o,H c=some (.frz o (.own c))):∀{d:DV} {v:V},d.nolam=true->Rep D (L2.wo O H) d v->Rep D (L2.wo O (L2.wo l H)) d v
 | .non,_,_,h=>by unfold Rep at h ⊢;exact h
 | .bl _,_,_,h=>by unfold Rep at h ⊢;exact h
 | .int _,_,_,h=>by unfold Rep at h ⊢;exact h
 | .str _,_,_,h=>by unfold Rep at h ⊢;exact h
 | .tup ds,_,m,h=>by
  unfold Rep at h ⊢;obtain⟨a,xs,e1,e2,e3⟩:=h;unfold DV.nolam at m;refine⟨a,xs,e1,?_,V2 hl m e3⟩;rcases e2 with(h | ⟨o,h⟩) | h
  ·exact .inl (.inl (bJ hl h (by intro o c z;cases z)))
  ·exact .inl (.inr ⟨o,bJ hl h (by intro o c z;cases z)⟩)
  ·exact .inr h
 | .lst ds,_,m,h=>by unfold Rep at h ⊢;obtain⟨a,xs,e1,e2,e3⟩:=h;unfold DV.nolam at m;exact⟨a,xs,e1,bJ hl e2 (by intro o c z;cases z),V2 hl m e3⟩
 | .dct _ _,_,m,h=>by
  unfold Rep at h ⊢;unfold DV.nolam at m;rcases h with⟨a,ob,kvs,e1,e2,e3,e4⟩ | ⟨a,ob,kvs,e1,e2,e3,e4⟩
  ·exact .inl ⟨a,ob,kvs,e1,bJ hl e2 (by intro o c z;cases z),e3,V2 hl m e4⟩
  ·exact .inr ⟨a,ob,kvs,e1,bJ hl e2 (by intro o c z;cases z),e3,V2 hl m e4⟩
 | .fn _,_,_,h=>by unfold Rep at h ⊢;exact h
 | .lam _ _,_,m,_=>by unfold DV.nolam at m;cases m
 | .scr _,_,_,h=>by
  unfold Rep at h ⊢;obtain⟨a,e1,e2⟩:=h;refine⟨a,e1,?_⟩;rcases e2 with⟨o,h⟩ | h
  ·exact .inl ⟨o,bJ hl h (by intro o c z;cases z)⟩
  ·exact .inr h
theorem V2(hl:∀c∈l,∃o,H c=some (.frz o (.own c))):∀{ds:on DV} {xs:on V},DV.nolams ds=true->RepL D (L2.wo O H) ds xs->RepL D (L2.wo O (L2.wo l H)) ds xs
 | [],_,_,h=>by unfold RepL at h ⊢;exact h
 | d::ds,_,m,h=>by unfold RepL at h ⊢;obtain⟨v,vs,e1,e2,e3⟩:=h;unfold DV.nolams at m;rw[f9]at m;exact⟨v,vs,e1,sj hl m.1 e2,V2 hl m.2 e3⟩
end
end
section
variable {X:Cx} {pins:on (Iv×Obj)} {σ:St} {H:Hp} {s:Iu} {sc:IF} {N ps:on Str}
theorem bK(d:∀y∈sc.names,y.2=NameKind.free->∃a,b.lookup y.1=some a)(h:(p5 b sc.names []).lookup x=some c):b.lookup x=some c/\(x,NameKind.free)∈sc.names:=by
 rcases br d (D7 h)with z | z
 ·cases z
 ·exact z
theorem dH(g:∀y∈sc.names,y.2=NameKind.free->∃a,b.lookup y.1=some a)(f:(x,NameKind.free)∈sc.names)(d:b.lookup x=some c):(p5 b sc.names []).lookup x=some c:=by
 obtain⟨c',e⟩:=kg (fR f d);have:=(bK g e).1;rw[d]at this;cases this;exact e
structure LamTx(N ps:List Str)(sc:Scope):Prop where
 kind:sc.kind=.function
 co:sc.isCoroutine=false
 gen:sc.isGenerator=false
 nd:N.Nodup
 pre:N.take ps.length=ps
 par:∀x∈ps,sc.names.lookup x=some .local
 nocell:∀y∈sc.names,y.2 ≠ .cell
 fre:∀i x,ps.length<=i->N[i]? = some x->sc.names.lookup x=some .free
theorem LamTx.full(T:LamTx N ps sc)(I:IV pins)(b:∀y∈sc.names,y.2=NameKind.free->∃a,X.env.cells.lookup y.1=some a):LamScope N ps sc (p5 X.env.cells sc.names []) ((p5 X.env.cells sc.names []).map (·.2)) where
 kind:=T.kind
 co:=T.co
 gen:=T.gen
 nd:=T.nd
 pre:=T.pre
 par:=T.par
 nocell:=T.nocell
 fre:=T.fre
 has:=λ x h=>by have d:=D7 h;obtain⟨c,e⟩:=b _ d rfl;exact⟨c,dH b d e⟩
 inj:=λ x y c g f=>I.ok.inj x y c (bK b g).1 (bK b f).1
 mem:=λ x c h=>i8.mpr ⟨_,D7 h,rfl⟩
theorem gU(I:IV pins)(d:∀y∈sc.names,y.2=NameKind.free->∃a,X.env.cells.lookup y.1=some a):∀c∈(p5 X.env.cells sc.names []).map (·.2),∃x,X.env.cells.lookup x=some c/\(x,NameKind.free)∈sc.names:=λ c e=>by
 obtain⟨⟨x,c'⟩,b,rfl⟩:=i8.mp e;rcases br d b with z | z
 ·cases z
 ·exact⟨x,z.1,z.2⟩
theorem Cells.of(I:IV pins)(f:∀y∈sc.names,y.2=NameKind.free->∃a,X.env.cells.lookup y.1=some a):Cells ((p5 X.env.cells sc.names []).map (·.2)) s.heap H where
 none:=λ c b=>by obtain⟨x,e,_⟩:=gU I f c b;exact I.freeC x c e
 cel:=λ c b=>by obtain⟨x,e,_⟩:=gU I f c b;obtain⟨v,o,g,d⟩:=I.cell x c e;exact⟨o,v,g,d⟩
theorem CU(I:IV pins)(h:∀y∈sc.names,y.2=NameKind.free->∃a,X.env.cells.lookup y.1=some a)(d:∀y∈sc.names,y.2=NameKind.free->X.fn y.1=true):∀c∈(p5 X.env.cells sc.names []).map (·.2),X.base.get? c=none/\c∉frs X.stack:=λ c i=>by
 obtain⟨x,e,g⟩:=gU I h c i;have b:=I.ok.cab x c (d _ g rfl) e;refine⟨cg (i9 I.ok.bsz b),λ z=>?_⟩;rcases i7.mp (I.stkSub c z)with w | w
 ·exact I.cne x c e w
 ·obtain⟨_,o,f,_⟩:=I.ok.funs.mem w
  exact absurd (u6 (n7 f) b) (M9 _)
end
section
variable {X:Cx} {δ:on Sv} {ea eb bd:Ix} {pos p lp:Pos} {re:Re} {k:Nat} {x:Str} {pr:IG} {sc:IF} {c P:Iv} {m:LamD} {cs:on DV} {fr:on Nat}
def tLam(X:Cx)(pr:IG)(bd:Ix)(sc:IF):TE:=λ _ H Q=>∀f H',Same H H'->H f=none->P2 H' (X.env.qual ++ "<lambda>") pr bd sc (p5 X.env.cells sc.names []) f->Q (.ref f) H'
theorem CV(L:LamAt X sc c P)(a:defaultsOf pr X.env=([],[])):PE X (.Lambda pr bd sc lp) (tLam X pr bd sc):=by
 intro b s σ H Q I h;exact CK I L a λ f d s' g sm e lf=>⟨.ref f,d,g,rfl,h f d sm e lf⟩
theorem lO(R:RSt D H σ δ O W):∀{b:on Nat} {cs:on DV},capD δ b=some cs->∃a:on V,a.length=b.length/\RepL D (L2.wo (O++W) H) cs a/\∀(j i:Nat) v,b[j]? = some i->a[j]? = some v->σ[i]? = some (some v)
 | [],cs,h=>by cases h;exact⟨[],rfl,by unfold RepL;rfl,λ j i v h=>by cases h⟩
 | i::r,cs,h=>by
  unfold capD at h;split at h
  ·rename_i d ds q p;split at h
   ·cases h;obtain⟨a,l,k,g⟩:=lO R p;obtain⟨v,o,n⟩:=R.val i d q;refine⟨v::a,by rw[w6,w6,l],x4.mpr ⟨v,a,rfl,n,k⟩,λ j m f e c=>?_⟩;cases j with
    | zero=>cases e;cases c;exact o
    | succ j=>exact g j m f e c
   ·cases h
  ·cases h
end
section
variable {X:Cx} {δ:on Sv} {v:Ix} {te:TE} {pos kpos:Pos} {i:Int} {j:Nat}
theorem Inv.notSys(I:IV b)(h:s.heap.objs.size<=a):(a==sysModules)=false:=by
 have:=u6 (ag (by decide:(1:Nat)<=mainGlobals) I.mod.glob.lt) (i9 (i9 I.ok.bsz I.sz) h);exact B5.mpr (R4 this)
theorem T0(c:H p=some (.dK []))(h:L2.wo O H b=some u)(a:u ≠ .dK []):L2.wo O (upd H p o) b=some u:=by
 obtain⟨d,e⟩:=C6 h;rw[k9 d,n6 (λ z=>by rw[z,c]at e;cases e;exact a rfl)];exact e
mutual
theorem lP{D:Dm}{O:on Iv}{H:Hp}{p:Iv}{o:HO}(hp:H p=some (.dK [])):∀{d:DV} {v:V},Rep D (L2.wo O H) d v->Rep D (L2.wo O (upd H p o)) d v
 | .non,_,h=>by unfold Rep at h ⊢;exact h
 | .bl _,_,h=>by unfold Rep at h ⊢;exact h
 | .int _,_,h=>by unfold Rep at h ⊢;exact h
 | .str _,_,h=>by unfold Rep at h ⊢;exact h
 | .tup ds,_,h=>by
  unfold Rep at h ⊢;obtain⟨a,xs,e1,e2,e3⟩:=h;refine⟨a,xs,e1,?_,bL hp e3⟩;rcases e2 with(h | ⟨o,h⟩) | h
  ·exact .inl (.inl (T0 hp h IT))
  ·exact .inl (.inr ⟨o,T0 hp h IT⟩)
  ·exact .inr h
 | .lst ds,_,h=>by unfold Rep at h ⊢;obtain⟨a,xs,e1,e2,e3⟩:=h;exact⟨a,xs,e1,T0 hp e2 IT,bL hp e3⟩
 | .dct _ _,_,h=>by
  unfold Rep at h ⊢;rcases h with⟨a,ob,kvs,e1,e2,e3,e4⟩ | ⟨a,ob,kvs,e1,e2,e3,e4⟩
  ·exact .inl ⟨a,ob,kvs,e1,T0 hp e2 IT,e3,bL hp e4⟩
  ·exact .inr ⟨a,ob,kvs,e1,T0 hp e2 IT,e3,bL hp e4⟩
 | .fn _,_,h=>by unfold Rep at h ⊢;exact h
 | .lam m cs,_,h=>by
  unfold Rep at h ⊢;obtain⟨f,pr,bd,sc,q,cl,l,ws,e1,⟨c',oc,u,vs,t,pm,ctv,f1,f2,f3⟩,e3,e4,e5,g1,g2,g3⟩:=h;refine⟨f,pr,bd,sc,q,cl,l,ws,e1,⟨c',oc,u,vs,t,pm,ctv,T0 hp f1 IT,T0 hp f2 IT,f3⟩,e3,e4,bL hp e5,g1,λ c hc=>?_,λ i x v h1 h2=>?_⟩
  ·obtain⟨o,v,k1,k2⟩:=g2 c hc;exact⟨o,v,T0 hp k1 IT,k2⟩
  ·obtain⟨c,o,u,k1,k2,k3⟩:=g3 i x v h1 h2;exact⟨c,o,u,k1,T0 hp k2 IT,k3⟩
 | .scr _,_,h=>by
  unfold Rep at h ⊢;obtain⟨a,e1,e2⟩:=h;refine⟨a,e1,?_⟩;rcases e2 with⟨o,h⟩ | h
  ·exact .inl ⟨o,T0 hp h IT⟩
  ·exact .inr h
theorem bL{D:Dm}{O:on Iv}{H:Hp}{p:Iv}{o:HO}(hp:H p=some (.dK [])):∀{ds:on DV} {xs:on V},RepL D (L2.wo O H) ds xs->RepL D (L2.wo O (upd H p o)) ds xs
 | [],_,h=>by unfold RepL at h ⊢;exact h
 | d::ds,_,h=>by unfold RepL at h ⊢;obtain⟨v,vs,e1,e2,e3⟩:=h;exact⟨v,vs,e1,lP hp e2,bL hp e3⟩
end
end
def CW(x y:Str)(ta tb:TE):TE:=λ σ H Q=>∀a,H a=none->ta σ (upd H a (.dK [])) λ v H1=>tb σ H1 λ w H2=>H2 a=some (.dK [])/\∀o,Q (.ref a) (upd H2 a (.frz o (.dK [(.inr x,v),(.inr y,w)])))
theorem CY{K:Ix}(B:x≠y)(ha:PE X L r)(C:PE X K n):PE X (.Dict [some (.Constant (.str x) J k),some (.Constant (.str y) F i)] [L,K] pos) (CW x y r n):=by
 intro a s c H Q I h;have hf:=I.hok.fresh (k8 _);have E:=I.notSys (k8 _);have I0:Inv X a c (upd H s.heap.objs.size (.dK [])) {s with heap:=s.heap.push {cls:=.type "dict",data:=.dict #[]}}:=
  I.laid (t':=s.toks) (λ b u e=>k6 _ e) (k8 _) ⟨G3 _,E,[],.nil,Heap.DictOf.new _⟩
 refine wpAny_Dict_walk (knd:=G9 X.prog X.w) rfl rfl IX (show(2:Nat)<=15 by decide) ?_;refine pairTrees_cons_walk (thn (jL (x:=x) (j:=J) (pos:=k) a _ c _ (λ v f=>v=.str x/\r c f λ v f=>n c f λ w g=>g s.heap.objs.size=some (.dK [])/\∀o,Q (.ref s.heap.objs.size) (upd g s.heap.objs.size (.frz o (.dK [(.inr x,v),(.inr y,w)])))) I0 ⟨rfl,h _ hf⟩) λ ku s1 t0=>?_);obtain⟨kx,f,I1,rk,e,q⟩:=t0;subst e;obtain⟨R,rfl⟩:=rk;refine thn (ha a s1 c f _ I1 q) λ m s2 t0=>?_;obtain⟨O,g,I2,rv,Z⟩:=t0;refine pairTrees_cons_walk (thn (jL (x:=y) (j:=F) (pos:=i) a _ c _ (λ v f=>v=.str y/\n c f λ w g=>g s.heap.objs.size=some (.dK [])/\∀o,Q (.ref s.heap.objs.size) (upd g s.heap.objs.size (.frz o (.dK [(.inr x,O),(.inr y,w)])))) I2 ⟨rfl,Z⟩) λ ku W t0=>?_);obtain⟨kx,H3,I3,rk,e,q⟩:=t0;subst e;obtain⟨p,rfl⟩:=rk;refine thn (C a W c H3 _ I3 q) λ l U ⟨wx,N,M,A,hd,Y⟩=>pairTrees_nil_walk ?_;obtain⟨z,ns',P,kv,dd⟩:=(show u9 X.prog X.w N U.heap s.heap.objs.size (.dK [])from M.hok _ _ hd);cases kv;have mg:merged [] [((.inr x:Key),m),(.inr y,l)]=[(.inr x,m),(.inr y,l)]:=merged_nil_of_nodup _ (by
  have:(Sum.inr x:Key) ≠ .inr y:=λ z=>B (by cases z;rfl);simpa using this)
 refine⟨[(.inr x,m),(.inr y,l)],⟨strKind_is X.prog X.w x R,rfl,strKind_is X.prog X.w y p,rfl,trivial⟩,dd,λ h' d S=>?_⟩;rw[mg]at d;obtain⟨o,es,ep,e,r'⟩:=id d;refine⟨.ref s.heap.objs.size,upd N s.heap.objs.size _,?_,rfl,Y o⟩;exact M.write (by rw[hd];trivial) (.inl rfl) (λ b u C e=>S.extBut b u C e) ⟨o,e⟩ ⟨e,show(2:Nat)<=sizeLine by decide,E,[(.inr x,m),(.inr y,l)],.cons ⟨rfl,rv⟩ (.cons ⟨rfl,A⟩ .nil),d⟩
theorem CZ(J:x≠y)(f:∀q,E=some q->PE X P IZ)(n:∀q,C=some q->PE X N IZ)(h:(Re.thn E λ d c=>Re.thn C λ r K=>dc2D x y d r c K)=some s) :
  PE X (.Dict [some (.Constant (.str x) U I),some (.Constant (.str y) S F)] [P,N] pos) (dE X.D δ s):=by
 cases j:E with
 | none=>rw[j]at h;cases h
 | some q=>
  rw[j]at h;have A:=f q j;cases q with
  | ok d c=>
   cases i:C with
   | none=>rw[i]at h;cases h
   | some L=>
    rw[i]at h;have B:=n L i;cases L with
    | ok r K=>
     have o:dc2D x y d r c K=some s:=h;unfold dc2D at o;split at o
     ·rename_i m;obtain⟨c1,c2,_⟩:=m;cases o;refine(CY J A B).weak λ σ H Q ⟨O,W,R,p⟩ a f=>⟨O,W,R.mono (v4 f),λ v H1 s1 g=>⟨O,W,(R.mono (v4 f)).mono s1,λ w H2 s2 Z=>⟨s2 _ _ (s1 _ _ x3),λ M=>?_⟩⟩⟩
      have k:=s2 _ _ (s1 _ _ x3);have sm:Same H (upd H2 a (.frz M (.dK [(.inr x,v),(.inr y,w)]))):=λ b u e=>by have n:b≠a:=A7 e f;rw[n6 n];exact s2 _ _ (s1 _ _ (by rw[n6 n];exact e))
      have l:=(((R.mono (v4 f)).mono s1).hid).mono s2;have Y:=(g.stro (((R.mono (v4 f)).hid).mono s1) c1).mono s2.wo;exact p _ _ sm (S4.mpr (.inl ⟨a,M,_,rfl,by rw[k9 (λ z=>R.hid.ot a z f)];exact x3,rfl,x4.mpr ⟨_,_,rfl,(lP k Y),RepL.one (lP k (Z.stro l c2))⟩⟩):Rep X.D _ (.dct [.s x,.s y] [d,r]) _)
     ·cases o
theorem sn:∀{acc:on Is} {f:Nat->Int},(∀j v,acc[j]? = some v->∃t,v=Value.int (f j) t)->Vals ((List.range acc.length).map λ (i:Nat)=>V.int (f i)) acc
 | [],_,_=>.nil
 | x::r,f,h=>by rw[w6,iN,B3,q5];exact .cons (h 0 x rfl) (sn λ j v e=>h (j+1) v (by simpa using e))
theorem Da(M:X.calm=true)(l:Gl X "list")(g:X.mg "list" = none)(L:Gl X "range")(K:X.mg "range" = none)(N:PA X [e] u)(J:starEach [e] X.env=[(false,eval e X.env)]) :
  PE X (.Call (.Name "list" p) [.Call (.Name "range" p2) [e] [] c] [] pos) (tCB (λ n H Q=>∃j:Int,n=[.int j] /\ -(2^62)<=j/\j<=1000000/\∀q,H q=none->Q (.ref q) (upd H q (.lst ((List.range j.toNat).map λ (i:Nat)=>V.int (0+i))))) u):=by
 intro d s m H R I h;refine Call_ (U6 I l g boot_list (aO ?_ rfl rfl));show wpAny _ _ _ _ _ s;refine eY (Call_ (U6 I L K boot_range (aO (thn (N c d s m H _ I h) λ us s1 ⟨n,W,x,r1,f⟩=>?_) J rfl)));obtain⟨j,e,f,q2,q⟩:=f;subst e;cases r1 with
 | cons r C=>
  cases C;obtain⟨t,rfl⟩:=r;have w:Inv X d m W {s1 with heap:=s1.heap.push {cls:=.type "range",data:=.fields #[.int 0 s1.toks,.int j t,.int 1 (s1.toks+1)]},toks:=s1.toks+1+1}:=x.kept λ b o e=>k6 _ e
  have F:Builtin.Range.rangeSize 0 j 1=(j.toNat:Int):=by rw[rangeSize_one];split<;>omega
  refine call_range_1 (fb (call_list_range (x.ok.hd M) (IsRange.new ..) (small_one IK IK f IK) F IK λ O tk a U E e t0=>?_));obtain⟨z,y⟩:=t0;have A:Vals ((List.range j.toNat).map λ (i:Nat)=>V.int (0+i)) a.toList:=by
   have:=sn (acc:=a.toList) λ k v P=>by obtain⟨B,S⟩:=y k v (by simpa using P);exact⟨B,by rw[S,Int.mul_one]⟩
   rwa [show a.toList.length=j.toNat from by simpa using z]at this
  refine⟨.ref _,_,w.laid E (k8 _) (show u9 X.prog X.w _ O _ (.lst ((List.range j.toNat).map λ (i:Nat)=>V.int (0+i)))from⟨?_,a.toList,U,A,e⟩),rfl,q _ (w.hok.fresh (k8 _))⟩;rw[g6,A6];show j.toNat<=sizeLine;unfold sizeLine;omega
theorem Db(x:X.calm=true)(f:Gl X "list")(d:X.mg "list" = none)(w:Gl X "range")(u:X.mg "range" = none)
  (y:∀q,k=some q->PA X [e] (dA X.D δ q)) (s:t5 e=false) (h:Rs.thn k kt=some n):PE X (.Call (.Name "list" p) [.Call (.Name "range" p2) [e] [] b] [] pos) (dE X.D δ n):=
 az (λ t z=>Da x f d w u z (w4 s)) y h λ O W H0 H vs Q l σ a hd g r=>by
  unfold kt at a;split at a
  ·rename_i j c;split at a
   ·rename_i m;cases a;rw[f9,B2,B2]at m;obtain⟨v,rfl,A⟩:=g.one;refine⟨j,by rw[A.int hd],m.1,by have:=m.2;unfold m7 at this;omega,λ q o=>r _ _ (v4 o) (S5 hd o ?_)⟩;have:=bC (D:=X.D) (H:=L2.wo (O++W) H) ((List.range j.toNat).map λ (i:Nat)=>(0+i:Int));rw[q5,q5]at this;exact this
   ·cases a
  ·cases a
structure Wk(D:Dm)(J:It)(ds:List DV)(Oc Oi:List Addr)(H1:Hp):Prop where
 go:∀i H,Same (L2.wo Oc H1) (L2.wo Oc H)->i<ds.length->J.go i H
 same:∀i H x H',J.yld i H x H'->Same H H'
 yld:∀i H x H' d O2,Same (L2.wo Oc H1) (L2.wo Oc H)->Same (L2.wo Oi H1) (L2.wo Oi H)->J.yld i H x H'->ds[i]? = some d->(∀a∈O2,H a≠none/\(a∈Oi\/H1 a=none))->Rep D (L2.wo O2 H') d x
 stop:∀H,Same (L2.wo Oc H1) (L2.wo Oc H)->J.stop ds.length H
def hidW(O W:on Iv):Cl->on Iv
 | .top=>O
 | .weak=>O
 | _=>O++W
def Dc(D:Dm)(O W:on Iv)(H:Hp)(R:It->Hp->Prop):Ri->Prop
 | .ok ds c=>∀J H',Same H H'->Wk D J ds (hidW O W c) (M0 O W c) H'->R J H'
def dI(D:Dm)(δ:on Sv)(r:Ri):TI:=λ σ H R=>∃O W,RSt D H σ δ O W/\Dc D O W H R r
theorem PI.weak(h:PI X tg a t)(k:∀b H R,t' b H R->t b H R):PI X tg a t':=λ c s b H R I q=>h c s b H R I (k b H R q)
theorem lQ(s:Same (L2.wo O c) (L2.wo O H))(h:∀a∈d,H a≠none/\(a∈O\/c a=none)):Same (L2.wo O c) (L2.wo d H):=λ b o e=>by
 have q:=s b o e;obtain⟨f,e⟩:=C6 e;obtain⟨_,q⟩:=C6 q;rw[k9 λ z=>?_]
 ·exact q
 ·rcases(h b z).2 with w | w
  ·exact f w
  ·rw[w]at e;cases e
theorem Wk.list(h:SqL D.K (L2.wo f b) a xs)(r:RepL D (L2.wo c b) ds xs):Wk D (Itl D.K a) ds f c b where
 go:=λ i H s hi=>⟨xs,xs[i]'(by rwa [r.length]),A4.seq (s.seq h),k7 _⟩
 same:=λ i H x n y=>by rw[y.1];exact Same.refl _
 yld:=λ i H x n d O2 s g y e l=>by obtain⟨m,y⟩:=y;subst m;obtain⟨v,k,j⟩:=r.get e;have:=y xs (A4.seq (s.seq h));rw[k]at this;cases this;exact j.mono (lQ g l)
 stop:=λ H s=>⟨xs,A4.seq (s.seq h),by rw[r.length];exact k8 _⟩
theorem Wk.tup(h:SqT D.K (L2.wo f b) a xs)(r:RepL D (L2.wo c b) ds xs):Wk D (Itt D.K a) ds f c b where
 go:=λ i H s hi=>⟨xs,xs[i]'(by rwa [r.length]),A4.tseq (s.tseq h),k7 _⟩
 same:=λ i H x n y=>by rw[y.1];exact Same.refl _
 yld:=λ i H x n d O2 s g y e l=>by obtain⟨m,y⟩:=y;subst m;obtain⟨v,k,j⟩:=r.get e;have:=y xs (A4.tseq (s.tseq h));rw[k]at this;cases this;exact j.mono (lQ g l)
 stop:=λ H s=>⟨xs,A4.tseq (s.tseq h),by rw[r.length];exact k8 _⟩
theorem lR(a:Int)(n:Nat):(upTo a n).length=n:=by unfold upTo;rw[g6,A6]
theorem Dd(h:(upTo a n)[i]? = some d):i<n/\d=.int (a+i):=by
 have b:i<n:=by have:=(A9.mp h).1;rw[lR]at this;exact this
 unfold upTo at h;rw[q0,eV b]at h;cases h;exact⟨b,rfl⟩
theorem Wk.range(a:Int)(n:Nat):Wk D (Itr a n) (upTo a n) h g j where
 go:=λ i H s b=>by rw[lR]at b;exact b
 same:=λ i H x k y=>by rw[y.1];exact Same.refl _
 yld:=λ i H x k d O2 s s' y e ho=>by obtain⟨f,y⟩:=y;subst f;obtain⟨_,c⟩:=Dd e;subst c;exact C3.mpr y
 stop:=λ H s=>by rw[lR];exact k8 _
theorem Got.walkL(g:Got D O W f H (.lst ds) c v)(hd:Hid O W f H):∃a xs,v=.ref a/\SqL D.K (L2.wo (hidW O W c) H) a xs/\RepL D (L2.wo (M0 O W c) H) ds xs:=by
 cases c with
 | weak=>obtain⟨a,xs,e,d,b⟩:=L9.mp g;exact⟨a,xs,e,SqL.of d,b⟩
 | top=>obtain⟨a,xs,e,e0,d,b⟩:=g;exact⟨a,xs,e,SqL.of d,b⟩
 | strong=>obtain⟨a,xs,e,d,b⟩:=L9.mp g;exact⟨a,xs,e,SqL.of d,b⟩
 | fresh=>obtain⟨a,xs,e,d,b⟩:=L9.mp (g.strong hd);exact⟨a,xs,e,SqL.of d,b⟩
theorem Got.walkT(g:Got D O W b H (.tup ds) c v)(hd:Hid O W b H):∃a xs,v=.ref a/\SqT D.K (L2.wo (hidW O W c) H) a xs/\RepL D (L2.wo (M0 O W c) H) ds xs:=by
 cases c with
 | weak=>exact J0.mp g
 | top=>
  obtain⟨a,xs,f,e,d⟩:=J0.mp (g);exact⟨a,xs,f,(N6 bD).tseq e,d⟩
 | strong=>exact J0.mp g
 | fresh=>obtain⟨_,_,_,_,q,_⟩:=g;cases q
theorem Got.walkS{D:Dm}{O W:on Iv}{H0 H:Hp}{ns:on Int}{c:Cl}{v:V}(g:Got D O W H0 H (.scr ns) c v)(hd:Hid O W H0 H):∃a,v=.ref a/\SqL D.K (L2.wo (hidW O W c) H) a (ns.map V.int):=by
 cases c with
 | weak=>obtain⟨a,e1,e2⟩:=Y3.mp g;exact⟨a,e1,e2.sq⟩
 | top=>obtain⟨a,e1,e2⟩:=Y3.mp (show Rep D (L2.wo (O++W) H) (.scr ns) v from g);exact⟨a,e1,(N6 bD).seq e2.sq⟩
 | strong=>obtain⟨a,e1,e2⟩:=Y3.mp g;exact⟨a,e1,e2.sq⟩
 | fresh=>obtain⟨_,_,_,_,q,_⟩:=g;cases q
theorem so(s:∀q,l=some q->PE X e IZ)(h:s9 l=some o):PI X tg e (dI X.D δ o):=by
 cases g:l with
 | none=>rw[g]at h;cases h
 | some q=>
  rw[g]at h;have A:=s q g;cases q with
  | ok d c=>
   obtain⟨ds,b,f⟩:=B0.mp (h);cases f;unfold seqD at b;split at b
   ·cases b;exact(oU A).weak λ n H r ⟨O,W,R,p⟩=>⟨O,W,R,λ v j s1 i=>by
     obtain⟨a,b,f⟩:=i.walkS (R.hid.mono s1);exact⟨a,b,⟨_,A4.seq f⟩,p _ j s1 (.list f (bC _))⟩⟩
   ·cases b;exact(oU A).weak λ n H r ⟨O,W,R,p⟩=>⟨O,W,R,λ v j s1 i=>by
     obtain⟨a,k,b,f,m⟩:=i.walkL (R.hid.mono s1);exact⟨a,b,⟨k,A4.seq f⟩,p _ j s1 (.list f m)⟩⟩
   ·cases b;exact(xR A).weak λ n H r ⟨O,W,R,p⟩=>⟨O,W,R,λ v j s1 i=>by
     obtain⟨a,k,b,f,m⟩:=i.walkT (R.hid.mono s1);exact⟨a,b,⟨k,A4.tseq f⟩,p _ j s1 (.tup f m)⟩⟩
   ·cases b
theorem lT(h:J4 i=true) : -(2^62)<=i/\i<2^62:=by
 unfold J4 at h;simpa[f9]using h
theorem sr(h:s9 (o.map λ a=>Re.ok (.lst a) .fresh)=some b):∃a,o=some a/\b=.ok a .fresh:=by
 cases o with
 | none=>cases h
 | some a=>cases h;exact⟨a,rfl,rfl⟩
theorem De(r:Gl X "range")(n:X.mg "range" = none)(s:∀q,d=some q->PA X [e] (dA X.D δ q))(k:t5 e=false)(h:s9 (Rs.thn d λ l=>(rngD l).map λ g=>Re.ok (.lst g) .fresh)=some f)(o:∀l,d=some (.ok l)->l.length=1) :
  PI X tg (.Call (.Name "range" p) [e] [] pos) (dI X.D δ f):=by
 cases a:d with
 | none=>rw[a]at h;cases h
 | some q=>
  rw[a]at h;have A:=s q a;cases q with
  | ok l=>
   have i:=o l a;obtain⟨g,b,y⟩:=sr (h);cases y;unfold rngD at b;split at b
   ·rename_i j c;split at b
    ·rename_i m;cases b;rw[f9]at m;have q:=lT m.1;exact((λ t (u:PA X [e] t)=>xU r n u (w4 k)) _ A).weak λ σ H R' ⟨O,W,R,p⟩=>⟨O,W,R,λ vs z s1 x=>by
      obtain⟨v,rfl,w⟩:=x.one;exact⟨j,by rw[w.int (R.hid.mono s1)],q.1,q.2,p _ z s1 (.range _ _)⟩⟩
    ·cases b
   ·cases i
   ·cases b
theorem Df(y:Gl X "range")(w:X.mg "range" = none)(z:∀q,f=some q->PA X [e,g] (dA X.D δ q))(u:t5 e=false)(d:t5 g=false)(h:s9 (Rs.thn f λ l=>(rngD l).map λ r=>Re.ok (.lst r) .fresh)=some n)(x:∀l,f=some (.ok l)->l.length=2) :
  PI X tg (.Call (.Name "range" p) [e,g] [] pos) (dI X.D δ n):=by
 cases a:f with
 | none=>rw[a]at h;cases h
 | some q=>
  rw[a]at h;have A:=z q a;cases q with
  | ok l=>
   have s:=x l a;obtain⟨r,b,F⟩:=sr (h);cases F;unfold rngD at b;split at b
   ·cases s
   ·rename_i i c j c';split at b
    ·rename_i m;cases b;rw[f9,f9]at m;have q:=lT m.1.1;have o:=lT m.1.2;exact((λ t (B:PA X [e,g] t)=>xV y w B (by rw[w4 u,w4 d];rfl) (w4 d)) _ A).weak λ σ H R' ⟨O,W,R,p⟩=>⟨O,W,R,λ vs I s1 E=>by
      obtain⟨v,v',rfl,C,k⟩:=E.two;exact⟨i,j,by rw[C.int (R.hid.mono s1),k.int (R.hid.mono s1)],⟨q.1,q.2,o.1,o.2⟩,p _ I s1 (.range _ _)⟩⟩
    ·cases b
   ·cases b
def gW:on Nat->TGs
 | []=>gNil
 | i::is=>oS (cW i) (gW is)
def gT(K:IE):Tg->TG
 | .one i=>cW i
 | .many is=>gTup K is.length (gW is)
theorem RSt.setVal(R:RSt D H σ δ O W)(r:Rep D (L2.wo (O++W) H) d v)(i:Nat):RSt D H (σ.set i (some v)) (δ.set i (.val d)) O W where
 val:=λ j u h=>by
  by_cases e:j=i
  ·subst e;have c:=(by have:=(A9.mp h).1;rw[E9]at this;exact this);rw[O0 c]at h;cases h;exact⟨v,O0 (by rw[R.len];exact c),r⟩
  ·rw[A5 (Ne.symm e)]at h ⊢;exact R.val j u h
 own:=λ j l h=>by
  by_cases e:j=i
  ·subst e;have c:=(by have:=(A9.mp h).1;rw[E9]at this;exact this);rw[O0 c]at h;cases h
  ·rw[A5 (Ne.symm e)]at h ⊢;exact R.own j l h
 inj:=λ j k a f q b g n m=>by
  have ne:∀{j:Nat} {f:DV},(δ.set i (.val d))[j]? = some (.own f)->j≠i:=λ {j f} b z=>by
   subst z;have c:j<δ.length:=by have:=(A9.mp b).1;rw[E9]at this;exact this
   rw[O0 c]at b;cases b
  have p:=ne b;have o:=ne g;rw[A5 (Ne.symm p)]at b n;rw[A5 (Ne.symm o)]at g m;exact R.inj j k a f q b g n m
 od:=R.od.step (ly _ (by intro d z;cases z)) (λ _ h _=>h) (λ _ _ _ h _=>h)
 len:=by rw[E9,E9];exact R.len
 hid:=R.hid
theorem su:∀{g:on Nat} {j:on DV} {f:on V} {c:St} {e a:on Sv},RSt D H c e O W->RepL D (L2.wo (O++W) H) j f->bu e g j=some a->(∀b,RSt D H b a O W->Q b H)->gW g f c H Q
 | [],[],f,c,e,a,R,r,h,q=>by cases h;exact⟨E3.mp r,q c R⟩
 | i::g,d::j,f,c,e,a,R,r,h,q=>by obtain⟨v,k,n,m,l⟩:=x4.mp r;exact⟨v,k,n,su (R.setVal m i) l h q⟩
 | [],_::_,_,_,_,_,_,_,h,_=>by cases h
 | _::_,[],_,_,_,_,_,_,h,_=>by cases h
theorem lU:∀{is:on Nat} {f:on DV} {e c:on Sv},bu e is f=some c->is.length=f.length/\c.length=e.length
 | [],[],_,_,h=>by cases h;exact⟨rfl,rfl⟩
 | i::is,d::f,e,c,h=>by obtain⟨a,b⟩:=lU (is:=is) h;exact⟨by rw[w6,w6,a],by rw[b,E9]⟩
 | [],_::_,_,_,h=>by cases h
 | _::_,[],_,_,h=>by cases h
theorem lV{D:Dm}{H:Hp}{O W:on Iv}{Q:St->Hp->Prop}{tg:Tg}{d:DV}{x:V}{σ:St}{δ δ':on Sv}(R:RSt D H σ δ O W)(r:Rep D (L2.wo (O++W) H) d x)(h:tg.bind d δ=some δ')(q:∀σ',RSt D H σ' δ' O W->Q σ' H):gT D.K tg x σ H Q:=by
 cases tg with
 | one i=>cases h;exact q _ (R.setVal r i)
 | many is=>
  unfold Tg.bind at h;dsimp only at h;split at h
  ·rename_i ds;obtain⟨a,xs,e1,e2,e3⟩:=J0.mp r;exact⟨a,xs,e1,A4.tseq e2,by rw[e3.length,(lU h).1],su R e3 h q⟩
  ·cases h
theorem RSt.less{D:Dm}{H:Hp}{σ:St}{δ δ':on Sv}{O W:on Iv}(R:RSt D H σ δ' O W)(hl:δ.length=δ'.length)(h:∀(i:Nat) sv,δ[i]? = some sv->sv=.no\/δ'[i]? = some sv):RSt D H σ δ O W where
 val:=λ i d e=>by
  rcases h i _ e with z | z
  ·cases z
  ·exact R.val i d z
 own:=λ i d e=>by
  rcases h i _ e with z | z
  ·cases z
  ·exact R.own i d z
 inj:=λ i j a d d' e e'=>by
  rcases h i _ e with z | z
  ·cases z
  ·rcases h j _ e' with y | y
   ·cases y
   ·exact R.inj i j a d d' z y
 od:=R.od.step (λ j d e=>by
  rcases h j _ e with z | z
  ·cases z
  ·exact⟨z,rfl⟩) (λ _ h _=>h) (λ _ _ _ h _=>h)
 len:=by rw[hl];exact R.len
 hid:=R.hid
theorem Dg:∀{is:on Nat} {f:on DV} {b a:on Sv},bu b is f=some a->(∀i∈is,b[i]? = some .no\/b[i]? = none)->∀(i:Nat) sv,b[i]? = some sv->sv=.no\/a[i]? = some sv
 | [],[],_,_,h,_,i,sv,e=>by cases h;exact .inr e
 | j::is,d::f,b,a,h,p,i,sv,e=>by
  by_cases c:i∈j::is
  ·rcases p i c with z | z
   ·rw[z]at e;cases e;exact .inl rfl
   ·rw[z]at e;cases e
  ·have o:j≠i:=λ z=>c (by rw[z];exact o5);have n:=λ z=>c (o4 _ z);have g:∀{is:on Nat} {f:on DV} {b a:on Sv},bu b is f=some a->i∉is->b[i]? = some sv->a[i]? = some sv:=by
    intro is
    induction is with
    | nil=>intro f b a h _ e;cases f with
     | nil=>cases h;exact e
     | cons _ _=>cases h
    | cons k is m=>intro f b a h l e;cases f with
     | nil=>cases h
     | cons d f=>
      refine m h (λ z=>l (o4 _ z)) ?_;rw[A5 (λ z=>l (by rw[z];exact o5))];exact e
   exact .inr (g h c e)
 | [],_::_,_,_,h,_,_,_,_=>by cases h
 | _::_,[],_,_,h,_,_,_,_=>by cases h
theorem sw(h:tg.bind d δ=some δ')(b:∀i∈av tg,δ[i]? = some .no\/δ[i]? = none):δ.length=δ'.length/\∀(i:Nat) sv,δ[i]? = some sv->sv=.no\/δ'[i]? = some sv:=by
 cases tg with
 | one j=>
  cases h;refine⟨(E9 ..).symm,λ i sv e=>?_⟩;by_cases a:i=j
  ·subst a;rcases b i (by simp[av])with z | z
   ·rw[z]at e;cases e;exact .inl rfl
   ·rw[z]at e;cases e
  ·exact .inr (by rw[A5 (Ne.symm a)];exact e)
 | many is=>
  unfold Tg.bind at h;dsimp only at h;split at h
  ·exact⟨(lU h).2.symm,Dg h b⟩
  ·cases h
theorem RSt.inner(R:RSt D H σ δ O W)(fr:on (Ir Nat))(B:∀(j k i:Nat),fr[j]? = some (some i)->fr[k]? = some (some i)->j=k):RSt D H (L2.inner fr σ) (x9 fr δ) O W:=by
 have c:∀(j:Nat) x,(x9 fr δ)[j]? = some x->x ≠ .no->∃i,fr[j]? = some _/\δ[i]? = some x:=λ j x h L=>by
  unfold x9 at h;rw[q0]at h;cases q:fr[j]? with
  | none=>rw[q]at h;cases h
  | some o=>
   rw[q]at h;cases o with
   | none=>cases h;exact absurd rfl L
   | some i=>
    refine⟨i,rfl,?_⟩;have C:δ.getD i .no=x:=by simpa using h
    rw[p6]at C;cases z:δ[i]? with
    | none=>rw[z]at C;exact absurd C.symm L
    | some P=>
     rw[z]at C;exact congrArg some C
 have f:∀(j i:Nat) (v:V),fr[j]? = some (some i)->σ[i]? = some (some v)->(L2.inner fr σ)[j]? = some (some v):=λ j i v q e=>by unfold L2.inner;rw[q0,q];simp[e]
 refine⟨λ j d h=>?_,λ j d h=>?_,λ j k a d E S Q r p=>?_,λ j d h=>?_,?_,R.hid⟩
 ·obtain⟨i,m,n⟩:=c j _ h IT;obtain⟨v,r,p⟩:=R.val i d n;exact⟨v,f j i v m r,p⟩
 ·obtain⟨i,m,n⟩:=c j _ h IT;obtain⟨a,K,M,F,r,p⟩:=R.own i d n;exact⟨a,K,M,F,f j i _ m r,p⟩
 ·obtain⟨i,m,n⟩:=c j _ S IT;obtain⟨A,g,l⟩:=c k _ Q IT;obtain⟨b,K,M,_,I,_⟩:=R.own i d n;obtain⟨b',N,U,_,w,_⟩:=R.own A E l;have y:=f j i _ m I;have J:=f k A _ g w;rw[r]at y;rw[p]at J;cases y;cases J;have:=R.inj i A a d E n l I w;subst this;exact B j k i m g
 ·obtain⟨i,m,n⟩:=c j _ h IT;obtain⟨⟨a,o,F,r,p⟩,u⟩:=R.od i d n;refine⟨⟨a,o,F,f j i _ m r,p⟩,λ k E z=>?_⟩;obtain⟨A,g,l⟩:=c k _ z IT;rw[u A E l]at g;exact B k j i g m
 ·unfold L2.inner x9;rw[g6,g6]
section
variable {X:Cx} {δ:on Sv} {iter elt tgE:Ix} {ifs:on Ix} {pos:Pos} {N':on Str} {scope:IF} {fr:on (Ir Nat)} {tg:Tg} {ri:Ir Ri} {re:Re}
theorem lW{Q:VK}(w:Wk D J ds (hidW O W c) (M0 O W c) F)(X:Hid O W H H)(hc:c ≠ .weak)(R:RSt D F σ o O W)
  (hn:∀i∈av tg,o[i]? = some .no\/o[i]? = none) (hz:ds.length<=sizeLine) (hx:A3 g ds=some xs) (s1:Same H F)
  (step:∀d S,d∈ds->g d=some S->∃b,tg.bind d o=some b/\∀j l,Same F l->RSt D l j b O W->∀K:Bool->Hp->Prop,(S=.skip->∀m,Same l m->K false m)->(∀x,S=.item x->∀m,Same l m->K true m)->tc j l K)
  (C:∀d x,d∈ds->g d=some (.item x)->∀b,tg.bind d o=some b->∀j l,Same F l->RSt D l j b O W->∀K:VK,(∀v m,Same l m->Rep D (L2.wo (O++W) m) x v->K v m)->te j l K)
  (Y:∀v r,Same H r->Got D O W H r (.lst xs) .fresh v->Q v r) :
  ki J (gT D.K tg) tc te (λ M r=>∀p,r p=none->Q (.ref p) (upd r p (.lst M))) σ F:=by
 have ci:M0 O W c=O++W:=by cases c<;>first | rfl | exact absurd rfl hc
 rw[ci]at w;refine⟨λ i n M j r=>n=ds.length - i/\i<=ds.length/\M.length<=i/\RSt D r j o O W/\Same F r/\∃f rest,A3 g (ds.drop i)=some rest/\f++rest=xs/\RepL D (L2.wo (O++W) r) f M,
  ⟨ds.length,rfl,G3 _,G3 _,R,Same.refl _,[],xs,hx,rfl,E3.mpr rfl⟩,?_⟩
 rintro i n M σ2 l ⟨rfl,hi',hy,R2,s2,f,rest,h1,h2,r2⟩
 by_cases k:i<ds.length
 ·refine .inr ⟨w.go i l s2.wo k,ag hy (u6 k hz),λ N m y=>?_⟩;have A:=w.same i l N m y;have y3:=w.yld i l N m _ (O++W) s2.wo s2.wo y (k7 k) λ a ha=>⟨R2.hid.ot a ha,.inl ha⟩;rw[nW k]at h1;have U:=M8 k;unfold A3 at h1;split at h1
  ·cases h1
  ·rename_i q;obtain⟨b,I,Z⟩:=step _ _ U q;refine lV (R2.mono A) y3 I λ u L=>?_
   have h:=sw I hn;refine Z u m (s2.trans A) L _ (λ _ H4 B=>?_) (λ x z=>nomatch z);show if false=true then _ else _
   rw[g8 B1];exact⟨ds.length - (i+1),by omega,rfl,k,Nat.le_succ_of_le hy,(L.less h.1 h.2).mono B,(s2.trans A).trans B,f,rest,h1,h2,r2.mono (A.trans B).wo⟩
  ·rename_i x q;split at h1
   ·cases h1
   ·rename_i E q';cases h1;obtain⟨b,I,Z⟩:=step _ _ U q;refine lV (R2.mono A) y3 I λ u L=>?_
    have h:=sw I hn;refine Z u m (s2.trans A) L _ (λ z=>nomatch z) (λ N z H4 B=>?_);cases z;show if true=true then _ else _
    rw[f8 rfl];refine C _ x U q b I u H4 ((s2.trans A).trans B) (L.mono B) _ λ v H5 P rv=>?_
    exact⟨ds.length - (i+1),by omega,rfl,k,by rw[u0,T9];omega,(L.less h.1 h.2).mono (B.trans P),((s2.trans A).trans B).trans P,f++[x],E,q',by rw[Q9];exact h2,
     (r2.mono ((A.trans B).trans P).wo).append (RepL.one rv)⟩
 ·have e:i=ds.length:=by omega
  subst e;rw[jk]at h1;cases h1;rw[G1]at h2;subst h2;have s0:=s1.trans s2;refine .inl ⟨w.stop l s2.wo,λ p hp=>Y _ _ (s0.trans (v4 hp)) ?_⟩;exact S5 (X.mono s0) hp r2
theorem PE.any{t:ι->TE}(h:∀k,PE Y e (t k)):PE Y e (λ b H Q=>∃k,t k b H Q):=λ a s b H Q I ⟨k,q⟩=>h k a s b H Q I q
theorem PTs.any{t:ι->TT}(h:∀k,PTs Y es (t k)):PTs Y es (λ b H Q=>∃k,t k b H Q):=λ a s b H Q I ⟨k,q⟩=>h k a s b H Q I q
theorem Rc.of_item(h:Rc.of r=some (.item x)):∃c,r=some (.ok x c)/\stro x c=true:=by
 unfold Rc.of at h;split at h
 ·rename_i d c;split at h
  ·rename_i m;cases h;exact⟨c,rfl,m⟩
  ·cases h
 ·cases h
theorem Rc.of_skip(h:Rc.of r=some .skip):False:=by
 unfold Rc.of at h;split at h
 ·split at h<;>cases h
 ·cases h
theorem lX{i:Nat}(h:fr[i]? = some none):(x9 fr δ)[i]? = some .no:=by
 unfold x9;rw[q0,h];rfl
def Y9(X:Cx)(δ:on Sv)(tgE iter:Ix)(ifs:on Ix)(elt:Ix)(scope:IF)(N':on Str)(fr:on (Ir Nat))(tg:Tg)(re:Re):Prop:=
 ∃(wi:TI) (tc:TT) (te:TE),PI X tgE iter wi/\(∀C cells s₂ H₂ fp,PTs (u7 X scope N' C cells s₂ H₂ fp) ifs tc)/\(∀C cells s₂ H₂ fp,PE (u7 X scope N' C cells s₂ H₂ fp) elt te) /\
  ∀σ H Q,dE X.D δ re σ H Q->kj fr wi (gT X.K tg) tc te σ H Q
theorem lY(b:J8 a=false):∀x,foldedSetIterable a env x=pure x:=by cases a<;>first | (intro _;rfl) | cases b
theorem Y9.pe(P:Y9 X δ tgE iter ifs elt scope N' fr tg re)(S:CompScope X.N N' scope X.env.scope fr)(e:X.calm=true)(f:∀C a b d fp,PG (u7 X scope N' C a b d fp) tgE (gT X.K tg))(c:J8 iter=false) :
  PE X (.ListComp elt [⟨tgE,iter,ifs,0⟩] scope pos) (dE X.D δ re):=by
 obtain⟨wi,tc,te,j,i,h,g⟩:=P;exact(zt S e j f i h (lY c)).weak g
theorem RSt.noNames(R:RSt D H σ δ O W)(fr:on (Ir Nat)):RSt D H (L2.inner fr σ) (x9 fr []) O []:=by
 have c:∀(j:Nat) e,(x9 fr [])[j]? = some e->e=.no:=λ j e h=>by
  unfold x9 at h;rw[q0]at h;cases q:fr[j]? with
  | none=>rw[q]at h;cases h
  | some o=>
   rw[q]at h;cases o with
   | none=>cases h;rfl
   | some i=>cases h;rfl
 refine⟨λ j d h=>(by cases c j _ h),λ j d h=>(by cases c j _ h),λ j k a d d' f h2 e1 e2=>(by cases c j _ f),λ j d h=>(by cases c j _ h),?_,?_⟩
 ·unfold L2.inner x9;rw[g6,g6]
 ·exact⟨λ a b=>R.hid.ot a (by rw[G1]at b;exact F2 _ b),Same.refl _,λ a b=>(nomatch b),λ a b=>(nomatch b),R.hid.om⟩
theorem Dh{a:on Sv->Ir Re}(S:CompScope X.N N' scope X.env.scope fr)(hc:X.calm=true)(P:∀(j k i:Nat),fr[j]? = some (some i)->fr[k]? = some (some i)->j=k)(B:∀i∈av tg,fr[i]? = some none)(E:∀q,ri=some q->PI X tgE iter (dI X.D δ q))
  (hG:∀C b e f fp,PG (u7 X scope N' C b e f fp) tgE (gT X.K tg)) (he:∀δ' r,a δ'=some r->∀C b e f fp,PE (u7 X scope N' C b e f fp) elt (dE X.D δ' r))
  (h:(Ri.thn ri λ n c=>if c=.weak\/m7<n.length then(if c=.weak/\n.length<=m7 then fW (A3 (λ d=>(tg.bind d (x9 fr [])).bind λ δ'=>Rc.of (a δ')) n)else none)else X7 (A3 (λ d=>(tg.bind d (x9 fr δ)).bind λ δ'=>Rc.of (a δ')) n))=some re):Y9 X δ tgE iter [] elt scope N' fr tg re:=by
 cases u:ri with
 | none=>rw[u]at h;cases h
 | some q=>
  rw[u]at h;have A:=E q u;refine⟨_,_,_,A,(λ C b e f fp=>zq),(λ C b e f fp=>PE.any (ι:={p:on Sv×Re // a p.1=some p.2}) (t:=λ k=>dE X.D k.1.1 k.1.2) λ k=>he k.1.1 k.1.2 k.2 C b e f fp),?_⟩;cases q with
  | ok n c=>
   have l:(if c=.weak\/m7<n.length then(if c=.weak/\n.length<=m7 then fW (A3 (λ d=>(tg.bind d (x9 fr [])).bind λ δ'=>Rc.of (a δ')) n)else none)else X7 (A3 (λ d=>(tg.bind d (x9 fr δ)).bind λ δ'=>Rc.of (a δ')) n))=some re:=h;split at l
   ·split at l
    ·rename_i m;obtain⟨rfl,ml⟩:=m;unfold fW at l;split at l
     ·cases l
     ·rename_i xs N;cases l;refine λ σ H Q ⟨O,W,R,p⟩=>⟨O,W,R,λ J H1 s1 w=>?_⟩
      have w':Wk X.D J n (hidW O [] .strong) (M0 O [] .strong) H1:=(by show Wk X.D J n (O++[]) (O++[]) H1;rw[G1];exact w);have F:Hid O [] H H:=(R.noNames fr).hid;refine lW (tg:=tg) (D:=X.D) (O:=O) (W:=[]) w' F IT ((R.mono s1).noNames fr) (λ i E=>.inl (lX (B i E))) (S6 IK) N s1 (λ d L U g=>?_) (λ d x U g δ' o s I s2 R2 K Y=>?_) (λ v H' s' g'=>p v H' s' ?_)
      ·cases o:tg.bind d (x9 fr [])with
       | none=>rw[o]at g;cases g
       | some δ'=>
        rw[o]at g;refine⟨δ',rfl,λ s I s2 R2 K k1 M=>?_⟩;cases L with
        | skip=>exact(Rc.of_skip g).elim
        | item x=>exact M x rfl I (Same.refl _)
      ·rw[o]at g;obtain⟨cl,e1,e2⟩:=Rc.of_item g;exact⟨⟨⟨δ',.ok x cl⟩,e1⟩,O,[],R2,λ v H3 y Z=>Y v H3 y (Z.stro (R2.hid.mono y) e2)⟩
      ·show Rep X.D (L2.wo O H') _ v;have:=Got.strong g' (F.mono s');rw[G1]at this;exact this
    ·cases l
   ·rename_i m;rw[not_or]at m;unfold X7 at l;split at l
    ·cases l
    ·rename_i xs N;cases l;refine λ σ H Q ⟨O,W,R,p⟩=>⟨O,W,R,λ J H1 s1 w=>?_⟩
     refine lW (tg:=tg) (D:=X.D) w R.hid m.1 ((R.mono s1).inner fr P) (λ i E=>.inl (lX (B i E))) (S6 IK) N s1 (λ d L U g=>?_) (λ d x U g δ' o s I s2 R2 K Y=>?_) p
     ·cases o:tg.bind d (x9 fr δ)with
      | none=>rw[o]at g;cases g
      | some δ'=>
       rw[o]at g;refine⟨δ',rfl,λ s I s2 R2 K k1 M=>?_⟩;cases L with
       | skip=>exact(Rc.of_skip g).elim
       | item x=>exact M x rfl I (Same.refl _)
     ·rw[o]at g;obtain⟨cl,e1,e2⟩:=Rc.of_item g;exact⟨⟨⟨δ',.ok x cl⟩,e1⟩,O,W,R2,λ v H3 y Z=>Y v H3 y (Z.stro (R2.hid.mono y) e2)⟩
theorem Di{f:on Sv->Ir Re}{l:on Sv->Ir Rt}(S:CompScope X.N N' scope X.env.scope fr)(hc:X.calm=true)(I:∀(j k i:Nat),fr[j]? = some (some i)->fr[k]? = some (some i)->j=k)(F:∀i∈av tg,fr[i]? = some none)(L:∀q,ri=some q->PI X tgE iter (dI X.D δ q))
  (hG:∀C a b e fp,PG (u7 X scope N' C a b e fp) tgE (gT X.K tg)) (he:∀δ' r,f δ'=some r->∀C a b e fp,PE (u7 X scope N' C a b e fp) elt (dE X.D δ' r))
  (Y:∀δ' r,l δ'=some r->∀C a b e fp,PT (u7 X scope N' C a b e fp) n (dT X.D δ' r))
  (h:(Ri.thn ri λ z c=>if c=.weak\/m7<z.length then none else X7 (A3 (λ d=>(tg.bind d (x9 fr δ)).bind λ δ'=>Rc.test (l δ') (Rc.of (f δ'))) z))=some re):Y9 X δ tgE iter [n] elt scope N' fr tg re:=by
 cases o:ri with
 | none=>rw[o]at h;cases h
 | some q=>
  rw[o]at h;refine⟨_,_,_,(L q o),(λ C a b e fp=>PTs.any (ι:={p:on Sv×Rt // l p.1=some p.2}) (t:=λ k=>dT X.D k.1.1 k.1.2) λ k=>zr (Y k.1.1 k.1.2 k.2 C a b e fp)),
   (λ C a b e fp=>PE.any (ι:={p:on Sv×Re // f p.1=some p.2}) (t:=λ k=>dE X.D k.1.1 k.1.2) λ k=>he k.1.1 k.1.2 k.2 C a b e fp),?_⟩
  cases q with
  | ok z c=>
   have y:(if c=.weak\/m7<z.length then none else X7 (A3 (λ d=>(tg.bind d (x9 fr δ)).bind λ δ'=>Rc.test (l δ') (Rc.of (f δ'))) z))=some re:=h;split at y
   ·cases y
   ·rename_i m;rw[not_or]at m;unfold X7 at y;split at y
    ·cases y
    ·rename_i xs U;cases y;refine λ σ H Q ⟨O,W,R,p⟩=>⟨O,W,R,λ J H1 s1 w=>?_⟩
     refine lW w R.hid m.1 ((R.mono s1).inner fr I) (λ i L=>.inl (lX (F i L))) (S6 IK) U s1 (λ d M Z s=>?_) (λ d x Z s δ' B E H2 s2 R2 K hK=>?_) p
     ·cases B:tg.bind d (x9 fr δ)with
      | none=>rw[B]at s;cases s
      | some δ'=>
       rw[B]at s;have g:Rc.test (l δ') (Rc.of (f δ'))=some M:=s;refine⟨δ',rfl,λ E H2 s2 R2 K P N=>?_⟩;unfold Rc.test at g;split at g
       ·rename_i q;refine⟨⟨⟨δ',.ok true⟩,q⟩,O,W,R2,λ A u=>?_⟩;cases M with
        | skip=>exact(Rc.of_skip g).elim
        | item x=>exact N x rfl A u
       ·rename_i q;cases g;exact⟨⟨⟨δ',.ok false⟩,q⟩,O,W,R2,λ A u=>P rfl A u⟩
       ·cases g
     ·rw[B]at s;have g:Rc.test (l δ') (Rc.of (f δ'))=some (.item x):=s;unfold Rc.test at g;split at g
      ·obtain⟨cl,e1,e2⟩:=Rc.of_item g;exact⟨⟨⟨δ',.ok x cl⟩,e1⟩,O,W,R2,λ v A u g3=>hK v A u (g3.stro (R2.hid.mono u) e2)⟩
      ·cases g
      ·cases g
end
theorem Inv.turnedL{ch:on Iv}(I:IV a)(k:∀b o,b∉ch->s.heap.get? b=some o->h'.get? b=some o)(g:∀b∈ch,FpOk X a H b):Inv X a σ H {s with heap:=h',toks:=t'}:=by
 have f:∀b u,H b=some u->b∉ch:=λ b u e z=>by rw[(g b z).1]at e;cases e
 refine I.step (ch:=ch) (λ b j=>?_) (λ b o _ _ d e _=>k b o d e) (λ b o _ _ d e _=>⟨o.slots,k b o d e⟩) (λ _ _ _ _ n=>n)
  (λ b o d e=>⟨o,k b o d e⟩) (λ _ _ e=>e) (λ _ _ _ e=>e) (λ _ _ e=>e) (λ m i=>?_) (λ b u e=>?_) I.bare
 ·obtain⟨_,x,_,w,p,l⟩:=g b j;exact⟨w,x,p,l⟩
 ·obtain⟨o,y,A,h,r⟩:=i;exact⟨o,y,A,k _ o (λ z=>(g _ z).2.1 rfl) h,r⟩
 ·refine(I.hok b u e).stay (λ c v d q=>k c v ?_ q) (λ _ q=>q) (λ _ _ q=>q) (λ _ _ q=>q) λ _ _ _ _ _ q=>q;rcases d with z | z
  ·rw[z];exact f b u e
  ·exact f c _ z
def SqD(t:Bool)(K:IE)(H:Hp)(a:Iv)(xs:on V):Prop:=match t with | false=>SqL K H a xs | true=>SqT K H a xs
theorem Same.sqd{K:IE}(e:Same H b)(h:SqD t K H a xs):SqD t K b a xs:=by
 cases t
 ·exact e.seq h
 ·exact e.tseq h
theorem Inv.sqd(I:IV c)(h:SqD t X.K H a xs):∃b:on Is,Vals xs b/\SqK t s.heap a b.toArray:=by
 cases t
 ·obtain⟨b,d,p,_⟩:=I.list h;exact⟨b,d,p.isList⟩
 ·obtain⟨b,d,p,_⟩:=I.tuple h;exact⟨b,d,p⟩
theorem Inv.sqd_inj(I:IV b)(h:SqD t X.K H a xs)(d:SqD t X.K H a c):xs=c:=by
 cases t
 ·exact I.list_inj h d
 ·exact I.tuple_inj h d
def itK(t:Bool)(h:Iw)(ia la:Iv)(k:Nat):Prop:=match t with | false=>h.IsListIter ia la k | true=>h.IsTupleIter ia la k
theorem sx(p:itK t h b a k)(q:SqK t h a vs):sK t b a vs k h:=by
 cases t<;>exact⟨p,q⟩
theorem sy(p:sK t b a vs k h):itK t h b a k:=by
 cases t<;>exact p.1
theorem sA{t:Bool}{ia la:Iv}{k:Nat}{h h':Iw}(p:itK t h ia la k)(e:∀o,h.get? ia=some o->h'.get? ia=some o):itK t h' ia la k:=by
 cases t
 ·exact Heap.IsListIter.at p e
 ·obtain⟨o,z,r⟩:=p;exact⟨o,e o z,r⟩
theorem sB(p:itK t h a c k):∃o b,h.get? a=some o/\o.data=.fields b:=by
 cases t
 ·obtain⟨o,e,_,d⟩:=p;exact⟨o,_,e,d⟩
 ·obtain⟨o,e,_,d⟩:=p;exact⟨o,_,e,d⟩
theorem SqK.lt(p:SqK t h a vs):a<h.objs.size:=by
 cases t
 ·obtain⟨o,e,_⟩:=p;exact n7 e
 ·obtain⟨o,e,_⟩:=p;exact n7 e
theorem Dj:∀b∈hidW O W (Cl.meet c d),b∈hidW O W c:=by
 cases c<;>cases d<;>intro b a<;>first | exact a | exact F2 _ a
theorem Dk:∀b∈M0 O W (Cl.meet c d),b∈M0 O W c:=by
 cases c<;>cases d<;>intro b a<;>first | exact a | exact F2 _ a
theorem Dl(k:ak d=some (t,ds))(g:Got D O W f H d c v)(e:Hid O W f H):∃a b,v=.ref a/\SqD t D.K (L2.wo (hidW O W c) H) a b/\RepL D (L2.wo (M0 O W c) H) ds b:=by
 cases d<;>cases k
 ·exact g.walkT e
 ·exact g.walkL e
section
variable {P:IA} {w:Iz} {A:IB} {E:Is->Iu->Prop} {s:Iu} {n c l:Iv} {k:Nat} {vs:Iy Is} {S:Nat->Iw->Prop} {x old:Is}
abbrev sC(s:Iu)(h':Iw)(n c:Iv)(k:Nat)(x:Is)(S:Nat->Iw->Prop):Prop:=
 IsEnumOut h' n c ((k:Int)+1) x s.heap.objs.size/\S (k+1) h'/\h'.get? s.heap.objs.size=some {cls:=.type "tuple",data:=.seq #[.int k s.toks,x]} /\ h'.objs.size=s.heap.objs.size+1/\(∀b o,b≠n->b≠c->s.heap.get? b=some o->h'.get? b=some o)
theorem Do{Q:Is->Iu->Prop}(R:Src P w c l vs S)(X:IsEnum s.heap n c k old)(hS:S k s.heap)(hx:vs[k]? = some x)(J:n≠c)(d2:l≠n)(hQ:∀h',sC s h' n c k x S->Q (.ref s.heap.objs.size) {s with heap:=h',toks:=s.toks+1}) :
  wpAny (model P w) A (Builtin.«enumerate.__next__» ⟨[.ref n],[]⟩) (λ Z s'=>∃v,Z=.done (.ret v)/\Q v s') E s:=by
 obtain⟨f,i,j,a,h⟩:=s;show wpAny _ _ (field (.ref n) 2 >>= _) _ _ _;refine f0 (G8 X rfl (x:=.ref c) rfl (f0 (R.step k x hS hx λ m r1 r=>?_)))
 replace r:Heap.SameBut c f m:=r
 have W:IsEnum m n c k old:=(r.2 n J).trans X;show wpAny _ _ (field (.ref n) 3 >>= _) _ _ ⟨m,i,j,a,h⟩;refine f0 (G8 W rfl (x:=rawInt k) rfl ?_);show wpAny _ _ (field (.ref n) 4 >>= _) _ _ ⟨m,i,j,a,h⟩;refine f0 (G8 W rfl (x:=.none) rfl ?_);show wpAny _ _ (mkInt k >>= _) _ _ ⟨m,i,j,a,h⟩;refine f0 (wpAny_mkInt ?_);show wpAny _ _ (setField (.ref n) 3 (rawInt ((k:Int)+1)) >>= _) _ _ ⟨m,i,j,a+1,h⟩;refine f0 (P4 W IX λ I U q=>?_)
 replace q:Heap.SameBut n m I:=q
 replace U:IsEnum I n c ((k:Int)+1) old:=U
 show wpAny _ _ (setField (.ref n) 4 .none >>= _) _ _ ⟨I,i,j,a+1,h⟩;refine f0 (P4 U IX λ d O p=>?_)
 replace p:Heap.SameBut n I d:=p
 replace O:IsEnum d n c ((k:Int)+1) old:=O
 show wpAny _ _ (newTuple [.int k a,x] >>= _) _ _ ⟨d,i,j,a+1,h⟩;refine f0 (wpAny_newTuple ?_);have C:IsEnum (d.push {cls:=.type "tuple",data:=.seq #[.int k a,x]}) n c ((k:Int)+1) old:=k6 _ O;have K:d.objs.size=f.objs.size:=by rw[p.1,q.1,r.1]
 have q4:(d.push {cls:=.type "tuple",data:=.seq #[.int k a,x]}).get? f.objs.size=some {cls:=.type "tuple",data:=.seq #[.int k a,x]}:=by rw[←K];exact t8 _ rfl
 have z4:(d.push {cls:=.type "tuple",data:=.seq #[.int k a,x]}).objs.size=f.objs.size+1:=by rw[G7,K]
 have k4:∀b o,b≠n->b≠c->f.get? b=some o->(d.push {cls:=.type "tuple",data:=.seq #[.int k a,x]}).get? b=some o:=λ b o g b2 e=>
  k6 _ (p.extBut b o g (q.extBut b o g (r.extBut b o b2 e)))
 have r4:S (k+1) (d.push {cls:=.type "tuple",data:=.seq #[.int k a,x]}):=
  R.keep _ _ _ (R.ext (R.ext r1 q.extBut (Ne.symm J) d2) p.extBut (Ne.symm J) d2) (λ o e=>k6 _ e) (λ o e=>k6 _ e)
 generalize (d.push {cls:=.type "tuple",data:=.seq #[.int k a,x]})=g4 at C q4 z4 k4 r4 ⊢;have lt:n<f.objs.size:=n7 X;show wpAny _ _ (Builtin.SmallTypes.ownedTupleIsFree (.ref n) >>= _) _ _ ⟨g4,i,j,a+1,h⟩;rw[K];refine f0 ?_;unfold Builtin.SmallTypes.ownedTupleIsFree;refine f0 (G8 C rfl (x:=.none) rfl (g7 ?_));simp only[if_true];refine f0 (cT (f0 (G8 C rfl (x:=old) rfl (f0 (P4 C IX λ H N B=>?_)))))
 replace B:Heap.SameBut n g4 H:=B
 replace N:IsEnum H n c ((k:Int)+1) x:=N
 show wpAny _ _ (Builtin.SmallTypes.ownedTupleHandOut (.ref n) (.ref f.objs.size) >>= _) _ _ ⟨H,i,j,a+1,h⟩;refine f0 ?_;unfold Builtin.SmallTypes.ownedTupleHandOut;refine f0 (P4 N IX λ Y M z=>?_)
 replace z:Heap.SameBut n H Y:=z
 replace M:IsEnumOut Y n c ((k:Int)+1) x f.objs.size:=M
 refine P4 M IX λ F L y=>?_
 replace y:Heap.SameBut n Y F:=y
 replace L:IsEnumOut F n c ((k:Int)+1) x f.objs.size:=L
 have u:∀b o,b≠n->g4.get? b=some o->F.get? b=some o:=λ b o g e=>y.extBut b o g (z.extBut b o g (B.extBut b o g e));exact f0 (bn (g7 ⟨_,rfl,hQ F ⟨L,R.keep _ _ _ r4 (λ o e=>u _ o (Ne.symm J) e) (λ o e=>u _ o d2 e),u _ _ (R4 lt) q4,by rw[y.1,z.1,B.1,z4],λ b o g b2 e=>u b o g (k4 b o g b2 e)⟩⟩))
theorem Dp(R:Src P w c l vs S)(d:IsEnum s.heap n c k old)(f:S k s.heap)(e:vs[k]? = some x)(i:n≠c)(h:l≠n)(g:∀b,sC s b n c k x S->Q (some (.ref s.heap.objs.size)) {s with heap:=b,toks:=s.toks+1}) :
  wpAny (model P w) A (pyNext (.ref n)) Q E s:=by
 have T:s.TypeIs (.ref n) "enumerate":=⟨_,d,rfl⟩;unfold pyNext;exact f0 (aj (Q8 T eP (K2 eP T oC (Do R d f e i h λ b a=>g7 (g b a)) (ow _))))
theorem Dq(i:A.handled=none)(R:Src P w c l vs S)(a:IsEnum s.heap n c k old)(m:S k s.heap)(h:vs[k]? = none)(p:∀b,Heap.ExtBut c s.heap b->Q none {s with heap:=b}) :
  wpAny (model P w) A (pyNext (.ref n)) Q E s:=by
 have T:s.TypeIs (.ref n) "enumerate":=⟨_,a,rfl⟩;unfold pyNext;refine f0 (aj (Q8 T eP (K2 eP T oC ?_ (ow _))));show wpAny _ _ (field _ 2 >>= _) _ _ _;refine f0 (G8 a rfl rfl (f0 (R.stop k i m h λ g1 e d j=>?_)));obtain⟨o,g,f⟩:=j;exact f0 (cw ⟨o,g,f⟩ fq (g7 (p _ d)))
end
open AutoSeq1 (wpAny_loadPart') in
theorem Dr(l:Iv)(vs:Iy Is)(m:Nat)(dc:Ir Iv)(sl:Iy (Ir Is)):Meets (Builtin.«enumerate.__new__» ⟨[.type "enumerate",.ref l],[]⟩) (λ _ R s=>s.heap.get? l=some {cls:=.type "tuple",dict:=dc,data:=.seq vs m,slots:=sl} /\
  R (.ok (.ret (.ref (zH1 s.heap true l).objs.size))) {s with heap:=(zH1 s.heap true l).push {cls:=.type "enumerate",data:=.fields #[.none,.bool false,.ref s.heap.objs.size,rawInt 0,.none,.none]}}):=
 .of_wp λ P w A R s h=>by
  obtain⟨g0,gg,gd,gt,go⟩:=s;obtain⟨q,h⟩:=h;have hsub:=sub_enumerate;have qT:Heap.IsTuple (Shared.heap ⟨g0,gg,gd,gt,go⟩) l vs:=⟨_,q,rfl,m,rfl⟩
  wp_walk using cf q
  refine wpAny_stack_any λ st=>g7 ?_;split
  ·rename_i y _ _ _ _ _;cases(y==Value.type "enumerate")
   ·wp_walk using cf q,aR qT
    exact⟨_,rfl,h⟩
   ·wp_walk using cf q,aR qT
    exact⟨_,rfl,h⟩
  ·wp_walk using cf q,aR qT
   exact⟨_,rfl,h⟩
theorem Ds         (t : Bool) (q : SqK t s.heap l vs)
    (h : ∀ a, IsEnum a (s.heap.objs.size + 1) s.heap.objs.size 0 .none -> sK t s.heap.objs.size l vs 0 a -> a.objs.size = s.heap.objs.size + 2 -> (∀ b o, s.heap.get? b = some o -> a.get? b = some o) -> Q (.ref (s.heap.objs.size + 1)) { s with heap := a }) :
    wpAny (model P w) A (call (.type "enumerate") [.ref l]) Q E s := by
  cases t with
  | false => exact call_enumerate_list (q) λ a z x v k => h a z ⟨x, Heap.IsList.at (q) λ o e => k _ o e⟩ v k
  | true =>
    obtain⟨⟨y, u, r, n⟩, p, d, m, c⟩ := id (q)
    replace d : y = .type "tuple" := d
    replace c : r = .seq vs m := c
    subst d c;refine callType_new F.called_enumerate IL (F.typeCall_enumerate_1 _) (F.newCall_enumerate_1 _) (λ f => F.args_object_init_2 f _) F.entry_enumerate_new (Dr l vs m u n) ⟨p, ?_⟩;have g : (zH1 s.heap true l).objs.size = s.heap.objs.size + 1 := G7 ..;have i := t8 (zH1 s.heap true l) (o := { cls := .type "enumerate", data := .fields #[.none, .bool false, .ref s.heap.objs.size, rawInt 0, .none, .none] }) rfl;have j : ∀ b o, s.heap.get? b = some o -> ((zH1 s.heap true l).push { cls := .type "enumerate", data := .fields #[.none, .bool false, .ref s.heap.objs.size, rawInt 0, .none, .none] }).get? b = some o := λ b o e => k6 _ (k6 _ e)
    rw [g] at i;show _ /\ _;rw [g];exact ⟨⟨_, i, rfl⟩, h _ i (zB (k6 _ (t8 _ rfl)) q j) (by rw [G7, g]) j⟩
def Ite(K:IE)(t:Bool)(a:Iv):It:=
  ⟨λ i H=>∃xs x,SqD t K H a xs/\xs[i]? = some x,
   λ i H x H'=>∃p v,x=.ref p/\H p=none/\(∀xs,SqD t K H a xs->xs[i]? = some v)/\H'=upd H p (.tup [.int i,v]),
   λ i H=>∃xs,SqD t K H a xs/\xs.length<=i⟩
theorem Dt{K:IE}(t:Bool)(d1:n≠c)(d2:l≠n)(d3:l≠c) :
  Turn P w K (.Tuple elts k pos) (Ite K t l) [n,c] n (λ i h=>(∃f,IsEnum h n c (i:Nat) f)/\itK t h c l i) where
 mem:=by simp
 obj:=λ i h st b g=>by
  obtain⟨⟨f,m⟩,r⟩:=st;simp only[i7,W6,X3]at g;rcases g with rfl | rfl
  ·exact⟨_,m,λ v q=>by cases q⟩
  ·obtain⟨o,Y,e,d⟩:=sB r;exact⟨o,e,λ v q=>by rw[d]at q;cases q⟩
 keep:=λ i h h' st q=>by obtain⟨⟨f,m⟩,r⟩:=st;exact⟨⟨f,q n IX _ m⟩,sA r λ o e=>q c IX o e⟩
 item:=by
  intro X R N S Z i j s C H E I B st Q;subst R N S;obtain⟨⟨f,m⟩,r⟩:=st;obtain⟨Y,x,A,M⟩:=Q;obtain⟨L,J,p⟩:=I.sqd A;obtain⟨u,hu,ru⟩:=J.get M;refine Dp (pM t d3) m (sx r p) (x:=u) (by simpa using hu) d1 d2 λ h' a=>⟨_,rfl,?_⟩
  obtain⟨a1,a2,a3,a4,a5⟩:=a;refine wpAny_letOwnedTupleGo_enum a1 λ U O F=>?_
  have z:s.heap.objs.size≠n:=R4 (n7 m);have keep:∀b o,b∉[n,c]->s.heap.get? b=some o->U.get? b=some o:=λ b o g e=>F.extBut _ _ (λ q=>g (by simp[q])) (a5 b o (λ q=>g (by simp[q])) (λ q=>g (by simp[q])) e);have I1:Inv X j C H {s with heap:=U,toks:=s.toks+1}:=I.turnedL (t':=s.toks+1) keep B;have y:H s.heap.objs.size=none:=I.hok.fresh (k8 _);have W:=I.fpOk (k8 _) y;have h0:X.s₀.heap.get? s.heap.objs.size=none:=cg I.sz;have I2:Inv X j C (upd H s.heap.objs.size (.tup [.int i,x])) {s with heap:=U,toks:=s.toks+1}:=I1.track y h0 W.2.1 (λ n c e=>W.2.2.2.2.1 n c e) (λ q hq=>W.2.2.2.2.2 q hq)
   ⟨by show(2:Nat)<=sizeLine;decide,[.int i s.toks,u],.cons ⟨_,rfl⟩ (.cons ru .nil),_,(F.extBut _ _ z a3),⟨rfl,rfl⟩,_,rfl⟩
  refine⟨.ref s.heap.objs.size,_,I2,rfl,⟨_,x,rfl,y,λ xs' e=>by rw[I.sqd_inj e A];exact M,rfl⟩,⟨⟨_,by simpa using O⟩,sA (sy a2) λ o e=>F.extBut _ _ (Ne.symm d1) e⟩,λ b g=>?_⟩;have lt:b≠s.heap.objs.size:=by
   simp only[i7,W6,X3]at g;rcases g with rfl | rfl
   ·exact Ne.symm z
   ·obtain⟨o,_,e,_⟩:=sB r;exact t9 (n7 e)
  rw[n6 lt];exact(B b g).1
 done:=by
  intro X R N S Z i j s C H E I B st Q;subst R N S;obtain⟨⟨f,m⟩,r⟩:=st;obtain⟨Y,A,M⟩:=Q;obtain⟨L,J,p⟩:=I.sqd A;have e1:=J.length;exact Dq (I.ok.hd Z) (pM t d3) m (sx r p) (by simp;omega) λ h' a=>⟨rfl,I.turnedL (t':=s.toks) (ch:=[n,c]) (λ b o g e=>a b o (λ q=>g (by simp[q])) e) B⟩
 self:=λ _ _ _ _ _ st h=>by obtain⟨⟨f,m⟩,_⟩:=st;exact wpAny_pyIter_enum m h
theorem lZ:∀(k:Nat) (a:on DV),(enuD k a).length=a.length
 | _,[]=>rfl
 | k,x::a=>by rw[enuD,w6,lZ _ a,w6]
theorem sD:∀{k:Nat} {a:on DV} {i:Nat} {d:DV},(enuD k a)[i]? = some d->∃x,a[i]? = some x/\d=.tup [.int ((k+i:Nat):Int),x]
 | _,[],_,_,h=>by simp[enuD]at h
 | k,x::a,0,d,h=>by simp[enuD]at h;exact⟨x,rfl,h.symm⟩
 | k,x::a,i+1,d,h=>by rw[enuD,List.getElem?_cons_succ]at h;obtain⟨y,c,b⟩:=sD h;exact⟨y,by simpa using c,by rw[b,show k+1+i=k+(i+1)from by omega]⟩
theorem Wk.enum(h:SqD t D.K (L2.wo k c) a xs)(r:RepL D (L2.wo j c) ds xs):Wk D (Ite D.K t a) (enuD 0 ds) k j c where
 go:=λ i H s u=>by rw[lZ]at u;exact⟨xs,xs[i]'(by rw[r.length];omega),A4.sqd (s.sqd h),k7 _⟩
 same:=λ i H x A y=>by obtain⟨p,v,_,b,_,e⟩:=y;rw[e];exact v4 b
 yld:=λ i H x A d O2 s o y e g=>by obtain⟨p,v,ex,b,n,w⟩:=y;obtain⟨d1,q,rfl⟩:=sD e;obtain⟨v1,m,l⟩:=r.get q;have f:=n xs (A4.sqd (s.sqd h));rw[m]at f;cases f;subst w;refine J0.mpr ⟨p,_,ex,SqT.of (by rw[k9 (λ z=>(g p z).1 b)];exact x3),?_⟩;exact x4.mpr ⟨_,_,rfl,C3.mpr (by rw[jD]),RepL.one (l.mono ((lQ o g).trans (v4 b).wo))⟩
 stop:=λ H s=>⟨xs,A4.sqd (s.sqd h),by rw[lZ,r.length];exact k8 _⟩
theorem ma(h:a<n):n+1≠n/\a≠n+1/\a≠n:=by omega
theorem Du:bootBuiltins "enumerate" = some (.type "enumerate"):=by decide +kernel
theorem Dv(E:Gl X "enumerate")(C:X.mg "enumerate" = none)(F:PA X [e] o)(hs:t5 e=false) :
  PI X (.Tuple elts k tpos) (.Call (.Name "enumerate" p) [e] [] pos) (λ i H R=>o i H λ n g=>∃t a,n=[.ref a]/\(∃m,SqD t X.K g a m)/\R (Ite X.K t a) g):=by
 intro b s i H R I h;refine Call_ (U6 I E C Du (aO (thn (F pos b s i H _ I h) λ us s1 ⟨n,g,f,y,z⟩=>?_) (by rw[w4 hs]) (aB [] IX)));obtain⟨t,a,J,⟨m,B⟩,q⟩:=z;subst J;obtain⟨u,rfl,x⟩:=y.one;cases x;obtain⟨A,rv,p1⟩:=f.sqd B;have j:=p1.lt;refine Ds t p1 λ h' l w z6 v=>?_
 refine wpAny_pyIter_enum l ⟨s1.heap.objs.size+1,[s1.heap.objs.size+1,s1.heap.objs.size],_,_,g,rfl,(f.kept v),
  Dt t (ma j).1 (ma j).2.1 (ma j).2.2,⟨⟨_,l⟩,sy w⟩,λ c r=>?_,q⟩
 have d:s1.heap.objs.size<=c:=by
  simp[i7,W6,X3]at r;rcases r with rfl | rfl
  ·exact cu ..
  ·exact k8 _
 exact f.fpOk d (f.hok.fresh d)
theorem Dw(u:Gl X "enumerate")(s:X.mg "enumerate" = none)(j:t5 e=false)(v:∀q,i=some q->PE X e IZ)
  (h:s9 (Re.thn i λ x c=>fV x c)=some g):PI X (.Tuple elts k d) (.Call (.Name "enumerate" p) [e] [] pos) (dI X.D δ g):=by
 cases b:i with
 | none=>rw[b]at h;cases h
 | some q=>
  rw[b]at h;have A:=v q b;cases q with
  | ok C F=>
   have f:s9 (fV C F)=some g:=h;unfold fV at f;split at f
   ·rename_i o E r;cases f;exact((λ n (w:PE X e n)=>Dv u s (R7 w U7 (w4 j)) j) _ A).weak λ σ H R' ⟨O,W,R,p⟩=>⟨O,W,R,λ x I s1 y=>by
     obtain⟨a,m,B,l,z⟩:=Dl r y (R.hid.mono s1);exact⟨o,a,by rw[B],⟨m,A4.sqd l⟩,p _ I s1 (.enum ((N6 Dj).sqd l) (z.mono (N6 Dk)))⟩⟩
   ·cases f
theorem Z0(f:FpOk X a H b)(h:c b=none):FpOk X a c b:=⟨h,f.2⟩
theorem Dx{p:on Int}(hh:A.handled=none)(b6:p.length=vs.length)(a5:l≠J)(Q:S≠J)(hlS:l≠S)
  (turn:∀(i:Nat) (v:V) (u:Is) (k:Int),vs[i]? = some v->RelV v u->p[i]? = some k->∀pins' q n,Inv X pins' σ n q->Same H n->wpAny IQ A.in1 (call (.ref f) [u]) (EP X pins' σ (λ w b5=>w=.int k/\Same n b5)) (λ _ _=>False) q)
  (hR:∀i v u q n,vs[i]? = some v->RelV v u->(∀j,j<vs.length->p.getD i 0<=p.getD j 0/\(j<i->p.getD i 0<p.getD j 0))->Inv X g σ n q->Same H n->R (.ok (.ret u)) q) :
  ∀(r j i:Nat) (q:Iu) (n:Hp) (U:Is) (v:V) (tb:Tok) (c:Nat),vs.length - (j+1)=r->j+1<=vs.length->Inv X g σ n q->Same H n->FpOk X g n S->FpOk X g n J->SqL X.K n l vs ->
   q.heap.get? S=some (seqObj "list" #[U,.int (p.getD i 0) tb] c)->q.heap.IsListIter J l (j+1)->vs[i]? = some v->RelV v U->i<=j->(∀y,y<=j->p.getD i 0<=p.getD y 0/\(y<i->p.getD i 0<p.getD y 0)) ->
   codeAny IQ A (.builtin "min.loop" ⟨[.ref J,.ref f,.ref S],[]⟩) R q:=by
 have ml : "min.loop" = (toString "min" ++ toString ".loop" : IJ):=by decide
 intro r
 induction r with
 | zero=>
  intro j i q n U v tb c hr hj I sm Z fJ hq gS P hv rv b3 m;obtain⟨us,ru,pl,zl⟩:=I.list hq;have b0:=ru.length;have W:=fI (prog:=X.prog) (w:=X.w) (A:=A.in1) hh J l a5 us.toArray;refine U2 iQ ?_;rw[W1 Z8 _];show wpAny _ A.in1 (seqItems? (.ref S) >>= _) _ _ _;refine f0 (ai gS rfl ?_);show wpAny _ A.in1 _ _ _ _;refine f0 (be (W.done _ _ _ ⟨by rw[v3,show us.length=j+1 by omega];exact P,pl.isList⟩ λ h1 B hk=>?_));have E:=hk S _ (by simpa using Q) gS;have s1:=M4 h1 S (Obj.mapSeq λ _=>(#[]:Iy Is));show wpAny _ A.in1 (updateSeq S (λ _=>#[]) >>= _) _ _ _;refine f0 (cD E rfl (f0 (bn (g7 ?_))));have I9:Inv X g σ n {q with heap:=h1.update S (Obj.mapSeq λ _=>(#[]:Iy Is)),toks:=B}:=by
   refine I.turnedL (t':=B) (ch:=[J,S]) (λ b o d e=>?_) λ b d=>?_
   ·rw[s1.2 b λ z=>d (by rw[z];simp)];exact hk b o (λ z=>d (by rw[u4.mp z];simp)) e
   ·rcases i7.mp d with rfl | d
    ·exact fJ
    ·rw[u4.mp d];exact Z
  exact hR i v U _ n hv rv (λ y a7=>m y IK) I9 sm
 | succ r ih=>
  intro j i q n U v tb c hr hj I sm Z fJ hq gS P hv rv b3 m;have O:j+1<vs.length:=by omega
  obtain⟨us,ru,pl,zl⟩:=I.list hq;have b0:=ru.length;have W:=fI (prog:=X.prog) (w:=X.w) (A:=A.in1) hh J l a5 us.toArray;refine U2 iQ ?_;rw[W1 Z8 _];show wpAny _ A.in1 (seqItems? (.ref S) >>= _) _ _ _;refine f0 (ai gS rfl ?_);show wpAny _ A.in1 _ _ _ _;refine f0 (be (W.item (j+1) _ _ _ (by rw[v3];omega) ⟨P,pl.isList⟩ λ u h1 B hP b2 hk=>?_));have hu:us[j+1]? = some u:=by simpa using hP
  obtain⟨oJ,a4,a3,N⟩:=id b2.1;have E:=hk S _ (by simpa using Q) gS;obtain⟨v1,M⟩:∃v1,vs[j+1]? = some v1:=⟨_,k7 O⟩;obtain⟨u',a1,a0⟩:=ru.get M;rw[hu]at a1;cases a1;obtain⟨K,a6⟩:∃K,p[j+1]? = some K:=⟨_,k7 IK⟩;have a9:p.getD (j+1) 0=K:=by rw[p6,a6];rfl
  have I1:Inv X g σ n {q with heap:=h1,toks:=B}:=I.turnedL (ch:=[J]) (λ b o d e=>hk b o d e) λ b d=>by rw[u4.mp d];exact fJ
  have Ip:=I1.pinned (fp:=[S,J]) (λ b d=>by
   rcases i7.mp d with rfl | d
   ·exact Z
   ·rw[u4.mp d];exact fJ) (λ b d=>by
   rcases i7.mp d with rfl | d
   ·exact⟨_,E,λ v z=>by cases z⟩
   ·rw[u4.mp d];exact⟨_,a4,λ v z=>by rw[N]at z;cases z⟩)
  show wpAny _ A.in1 _ _ _ _;refine f0 (be (L4 (D9 (turn (j+1) v1 u K M a0 a6 _ _ n Ip sm) (λ x s2 he=>?_) λ _ _ hF=>hF.elim)));obtain⟨w2,H2,I2,r2,rfl,L⟩:=he;obtain⟨Y,rfl⟩:=r2;obtain⟨qS,nS,_⟩:=I2.pin _ (y9 _ (y9 _ (X4 (o5 ..) E)));obtain⟨qJ,nJ,_⟩:=I2.pin _ (y9 _ (y9 _ (X4 (o4 _ (o5 ..)) a4)));have I3:=I2.unpinned;have a2:SqL X.K H2 l vs:=L.seq hq;show wpAny _ A.in1 _ _ _ _;refine f0 (be (L4 (f0 (CmpOf.ints_lt (prog:=X.prog) (w:=X.w) (A:=A.in1) (λ i=>p.getD i 0) (λ i v h=>h) (j+1) i _ _ _ _ _ ⟨Y,by rw[a9]⟩ ⟨tb,rfl⟩ ?_))));refine f0 (L4 (aV (f0 (bn (g7 ?_)))));by_cases a8:p.getD (j+1) 0<p.getD i 0
  ·have s1:=M4 s2.heap S (Obj.mapSeq λ _=>#[u,.int K Y]);obtain⟨c2,b4⟩:∃c2,(s2.heap.update S (Obj.mapSeq λ _=>#[u,.int K Y])).get? S=some (seqObj "list" #[u,.int K Y] c2):=⟨_,get?_update_seq qS λ _=>#[u,.int K Y]⟩;simp only[a8,decide_true,if_true];refine f0 (cD qS rfl (f0 (bn ?_)));rw[←ml];refine g7 ⟨U3 Z8 _,ih (j+1) (j+1) _ H2 u v1 Y c2 IK O (I3.turnedL (t':=s2.toks) (ch:=[S]) (λ b o d e=>by rw[s1.2 b λ z=>d (by rw[z];simp)];exact e) λ b d=>by rw[u4.mp d];exact Z0 Z nS) (sm.trans L) (Z0 Z nS) (Z0 fJ nJ) a2 (by rw[a9];exact b4) ⟨oJ,(s1.2 J Q.symm).trans qJ,a3,N⟩ M a0 (k8 _) λ y a7=>?_⟩;by_cases e:y=j+1
   ·subst e;exact⟨by omega,λ _=>by omega⟩
   ·have b1:=(m y IK).1;exact⟨by omega,λ _=>by omega⟩
  ·simp only[a8,decide_false,aU,if_false];refine f0 (bn ?_);rw[←ml];refine g7 ⟨U3 Z8 _,ih (j+1) i _ H2 U v tb c IK O I3 (sm.trans L) (Z0 Z nS) (Z0 fJ nJ) a2 qS ⟨oJ,qJ,a3,N⟩ hv rv IK λ y a7=>?_⟩;by_cases e:y=j+1
   ·subst e;exact⟨by omega,λ _=>by omega⟩
   ·exact m y IK
theorem Dy{p:on Int}(I:IV g)(hh:X.A.handled=none)(hq:SqL X.K H l vs)(P:0<vs.length)(R:p.length=vs.length)
  (turn:∀(i:Nat) (v:V) (u:Is) (k:Int),vs[i]? = some v->RelV v u->p[i]? = some k->∀pins' s' n,Inv X pins' σ n s'->Same H n->wpAny IQ X.A.in1 (call (.ref f) [u]) (EP X pins' σ (λ w a7=>w=.int k/\Same n a7)) (λ _ _=>False) s')
  (h:∀i v n,vs[i]? = some v->(∀j,j<vs.length->p.getD i 0<=p.getD j 0/\(j<i->p.getD i 0<p.getD j 0))->Same H n->Q v n):wpAny IQ X.A (call (.builtin "min") [.ref l] [(Str.ofString "key",.ref f)]) (EP X g σ Q) E s:=by
 have ml : "min.loop" = (toString "min" ++ toString ".loop" : IJ):=by decide
 obtain⟨us,ru,pl,zl⟩:=I.list hq;have a1:=ru.length;have y:l<s.heap.objs.size:=by obtain⟨o,e,_⟩:=pl.isList;exact n7 e
 refine kmk_tree PySem.F.kind_min PySem.F.plain_min PySem.F.entry_min (kmk_min_key _ _) ?_;show wpAny _ X.A.in1 _ _ _ s;refine f0 (bh (a:=[some (.ref f),none]) rfl (f0 (g7 (f0 (iZ pl.isList (f0 (wpAny_newList ?_ (G3 _))))))));rw[←ml];generalize hJ:s.heap.objs.size=J at y;generalize B:s.heap.push {cls:=.type "list_iterator",data:=.fields #[.ref l,.int 0 0]} = g0;have z0:g0.objs.size=J+1:=by rw[←B,size_push',hJ]
 have gS:(g0.push (seqObj "list" #[] 0)).get? (J+1)=some (seqObj "list" #[] 0):=by rw[←z0];exact t8 _ rfl
 have I0:Inv X g σ H {s with heap:=g0.push (seqObj "list" #[] 0)}:=I.kept (t':=s.toks) λ b o e=>by rw[←B];exact k6 _ (k6 _ e)
 have fJ:FpOk X g H J:=I.fpOk IK (I.hok.fresh IK);have fS:FpOk X g H (J+1):=I.fpOk IK (I.hok.fresh IK);refine g7 ⟨U3 Z8 _,?_⟩;show codeAny IQ X.A _ _ {s with heap:=g0.push (seqObj "list" #[] 0)};rw[z0];have S:l≠J:=t9 y;have C:J+1≠J:=R4 (P6 _);have a4:l≠J+1:=t9 (M7 y);obtain⟨us,ru,pl,zl⟩:=I0.list hq;have a1:=ru.length;have W:=fI (prog:=X.prog) (w:=X.w) (A:=X.A.in1) hh J l S us.toArray;refine U2 iQ ?_;rw[W1 Z8 _];show wpAny _ X.A.in1 (seqItems? (.ref (J+1)) >>= _) _ _ _;refine f0 (ai gS rfl ?_);show wpAny _ X.A.in1 (tryCatch (pyNext (.ref J)) _ >>= _) _ _ _;refine f0 (be (W.item 0 _ _ _ (by rw[v3];omega) ⟨⟨_,((by rw[←B,←hJ];exact k6 _ (t8 _ rfl))),rfl,rfl⟩,pl.isList⟩ λ u h1 a0 hP a2 hk=>?_));have hu:us[0]? = some u:=by simpa using hP
 obtain⟨oJ,O,a3,N⟩:=id a2.1;have Y:=hk (J+1) _ (by simpa using C) gS;obtain⟨v1,r⟩:∃v1,vs[0]? = some v1:=⟨_,k7 P⟩;obtain⟨u',M,L⟩:=ru.get r;rw[hu]at M;cases M;obtain⟨q,U⟩:∃q,p[0]? = some q:=⟨_,k7 IK⟩;have a6:p.getD 0 0=q:=by rw[p6,U];rfl
 have I1:=I0.turnedL (h':=h1) (t':=a0) (ch:=[J]) (λ b o m e=>hk b o m e) λ b m=>by rw[u4.mp m];exact fJ
 have Ip:=I1.pinned (fp:=[J+1,J]) (λ b m=>by
  rcases i7.mp m with rfl | m
  ·exact fS
  ·rw[u4.mp m];exact fJ) (λ b m=>by
  rcases i7.mp m with rfl | m
  ·exact⟨_,Y,λ v z=>by cases z⟩
  ·rw[u4.mp m];exact⟨_,O,λ v z=>by rw[N]at z;cases z⟩)
 show wpAny _ X.A.in1 _ _ _ _;refine f0 (be (L4 (D9 (turn 0 v1 u q r L U _ _ H Ip (Same.refl H)) (λ x s2 he=>?_) λ _ _ hF=>hF.elim)));obtain⟨w2,H2,I2,r2,rfl,K⟩:=he;obtain⟨F,rfl⟩:=r2;obtain⟨qS,nS,_⟩:=I2.pin _ (y9 _ (y9 _ (X4 (o5 ..) Y)));obtain⟨qJ,nJ,_⟩:=I2.pin _ (y9 _ (y9 _ (X4 (o4 _ (o5 ..)) O)));have I3:=I2.unpinned;have s1:=M4 s2.heap (J+1) (Obj.mapSeq λ _=>#[u,.int q F]);obtain⟨c2,a5⟩:∃c2,(s2.heap.update (J+1) (Obj.mapSeq λ _=>#[u,.int q F])).get? (J+1)=some (seqObj "list" #[u,.int q F] c2):=⟨_,get?_update_seq qS λ _=>#[u,.int q F]⟩;show wpAny _ X.A.in1 _ _ _ _;refine f0 (cD qS rfl ?_);rw[←ml];refine g7 ⟨U3 Z8 _,Dx (H:=H) hh R S C a4 turn (λ i v u s' n e1 e2 e3 e4 e5=>⟨v,n,e4,e2,h i v n e1 e3 e5⟩) _ 0 0 _ H2 u v1 F c2 rfl P (I3.turnedL (t':=s2.toks) (ch:=[J+1]) (λ b o m e=>by rw[s1.2 b λ z=>m (by rw[z];simp)];exact e) λ b m=>by rw[u4.mp m];exact Z0 fS nS) K (Z0 fS nS) (Z0 fJ nJ) (K.seq hq) (by rw[a6];exact a5) ⟨oJ,(s1.2 J C.symm).trans qJ,a3,N⟩ r L (k8 _) λ j' hj'=>?_⟩;have e:j'=0:=by omega
 subst e;exact⟨by omega,λ h=>absurd h (M9 _)⟩
theorem Dz(I:IV k)(L:LamAt X sc c P)(T:LamTx m.N (m.N.take m.np) sc)(q:ax m F bd sc=true)(hN:m.N.length=m.np+fr.length)(d:∀(j i:Nat),fr[j]? = some i->∃y,m.N[m.np+j]? = some y/\X.N[i]? = some y/\(X.env.kindOf y=some .cell\/X.env.kindOf y=some .free))
  (x:capD δ fr=some cs) (R:RSt X.D H σ δ O W) (lf:P2 H (X.env.qual ++ "<lambda>") F bd sc (p5 X.env.cells sc.names []) f):Rep X.D (L2.wo (O++W) (trC ((p5 X.env.cells sc.names []).map (·.2)) s.heap H)) (.lam m cs) (.ref f):=by
 generalize Z:(p5 X.env.cells sc.names []).map (·.2)=l;have E:=Cells.of (sc:=sc) I (L.has I.ok);rw[Z]at E;have S:=T.full I (L.has I.ok);rw[Z]at S;obtain⟨ws,Q,w2,w3⟩:=lO R x;have same:=E.same;have hdA:=R.hid.hdA;have U:∀{b:Iv} {o:Obj} {u:HO},H b=some (.frz o u)->b∉O++W:=λ {b o u} e z=>by obtain⟨o',a,C⟩:=hdA b z;rw[e]at a;cases a;cases C
 have Y:∀{b:Iv},b∈l->b∉O++W:=λ {b} hb z=>by obtain⟨o',a,C⟩:=hdA b z;rw[E.none b hb]at a;cases a
 refine gH.mpr ⟨f,F,bd,sc,X.env.qual ++ "<lambda>",p5 X.env.cells sc.names [],l,ws,rfl,?_,q,S,w2.mono same.wo,by rw[hN,Q],λ c M=>?_,λ i y v B A=>?_⟩
 ·obtain⟨c',J,u,vs,t,pm,N,B,A,h3⟩:=lf;exact⟨c',J,u,vs,t,pm,N,by rw[k9 (U B)];exact same _ _ B,by rw[k9 (U A)];exact same _ _ A,h3⟩
 ·obtain⟨o,v,g,d'⟩:=E.cel c M;exact⟨o,v,by rw[k9 (Y M)];exact Y7 M g,d'⟩
 ·have hi:i<fr.length:=by rw[←Q];exact(A9.mp A).1
  have hj:=k7 hi;obtain⟨y',a,C,h⟩:=d i _ hj;rw[B]at a;cases a;obtain⟨mm,hn',K⟩:=I.loc;obtain⟨u,rv,lk⟩:=K _ y v C (w3 i _ v hj A) (.inr h);rcases lk with⟨n,_⟩ | ⟨n,cc,k2,o,k3,k4⟩
  ·have n:=n;rcases h with h | h<;>(rw[h]at n;cases n)
  ·have p:=D7 (T.fre (m.np+i) y (by rw[F3];exact i9 (Nat.min_le_left _ _) (cu _ _)) B);have r:=dH (L.has I.ok) p k2;have w:cc∈l:=S.mem y cc r;exact⟨cc,o,u,r,by rw[k9 (Y w)];exact Y7 w k3,k4,rv⟩
theorem DA{F:Nat->on DV->Ir Ou}(I:IV h)(lo:Y8 X.prog X.w X.K X.mg X.base fn bl cl k (F A8))(hr:RoomL k A)(hA:A.frames=X.A.frames)(h1:m.fn=fn)(h2:m.bl=bl)(h3:m.cl=cl)
  (L:LamAt X sc c P) (T:LamTx m.N (m.N.take m.np) sc) (B:∀{h:on (Iv×Obj)} {σ:on (Ir V)} {H:Hp} {s:Iu},Inv X h σ H s->∀c∈(p5 X.env.cells sc.names []).map (·.2),X.base.get? c=none/\c∉frs X.stack) (C:ax m S bd sc=true) (hN:m.N.length=m.np+fr.length) (x:∀(j i:Nat),fr[j]? = some i->∃y,m.N[m.np+j]? = some y/\X.N[i]? = some y/\(X.env.kindOf y=some .cell\/X.env.kindOf y=some .free))
  (E:capD δ fr=some cs) (R:RSt X.D H σ δ O W) (lf:P2 H (X.env.qual ++ "<lambda>") S bd sc (p5 X.env.cells sc.names []) f) (Z:Rep X.D (L2.wo (O++W) H) d v) (Y:RelV v u) (hF:F A8 [.lam m cs,d]=some (.v (.int n) false)) :
  wpAny IQ A (call (.ref f) [u]) (EP X h σ (λ w Q=>w=.int n/\Same H Q)) (λ _ _=>False) s:=by
 have lamR:=Dz I L T C hN x E R lf;generalize U:(p5 X.env.cells sc.names []).map (·.2)=l at lamR;have J:=Cells.of I (L.has I.ok);rw[U]at J;have M:=B I;rw[U]at M;have same:=J.same;have q:=I.env0;have e1:Env0 X.prog X.w X.K X.mg X.base A X.stack s H:=⟨hA.trans q.frames,q.mod,q.bs,q.bsz,q.funs,q.frf,q.hok,q.bare⟩;refine cS (P7 (lo A X.stack s _ [u] [v] (λ v K=>Same (trC l s.heap H) K/\v=.int n) (λ _ _ _=>False) (O++W) f m cs [d] _ hr (Env0.trC J (λ c N=>(M c N).1) (λ c N=>(M c N).2) e1) (.cons Y .nil) (λ a ha=>?_) h1 h2 h3 lamR (RepL.one (Z.mono same.wo)) hF λ v K sm g=>⟨sm,C3.mp g⟩) λ r s' p=>?_)
 ·obtain⟨o,q1,q2⟩:=R.hid.hdA a ha;exact⟨o,same _ _ q1,q2⟩
 ·cases r with
  | error e=>exact(p:False).elim
  | ok fl=>
   cases fl with
   | ret u=>
    refine I.after (CE.trC J p (λ v K sm z=>⟨z.2,λ b o e=>?_⟩) λ v K z=>z.1);rw[k9 λ w=>by rw[J.none b w]at e;cases e];exact sm _ _ (same _ _ e)
   | next=>exact False.elim p
   | brk=>exact False.elim p
   | cont=>exact False.elim p
theorem sE:∀{b:on DV} {a:on Int},R8 F mm b=some a->a.length=b.length/\∀(i:Nat) d n,b[i]? = some d->a[i]? = some n->F A8 [mm,d]=some (.v (.int n) false)
 | [],a,h=>by cases h;exact⟨rfl,λ i d n h=>by cases h⟩
 | d::r,a,h=>by
  unfold R8 at h;split at h
  ·rename_i n e;obtain⟨l,m,rfl⟩:=B0.mp h;obtain⟨j,g⟩:=sE m;refine⟨by rw[w6,w6,j],λ i o k f c=>?_⟩;cases i with
   | zero=>cases f;cases c;exact e
   | succ i=>exact g i o k f c
  ·cases h
theorem Room.toL1(r:Room k A):RoomL k A.in1:=⟨r.hd,r.dp,by have:=r.un;show A.units+1+16*k+198<_;omega⟩
theorem DB(h:O9 ks=some i)(d:c<ks.length)(h':∀j,j<ks.length->ks.getD c 0<=ks.getD j 0/\(j<c->ks.getD c 0<ks.getD j 0)):c=i:=by
 unfold O9 at h;have f:=iJ h;have e:=js h;rw[r9]at f;simp only[F4,r9,f9,F0,B2]at e;have a:=e c d;have b:=h' i f;rcases Nat.lt_trichotomy i c with z | z | z
 ·have:=b.2 z;omega
 ·exact z.symm
 ·have:=a.2;omega
section
variable {X:Cx} {δ:on Sv} {ea bd:Ix} {pos p lp kp:Pos} {re:Re} {k:Nat} {x:Str} {pr:IG} {sc:IF} {c P:Iv} {m:LamD} {cs:on DV} {fr:on Nat} {pins:on (Iv×Obj)} {σ:St} {H:Hp} {s:Iu} {O W:on Iv} {f:Iv}
def QM(X:Cx)(δ:on Sv)(F:Nat->on DV->Ir Ou)(m:LamD)(cs:on DV)(pr:IG)(bd:Ix)(sc:IF)(σ:St)(Q:VK):on V->Hp->Prop:=λ vs H1=>∃va,vs=[va]/\∀f H2,Same H1 H2->H1 f=none->P2 H2 (X.env.qual ++ "<lambda>") pr bd sc (p5 X.env.cells sc.names []) f ->
 ∃O W a xs ds ks i,va=V.ref a/\RSt X.D H2 σ δ O W/\SqL X.K H2 a xs/\RepL X.D (L2.wo (O++W) H2) ds xs/\0<ds.length/\R8 F (.lam m cs) ds=some ks/\O9 ks=some i/\∀H' v,Same H2 H'->xs[i]? = some v->Q v H'
theorem DC(lo:Y8 X.prog X.w X.K X.mg X.base fn bl cl k (F A8))(hr:Room k X.A)(h1:m.fn=fn)(h2:m.bl=bl)(h3:m.cl=cl)(hg:Gl X "min")(hm:X.mg "min" = none)(B:t5 ea=false)
  (L:LamAt X sc c P) (Y:defaultsOf pr X.env=([],[])) (T:LamTx m.N (m.N.take m.np) sc) (U:∀{b:on (Iv×Obj)} {l:on (Ir V)} {H:Hp} {s:Iu},Inv X b l H s->∀c∈(p5 X.env.cells sc.names []).map (·.2),X.base.get? c=none/\c∉frs X.stack) (Z:ax m pr bd sc=true) (hN:m.N.length=m.np+fr.length) (w:∀(j i:Nat),fr[j]? = some i->∃y,m.N[m.np+j]? = some y/\X.N[i]? = some y/\(X.env.kindOf y=some .cell\/X.env.kindOf y=some .free))
  (a0:capD δ fr=some cs) (ha:PE X ea (dE X.D δ ra)) (h:(Re.thn (some ra) λ x cx=>mnkL F (.lam m cs) x cx)=some re):PE X (.Call (.Name "min" p) [ea] [⟨some "key",.Lambda pr bd sc lp,kp⟩] pos) (dE X.D δ re):=by
 have C:∀{ta:TE},PE X ea ta->PE X (.Call (.Name "min" p) [ea] [⟨some "key",.Lambda pr bd sc lp,kp⟩] pos) (λ l H Q=>jQ ta tNil l H (QM X δ F m cs pr bd sc l Q)):=λ {ta} A=>by
  intro b s l H Q I h;refine ae (U6 I hg hm boot_min ?_ IL IL);refine PyProof.Rows.callWith_kw (thn (R7 A (U7 (X:=X)) (w4 B) pos b s l H _ I h) λ us s1 ⟨vs,H1,I1,r1,M⟩=>?_) (by rw[w4 B];rfl) (by rw[w4 B];rfl);obtain⟨va,rfl,M⟩:=M;refine thn (yA (nm:=some "key") (kpos:=kp) (CV (bd:=bd) (lp:=lp) L Y) (yz (X:=X)) pos b s1 l H1 (λ ws o=>∃f,ws=[.ref f]/\P2 o (X.env.qual ++ "<lambda>") pr bd sc (p5 X.env.cells sc.names []) f/\∃O W a r q ks i,va=V.ref a/\RSt X.D o l δ O W/\SqL X.K o a r/\RepL X.D (L2.wo (O++W) o) q r/\0<q.length/\R8 F (.lam m cs) q=some ks/\O9 ks=some i/\∀J v,Same o J->r[i]? = some v->Q v J) I1
   (λ f o sm hn S=>⟨f,rfl,S,M f o sm hn S⟩)) λ ws s2 ⟨zs,o,I2,rz,f,e,S,O,W,a,r,q,ks,ix,e',R,sq,K,a5,hk,E,hq⟩=>?_
  subst e e';obtain⟨u1,rfl,a3⟩:=K3 r1;obtain⟨u2,rfl,a2⟩:=K3 rz;obtain rfl:u1=Value.ref a:=a3;obtain rfl:u2=Value.ref f:=a2;show wpAny _ X.A _ _ X.xe s2;obtain⟨k1,k2⟩:=sE hk;refine Dy I2 hr.hd sq (by rw[K.length];exact a5) (by rw[k1,K.length]) (λ i v u n hv ru hn a4 s' J I' sm=>?_) λ i v J hv hb sm=>?_
  ·have hi:i<q.length:=by rw[←K.length];exact(A9.mp hv).1
   have hd:=k7 hi;obtain⟨v',e1,rp⟩:=K.get hd;rw[hv]at e1;cases e1;exact DA I' lo hr.toL1 rfl h1 h2 h3 L T U Z hN w a0 (R.mono sm) (S.mono sm) (rp.mono sm.wo) ru (k2 i _ n hd hn)
  ·have hi:i<ks.length:=by rw[k1,←K.length];exact(A9.mp hv).1
   have:=DB E hi λ j hj=>hb j (by rw[K.length,←k1];exact hj);subst this;exact hq J v sm hv
 cases ra with
 | ok dx cx=>
  have g:mnkL F (.lam m cs) dx cx=some re:=h;unfold mnkL at g;split at g
  ·rename_i q;split at g
   ·rename_i z;obtain⟨ks,hk,g⟩:=v5.mp g;obtain⟨ix,E,g⟩:=v5.mp g;obtain⟨d,hd,rfl⟩:=B0.mp g;refine(C ha).weak λ l H Q ⟨O,W,R,p⟩=>⟨O,W,R,λ va H1 s1 g1=>⟨va,rfl,λ f o s2 hn S=>?_⟩⟩
    have N:=s1.trans s2;obtain⟨a,r,e1,e2,e3⟩:=g1.lstC (R.hid.mono s1);have a1:RepL X.D (L2.wo (O++W) H1) q r:=by
     cases cx with
     | strong=>exact e3
     | fresh=>exact e3
     | weak=>cases z
     | top=>exact e3
    refine⟨O,W,a,r,q,ks,ix,e1,R.mono N,SqL.of (s2 _ _ e2),a1.mono s2.wo,ag (G3 _) (A9.mp hd).1,hk,E,λ J v sm hv=>p _ _ (N.trans sm) ?_⟩;obtain⟨v',M,q2⟩:=a1.get hd;rw[hv]at M;cases M;exact(q2.mono (s2.trans sm).wo:Rep X.D (L2.wo (O++W) J) d v)
   ·cases g
  ·cases g
end
noncomputable def dEnd(D:Dm)(H0:Hp)(O:on Iv)(Dn:Ends):Out->Prop
 | .nx δ=>∀σ H W,RSt D H σ δ O W->(∀a∈W,H0 a=none)->Same H0 H->Dn.nx σ H
 | .rt d fr=>∀v H,Same H0 H->GotR D O H0 H d fr v->Dn.rt v H
def dS(D:Dm)(δ:on Sv)(o:Out):TS:=λ Dn σ H=>∃H0 O W,RSt D H σ δ O W/\(∀a∈W,H0 a=none)/\(∀a∈O,H0 a≠none)/\Same H0 H/\dEnd D H0 O Dn o
theorem DD:PSs X [] (dS X.D δ (.nx δ)):=xD.weak λ Dn a H ⟨H0,O,W,R,b,fo,sm,k⟩=>k a H W R b sm
theorem DE{rest:on IC}(g:PS X c (dS X.D δ (.nx δ1)))(f:PSs X rest (dS X.D δ1 o)):PSs X (c::rest) (dS X.D δ o):=
 (fK g f).weak λ Dn σ H ⟨d,O,W,R,h,fo,sm,k⟩=>⟨d,O,W,R,h,fo,sm,λ e H' i j b a=>⟨d,O,i,j,b,fo,a,k⟩⟩
theorem DF{rest:on IC}(b:PS X a (dS X.D δ (.rt d fr))):PSs X (a::rest) (dS X.D δ (.rt d fr)):=
 (fK b fM).weak λ Dn σ H ⟨c,O,W,R,fr,fo,sm,k⟩=>⟨c,O,W,R,fr,fo,sm,k⟩
theorem DG(n:∀q,e=some q->PT X c (dT X.D δ q))(r:∀q,l=some q->PSs X body (dS X.D δ q))(p:∀q,j=some q->PSs X d (dS X.D δ q))(h:(Rt.thnS δ e λ k=>if k then l else j)=some o):PS X (.If c body d pos) (dS X.D δ o):=by
 cases a:e with
 | none=>rw[a]at h;cases h
 | some q=>
  rw[a]at h;have C:=n q a;cases q with
  | ok b=>
   cases b with
   | true=>
    have f:=h;exact(oQ C (r o f) fM).weak λ u m H ⟨i,O,W,R,g,fo,sm,k⟩=>⟨O,W,R,λ s s1=>iteT ⟨i,O,W,R.mono s1,g,fo,sm.trans s1,k⟩⟩
   | false=>
    have f:=h;exact(oQ C fM (p o f)).weak λ u m H ⟨i,O,W,R,g,fo,sm,k⟩=>⟨O,W,R,λ s s1=>iteF ⟨i,O,W,R.mono s1,g,fo,sm.trans s1,k⟩⟩
theorem DH(w:∀q,j=some q->PE X e IZ)(h:(Re.thnS δ j λ d c=>some (retD d c))=some o):PS X (.Return (some e) pos) (dS X.D δ o):=by
 cases f:j with
 | none=>rw[f]at h;cases h
 | some q=>
  rw[f]at h;have A:=w q f;cases q with
  | ok d cl=>
   have x:=h;cases x;refine(jM A).weak λ J σ H ⟨I,O,W,R,y,fo,sm,k⟩=>⟨O,W,R,λ v F s1 g=>(k:dEnd X.D I O J _) v F (sm.trans s1) ?_⟩;cases l:frD d cl with
   | false=>exact g.weak (R.hid.mono s1)
   | true=>
    unfold frD at l;split at l
    ·obtain⟨p,i,E,s,r,n,C,B⟩:=g;exact⟨p,i,E,s,r,sm.free n,C,B.mono (N6 λ b m=>by rcases i7.mp m with z | z;exact i7.mpr (.inl z);exact o4 _ (F2 _ z))⟩
    ·obtain⟨a,i,s,u,r,n⟩:=g;exact⟨a,i,_,s,rfl,y a u,A4 _ _ r,n.mono (N6 λ b m=>by rcases i7.mp m with z | z;rw[z];exact y9 _ u;exact F2 _ z)⟩
    ·cases l
theorem md(h:aq v=false):swapsWith v t l env=pure false:=by
 cases v<;>first | rfl | cases h
theorem DI(i:∀q,b=some q->PE X e IZ)(f:aq e=false)(h:(Re.thnS δ b λ _ _=>some (.nx δ))=some o):PS X (.Expr e pos) (dS X.D δ o):=by
 cases a:b with
 | none=>rw[a]at h;cases h
 | some q=>
  rw[a]at h;have A:=i q a;cases q with
  | ok d cl=>cases h;exact(fL A (md f)).weak λ Dn c H ⟨H0,O,W,R,j,fo,sm,k⟩=>⟨O,W,R,λ v l s1 g=>k c l W (R.mono s1) j (sm.trans s1)⟩
theorem dJ:b∈O++p::W↔b∈p::(O++W):=by
 simp[F5,i7];constructor
 ·rintro(h | h | h)
  ·exact .inr (.inl h)
  ·exact .inl h
  ·exact .inr (.inr h)
 ·rintro(h | h | h)
  ·exact .inr (.inl h)
  ·exact .inl h
  ·exact .inr (.inr h)
theorem T3{l:on c}(h:(l.set i a)[j]? = some b)(d:a≠b):j≠i:=λ z=>by
 subst z;have e:j<l.length:=by have:=(A9.mp h).1;rw[E9]at this;exact this
 rw[O0 e]at h;exact d (E2 h)
theorem dL{l:on c}(h:(l.set i a)[i]? = some b):i<l.length/\a=b:=by
 have d:=(by have:=(A9.mp h).1;rw[E9]at this;exact this);rw[O0 d]at h;exact⟨d,E2 h⟩
theorem RSt.alloc(R:RSt D H σ δ O W)(s:Same H A)(F:H p=none)(f:A p=some (.lst xs))(r:RepL D (L2.wo (p::(O++W)) A) ds xs)(i:Nat) :
  RSt D A (σ.set i (some (.ref p))) (δ.set i (.own (.lst ds))) O (p::W):=by
 have l:Same (L2.wo (O++W) H) (L2.wo (O++p::W) A):=λ b o e=>by obtain⟨I,e⟩:=C6 e;rw[k9 (λ z=>by rcases i7.mp (dJ.mp z)with z | z;exact A7 e F z;exact I z)];exact s b o e
 refine⟨λ j d h=>?_,λ j J h=>?_,λ j k a g d2 U S x w=>?_,R.od.step (ly _ (by intro d z;cases z)) (λ _ h _=>o4 _ h) (λ a P _ h _=>s _ _ h),by rw[E9,E9];exact R.len,⟨λ a u=>?_,Same.refl _,λ a u=>?_,λ a u=>?_,R.hid.omS s⟩⟩
 ·have c:=T3 h IT;rw[A5 (Ne.symm c)]at h ⊢;obtain⟨v,x,w⟩:=R.val j d h;exact⟨v,x,w.mono l⟩
 ·by_cases c:j=i
  ·subst c;obtain⟨Q,e⟩:=dL h;cases e;exact⟨p,xs,ds,rfl,O0 (by rw[R.len];exact Q),o5,f,r.mono (N6 λ b I=>dJ.mp I)⟩
  ·rw[A5 (Ne.symm c)]at h ⊢;obtain⟨a,B,y,Z,x,w,Y,X⟩:=R.own j J h;exact⟨a,B,y,Z,x,o4 _ w,s _ _ Y,X.mono l⟩
 ·have n:∀{j:Nat} {g:DV},(δ.set i (.own (.lst ds)))[j]? = some (.own g)->(σ.set i (some (.ref p)))[j]? = some (some (V.ref a))->(j=i/\a=p)\/(j≠i/\δ[j]? = some (.own g)/\σ[j]? = some (some (V.ref a))/\a≠p):=λ {j g} h e=>by
   by_cases c:j=i
   ·subst c;obtain⟨_,z⟩:=dL e;cases z;exact .inl ⟨rfl,rfl⟩
   ·rw[A5 (Ne.symm c)]at h e;refine .inr ⟨c,h,e,λ z=>?_⟩;obtain⟨a',B,y,_,N,_,M,_⟩:=R.own j g h;rw[e]at N;cases N;rw[z,F]at M;cases M
  rcases n U x with⟨K,C⟩ | ⟨K,C,z3,z4⟩<;>rcases n S w with⟨L,E⟩ | ⟨L,E,y3,y4⟩
  ·rw[K,L]
  ·exact absurd C y4
  ·exact absurd E z4
  ·exact R.inj j k a g d2 C E z3 y3
 ·rcases i7.mp (dJ.mp u)with z | z
  ·rw[z,f];intro q;cases q
  ·intro q;exact R.hid.ot a z (s.free q)
 ·rcases i7.mp u with z | z
  ·exact⟨_,by rw[z];exact f,rfl⟩
  ·obtain⟨B,q,m⟩:=R.hid.wl a z;exact⟨B,s _ _ q,m⟩
 ·rcases i7.mp u with z | z
  ·intro q;exact R.hid.ot p (F2 _ (by rw[←z];exact q)) F
  ·exact R.hid.dj a z
theorem sF(h:noOt i δ=true)(q:δ[j]? = some (.od d)):j=i:=by
 unfold noOt at h;rw[F4]at h;have:=h j (r9.mpr ((A9.mp q).1));rw[q]at this;simpa using this
theorem RSt.write(R:RSt D H σ δ O W)(A:δ[i]? = some (.own (.lst ds)))(C:σ[i]? = some (some (.ref a)))(r:RepL D (L2.wo (O++W) H) g f) :
  RSt D (upd H a (.lst f)) σ (δ.set i (.own (.lst g))) O W:=by
 obtain⟨a',xs,ds0,e0,L,K,Z,e4⟩:=R.own i _ A;rw[C]at L;cases L;have p:Same _ (L2.wo (O++W) (upd H a (.lst f))):=λ b o e=>by obtain⟨w,e⟩:=C6 e;rw[k9 w,n6 λ z=>w (by rw[z];exact y9 _ K)];exact e
 have hl:=(A9.mp A).1;refine⟨λ j d h=>?_,λ j n h=>?_,λ j k b J d2 Y X u x=>?_,R.od.step (Bt (by intro d z;cases z)) (λ _ h _=>h) (λ b U _ h m=>by rw[n6 (λ z=>by rw[z,Z]at h;cases h;cases m)];exact h),by rw[E9];exact R.len,⟨λ b w q=>?_,Same.refl _,λ b w=>?_,R.hid.dj,R.hid.omW (by assumption)⟩⟩
 ·have l:=T3 h IT;rw[A5 (Ne.symm l)]at h;obtain⟨v,u,x⟩:=R.val j d h;exact⟨v,u,x.mono p⟩
 ·by_cases l:j=i
  ·subst l;obtain⟨_,e⟩:=dL h;cases e;exact⟨a,f,g,rfl,C,K,x3,r.mono p⟩
  ·rw[A5 (Ne.symm l)]at h;obtain⟨b,B,E,S,u,x,Q,P⟩:=R.own j n h;refine⟨b,B,E,S,u,x,?_,P.mono p⟩;rw[n6 λ z=>l (R.inj j i a n _ h A (by rw[←z];exact u) C)];exact Q
 ·have y:∀{j:Nat} {J:DV},(δ.set i (.own (.lst g)))[j]? = some _->∃d0,δ[j]? = some (.own d0):=λ {j J} h=>by
   by_cases l:j=i
   ·subst l;exact⟨_,A⟩
   ·rw[A5 (Ne.symm l)]at h;exact⟨J,h⟩
  obtain⟨I,N⟩:=y Y;obtain⟨F,M⟩:=y X;exact R.inj j k b I F N M u x
 ·by_cases c:b=a
  ·rw[c,x3]at q;cases q
  ·rw[n6 c]at q;exact R.hid.ot b w q
 ·by_cases c:b=a
  ·exact⟨_,by rw[c];exact x3,rfl⟩
  ·obtain⟨B,q,m⟩:=R.hid.wl b w;exact⟨B,by rw[n6 c];exact q,m⟩
theorem bM(h:Same c H)(d:c a=none):Same c (upd H a o):=λ b u e=>by
 rw[n6 (A7 e d)];exact h b u e
theorem sG{own:Bool}(h:(if own then de i δ d cl else(if stro d cl then some (.nx (δ.set i (.val d)))else none))=some o)
  (R:RSt D H σ δ O W) (fr:∀a∈W,c a=none) (sm:Same c H) (k:dEnd D c O j o):∀v e,Same H e->Got D O W H e d cl v->j.nx (σ.set i (some v)) e:=λ v b s1 g=>by
 cases own with
 | true=>
  simp only[if_true]at h;unfold de at h;split at h
  ·cases h;obtain⟨p,xs,ds,s,r,f,q,n⟩:=g;subst s r;exact k _ b (p::W) (R.alloc s1 f q n i) (λ a l=>by
    rcases i7.mp l with z | z
    ·rw[z];exact sm.free f
    ·exact fr a z) (sm.trans s1)
  ·split at h
   ·cases h;exact k _ b W ((R.mono s1).setVal (bB.mpr (bB.mp (g.weak (R.hid.mono s1)))) i) fr (sm.trans s1)
   ·cases h
 | false=>
  simp only[aU,if_false]at h;split at h
  ·rename_i m;cases h;exact k _ b W ((R.mono s1).setVal (g.stro (R.hid.mono s1) m) i) fr (sm.trans s1)
  ·cases h
theorem sH{own:Bool}(p:X.N.Nodup)(j:X.N[i]? = some x)(g:Loc X.env.scope x)(l:X.fn x=true\/X.env.scope.names.lookup x=some .local)(n:∀q,f=some q->PE X e IZ)(m:swapsWith e (some (.Name x a)) pos.line X.env=pure false)
  (h:(Re.thnS δ f λ d c=>if own then de i δ d c else(if stro d c then some (.nx (δ.set i (.val d)))else none))=some o):PS X (.Assign [.Name x a] e pos) (dS X.D δ o):=by
 cases b:f with
 | none=>rw[b]at h;cases h
 | some q=>
  rw[b]at h;have A:=n q b;cases q with
  | ok d cl=>exact(oT p j g A m l).weak λ Dn σ H ⟨H0,O,W,R,r,fo,sm,k⟩=>⟨O,W,R,sG h R r sm k⟩
theorem DJ{own:Bool}(S:CompScope X.N r scope X.env.scope fr)(w:X.calm=true)(y:X.N.Nodup)(v:X.N[i]? = some x)(u:X.env.scope.names.lookup x=some .local)
  (P:Y9 X δ b a g elt scope r fr tg p) (z:∀C j l n fp,PG (u7 X scope r C j l n fp) b (gT X.K tg)) (m:J8 a=false)  (q:swapsWith (.ListComp elt [⟨b,a,g,0⟩] scope f) (some (.Name x e)) pos.line X.env=pure true)
  (h:(Re.thnS δ (some p) λ d c=>if own then de i δ d c else(if stro d c then some (.nx (δ.set i (.val d)))else none))=some o):PS X (.Assign [.Name x e] (.ListComp elt [⟨b,a,g,0⟩] scope f) pos) (dS X.D δ o):=by
 obtain⟨wi,tc,te,F,E,B,A⟩:=P;refine(zu S w y v u F z E B q (lY m)).weak λ Dn s H t0=>?_;obtain⟨H0,O,W,R,fr,fo,sm,k⟩:=t0
 unfold tAsg;refine A s H _ ⟨O,W,R,?_⟩;cases p with
 | ok d cl=>exact sG h R fr sm k
theorem DK(hv:PE X (.Name x b) (tVar i))(I:∀q,r=some q->PE X e IZ)(s:t5 e=false)(n:(j.endLine==f.line)=true)
  (h:(match δ[i]? with
   | some (.own (.lst p))=>Re.thnS δ r λ d c=>if stro d c/\p.length<m7 then some (.nx (δ.set i (.own (.lst (p++[d])))))else none
   | _=>none)=some o):PS X (.Expr (.Call (.Attribute (.Name x b) "append" j) [e] [] f) pos) (dS X.D δ o):=by
 split at h
 ·rename_i p y;cases l:r with
  | none=>rw[l]at h;cases h
  | some q=>
   rw[l]at h;have A:=I q l;cases q with
   | ok d cl=>
    have u:(if stro d cl/\p.length<m7 then some (Out.nx (δ.set i (.own (.lst (p++[d])))))else none)=some o:=h;split at u
    ·rename_i m;cases u;exact((λ t (J:PE X e t)=>fL (jY eK PySem.F.slot_list_append PySem.F.type_list_append zb hv (R7 J U7 (w4 s)) rfl (by rw[w4 s];rfl) n (w4 s) rfl) rfl) _ A).weak λ Dn F H ⟨H0,O,W,R,z,fo,sm,k⟩=>by obtain⟨a,w,M,L,E,K,C,B⟩:=R.own i _ y;cases L;refine⟨.ref a,E,.inl ⟨rfl,w,SqL.of C⟩,O,W,R,λ v H1 s1 g=>?_⟩;refine⟨a,w,v,rfl,rfl,s1 _ _ C,by rw[B.length];exact u6 m.2 IL,?_⟩;exact k F _ W ((R.mono s1).write y E ((B.mono s1.wo).append (RepL.one (g.stro (R.hid.mono s1) m.1)))) z (bM (sm.trans s1) (z a K))
    ·cases u
 ·cases h
theorem RepL.erase:∀{ds:on DV} {a:on V} (i:Nat),RepL D H ds a->RepL D H (ds.eraseIdx i) (a.eraseIdx i)
 | [],a,i,h=>by rw[E3.mp h];exact E3.mpr rfl
 | d::ds,a,i,h=>by
  obtain⟨v,vs,rfl,c,b⟩:=x4.mp h;cases i with
  | zero=>exact b
  | succ i=>exact x4.mpr ⟨v,_,rfl,c,b.erase i⟩
theorem DL(hv:PE X (.Name x b) (tVar i))(M:∀q,p=some q->PE X e IZ)(r:t5 e=false)(l:(f.endLine==c.line)=true)
  (h:popS δ i p δ[i]? = some o):PS X (.Expr (.Call (.Attribute (.Name x b) "pop" f) [e] [] c) pos) (dS X.D δ o):=by
 unfold popS at h;split at h
 ·rename_i ds w;cases j:p with
  | none=>rw[j]at h;cases h
  | some q=>
   rw[j]at h;have A:=M q j;cases q with
   | ok d cl=>
    obtain⟨z,u,s⟩:=v5.mp (h);have u:=D6 u;subst u;split at s
    ·rename_i m;cases s;exact((λ t (N:PE X e t)=>fL (jY eK PySem.F.slot_list_pop PySem.F.type_list_pop zd hv (R7 N U7 (w4 r)) rfl (by rw[w4 r];rfl) l (w4 r) rfl) rfl) _ A).weak λ Dn F H ⟨H0,O,W,R,y,fo,sm,k⟩=>by
      obtain⟨a,n,S,Q,E,P,C,B⟩:=R.own i _ w;cases Q;refine⟨.ref a,E,.inl ⟨rfl,n,SqL.of C⟩,O,W,R,λ v H1 s1 g=>?_⟩;have U:=R.mono s1;have L:=B.length;have I:z.toNat<n.length:=by rw[L];omega
      have hm:(m7:Int)=1000000:=rfl;refine⟨a,n,z,z.toNat,n[z.toNat],rfl,by rw[g.int (R.hid.mono s1)],s1 _ _ C,by omega,by omega,?_,k7 I,?_⟩
      ·have K:¬z<0:=by omega
       have J:z<n.length:=by omega
       simp[seqIndex?,K,J,m.1]
      ·exact k F _ W (U.write w E ((B.mono s1.wo).erase z.toNat)) y (bM (sm.trans s1) (y a P))
    ·cases s
 ·cases h
theorem DM(hv:PE X (.Name x b) (tVar i))(U:∀q,z=some q->PE X e IZ)(Q:∀q,w=some q->PE X l IZ)(E:V0 l=false)
  (h:(match δ[i]? with
   | some (.own (.lst s))=>Re.thnS δ z λ d c=>Re.thnS δ w λ k _=>(match k with
    | .int k=>(match E4 s.length k with
     | some j=>if stro d c then some (.nx (δ.set i (.own (.lst (s.set j d)))))else none
     | none=>none)
    | _=>none)
   | _=>none)=some o):PS X (.Assign [.Subscript (.Name x b) l f] e pos) (dS X.D δ o):=by
 have sub:∀v,assign (.Subscript (.Name x b) l f) X.env v=(do
   let ov ←holding [v] (eval (.Name x b) X.env)
   let iv ←holding [v,ov] (eval l X.env)
   standAt f
   holding [v,ov,iv] (setItem ov iv v)
   release [v,ov,iv] []):=by cases l<;>first | (intro _;rfl) | cases E
 have C:=λ t N (Z:PE X e t) (Y:PE X l N)=>xK (pos:=pos) Z (xJ hv Y yV sub) (by cases e<;>rfl) (by cases e<;>rfl) rfl;split at h
 ·rename_i s F;cases p:z with
  | none=>rw[p]at h;cases h
  | some q=>
   rw[p]at h;have A:=U q p;cases q with
   | ok d cl=>
    cases n:w with
    | none=>rw[n]at h;cases h
    | some q=>
     rw[n]at h;have B:=Q q n;cases q with
     | ok dk ck=>
      have r:(match(generalizing:=false) dk with
       | .int k=>(match E4 s.length k with
        | some j=>if stro d cl then some (Out.nx (δ.set i (.own (.lst (s.set j d)))))else none
        | none=>none)
       | _=>none)=some o:=h
      split at r
      ·rename_i P;split at r
       ·rename_i j S;split at r
        ·rename_i m;cases r;exact(C _ _ A B).weak λ Dn L H ⟨H0,O,W,R,I,fo,sm,k⟩=>⟨O,W,R,λ v H1 s1 g=>by
          have u:=R.mono s1;obtain⟨a,M,ds0,e0,K,e2,e3,J⟩:=u.own i _ F;cases e0;refine⟨.ref a,K,O,W,u,λ y H2 s2 g2=>?_⟩;have R2:=u.mono s2;refine⟨a,M,P,j,rfl,g2.int (u.hid.mono s2),s2 _ _ e3,by rw[J.length];exact S,?_⟩;exact k L _ W (R2.write F K (RepL.set ((g.mono s2).stro ((R.hid.mono s1).mono s2) m) j (J.mono s2.wo))) I (bM ((sm.trans s1).trans s2) (I a e2))⟩
        ·cases r
       ·cases r
      ·cases r
 ·cases h
theorem Got.seq(g:Got D O W n H d c v)(m:Hid O W n H)(o:c=.strong\/c=.fresh)(f:ak d=some (b,k)):∃a e,v=.ref a/\(SqL D.K H a e\/SqT D.K H a e)/\RepL D (L2.wo (O++W) H) k e:=by
 have l:c ≠ .weak:=by rcases o with z | z<;>(rw[z];intro q;cases q)
 unfold ak at f;split at f
 ·cases f;obtain⟨a,e,j,i,h⟩:=g.items m l;exact⟨a,e,j,.inl (SqL.of i),h⟩
 ·cases f;obtain⟨a,e,j,i,h⟩:=g.itemsT m l;exact⟨a,e,j,.inr i,h⟩
 ·cases f
theorem DN(hv:PE X (.Name x f) (tVar i))(P:∀q,y=some q->PE X e IZ)(z:t5 e=false)(p:(l.endLine==j.line)=true)
  (h:(match δ[i]? with
   | some (.own (.lst u))=>Re.thnS δ y λ d c=>if c=.strong\/c=.fresh then(match ak d with
    | some (_,s)=>if u.length+s.length<=m7 then some (.nx (δ.set i (.own (.lst (u++s)))))else none
    | none=>none)else none
   | _=>none)=some o):PS X (.Expr (.Call (.Attribute (.Name x f) "extend" l) [e] [] j) pos) (dS X.D δ o):=by
 split at h
 ·rename_i u E;cases n:y with
  | none=>rw[n]at h;cases h
  | some q=>
   rw[n]at h;have A:=P q n;cases q with
   | ok d cl=>
    have r:(if cl=.strong\/cl=.fresh then(match ak d with
     | some (_,s)=>if u.length+s.length<=m7 then some (Out.nx (δ.set i (.own (.lst (u++s)))))else none
     | none=>none)else none)=some o:=h
    split at r
    ·rename_i B;split at r
     ·rename_i b s N;split at r
      ·rename_i m;cases r;exact((λ t (Q:PE X e t)=>fL (jY eK PySem.F.slot_list_extend PySem.F.type_list_extend Aq hv (R7 Q U7 (w4 z)) rfl (by rw[w4 z];rfl) p (w4 z) rfl) rfl) _ A).weak λ Dn M H ⟨H0,O,W,R,F,fo,sm,k⟩=>by obtain⟨a,C,ds0,Z,L,Y,K,J⟩:=R.own i _ E;cases Z;refine⟨.ref a,L,.inl ⟨rfl,C,SqL.of K⟩,O,W,R,λ v H1 s1 g=>?_⟩;obtain⟨a2,w,U,S,I⟩:=g.seq (R.hid.mono s1) B N;refine⟨a,a2,C,w,rfl,by rw[U],s1 _ _ K,S,by rw[J.length,I.length];exact i9 m IL,?_⟩;exact k M _ W ((R.mono s1).write E L ((J.mono s1.wo).append I)) F (bM (sm.trans s1) (F a Y))
      ·cases r
     ·cases r
    ·cases r
 ·cases h
theorem PSs.any{t:ι->TS}(h:∀k,PSs X body (t k)):PSs X body (λ D b H=>∃k,t k D b H):=λ a s b H D I ⟨k,q⟩=>h k a s b H D I q
theorem PT.any{t:ι->TT}(h:∀k,PT X e (t k)):PT X e (λ b H Q=>∃k,t k b H Q):=λ a s b H Q I ⟨k,q⟩=>h k a s b H Q I q
structure Lp(H0 H1:Hp)(O W:List Addr):Prop where
 out:∀{H:Hp},Same (L2.wo W H1) H->Same H0 H
 outW:∀{a:Addr},L2.wo W H1 a=none->H0 a=none
 in1:∀a∈W,L2.wo W H1 a=none
 in2:∀a∈O,L2.wo W H1 a≠none
 wsame:∀{H:Hp},Same (L2.wo W H1) H->Same (L2.wo (O++W) H1) (L2.wo (O++W) H)
theorem Lp.mk'(fr:∀a∈W,d a=none)(fo:∀a∈O,d a≠none)(sm:Same d g):Lp d g O W where
 out:=λ {H} s b u e=>s b u (by
  rw[k9 λ z=>by rw[fr b z]at e;cases e];exact sm b u e)
 outW:=λ {a} q=>by
  by_cases z:a∈W
  ·exact fr a z
  ·rw[k9 z]at q;exact sm.free q
 in1:=λ a c=>Y4 c
 in2:=λ a c=>by rw[k9 λ z=>fo a c (fr a z)];intro q;exact fo a c (sm.free q)
 wsame:=λ {H} s b u e=>by obtain⟨f,e⟩:=C6 e;rw[k9 f];exact s b u (by rwa [k9 λ z=>f (y9 _ z)])
theorem Lp.gotR(L:Lp b a O W)(g:GotR D O (L2.wo W a) H d fr v):GotR D O b H d fr v:=by
 cases fr with
 | false=>exact g
 | true=>
  obtain⟨p,c,k,j,i,h,f,e⟩:=g;exact⟨p,c,k,j,i,L.outW h,f,e⟩
theorem DO(hp:PassesOwn IQ X.A X.env X.xe)(hc:X.calm=true)(hi:∀q,ri=some q->PI X u j (dI X.D δ q))(hG:PG X u (gT X.K tg))(hb:∀δ' o,f δ'=some o->PSs X body (dS X.D δ' o))(M:J8 j=false)
  (h:(Ri.thnS δ ri λ l c=>if c=.strong\/c=.fresh then B4 tg f l δ else none)=some o):PS X (.For u j body [] pos) (dS X.D δ o):=by
 have B:PSs X body (λ D E H=>∃k:{p:on Sv×Out // f p.1=some p.2},dS X.D k.1.1 k.1.2 D E H):=PSs.any λ k=>hb k.1.1 k.1.2 k.2;cases C:ri with
 | none=>rw[C]at h;cases h
 | some q=>
  rw[C]at h;have A:=hi q C;cases q with
  | ok l c=>
   have h':(if c=.strong\/c=.fresh then B4 tg f l δ else none)=some o:=h;split at h'
   ·rename_i m;refine(xX hp hc A hG B (lY M)).weak λ Dn E H ⟨H0,O,W,R,fr,fo,sm,k⟩=>⟨O,W,R,λ J I s1 w=>?_⟩
    have R1:=R.mono s1;have L:=Lp.mk' fr fo (sm.trans s1);have w:Wk X.D J l (O++W) (O++W) I:=(by rcases m with m | m<;>subst m<;>exact w);refine⟨λ i n E H=>n=l.length - i/\i<=l.length/\∃b F,B4 tg f (l.drop i) b=some o/\RSt X.D H E b O F/\(∀a∈F,L2.wo W I a=none)/\Same (L2.wo W I) H,
     ⟨l.length,rfl,G3 _,δ,W,h',R1,L.in1,A4⟩,?_⟩
    rintro i n S P ⟨rfl,hi,b,W2,hgo,R2,b1,b2⟩
    by_cases s:i<l.length
    ·refine .inr ⟨w.go i P (L.wsame b2) s,λ E H=>∃b F,B4 tg f _ b=some o/\RSt X.D H E b O F/\_/\Same (L2.wo W I) H,
      λ U H' q=>⟨l.length - (i+1),by omega,rfl,s,q⟩,λ x H3 y=>?_⟩
     have Y:=w.same i P x H3 y;have y3:=w.yld i P x H3 _ (O++W2) (L.wsame b2) (L.wsame b2) y (k7 s) λ a Q=>⟨R2.hid.ot a Q,by
      rcases F5.mp Q with z | z
      ·exact .inl (F2 _ z)
      ·have q:=b1 a z;by_cases hw:a∈W
       ·exact .inl (y9 _ hw)
       ·rw[k9 hw]at q;exact .inr q⟩
     rw[nW s]at hgo;unfold B4 at hgo;split at hgo
     ·cases hgo
     ·rename_i K a2;refine lV (R2.mono Y) y3 a2 λ σ3 R3=>?_
      split at hgo
      ·rename_i r a1;exact⟨⟨⟨K,.nx r⟩,a1⟩,L2.wo W I,O,W2,R3,b1,L.in2,b2.trans Y,λ U H' F R' N Z=>⟨r,F,hgo,R',N,Z⟩⟩
      ·rename_i a0;refine⟨⟨⟨K,o⟩,hgo⟩,L2.wo W I,O,W2,R3,b1,L.in2,b2.trans Y,?_⟩;cases o with
       | nx r=>exact absurd hgo (a0 r)
       | rt d N=>exact λ v H' s' g=>k v H' (L.out s') (L.gotR g)
    ·have e:i=l.length:=by omega
     subst e;rw[jk]at hgo;cases hgo;exact .inl ⟨w.stop P (L.wsame b2),k S P W2 R2 (λ a Q=>L.outW (b1 a Q)) (L.out b2)⟩
   ·cases h'
theorem DP(J:PassesOwn IQ X.A X.env X.xe)(K:∀δ' r,e δ'=some r->PT X c (dT X.D δ' r))(M:∀δ' o,f δ'=some o->PSs X body (dS X.D δ' o))(h:N2 e f n δ=some o):PS X (.While c body [] pos) (dS X.D δ o):=by
 have B:PSs X body (λ D j H=>∃k:{p:on Sv×Out // f p.1=some p.2},dS X.D k.1.1 k.1.2 D j H):=PSs.any λ k=>M k.1.1 k.1.2 k.2;have T:PT X c (λ j H Q=>∃k:{p:on Sv×Rt // e p.1=some p.2},dT X.D k.1.1 k.1.2 j H Q):=PT.any λ k=>K k.1.1 k.1.2 k.2;refine(xM J T B).weak λ Dn j H t0=>?_;obtain⟨H0,O,W,R,P,fo,sm,k⟩:=t0;have L:=Lp.mk' P fo sm;refine⟨λ m j w=>∃b u,N2 e f m b=some o/\RSt X.D w j b O u/\(∀a∈u,L2.wo W H a=none)/\Same (L2.wo W H) w,⟨n,δ,W,h,R,L.in1,A4⟩,?_⟩
 rintro m A w ⟨b,W2,hgo,R2,b1,b2⟩
 cases m with
 | zero=>cases hgo
 | succ m=>
  unfold N2 at hgo;split at hgo
  ·cases hgo
  ·rename_i l;cases hgo;refine⟨⟨⟨b,.ok false⟩,l⟩,O,W2,R2,λ x s=>iteF ?_⟩;exact k A x W2 (R2.mono s) (λ a N=>L.outW (b1 a N)) (L.out (b2.trans s))
  ·rename_i l;refine⟨⟨⟨b,.ok true⟩,l⟩,O,W2,R2,λ x s=>iteT ?_⟩;refine⟨λ j w=>∃b u,N2 e f m b=some o/\RSt X.D w j b O u/\_/\Same _ w,λ C x q=>⟨m,P6 m,q⟩,?_⟩;split at hgo
   ·rename_i i y;exact⟨⟨⟨b,.nx i⟩,y⟩,L2.wo W H,O,W2,R2.mono s,b1,L.in2,b2.trans s,λ C x u S z E=>⟨i,u,hgo,S,z,E⟩⟩
   ·rename_i F;refine⟨⟨⟨b,o⟩,hgo⟩,L2.wo W H,O,W2,R2.mono s,b1,L.in2,b2.trans s,?_⟩;cases o with
    | nx i=>exact absurd hgo (F i)
    | rt d z=>exact λ v x I g=>k v x (L.out I) (L.gotR g)
theorem RSt.anyNo(R:RSt D H σ δ O W)(n:δ[i]? = some .no)(x:Ir V):RSt D H (σ.set i x) δ O W:=by
 have ne:∀{j:Nat} {s:Sv},δ[j]? = some s->s ≠ .no->j≠i:=λ {j s} h l z=>by subst z;rw[n]at h;cases h;exact l rfl
 have b:∀{j:Nat},j≠i->(σ.set i x)[j]? = σ[j]?:=λ {j} m=>A5 (Ne.symm m);refine⟨λ j d h=>?_,λ j d h=>?_,λ j k a p o e c g f=>?_,R.od.step (λ j d h=>⟨h,b (ne h IT)⟩) (λ _ h _=>h) (λ _ _ _ h _=>h),by rw[E9];exact R.len,R.hid⟩
 ·rw[b (ne h IT)];exact R.val j d h
 ·rw[b (ne h IT)];exact R.own j d h
 ·rw[b (ne e IT)]at g;rw[b (ne c IT)]at f;exact R.inj j k a p o e c g f
section
variable {κ:Type} [DecidableEq κ]
noncomputable def valV(kvs:on (κ×V))(k:κ):Ir V:=(kvs.find? λ kv=>decide (kv.1=k)).map (·.2)
noncomputable def putK(kvs:on (κ×V))(k:κ)(v:V):on (κ×V):=
 if(kvs.any λ kv=>decide (kv.1=k))=true then kvs.map (λ kv=>if kv.1=k then(kv.1,v)else kv)else kvs++[(k,v)]
theorem aD{k:κ}(e:p.1=k):valV (p::r) k=some p.2:=by simp[valV,ba,e]
theorem aE{k:κ}(e:¬p.1=k):valV (p::r) k=valV r k:=by simp[valV,ba,e]
theorem sI(k:κ):∀a:on (κ×V),(a.any λ b=>decide (b.1=k))=(valV a k).isSome
 | []=>rfl
 | p::r=>by
  rw[G2];by_cases e:p.1=k
  ·simp only[aD e,A0 e,jG,Option.isSome_some]
  ·rw[aE e,C7 e,Bool.false_or];exact sI k r
theorem sJ(a:on (κ×V))(k:κ)(v:V):(putK a k v).length<=a.length+1:=by
 unfold putK;split
 ·rw[g6];omega
 ·rw[u0,w6,jq];omega
theorem RelO.isSome_eq(r:RelO o u):o.isSome=u.isSome:=by
 cases o with
 | none=>cases u with
  | none=>rfl
  | some _=>exact(r).elim
 | some _=>cases u with
  | none=>exact(r).elim
  | some _=>rfl
theorem KV.val(r:KV a vs)(k:κ):RelO (valV a k) (valueAt vs k):=by
 unfold KV at r
 induction r with
 | nil=>exact True.intro
 | @cons p q ps qs h t ih=>
  obtain⟨d,f⟩:=h;by_cases e:p.1=k
  ·have c:=d.symm.trans e;have b:valueAt (q::qs) k=some q.2:=by simp[valueAt,ba,c]
   rw[aD e,b];exact f
  ·have c:¬q.1=k:=λ z=>e (d.trans z);have b:valueAt (q::qs) k=valueAt qs k:=by simp[valueAt,ba,c]
   rw[aE e,b];exact ih
theorem KV.any(r:KV a vs)(k:κ):(a.any λ b=>decide (b.1=k))=vs.any λ b=>decide (b.1=k):=by
 unfold KV at r
 induction r with
 | nil=>rfl
 | cons h t c=>rw[G2,G2,c,h.1]
theorem KV.repl(r:KV b vs)(k:κ)(d:RelV y u) :
  KV (b.map λ a=>if a.1=k then(a.1,y)else a) (vs.map λ a=>if a.1=k then(a.1,u)else a):=by
 unfold KV at r ⊢
 induction r with
 | nil=>exact .nil
 | @cons p q ps qs h t ih=>
  rw[B3,B3];refine .cons ?_ ih;obtain⟨c,f⟩:=h;by_cases e:p.1=k
  ·rw[f8 e,f8 (c.symm.trans e)];exact⟨c,d⟩
  ·rw[g8 e,g8 (λ z=>e (c.trans z))];exact⟨c,f⟩
theorem KV.put(r:KV a vs)(k:κ)(b:RelV y u):KV (putK a k y) (stored vs k u):=by
 unfold putK stored;rw[r.any k];by_cases e:(vs.any λ c=>decide (c.1=k))=true
 ·rw[f8 e,f8 e];exact r.repl k b
 ·rw[g8 e,g8 e];exact Paired.snoc r ⟨rfl,b⟩
theorem KV.length(r:KV a vs):a.length=vs.length:=fv r
end
theorem me(r:RelV (kV k) u):(G9 P w).is k u=true:=by
 cases k with
 | inl i=>obtain⟨t,e⟩:=(r);subst e;exact xm P w i t
 | inr x=>obtain⟨t,e⟩:=(r);subst e;exact xn P w x t
theorem gX:∀{ks:on Key} {us:on Is},Vals (ks.map kV) us->ItemsAre (G9 P w) ks us
 | [],_,r=>by rw[List.map_nil]at r;cases r;exact .nil
 | k::ks,_,r=>by
  rw[B3]at r;cases r with
  | cons h t=>exact .cons (me h) (gX t)
abbrev KT(H:Hp):on (on Key×V)->on (on Key×Iv×Is)->Prop:=Paired λ p q=>p.1=q.1/\H q.2.1=some (.tup (p.1.map kV))/\RelV p.2 q.2.2
theorem KT.val(r:KT H a xs)(k:on Key):RelO (valV a k) ((atKey xs k).map (·.2)):=by
 induction r with
 | nil=>exact True.intro
 | @cons p q ps qs h t ih=>
  obtain⟨d,_,f⟩:=h;by_cases e:p.1=k
  ·have c:=d.symm.trans e;have b:atKey (q::qs) k=some q.2:=by simp[atKey,ba,c]
   rw[aD e,b];exact f
  ·have c:¬q.1=k:=λ z=>e (d.trans z);have b:atKey (q::qs) k=atKey qs k:=by simp[atKey,ba,c]
   rw[aE e,b];exact ih
theorem KT.repl(r:KT H a xs)(k:on Key)(f:RelV y u) :
  KT H (a.map λ c=>if c.1=k then(c.1,y)else c) (xs.map (putAt k u)):=by
 induction r with
 | nil=>exact .nil
 | @cons p q ps qs h t ih=>
  rw[B3,B3];refine .cons ?_ ih;obtain⟨b,d,g⟩:=h;unfold putAt;by_cases e:p.1=k
  ·rw[f8 e,f8 (b.symm.trans e)];exact⟨b,d,f⟩
  ·rw[g8 e,g8 (λ z=>e (b.trans z))];exact⟨b,d,g⟩
theorem KT.put(r:KT H a xs)(k:on Key)(d:H b=some (.tup (k.map kV)))(c:RelV y u) :
  KT H (putK a k y) (storedH xs k b u):=by
 have e:(a.any λ kv=>decide _)=(atKey xs k).isSome:=(by rw[sI,(r.val k).isSome_eq,Option.isSome_map]);unfold putK storedH;rw[e];by_cases q:(atKey xs k).isSome=true
 ·rw[f8 q,f8 q];exact r.repl k c
 ·rw[g8 q,g8 q];exact Paired.snoc r ⟨rfl,d,c⟩
theorem KT.keeps(r:KT H a xs)(e:∀b c,H b=some (.tup c)->d b=some (.tup c)):KT d a xs:=
 Paired.mapP r λ _ _ z=>⟨z.1,e _ _ z.2.1,z.2.2⟩
theorem mh(ok:HOk P w H h)(e:Rd H a u):u9 P w H h a u:=e.ok ok
theorem mi(ok:HOk P w H h)(e:Rd H a (.dK b)):b.length<=sizeLine/\(a==sysModules)=false/\∃vs,KV b vs/\h.DictOf (G9 P w) a vs:=
 show u9 P w H h a (.dK b)from mh ok e
theorem DQ(ok:HOk P w H h)(e:H a=some (.dK b)):b.length<=sizeLine/\(a==sysModules)=false/\∃vs,KV b vs/\h.DictOf (G9 P w) a vs:=mi ok (.inl e)
theorem mj(ok:HOk P w H h)(e:H a=some (.tup (ks.map kV))):(tupleKind (G9 P w)).is h ks a:=by
 obtain⟨_,b,r,o,f,d,n,c⟩:=(show u9 P w H h a (.tup _)from ok a _ e);exact⟨o,b.toArray,n,f,d.1,c,by simpa using gX r⟩
theorem dM(ok:HOk P w H h)(e:Rd H a (.dT b)):b.length<=sizeLine/\(a==sysModules)=false /\
  ∃xs,KT H b xs/\h.DictOfH (tupleKind (G9 P w)) a xs:=by
 obtain⟨z,y,xs,r,o,k,n,j,i,g,f,d⟩:=(show u9 P w H h a (.dT b)from mh ok e);refine⟨z,y,xs,r,o,k,n,j,i,g,f,λ x c=>?_,d⟩;have all:∀{l:on _} {m:on _},KT H l m->∀x∈m,(tupleKind (G9 P w)).is h x.1 x.2.1:=by
  intro l m q
  induction q with
  | nil=>intro x c;exact nomatch c
  | @cons p q ps qs hq t ih=>
   intro x c;rcases i7.mp c with e | c
   ·subst e;exact mj ok (by rw[←hq.1];exact hq.2.1)
   ·exact ih x c
 exact all r x c
theorem DR(ok:HOk P w H h)(e:H a=some (.dT b)):b.length<=sizeLine/\(a==sysModules)=false /\
  ∃xs,KT H b xs/\h.DictOfH (tupleKind (G9 P w)) a xs:=dM ok (.inl e)
def DGet(H:Hp)(a:Iv)(y:V)(r:Ir V):Prop:=
 (∃kvs k,Rd H a (.dK kvs)/\y=kV k/\r=valV kvs k)\/∃kvs k b,Rd H a (.dT kvs)/\y=.ref b/\H b=some (.tup (k.map kV))/\r=valV kvs k
def DPut(H:Hp)(a:Iv)(y v:V)(H':Hp):Prop:=
 (∃kvs k,H a=some (.dK kvs)/\y=kV k/\kvs.length<sizeLine/\H'=upd H a (.dK (putK kvs k v))) \/
 ∃kvs k b,H a=some (.dT kvs)/\y=.ref b/\H b=some (.tup (k.map kV))/\kvs.length<sizeLine/\H'=upd H a (.dT (putK kvs k v))
theorem DPut.t{k:on Key}(e:H a=some (.dT c))(f:H b=some (.tup (k.map kV)))(d:c.length<sizeLine) :
  DPut H a (.ref b) v (upd H a (.dT (putK c k v))):=.inr ⟨c,k,b,e,rfl,f,d,rfl⟩
theorem Inv.big(I:IV a):sysModules<s.heap.objs.size:=by
 exact cM IL ((I.mod.glob.keeps I.bk).lt)
theorem DS(x:A.units+1<cLine)(I:IV c)(g:DGet H a y (some v))(w:RelV y u)(h:∀i r,Inv X c σ H r->RelV v i->Q i r) :
  wpAny IQ A (getItem (.ref a) u) Q E s:=by
 rcases g with⟨j,k,e,o,l⟩ | ⟨j,k,b,e,o,eb,l⟩
 ·subst o;obtain⟨z,hd,vs,f,q⟩:=mi I.hok e;obtain⟨i,m,d⟩:=RelO.some_of (by rw[l];exact f.val k);exact wpAny_getItem_of (me w) q.mapOf m (h i _ (I.tok _) d)
 ·subst o;cases(w);obtain⟨z,hd,xs,f,q⟩:=dM I.hok e;obtain⟨i,m,d⟩:=RelO.some_of (by rw[l];exact f.val k);obtain⟨p,B,n⟩:=B0.mp m;refine wpAny_getItem_heap (iX x) (mj I.hok eb) q B ?_;rw[n];exact h i _ (I.tok _) d
theorem sM(I:IV c)(e:Mut (H a))(f:Heap.SameBut a s.heap h')(g:∃q,h'.get? a=some q)(new:u9 X.prog X.w (upd H a d) h' a d) :
  Inv X c σ (upd H a d) {s with heap:=h',toks:=t'}:=
 I.write e (.inl rfl) (λ b q h z=>(f.2 b h).trans z) g new
theorem DT(z:b.length<=sizeLine)(hd:(a==sysModules)=false)(c:KV b vs)(d:h'.DictOf (G9 P w) a vs) :
  u9 P w e h' a (.dK b):=⟨z,hd,vs,c,d⟩
theorem DU(P:A.units+1<cLine)(I:IV j)(g:DPut H a y v L)(C:RelV y u)(F:RelV v r)(h:∀B,Inv X j σ L B->Q () B) :
  wpAny IQ A (setItem (.ref a) u r) Q E s:=by
 rcases g with⟨f,k,e,p,l,w⟩ | ⟨f,k,b,e,p,eb,l,w⟩
 ·subst p w;obtain⟨z,hd,N,d,x⟩:=DQ I.hok e;have O:N.length<=sizeLine:=by rw[←d.length];exact z
  have o:(putK f k v).length<=sizeLine:=by have:=sJ f k v;omega
  refine wpAny_setItem_pairs (me C) x λ J i n=>h _ ?_;have R:∃q,J.get? a=some q:=let ⟨q,_,_,m,_⟩:=i;⟨q,m⟩;exact sM I (by rw[e];exact True.intro) n R (DT o hd (d.put k F) i)
 ·subst p w;cases(C);obtain⟨z,hd,M,d,x⟩:=DR I.hok e;have O:M.length<=sizeLine:=by rw[←fv d];exact z
  have o:(putK f k v).length<=sizeLine:=by have:=sJ f k v;omega
  refine wpAny_setItem_heap (iX P) (mj I.hok eb) x λ J i n=>h _ ?_;obtain⟨q,Z,ep,m,Y,W,U,_,S⟩:=i;refine sM I (by rw[e];exact True.intro) n ⟨q,m⟩ ⟨o,hd,_,(d.put k eb F).keeps λ c ys K=>?_,q,Z,ep,m,Y,W,U,S⟩;rw[n6 (xo K e (λ z=>nomatch z))];exact K
def NoSl(i:Ix):Prop:=∀ov iv,subscripted i false ov iv=operate [ov,iv] (getItem ov iv)
theorem DW
  (p:typeLookup (.type T) "__getitem__" = pure (some (.builtin m))) (n:NoSl a)
  (h:wpAny IR A (eval b env) (λ o f=>wpAny IR A (eval a env) (λ i c=>c.TypeIs o T/\wpAny IR A (getItem o i) Q E c) E f) E s) :
  wpAny IR A (eval (.Subscript b a pos) env) Q E s:=by
 refine Subscript_ (D9 h (λ o f j=>D9 j (λ i c d=>?_) λ _ _ x=>x) λ _ _ x=>x);obtain⟨l,d⟩:=d;unfold subscriptTail;refine f0 ?_;rw[getitemInPython_of_ne l.not_modules];refine f0 (wpAny_specialOf l p ?_);have k:wpAny IR A (subscripted a false o i) (λ r e=>wpAny IR A (letTemporaryGo b o r >>= λ _=>pure r) Q E e) E c:=by rw[n o i];exact wpAny_operating (D9 d (λ r e g=>f0 (wpAny_letTemporaryGo (g7 g))) λ _ _ x=>x)
 first
  | exact g7 (f0 k)
  | exact f0 _
  | exact f0 k
theorem DX(I:IV c)(g:DGet H a y o):s.TypeIs (.ref a) "dict":=by
 rcases g with⟨d,k,e,_,_⟩ | ⟨d,k,b,e,_,_,_⟩
 ·obtain⟨_,_,vs,_,f⟩:=mi I.hok e;exact f.typeIs
 ·obtain⟨_,_,xs,_,f⟩:=dM I.hok e;exact f.typeIs
noncomputable def DY(td ty tv:TE):TS:=λ D σ H=>tv σ H λ v H1=>td σ H1 λ x H2=>ty σ H2 λ y H3=>∃a H4,x=.ref a/\DPut H3 a y v H4/\D.nx σ H4
theorem DZ(z:X.A.units+1<cLine)(B:PE X o k)(C:PE X i f)(hv:PE X b j)(A:swapsWith b (some (.Subscript o i d)) pos.line X.env=pure false) :
  PS X (.Assign [.Subscript o i d] b pos) (DY k f j):=by
 intro c s e H D I h;refine wpAny_Assign_Subscript (thn (hv c s e H _ I h) λ r s1 ⟨v,N,K,n,w⟩=>thn (B c s1 e N _ K w) λ u s2 ⟨x,M,J,m,q⟩=>thn (C c s2 e M _ J q) λ iv s3 ⟨y,H3,F,l,a,L,ex,g,p⟩=>?_) A;subst ex;obtain rfl:u=Value.ref a:=m;exact DU z F g l n λ s4 E=>⟨e,L,E,p⟩
theorem Ea(h:Iw)(a:sysModules<h.objs.size):u9 P w H (h.push {cls:=.type "dict",data:=.dict #[]}) h.objs.size (.dT []):=
 ⟨G3 _,B5.mpr (Ne.symm (t9 a)),[],.nil,_,#[],0,t8 _ rfl,⟨rfl,rfl,rfl⟩,rfl,rfl,bf⟩
def Eb:TE:=λ _ H Q=>∀p,H p=none->Q (.ref p) (upd H p (.dT []))
theorem Ec:PE X (.Dict [] [] pos) Eb:=λ a s σ H Q I h=>
 wpAny_Dict_empty ⟨.ref s.heap.objs.size,_,I.laid (λ _ _ q=>k6 _ q) (k8 _) (Ea s.heap I.big),rfl,h _ (I.hok.fresh (k8 _))⟩
theorem RSt.growD(R:RSt D H σ δ O W)(k:H p=none)(u:mutO i=true):RSt D (upd H p i) σ δ O (p::W):=by
 have s:Same H (upd H p i):=v4 k;have c:Same _ (L2.wo (O++(p::W)) _):=λ b o e=>by
  obtain⟨w,e⟩:=C6 e;rw[k9 λ z=>?_]
  ·exact s b o e
  ·rcases i7.mp (dJ.mp z)with z | z
   ·rw[z,k]at e;cases e
   ·exact w z
 refine⟨λ j d h=>?_,λ j d h=>?_,R.inj,R.od.step (λ j d h=>⟨h,rfl⟩) (λ _ h _=>o4 _ h) (λ a _ _ h _=>s _ _ h),R.len,⟨λ a f=>?_,Same.refl _,λ a f=>?_,λ a f=>?_,R.hid.omS s⟩⟩
 ·obtain⟨v,n,l⟩:=R.val j d h;exact⟨v,n,l.mono c⟩
 ·obtain⟨a,g,r,A,n,l,y,x⟩:=R.own j d h;exact⟨a,g,r,A,n,o4 _ l,s _ _ y,x.mono c⟩
 ·rcases i7.mp (dJ.mp f)with z | z
  ·rw[z,x3];intro q;cases q
  ·intro q;exact R.hid.ot a z (s.free q)
 ·rcases i7.mp f with z | z
  ·exact⟨_,by rw[z];exact x3,u⟩
  ·obtain⟨g,q,m⟩:=R.hid.wl a z;exact⟨g,s _ _ q,m⟩
 ·rcases i7.mp f with z | z
  ·intro q;exact R.hid.ot p (F2 _ (by rw[←z];exact q)) k
  ·exact R.hid.dj a z
theorem RSt.setOd(R:RSt D H σ δ O W)(x:p∈W)(m:OdOk u p l)(A:H p=some l)(c:noOt i δ=true):RSt D H (σ.set i (some (.ref p))) (δ.set i (.od u)) O W:=by
 refine⟨λ j d h=>?_,λ j d h=>?_,λ j k a C B g f r o=>?_,λ j d h=>?_,by rw[E9,E9];exact R.len,R.hid⟩
 ·have b:=T3 h IT;rw[A5 (Ne.symm b)]at h ⊢;exact R.val j d h
 ·have b:=T3 h IT;rw[A5 (Ne.symm b)]at h ⊢;exact R.own j d h
 ·have w:=T3 g IT;have v:=T3 f IT;rw[A5 (Ne.symm w)]at g r;rw[A5 (Ne.symm v)]at f o;exact R.inj j k a C B g f r o
 ·have b:j=i:=by
   by_cases b:j=i
   ·exact b
   ·rw[A5 (Ne.symm b)]at h;exact sF c h
  subst b;obtain⟨y,e⟩:=dL h;cases e;refine⟨⟨p,l,m,O0 (by rw[R.len];exact y),x,A⟩,λ k d' q=>?_⟩;by_cases n:k=j
  ·exact n
  ·rw[A5 (Ne.symm n)]at q;exact sF c q
theorem RSt.writeOd(R:RSt D H σ δ O W)(K:δ[i]? = some (.od d))(P:σ[i]? = some (some (.ref p)))(B:p∈W)(Q:H p=some I)(C:dicO I=true)(w:OdOk y p x):RSt D (upd H p x) σ (δ.set i (.od y)) O W:=by
 have u:Same _ (L2.wo (O++W) (upd H p x)):=λ b o e=>by obtain⟨r,e⟩:=C6 e;rw[k9 r,n6 λ z=>r (by rw[z];exact y9 _ B)];exact e
 have A:∀{b:Iv} {n:on V},H b=some (.lst n)->b≠p:=λ {b n} h z=>by rw[z,Q]at h;cases h;cases C
 refine⟨λ j d h=>?_,λ j d h=>?_,λ j k a y X l g U S=>?_,λ j d h=>?_,by rw[E9];exact R.len,⟨λ b r q=>?_,Same.refl _,λ b r=>?_,R.hid.dj,R.hid.omW B⟩⟩
 ·have f:=T3 h IT;rw[A5 (Ne.symm f)]at h;obtain⟨v,l,g⟩:=R.val j d h;exact⟨v,l,g.mono u⟩
 ·have f:=T3 h IT;rw[A5 (Ne.symm f)]at h;obtain⟨b,n,E,M,l,g,F,L⟩:=R.own j d h;exact⟨b,n,E,M,l,g,by rw[n6 (A F)];exact F,L.mono u⟩
 ·have N:=T3 l IT;rw[A5 (Ne.symm N)]at l;rw[A5 (Ne.symm (T3 g IT))]at g;exact R.inj j k a y X l g U S
 ·have f:j=i:=by
   by_cases f:j=i
   ·exact f
   ·rw[A5 (Ne.symm f)]at h;exact(R.od i _ K).2 j _ h
  subst f;obtain⟨hl,e⟩:=dL h;cases e;refine⟨⟨p,x,w,P,B,x3⟩,λ k d' q=>?_⟩;by_cases J:k=j
  ·exact J
  ·rw[A5 (Ne.symm J)]at q;exact(R.od j _ K).2 k _ q
 ·by_cases c:b=p
  ·rw[c,x3]at q;cases q
  ·rw[n6 c]at q;exact R.hid.ot b r q
 ·by_cases c:b=p
  ·exact⟨_,by rw[c];exact x3,w.mut⟩
  ·obtain⟨n,q,m⟩:=R.hid.wl b r;exact⟨n,by rw[n6 c];exact q,m⟩
section
variable {X:Cx} {δ:on Sv} {o:Out} {e ek ed ea:Ix} {pos pos' npos spos apos cpos:Pos} {ra rb rc:Ir Re} {i:Nat} {x:Str} {re:Re}
theorem Ed(L:on ((Int×Int)×Int)):(oeK L).map (λ p=>DKey.t p.1)=L.map λ p=>.t [.inl p.1.1,.inl p.1.2]:=by
 unfold oeK;rw[q5];rfl
theorem Ee(L:on ((Int×Int)×Int)):RepL D H (L.map λ p=>.int p.2) ((oeK L).map (·.2)):=by
 unfold oeK;rw[q5]
 induction L with
 | nil=>exact E3.mpr rfl
 | cons p r a=>exact x4.mpr ⟨_,_,rfl,C3.mpr rfl,a⟩
def dkO:HO->Bool
 | .dK _=>true
 | .dT _=>true
 | _=>false
theorem Ef(hv:PE X (.Name x npos) (tVar i)):PE X (.Name x npos) (λ k H Q=>∃a o,k[i]? = some (some (.ref a))/\H a=some o/\dkO o=true/\∀c,Q (.ref a) (upd H a (.frz c o))):=by
 intro g s k H Q I h;obtain⟨a,o,y,f,d,q⟩:=h;refine thn (hv g s k H (λ v j=>v=.ref a/\j=H) I ⟨_,y,rfl,rfl⟩) λ u s1 t0=>?_;obtain⟨v,j,n,r1,w,r⟩:=t0
 subst w r;have ok:=n.hok _ _ f;obtain⟨c,z5⟩:∃c,s1.heap.get? a=some c:=by
  cases o with
  | dK m=>obtain⟨_,_,_,_,c,_,_,e,_⟩:=ok;exact⟨c,e⟩
  | dT m=>obtain⟨_,_,_,_,c,_,_,e,_⟩:=ok;exact⟨c,e⟩
  | _=>cases d
 have l:u9 X.prog X.w (upd j a (.frz c o)) s1.heap a o:=by
  refine ok.stay (λ _ _ _ e=>e) (λ b e=>?_) (λ b p e=>?_) (λ b p e=>?_) λ b _ _ _ _ e=>?_
  ·rw[n6 λ z=>by rw[z,f]at e;cases e;cases d];exact e
  ·rw[n6 λ z=>by rw[z,f]at e;cases e;cases d];exact e
  ·rw[n6 λ z=>by rw[z,f]at e;cases e;cases d];exact e
  ·rw[n6 λ z=>by rw[z,f]at e;cases e;cases d];exact e
 exact⟨.ref a,upd j a (.frz c o),n.write (by rw[f];cases o<;>first | trivial | cases d) (.inl rfl) (λ b u hb e=>e) ⟨c,z5⟩ ⟨z5,l⟩,r1,q c⟩
theorem Eg (hv : PE X (.Name x npos) (tVar i)) (h : (match δ[i]? with
   | some (.od d) => if isDc d then some (Out.rt (unT d) false) else none
   | _ => none) = some o) : PS X (.Return (some (.Name x npos)) pos) (dS X.D δ o) := by
 split at h
 ·rename_i d f;split at h
  rotate_left
  ·cases h
  rename_i g;cases h;refine (jM (Ef hv)).weak λ Dn σ H ⟨H0, O, W, R, j, fo, sm, k⟩ => ?_
  obtain ⟨⟨p, ob, n, m, a, l⟩, u⟩ := R.od i _ f;obtain ⟨L, c, b⟩ := n;subst c b;refine ⟨p, _, m, l, rfl, λ e => k _ _ (bM sm (j p a)) ?_⟩;show Rep X.D _ _ _;exact S4.mpr (.inr ⟨p, e, oeK L, rfl, by rw [k9 (R.hid.dj p a)]; exact x3, Ed L, Ee L⟩)
 ·cases h
theorem sN(h:V0 ek=false):NoSl ek:=λ ov iv=>by cases ek<;>first | rfl | cases h
theorem sO:∀{a:on (Key×V)} {b:on DV},RepL D H b (a.map (·.2))->F6 (.i k) (a.map λ p=>dKey p.1) b=some (.int v)->valV a (.inl k)=some (.int v)
 | [],b,r,h=>by cases b<;>cases h
 | _::a,[],r,h=>by cases h
 | (e,g)::a,d::b,r,h=>by
  obtain⟨w,ws,m,l,i⟩:=x4.mp r;cases m;have c:(if dKey e=.i k then some d else F6 (.i k) _ b)=some _:=h;by_cases f:e=.inl k
  ·subst f;rw[f8 (show dKey _=.i k from rfl)]at c;cases c;rw[aD rfl];show some g=_;rw[show g=.int v from C3.mp l]
  ·rw[g8 (λ z=>f (by cases e with | inl j=>cases z;rfl | inr j=>cases z))]at c;rw[aE f];exact sO i c
theorem sP:∀{a:on (Key×V)} {b:on DV},RepL D H b (a.map (·.2))->F6 (.s k) (a.map λ p=>dKey p.1) b=some d->∃v,valV a (.inr k)=some v/\Rep D H d v
 | [],b,r,h=>by cases b<;>cases h
 | _::a,[],r,h=>by cases h
 | (e,g)::a,n::b,r,h=>by
  obtain⟨w,ws,m,l,i⟩:=x4.mp r;cases m;have c:(if dKey e=.s k then some n else F6 (.s k) _ b)=some d:=h;by_cases f:e=.inr k
  ·subst f;rw[f8 (show dKey _=.s k from rfl)]at c;cases c;rw[aD rfl];exact⟨g,rfl,l⟩
  ·rw[g8 (λ z=>f (by cases e with | inl j=>cases z | inr j=>cases z;rfl))]at c;rw[aE f];exact sP i c
theorem gY{d:Type}{f:d->DKey}:∀{l:on d} {c:on DV},(∀a∈l,f a≠k)->F6 k (l.map f) c=none
 | [],c,_=>by cases c<;>rfl
 | a::l,[],_=>rfl
 | a::l,v::c,h=>by
  show(if f a=k then some v else F6 k _ c)=none;rw[g8 (h a (o5 ..))];exact gY λ b e=>h b (o4 _ e)
theorem sQ:∀{a:on (on Key×V)} {b:on DV},RepL D H b (a.map (·.2))->F6 (.t k) (a.map λ p=>DKey.t p.1) b=some (.int v)->valV a k=some (.int v)
 | [],b,r,h=>by cases b<;>cases h
 | _::a,[],r,h=>by cases h
 | (g,f)::a,d::b,r,h=>by
  obtain⟨w,ws,l,j,i⟩:=x4.mp r;cases l;have c:(if DKey.t g=.t k then some d else F6 (.t k) _ b)=some _:=h;by_cases e:g=k
  ·subst e;rw[f8 rfl]at c;cases c;rw[aD rfl];show some f=_;rw[show f=.int v from C3.mp j]
  ·rw[g8 (λ z=>e (DKey.t.inj z))]at c;rw[aE e];exact sQ i c
def mq(K:IE)(H:Hp)(a:Iv)(y:V)(r:Ir V):Prop:=DGet H a y r\/∃kvs k b,Rd H a (.dT kvs)/\y=.ref b/\SqT K H b (k.map kV)/\r=valV kvs k
theorem Eh(I:IV c)(e:SqT X.K H a (ks.map kV)):(tupleKind (G9 X.prog X.w)).is s.heap ks a:=by
 rcases e with h | ⟨o,b,n,g,f,d,_,h5⟩
 ·obtain⟨_,b,r,o,g,f,n,d⟩:=(show u9 X.prog X.w H s.heap a (.tup _)from mh I.hok h);exact⟨o,b.toArray,n,g,f.1,d,by simpa using gX r⟩
 ·exact⟨o,b,n,I.kIn a o g,f.1,d,gX h5⟩
theorem Ei{E:Is->Iu->Prop}(o:A.units+1<cLine)(I:IV c)(g:mq X.K H a y (some v))(n:RelV y u)(h:∀d m,Inv X c σ H m->RelV v d->Q d m) :
  wpAny IQ A (getItem (.ref a) u) Q E s:=by
 rcases g with g | ⟨kvs,k,b,e,ey,eb,l⟩
 ·exact DS o I g n h
 ·subst ey;cases(n);obtain⟨z,hd,xs,i,w⟩:=dM I.hok e;obtain⟨d,q,f⟩:=RelO.some_of (by rw[l];exact i.val k);obtain⟨p,r,j⟩:=B0.mp q;refine wpAny_getItem_heap (iX o) (Eh I eb) w r ?_;rw[j];exact h d _ (I.tok _) f
theorem Ej{o:Ir V}(I:IV c)(g:mq X.K H a y o):s.TypeIs (.ref a) "dict":=by
 rcases g with g | ⟨kvs,k,b,e,ey,eb,l⟩
 ·exact DX I g
 ·obtain⟨_,_,xs,_,d⟩:=dM I.hok e;exact d.typeIs
noncomputable def Ek(K:IE)(td ty:TE):TE:=λ σ H Q=>td σ H λ x H1=>ty σ H1 λ y H2=>∃a v,x=.ref a/\mq K H2 a y (some v)/\Q v H2
theorem sR{e:TE}(m:X.A.units+1<cLine)(o:PE X ea e)(p:PE X ek ty)(n:NoSl ek):PE X (.Subscript ea ek pos) (Ek X.K e ty):=by
 intro b s d H Q I h;refine DW PySem.F.slot_dict_getitem.lookup n (thn (o b s d H _ I h) λ u s1 ⟨x,z,r,j,l⟩=>thn (p b s1 d z _ r l) λ iv s2 t0=>?_);obtain⟨y,w,f,i,a,v,ex,g,k⟩:=t0;subst ex;obtain rfl:u=Value.ref a:=j;exact⟨Ej f g,Ei m f g i λ w' s3 q c=>⟨v,w,q,c,k⟩⟩
theorem sU(h:Rep D H (.tup [.int a,.int b]) v):∃p,v=.ref p/\SqT D.K H p (([.inl a,.inl b]:on Key).map kV):=by
 obtain⟨p,xs,j,c,i⟩:=J0.mp h;obtain⟨v1,vs,rfl,r1,g⟩:=x4.mp i;obtain⟨v2,d,rfl,f,e⟩:=x4.mp g;rw[C3.mp r1,C3.mp f,E3.mp e]at c;exact⟨p,j,c⟩
theorem El(hu:X.A.units+1<cLine)(ha:∀q,ra=some q->PE X ea IZ)(hk:∀q,rb=some q->PE X ek IZ)(hs:V0 ek=false)
  (h:(Re.thn ra λ x c=>Re.thn rb λ y _=>dixC x c y)=some re):PE X (.Subscript ea ek pos) (dE X.D δ re):=by
 have C:=λ t t' (hA:PE X ea t) (hB:PE X ek t')=>sR (pos:=pos) hu hA hB (sN hs);cases r:ra with
 | none=>rw[r]at h;cases h
 | some q=>
  rw[r]at h;have A:=ha q r;cases q with
  | ok Y cx=>
   cases o:rb with
   | none=>rw[o]at h;cases h
   | some w=>
    rw[o]at h;have B:=hk w o;cases w with
    | ok dk ck=>
     have f:dixC Y cx dk=some re:=h;unfold dixC at f;split at f
     ·rename_i F;split at f
      ·rename_i J;subst J;obtain⟨⟨ks,S⟩,hd,f⟩:=v5.mp f;obtain⟨d,b,rfl⟩:=B0.mp f;cases Y<;>cases hd;refine(C _ _ A B).weak λ N H Q ⟨O,W,R,p⟩=>⟨O,W,R,λ v Z s1 g=>⟨O,W,R.mono s1,λ U s s2 u=>?_⟩⟩
       obtain⟨K,_⟩:=dB.mp (u.all ((R.mono s1).hid.mono s2));subst K;rcases S4.mp g with⟨a,j,e,n,m,i,l⟩ | ⟨a,j,e,n,m,i,l⟩
       ·subst i;obtain⟨P,q1,w⟩:=sP l b;exact⟨a,P,n,.inl (.inl ⟨e,.inr F,.inr ⟨j,s2 _ _ (C6 m).2⟩,rfl,q1.symm⟩),p _ s (s1.trans s2) (w.mono s2.wo:Rep X.D (L2.wo (O++W) s) d P)⟩
       ·subst i;rw[gY (λ a _ z=>by cases z)]at b;cases b
      ·cases f
     unfold dixD at f;split at f
     ·rename_i ks S F _;split at f
      ·rename_i E b;cases f;refine(C _ _ A B).weak λ N H Q ⟨O,W,R,p⟩=>⟨O,W,R,λ v Z s1 g=>⟨O,W,R.mono s1,λ U s s2 u=>?_⟩⟩
       have I:=u.int ((R.mono s1).hid.mono s2);subst I;rcases S4.mp (g.all (R.hid.mono s1))with⟨a,j,e,n,m,i,l⟩ | ⟨a,j,e,n,m,i,l⟩
       ·subst i;exact⟨a,.int E,n,.inl (.inl ⟨e,.inl F,.inr ⟨j,s2 _ _ m⟩,rfl,(sO l b).symm⟩),p _ s (s1.trans s2) x5⟩
       ·subst i;rw[gY (λ a _ z=>by cases z)]at b;cases b
      ·cases f
     ·rename_i ks S a0 b0 _;split at f
      ·rename_i E b;cases f;refine(C _ _ A B).weak λ N H Q ⟨O,W,R,p⟩=>⟨O,W,R,λ v Z s1 g=>⟨O,W,R.mono s1,λ U s s2 u=>?_⟩⟩
       obtain⟨pk,M,L⟩:=sU (u.all ((R.mono s1).hid.mono s2));rcases S4.mp (g.all (R.hid.mono s1))with⟨a,j,e,n,m,i,l⟩ | ⟨a,j,e,n,m,i,l⟩
       ·subst i;rw[gY (λ a _ z=>by rcases a with⟨k | k,_⟩<;>cases z)]at b;cases b
       ·subst i;exact⟨a,.int E,n,.inr ⟨e,_,pk,.inr ⟨j,s2 _ _ m⟩,M,L,(sQ l b).symm⟩,p _ s (s1.trans s2) x5⟩
      ·cases f
     ·cases f
end
noncomputable def kP(p:Int×Int):on Key:=[.inl p.1,.inl p.2]
theorem gZ(h:kP p=kP q):p=q:=by
 unfold kP at h;obtain⟨a,b⟩:=p;obtain⟨c,d⟩:=q;simp at h;rw[h.1,h.2]
noncomputable def putP(L:on ((Int×Int)×Int))(k:Int×Int)(z:Int):on ((Int×Int)×Int):=if(L.any λ p=>decide (p.1=k))=true then L.map (λ p=>if p.1=k then(p.1,z)else p)else L++[(k,z)]
theorem Em(L:on ((Int×Int)×Int))(k:Int×Int)(z:Int):putK (oeK L) (kP k) (.int z)=oeK (putP L k z):=by
 have e:((oeK L).any λ a=>decide (a.1=kP k))=L.any λ p=>decide (p.1=k):=by
  unfold oeK;rw[fD]
  congr 1
  funext p
  show decide (kP p.1=kP k)=decide _;by_cases h:p.1=k
  ·rw[A0 (by rw[h]),A0 h]
  ·rw[C7 (λ z=>h (gZ z)),C7 h]
 unfold putK putP;rw[e];split
 ·unfold oeK;rw[q5,q5];apply M5;intro p _;show(if kP p.1=kP k then(kP p.1,V.int z)else(kP p.1,V.int p.2))=(kP (if p.1=k then(p.1,z)else p).1,V.int (if p.1=k then(p.1,z)else p).2);by_cases h:p.1=k
  ·rw[f8 (by rw[h]),f8 h]
  ·rw[g8 (λ z=>h (gZ z)),g8 h]
 ·unfold oeK;rw[C4];rfl
noncomputable def kD(p:Int×Int):DKey:=.t [.inl p.1,.inl p.2]
theorem mr(h:kD p=kD q):p=q:=gZ (DKey.t.inj h)
theorem En(L:on ((Int×Int)×Int))(k:Int×Int)(z:Int):putD (kD k) (.int z) (L.map λ p=>kD p.1) (L.map λ p=>.int p.2)=((putP L k z).map (λ p=>kD p.1),(putP L k z).map (λ p=>.int p.2)):=by
 have e:(kD k∈L.map λ p=>kD p.1)↔(L.any λ p=>decide (p.1=k))=true:=by
  rw[i8,U1];constructor
  ·rintro⟨p,c,b⟩;exact⟨p,c,by rw[B2];exact mr b⟩
  ·rintro⟨p,c,b⟩;exact⟨p,c,by rw[B2.mp b]⟩
 unfold putD putP;by_cases h:(L.any λ p=>decide (p.1=k))=true
 ·rw[f8 (e.mpr h),f8 h,q5,q5];refine Prod.ext ?_ ?_
  ·apply M5;intro p _;show kD p.1=kD (if p.1=k then(p.1,z)else p).1;split<;>rfl
  ·show List.map _ _=_;rw[List.zip_map_left,List.zip_map_right];have:∀(L:on ((Int×Int)×Int)),List.zip L L=L.map λ p=>(p,p):=by
    intro L
    induction L with
    | nil=>rfl
    | cons a r d=>rw[List.zip_cons_cons,d];rfl
   rw[this,q5,q5,q5];apply M5;intro p _;show(if kD p.1=kD k then DV.int z else DV.int p.2)=DV.int (if p.1=k then(p.1,z)else p).2;by_cases h:p.1=k
   ·rw[f8 (by rw[h]),f8 h]
   ·rw[g8 (λ z=>h (mr z)),g8 h]
 ·rw[g8 (λ z=>h (e.mp z)),g8 h,C4,C4];rfl
theorem Eo(m:X.N.Nodup)(g:X.N[i]? = some x)(f:Loc X.env.scope x)(j:X.fn x=true\/X.env.scope.names.lookup x=some .local)(h:(if noOt i δ then some (Out.nx (δ.set i (.od (.tup [.dct [] []]))))else none)=some o):PS X (.Assign [.Name x c] (.Dict [] [] b) pos) (dS X.D δ o):=by
 split at h
 ·rename_i e;cases h;refine(oT m g f Ec rfl j).weak λ Dn σ H ⟨H0,O,W,R,n,fo,sm,k⟩=>λ p d=>?_
  exact k _ _ _ ((R.growD d rfl).setOd (o5 ..) ⟨[],rfl,rfl⟩ x3 e) (λ a l=>by
   rcases i7.mp l with z | z
   ·rw[z];exact sm.free d
   ·exact n a z) (sm.trans (v4 d))
 ·cases h
theorem Ep(h:F6 (kD k) (L.map λ p=>kD p.1) (L.map λ p=>.int p.2)=some (.int v)):valV (oeK L) (kP k)=some (.int v):=by
 induction L with
 | nil=>cases h
 | cons p r c=>
  have b:(if kD p.1=kD k then some (DV.int p.2)else F6 (kD k) _ _)=some _:=h;show valV ((kP p.1,V.int p.2)::oeK r) (kP k)=_;by_cases a:p.1=k
  ·rw[f8 (by rw[a])]at b;cases b;rw[aD (by rw[a])]
  ·rw[g8 (λ z=>a (mr z))]at b;rw[aE (λ z=>a (gZ z))];exact c b
theorem Er(hu:X.A.units+1<cLine)(hv:PE X (.Name x f) (tVar i))(he:∀q,I=some q->PE X e IZ)(hk:∀q,F=some q->PA X es (dA X.D δ q))(hc:aq e=false)
  (h:(match δ[i]? with
   | some (.od (.tup [.dct ks C]))=>Re.thnS δ I λ d _=>Rs.thnS δ F λ l=>(dppD i δ ks C l d).map Out.nx
   | _=>none)=some o):PS X (.Assign [.Subscript (.Name x f) (.Tuple es x1 r) s] e pos) (dS X.D δ o):=by
 split at h
 ·rename_i ks C Y;cases m:I with
  | none=>rw[m]at h;cases h
  | some q=>
   rw[m]at h;have A:=he q m;cases q with
   | ok d cl=>
    cases j:F with
    | none=>rw[j]at h;cases h
    | some S=>
     rw[j]at h;have B:=hk S j;cases S with
     | ok l=>
      obtain⟨δ',n,h2⟩:=B0.mp h;cases h2;unfold dppD at n;split at n
      ·rename_i a ca b cb z;split at n
       ·rename_i U;cases n;refine((λ t t' (hA:PE X e t) (hB:PA X es t')=>DZ hu hv (pc hB) hA (md hc)) _ _ A B).weak λ Dn σ H ⟨H0,O,W,R,Z,fo,sm,k⟩=>⟨O,W,R,λ v H1 s1 g=>?_⟩
        obtain⟨⟨p,ob,e0,e1,e2,e3⟩,u⟩:=R.od i _ Y;obtain⟨L,Q,eo⟩:∃L,DV.tup _=.tup [oeD L]/\ob=.dT (oeK L):=e0;subst eo;obtain⟨P,N⟩:ks=L.map (λ p=>kD p.1)/\C=L.map _:=DV.dct.inj (fy (DV.tup.inj Q)).1;subst P N;refine⟨.ref p,e1,O,W,R.mono s1,λ vs2 H2 s2 g2=>?_⟩;have M:=g.int (R.hid.mono s1);obtain⟨w1,w2,ew,g3,g4⟩:=g2.two;have w:=(R.mono s1).hid.mono s2;have K:=g3.int w;have J:=g4.int w;subst M K J ew;refine⟨by show(2:Nat)<=sizeLine;decide,λ q hq=>?_⟩;have E:Same H2 (upd H2 q (.tup [.int a,.int b])):=v4 hq;have y:=E _ _ (s2 _ _ (s1 _ _ e3));rw[g6]at U;refine⟨p,_,rfl,DPut.t (k:=kP (a,b)) y x3 (by unfold oeK;rw[g6];exact u6 U IL),?_⟩;rw[Em];have pe:=En L (a,b) z;unfold kD at pe k;rw[pe]at k;exact k σ _ W ((((R.mono s1).mono s2).mono E).writeOd Y e1 e2 y rfl ⟨_,rfl,rfl⟩) Z (bM (((sm.trans s1).trans s2).trans E) (Z p e2))
       ·cases n
      ·cases n
 ·cases h
theorem Es(C:X.A.units+1<cLine)(hv:PE X (.Name x a) (tVar i))(F:∀q,m=some q->PE X j IZ)(E:V0 j=false)
  (h:(match δ[i]? with
   | some (.od (.tup [.dct ks g]))=>Re.thn m λ y _=>dgpD ks g y
   | _=>none)=some l):PE X (.Subscript (.Name x a) j pos) (dE X.D δ l):=by
 split at h
 ·rename_i ks g I;cases b:m with
  | none=>rw[b]at h;cases h
  | some r=>
   rw[b]at h;have B:=F r b;cases r with
   | ok dk ck=>
    have e:dgpD ks g dk=some l:=h;unfold dgpD at e;split at e
    ·rename_i Y U;split at e
     ·rename_i v n;cases e;refine((λ w (J:PE X j w)=>sR C hv J (sN E)) _ B).weak λ σ H Q t0=>?_;obtain⟨O,W,R,p⟩:=t0
      obtain⟨⟨s,A,S,P,e2,N⟩,u⟩:=R.od i _ I;obtain⟨L,o,M⟩:∃L,DV.tup _=.tup _/\A=.dT _:=S;subst M;obtain⟨d,c⟩:ks=L.map _/\g=L.map _:=DV.dct.inj (fy (DV.tup.inj o)).1;subst d c;refine⟨.ref s,P,O,W,R,λ v2 Z s2 K=>?_⟩;obtain⟨z,d,c⟩:=sU (K.all (R.hid.mono s2));exact⟨s,.int v,rfl,.inr ⟨oeK L,_,z,.inl (s2 _ _ N),d,c,(Ep (k:=(Y,U)) n).symm⟩,p _ Z s2 x5⟩
     ·cases e
    ·cases e
 ·cases h
def Kp(a:Iv)(h h':Iw):Prop:=∀b o,b≠a->h.get? b=some o->h'.get? b=some o
theorem Kp.of{a:Iv}{h h':Iw}(x:Heap.SameBut a h h'):Kp a h h':=λ b o n e=>x.extBut b o n e
theorem Kp.trans(x:Kp a h h')(y:Kp a h' c):Kp a h c:=λ b o n e=>y b o n (x b o n e)
theorem Kp.push{a:Iv}{h h':Iw}(x:Kp a h h')(o':Obj):Kp a h (h'.push o'):=λ b o n e=>k6 _ (x b o n e)
theorem Et(hd:(d==sysModules)=false):MeetsIn prog w (Builtin.«dict.items» ⟨[.ref d],[]⟩) (λ _ R s=>s.TypeIs (.ref d) "dict" /\
  R (.ok (.ret (.ref s.heap.objs.size))) {s with heap:=s.heap.push {cls:=.type "dict_items",data:=.fields #[.ref d]}}):=.of_wp λ A R s q=>by
 have a:¬((d==sysModules)=true):=by rw[hd];exact B1
 unfold Builtin.«dict.items» Builtin.Dict.noArgs Builtin.Dict.showsAll;refine f0 (f0 (wpAny_notOrdered_dict q.1 (g7 ?_)));show wpAny _ _ _ _ _ s;rw[g8 a];exact f0 (g7 (f0 (E8 (g7 ⟨_,rfl,q.2⟩))))
theorem Eu(hv:s.heap.IsItemsView v d)(c:s.heap.get? d=some b)(a:b.data=.dict es ep)
  (q:Q (.ref s.heap.objs.size) {s with heap:=s.heap.push {cls:=.type "dict_itemiterator",data:=.fields #[.none,.bool false,.ref d,.int 0 0,.int es.size 0,.int ep 0,.none,.none]}}):wpAny IR A (pyIter (.ref v)) Q E s:=by
 obtain⟨_,f,_,e⟩:=id hv;refine jc hv.typeIs oE (K2 oE hv.typeIs F.entry_dict_items_iter ?_ (F.args_dict_items_iter_1 _));unfold Builtin.«dict_items.__iter__» Builtin.Dict_items.dictOf Builtin.Dict_items.newIterator;refine f0 (g7 (f0 (f0 (G8 f e rfl (g7 (f0 (f0 (wpAny_dictEntries c a (f0 (wpAny_dictEpoch c a ?_))))))))));rw[show Builtin.Dict_items.ownsTuple "dict_itemiterator" = true from by decide];exact E8 (g7 ⟨_,rfl,"dict_itemiterator",_,⟨_,t8 _ rfl,rfl⟩,F.slot_dict_itemiterator_next.lookup,q⟩) (by show(8:Nat)<=_;rw[cN];omega)
theorem sV{ov:Is}(P:A.handled=none)(c:IsItemIter s.heap it d i es.size ep ok ov)(g:s.heap.get? d=some u)(k:u.data=.dict es ep)
  (e:∀en h',es[i]? = some en->IsItemIterOut h' it d (i+1) es.size ep en.key en.val s.heap.objs.size->h'.get? s.heap.objs.size=some {cls:=.type "tuple",data:=.seq #[en.key,en.val]} -> Kp it s.heap h'->Q (some (.ref s.heap.objs.size)) {s with heap:=h'})
  (f:∀h',es[i]? = none->Kp it s.heap h'->Q none {s with heap:=h'}):wpAny IR A (pyNext (.ref it)) Q E s:=by
 have ty:∀{h:Iw} {j:Nat} {x y:Is},IsItemIter h it d j es.size ep x y->Shared.TypeIs {s with heap:=h} (.ref it) "dict_itemiterator":=λ z=>⟨_,z,rfl⟩;have o:Builtin.Dict_items.ownsTuple "dict_itemiterator" = true:=by decide
 have O:¬((Value.ref d==Value.none)=true):=B1;unfold pyNext;refine f0 (aj (Q8 (ty c) nP (K2 nP (ty c) F.entry_dict_itemiterator_next ?_ (F.args_dict_itemiterator_next_1 _))));refine f0 (g7 (f0 (f0 (f0 (iI (ty c) (g7 (f0 (cG c rfl ?_))))))));simp only[o,if_true];show wpAny _ _ (if(Value.ref d==Value.none)=true then _ else _) _ _ s;rw[g8 O];refine f0 (g7 (f0 (wpAny_dictEntries g k ?_)));rw[g8 IX];refine f0 (g7 (f0 (wpAny_dictEpoch g k ?_)));rw[g8 IX];refine g7 ?_;dsimp only;rw[g8 (show ¬((i:Int)<0) by omega),B7];cases B:es[i]? with
 | none=>
  dsimp only;refine f0 (f0 (iI (ty c) (g7 ?_)));simp only[o,if_true];refine f0 (P4 c IX λ l r s1=>f0 ?_);unfold newExc newTuple;refine f0 (E8 (f0 (m:=firstArgMember _ _) (bh (a:=Value.none) (by first | rfl | (simp only[firstArgMember];rfl)) (E8 (wpAny_raiseNew_none P (f0 (cw (T:="StopIteration") (b:=true) ⟨_,t8 _ rfl,rfl⟩ fq (g7 ?_)))) (by size_fits)))) (by size_fits));exact f _ B (((Kp.of s1).push _).push _)
 | some en=>
  dsimp only;refine f0 (f0 (iI (ty c) (g7 (f0 (iR (ty c) ?_)))));simp only[o,if_true];refine f0 (P4 c IX λ l r s1=>?_);have p:IsItemIter l it d (i+1) es.size ep ok ov:=by unfold IsItemIter;rw[show((i+1:Nat):Int)=(i:Int)+1 by omega];exact r
  refine f0 (L4 (f0 (iR (ty p) (f0 (iR (ty p) ?_)))));show wpAny _ _ _ _ _ {s with heap:=l};unfold Builtin.Dict_items.pairFromOwner Builtin.Dict_items.ownedTupleIsFree;have sz:=s1.1;have n:IsItemIter (l.push {cls:=.type "tuple",data:=.seq #[en.key,en.val]}) it d (i+1) es.size ep ok ov:=k6 _ p;have J:(l.push {cls:=.type "tuple",data:=.seq #[en.key,en.val]}).get? s.heap.objs.size=some {cls:=.type "tuple",data:=.seq #[en.key,en.val]}:=by rw[←sz];exact t8 _ rfl
  refine f0 (wpAny_newTuple (f0 (f0 (G8 n rfl (x:=.none) rfl (g7 ?_)))));simp only[if_true];refine f0 (G8 n rfl (x:=ok) rfl (f0 (G8 n rfl (x:=ov) rfl ?_)));refine f0 (P4 n IX λ h3 I N=>f0 (P4 I IX λ h4 H M=>f0 (P4 H IX λ h5 C L=>f0 (P4 C IX λ R q K=>?_))));have v:=(((Kp.of N).trans (.of M)).trans (.of L)).trans (.of K);refine f0 (bn (g7 (g7 ⟨_,rfl,g7 ?_⟩)));rw[sz]at q ⊢;exact e en R B q (v _ _ (Ne.symm (t9 (n7 c))) J) (((Kp.of s1).push _).trans v)
def ItP(a:Iv)(ob:Obj)(qs:on Iv)(kvs:on (on Key×V)):It:=
  ⟨λ i H=>H a=some (.frz ob (.dT kvs))/\∃k v,kvs[i]? = some (k,v),
   λ i H x H'=>∃p q k v,x=.ref p/\H p=none/\kvs[i]? = some (k,v)/\qs[i]? = some q/\H q=some (.tup (k.map kV))/\H'=upd H p (.tup [.ref q,v]),
   λ i H=>H a=some (.frz ob (.dT kvs))/\kvs.length<=i⟩
theorem Ev(r:KT H c xs):∀{i:Nat} {k:on Key} {v:V},c[i]? = some (k,v)->∃b u,xs[i]? = some (k,b,u)/\H b=some (.tup (k.map kV))/\RelV v u:=by
 induction r with
 | nil=>intro i k v h;cases h
 | cons p t e=>
  intro i k v h;cases i with
  | zero=>
   obtain⟨p1,p2,p3⟩:=p;rename_i a b _ _;obtain⟨a1,a2⟩:=a;obtain⟨b1,g,f⟩:=b;cases h;have d:=p1;subst d;exact⟨g,f,rfl,p2,p3⟩
  | succ i=>exact e h
theorem KT.length(r:KT H a xs):a.length=xs.length:=by
 induction r with
 | nil=>rfl
 | cons _ _ b=>rw[w6,w6,b]
theorem mt(I:IV b)(h:H a=some (.frz c (.dT d)))(hd:c.data=.dict es ep) :
  s.heap.get? a=some c/\(a==sysModules)=false/\c.ExactDict/\∃xs,KT H d xs/\es.toList=xs.map (entryOfKey (tupleKind (G9 X.prog X.w))):=by
 obtain⟨e,z1,j,xs,i,o,m,n,g,l,f,k,y5⟩:=(show u9 X.prog X.w H s.heap a (.frz c _)from I.hok _ _ h);rw[e]at g;cases g;rw[hd]at f;cases f;exact⟨e,j,l,xs,i,k⟩
def sW(es:Iy DictEntry)(qs:on Iv):Prop:=es.toList.map (·.key)=qs.map Value.ref
theorem Ew{K:IE}(hd:ob.data=.dict es ep)(M:sW es C) :
  Turn P w K (.Tuple elts k pos) (ItP a ob C F) [it] it (λ i h=>∃ok ov,IsItemIter h it a i es.size ep ok ov) where
 mem:=by simp
 obj:=λ i h st b d=>by obtain⟨ok,ov,g⟩:=st;rw[u4]at d;subst d;exact⟨_,g,λ v q=>by cases q⟩
 keep:=λ i h y st q=>by obtain⟨ok,ov,g⟩:=st;exact⟨ok,ov,q it IX _ g⟩
 item:=by
  intro X S J U R i j s Z H E I x st O;subst S J U;obtain⟨ok,ov,g⟩:=st;obtain⟨W,k0,v0,r⟩:=O;obtain⟨B,z2,z4,xs,A,z⟩:=mt I W hd;obtain⟨b,u,hu,d,ru⟩:=Ev A r;have Q:es[i]? = some (entryOfKey (tupleKind (G9 X.prog X.w)) (k0,b,u)):=by rw[entry_at z,hu];rfl
  have L:C[i]? = some b:=by
   have h1:(es.toList.map (·.key))[i]? = some (.ref b):=by rw[q0,K9,Q];rfl
   rw[M,q0]at h1;obtain⟨c,e1,e2⟩:=B0.mp h1;cases e2;exact e1
  refine sV (I.ok.hd R) g B hd (λ en y f b2 b3 b5=>?_) (λ y p _=>by rw[Q]at p;cases p);rw[Q]at f;cases f;refine⟨_,rfl,?_⟩;refine wpAny_letOwnedTupleGo_items b2 λ h2 N t2=>?_;have m:=R4 (n7 g);have I1:=I.turnedL (t':=s.toks) (λ b o d e=>t2.extBut _ _ (λ q=>d (by simp[q])) (b5 b o (λ q=>d (by simp[q])) e)) x;have l:=I.hok.fresh (k8 _);have Y:=I.fpOk (k8 _) l;have I2:Inv X j Z (upd H s.heap.objs.size (.tup [.ref b,v0])) {s with heap:=h2}:=I1.track l (cg I.sz) Y.2.1 (λ n c e=>Y.2.2.2.2.1 n c e) (λ q M=>Y.2.2.2.2.2 q M)
   ⟨by show(2:Nat)<=sizeLine;decide,[.ref b,u],.cons rfl (.cons ru .nil),_,(t2.extBut _ _ m b3),⟨rfl,rfl⟩,_,rfl⟩
  refine⟨.ref s.heap.objs.size,_,I2,rfl,⟨_,b,k0,v0,rfl,l,r,L,d,rfl⟩,⟨_,_,N⟩,λ b d=>?_⟩;rw[u4]at d;subst d;rw[n6 (Ne.symm m)];exact(x b IX).1
 done:=by
  intro X S J U R i j s Z H E I x st O;subst S J U;obtain⟨ok,ov,g⟩:=st;obtain⟨W,r⟩:=O;obtain⟨B,z2,z4,xs,A,z⟩:=mt I W hd;have hl:es.size<=i:=by rw[size_of_entries z,←A.length];exact r
  exact sV (I.ok.hd R) g B hd (λ en y f _ _ _=>by rw[T8 hl]at f;cases f) λ y _ a=>⟨rfl,I.turnedL (t':=s.toks) (ch:=[it]) (λ b o d e=>a b o (λ q=>d (by simp[q])) e) x⟩
 self:=λ _ _ _ _ _ st h=>by obtain⟨ok,ov,g⟩:=st;exact PySem.W.kcp_self g h
theorem Wk.itemsP{K:on Iv}(h:L2.wo K g a=some (.frz C (.dT b)))(e:b=oeK L)(P:∀q∈B,∃n,g q=some (.tup n))(R:Hdn J g):Wk D (ItP a C B b) (L.map λ p=>.tup [.tup [.int p.1.1,.int p.1.2],.int p.2]) K J g:=by
 subst e;have Q:(oeK L).length=L.length:=by unfold oeK;rw[g6]
 have c:∀(i:Nat),(oeK L)[i]? = (L[i]?).map λ p=>(kP p.1,V.int p.2):=λ i=>by unfold oeK;rw[q0];rfl
 refine⟨λ i H s I=>?_,λ i H x U y=>?_,λ i H x U d M s s' y e F=>?_,λ H s=>?_⟩
 ·rw[g6]at I;exact⟨A4 _ _ (s _ _ h),kP L[i].1,.int L[i].2,by rw[c,k7 I];rfl⟩
 ·obtain⟨p,q,k,v,_,f,_,_,_,e⟩:=y;rw[e];exact v4 f
 ·obtain⟨p,q,k,v,ex,f,j,N,r,S⟩:=y;rw[q0]at e;rw[c]at j;cases E:L[i]? with
  | none=>rw[E]at e;cases e
  | some O=>
   rw[E]at e j;cases e;cases j;have l:q∉M:=λ z=>by
    obtain⟨n,w⟩:=P q (L0 N);rcases(F q z).2 with u | u
    ·obtain⟨o,A,m⟩:=R q u;rw[w]at A;cases A;cases m
    ·rw[w]at u;cases u
   subst S;have r1:Rep D (L2.wo M (upd H p (.tup [.ref q,.int O.2]))) _ _:=
    J0.mpr ⟨q,_,rfl,SqT.of (by rw[k9 l,n6 (A7 r f)];exact r),x4.mpr ⟨_,_,rfl,C3.mpr rfl,RepL.one (C3.mpr rfl)⟩⟩
   exact J0.mpr ⟨p,_,ex,SqT.of (by rw[k9 (λ z=>(F p z).1 f)];exact x3),x4.mpr ⟨_,_,rfl,r1,RepL.one (C3.mpr rfl)⟩⟩
 ·exact⟨A4 _ _ (s _ _ h),by rw[g6,Q];exact k8 _⟩
theorem Ex(he:PE X e S)(n:attributeBase e "items" X.env (eval e X.env)=eval e X.env)(j:(apos.endLine==pos.line)=true) :
  PI X (.Tuple elts k tpos) (.Call (.Attribute e "items" apos) [] [] pos) (λ C H R=>S C H λ x g=>∃a f d,x=.ref a/\g a=some (.frz f (.dT d))/\∀U:on Iv,(∀q∈U,∃F,g q=some (.tup F))->R (ItP a f U d) g):=by
 intro u s C H R I h;refine oh n j (thn (he u s C H _ I h) λ v s1 t0=>?_);obtain⟨x,g,B,r1,a,f,d,e1,L,q⟩:=t0;subst e1;cases r1;obtain⟨i,w,A,N,E⟩:∃i w A,s1.heap.get? a=some i/\i.data=.dict w A:=by obtain⟨r,z1,Q,xs,P,o,w,A,y1,y2,y3,y4⟩:=(show u9 X.prog X.w g s1.heap a (.frz f (.dT d))from B.hok _ _ L);exact⟨o,w,A,y1,y3⟩
 have yo:i=f:=(by obtain⟨r,_⟩:=(show u9 X.prog X.w g s1.heap a (.frz f (.dT d))from B.hok _ _ L);rw[r]at N;cases N;rfl);subst yo;obtain⟨r,Q,O,xs,P,Z⟩:=mt B L E;have J:s1.TypeIs (.ref a) "dict":=⟨i,r,O.1⟩;have nD:∀b,Value.ref a=.ref b->∃f,s1.heap.get? b=some f/\f.dict=none:=λ b q=>by cases q;exact⟨i,r,O.2.1⟩
 refine⟨"dict","dict.items",PySem.F.plainAttrs_dict,ox,PySem.F.type_dict_items,J,nD,bY rfl (PySem.evalArgs_none ?_)⟩;refine call_meetsIn ox J PySem.F.entry_dict_items (PySem.F.args_dict_items_1 _) (Et Q) ⟨J,?_⟩;have W:∀b o,s1.heap.get? b=some o->(s1.heap.push {cls:=.type "dict_items",data:=.fields #[.ref a]}).get? b=some o:=λ b o e=>k6 _ e;have M:=B.kept (t':=s1.toks) W;refine Eu ⟨_,t8 _ rfl,rfl,rfl⟩ (W _ _ r) E ?_;refine⟨_,[_],_,ItP a i _ d,g,rfl,M.kept (t':=s1.toks) λ b o e=>k6 _ e,Ew (elts:=elts) (k:=k) (pos:=tpos) E ((by unfold sW;rw[Z,q5,q5];rfl)),⟨.none,.none,t8 _ rfl⟩,λ c Y=>?_,q _ λ b hb=>?_⟩
 ·rw[u4]at Y;subst Y;exact M.fpOk (k8 _) (M.hok.fresh (k8 _))
 ·obtain⟨y,hy,rfl⟩:=i8.mp hb;have all:∀{l:on (on Key×V)} {m:on _},KT g l m->∀x∈m,∃F,g x.2.1=some (.tup F):=by
   intro l m q
   induction q with
   | nil=>intro x K;exact nomatch K
   | cons p t ih=>
    intro x K;rcases i7.mp K with z | z
    ·rw[z];exact⟨_,p.2.1⟩
    ·exact ih x z
  exact all P y hy
theorem Ey(h:kvp? ks vs=some L){a:on (Key×V)}(e:a.map (λ p=>dKey p.1)=ks):L=[]/\a=[]:=by
 cases a with
 | nil=>
  subst e;cases vs with
  | nil=>cases h;exact⟨rfl,rfl⟩
  | cons _ _=>cases h
 | cons p a=>
  subst e;obtain⟨k,v⟩:=p;cases k<;>cases vs<;>cases h
theorem Ez:∀{ks:on DKey} {d:on DV} {L:on ((Int×Int)×Int)},kvp? ks d=some L->∀{D:Dm} {H:Hp} {c:on (on Key×V)},c.map (λ p=>DKey.t p.1)=ks->RepL D H d (c.map (·.2))->c=oeK L:=by
 intro ks
 induction ks with
 | nil=>
  intro d L h D H c e r;cases c with
  | nil=>cases d with
   | nil=>cases h;rfl
   | cons _ _=>cases h
  | cons _ _=>cases e
 | cons l ks m=>
  intro d L h D H c e r;unfold kvp? at h;split at h
  ·exact absurd (by assumption:l::ks=[]) (List.cons_ne_nil _ _)
  ·rename_i a b j v g q;cases q;obtain⟨L',o,n⟩:=B0.mp h;subst n;cases c with
   | nil=>cases e
   | cons p c=>
    obtain⟨k,i⟩:=p;obtain⟨w,ws,y,x,u⟩:=x4.mp r;cases y;have f:=fy e;rw[m o f.2 u,show k=[.inl a,.inl b]from DKey.t.inj f.1,show i=.int v from C3.mp x];rfl
  ·cases h
theorem EA(i:attributeBase e "items" X.env (eval e X.env)=eval e X.env)(g:(d.endLine==pos.line)=true)(F:∀q,r=some q->PE X e IZ)
  (h:s9 (Re.thn r λ x c=>itmD x c)=some o):PI X (.Tuple elts k j) (.Call (.Attribute e "items" d) [] [] pos) (dI X.D δ o):=by
 cases f:r with
 | none=>rw[f]at h;cases h
 | some q=>
  rw[f]at h;have A:=F q f;cases q with
  | ok K M=>
   have b:s9 (itmD K M)=some o:=h;unfold itmD at b;split at b
   ·rename_i ks B;split at b
    ·rename_i u;obtain⟨rfl,s⟩:=u;cases m:kvp? ks B with
     | none=>rw[m]at b;cases b
     | some L=>
      rw[m]at b;cases b;exact((λ C (I:PE X e C)=>Ex I i g) _ A).weak λ σ H R' ⟨O,W,R,p⟩=>⟨O,W,R,λ x N s1 J=>by
       rcases S4.mp (J)with⟨a,w,l,z,v,n,y⟩ | ⟨a,w,l,z,v,n,y⟩
       ·obtain⟨rfl,rfl⟩:=Ey m n;subst n;cases s
       ·exact⟨a,w,l,z,A4 _ _ v,λ qs E=>p _ N s1 (Wk.itemsP v (Ez m n y) E (R.hid.mono s1).hdA)⟩⟩
    ·cases b
   ·cases b
theorem EB(h:dw e ps=true)(c:a.length=ps.length):bindArgs (PySem.W.fnX nm q e b sc cl .none .none d pm none cd f) ⟨a,[]⟩=pure (ps.zip a):=by
 revert c;refine ro h λ x y c=>?_
 obtain⟨u,v,rfl⟩:∃u v,a=[u,v]:=by
  cases a with
  | nil=>cases c
  | cons u r=>cases r with
   | nil=>cases c
   | cons v r=>cases r with
    | nil=>exact⟨u,v,rfl⟩
    | cons _ _=>cases c
 rfl
structure CloTx(C:CloD)(sc:Scope):Prop where
 kind:sc.kind=.function
 co:sc.isCoroutine=false
 gen:sc.isGenerator=false
 nd:C.N.Nodup
 len:C.np+C.nc<=C.N.length
 par:∀x∈C.N.take C.np,sc.names.lookup x=some .local
 nocell:∀y∈sc.names,y.2 ≠ .cell
 fre:∀i x,C.np<=i->i<C.np+C.nc->C.N[i]? = some x->sc.names.lookup x=some .free
 slf:sc.names.lookup o8=some .free
theorem sX:∀{l:on Str},P1 l=true->l.Nodup
 | [],_=>bf
 | x::r,h=>by unfold P1 at h;rw[f9]at h;refine O4.mpr ⟨λ z=>?_,sX h.2⟩;have:=h.1;rw[G0.mpr z]at this;cases this
theorem mu(h:Y2 C fn bl cl k bd sc d=true):dw k (C.N.take C.np)=true/\CloTx C sc/\d=(C.N.drop C.np).take C.nc/\K6 ⟨C.N,sc.names,fn,bl,cl,false,true,noCo⟩ C.body bd=true:=by
 unfold Y2 at h;simp only[f9,g9,u8,F4,bo,ne_eq,B2]at h;obtain⟨⟨⟨⟨⟨⟨⟨⟨⟨⟨⟨⟨u,r⟩,q⟩,p⟩,o⟩,n⟩,h7⟩,m⟩,l⟩,c⟩,j⟩,g⟩,f⟩:=h;refine⟨u,⟨r,q,p,sX o,n,m,l,λ i x a b e=>j x ?_,g⟩,c,f⟩;rw[c];refine L0 (i:=i - C.np) ?_;rw[aQ IK,af,show C.np+_=i by omega];exact e
def sY(D:Dm)(base:Iw)(outer:on Env)(O:on Iv)(H:Hp)(C:CloD)(fn bl cl:on Str)(cs:on DV)(f:Iv):Prop:=
 ∃q pr bd sc cap cc l ws c o,K7 H o8 q pr bd sc cc f/\Y2 C fn bl cl pr bd sc cap=true/\CloScope C.N (C.N.take C.np) C.nc sc cc l/\RepL D (L2.wo O H) cs ws/\ws.length=C.nc/\(∀c∈l,∃o v,H c=some (.frz o (.own c))/\o.data=.cell v) /\
  (∀(i:Nat) x v,C.N[C.np+i]? = some x->ws[i]? = some v->∃c o u,cc.lookup x=some c/\H c=some (.frz o (.own c))/\o.data=.cell (some u)/\RelV v u) /\
  (∀c∈l,∃x,cc.lookup x=some c)/\(cc.lookup o8=some c/\H c=some (.frz o (.own c))/\o.data=.cell (some (.ref f)))/\∀c∈l,base.get? c=none/\c∉frs outer
def aF(P:IA)(w:Iz)(K:IE)(mg:Str->Ir Is)(base:Iw)(C:CloD)(fn bl cl:on Str)(k:Nat)(Fc:on DV->Ir Ou):Prop:=
 ∀(A:IB) (outer:on Env) (s:Iu) (H:Hp) (us:on Is) (vs:on V) (Q:VK) (E:XK) (O:on Iv) (f:Iv) (cs ds:on DV) (d:DV),RoomL k A->Env0 P w K mg base A outer s H->Vals vs us->Hdn O H ->
  sY ⟨K,mg⟩ base outer O H C fn bl cl cs f->ds.length=C.np->RepL ⟨K,mg⟩ (L2.wo O H) ds vs->Fc (ds++cs)=some (.v d false)->(∀v H',Same H H'->Rep ⟨K,mg⟩ (L2.wo O H') d v->Q v H') ->
  codeAny (model P w) A (.call (.ref f) ⟨us,[]⟩) (CR CX0 outer P w H s Q E) s
section
variable {X:Cx} {δ:on Sv} {pos p:Pos} {re:Re} {k:Nat} {x:Str} {pr:IG} {bd:on IC} {sc:IF} {C:CloD} {fn bl cl cap:on Str} {cs:on DV} {fr:on Nat} {pins:on (Iv×Obj)} {σ:St} {H:Hp} {s:Iu} {O W:on Iv} {f:Iv} {q:Str} {cc:on (Str×Iv)} {l:on Iv} {F:on DV->Ir Ou}
theorem EC(I:IV pins)(co:aF X.prog X.w X.K X.mg X.base C fn bl cl k F)(hr:RoomL k X.A)(df:K7 H o8 q pr bd sc cc f)(A:Y2 C fn bl cl pr bd sc cap=true)(S:CloScope C.N (C.N.take C.np) C.nc sc cc l)
  (J:∀x c,cc.lookup x=some c->X.env.cells.lookup x=some c) (hl:∀c∈l,∃x,cc.lookup x=some c) (n:∀c∈l,X.base.get? c=none/\c∉frs X.stack) (N:cc.lookup o8=some c0) (a0:s.heap.IsCell c0 (some (.ref f)))
  (a4:fr.length=C.nc) (E:∀(j i:Nat),fr[j]? = some i->∃y,C.N[C.np+j]? = some y/\X.N[i]? = some y/\(X.env.kindOf y=some .cell\/X.env.kindOf y=some .free)) (U:capD δ fr=some cs) (R:RSt X.D H σ δ O W)
  (a1:ds.length=C.np) (rl:RepL X.D (L2.wo (O++W) H) ds vs) (ru:Vals vs Z) (hF:F (ds++cs)=some (.v d false)) (hd:d.nolam=true) (hQ:∀v p,Same H p->Rep X.D (L2.wo (O++W) p) d v->Q v p) :
  wpAny IQ X.A (call (.ref f) Z) (EP X pins σ Q) EE s:=by
 have K:Cells l s.heap H:=⟨λ c h=>by obtain⟨x,e⟩:=hl c h;exact I.freeC x c (J x c e),λ c h=>by
  obtain⟨x,e⟩:=hl c h;obtain⟨v,o,g,d⟩:=I.cell x c (J x c e);exact⟨o,v,g,d⟩⟩
 have same:=K.same;have hdA:=R.hid.hdA;obtain⟨ws,w1,w2,w3⟩:=lO R U;have oc:∀{b:Iv},b∈l->b∉O++W:=λ {b} hb z=>by obtain⟨o',B,Y⟩:=hdA b z;rw[K.none b hb]at B;cases B
 obtain⟨o0,g0,d0⟩:=a0;have ca:sY X.D X.base X.stack (O++W) (trC l s.heap H) C fn bl cl cs f:=by
  refine⟨q,pr,bd,sc,cap,cc,l,ws,c0,o0,df.mono same,A,S,w2.mono same.wo,by rw[w1,a4],λ c h=>?_,λ i y v h1 h2=>?_,hl,⟨N,Y7 (S.mem _ _ N) g0,d0⟩,n⟩
  ·obtain⟨o,v,g,d'⟩:=K.cel c h;exact⟨o,v,Y7 h g,d'⟩
  ·have hi:i<fr.length:=by rw[←w1];exact(A9.mp h2).1
   have hj:=k7 hi;obtain⟨y',B,Y,L⟩:=E i _ hj;rw[h1]at B;cases B;have hv:=w3 i _ v hj h2;obtain⟨mm,hn',a3⟩:=I.loc;obtain⟨u,rv,lk⟩:=a3 _ y v Y hv (.inr L);rcases lk with⟨M,_⟩ | ⟨M,cx,k2,o,k3,k4⟩
   ·have M:=M;rcases L with L | L<;>(rw[L]at M;cases M)
   ·have P:=S.fre (C.np+i) y (by rw[F3];omega) (by rw[F3];have:=(mu A).2.1.len;omega) h1;obtain⟨c2,e2⟩:=S.has y P;have:=J y c2 e2;rw[k2]at this;cases this;exact⟨cx,o,u,e2,Y7 (S.mem y cx e2) k3,k4,rv⟩
 have e0:=I.env0;refine cS (P7 (co X.A X.stack s _ Z vs (λ v p=>Same (trC l s.heap H) p/\Rep X.D (L2.wo (O++W) p) d v) (λ _ _ _=>False) (O++W) f cs ds d hr (Env0.trC K (λ c h=>(n c h).1) (λ c h=>(n c h).2) e0) ru (λ a ha=>?_) ca a1 (rl.mono same.wo) hF λ v p sm g=>⟨sm,g⟩) λ r s' m=>?_)
 ·obtain⟨o,B,Y⟩:=hdA a ha;exact⟨o,same _ _ B,Y⟩
 ·cases r with
  | error e=>exact(m:False).elim
  | ok fl=>
   cases fl with
   | ret u=>
    refine I.after (Q:=Q) (CE.trC (Q:=Q) K m (λ v p sm z=>?_) λ v p z=>z.1);have a2:∀c∈l,∃o,p c=some (.frz o (.own c)):=λ c h=>by obtain⟨o,v,g,_⟩:=K.cel c h;exact⟨o,sm _ _ (Y7 h g)⟩
    refine hQ v _ (λ b o e=>?_) (sj a2 hd z.2);rw[k9 λ w=>by rw[K.none b w]at e;cases e];exact sm _ _ (same _ _ e)
   | next=>exact False.elim m
   | brk=>exact False.elim m
   | cont=>exact False.elim m
theorem sZ(I:IV pins)(h:K7 H o8 q pr bd sc cc f):PySem.W.FnAt f s.heap:=by
 obtain⟨c',oc,u,vs,t,b,pm,c,T,a,_⟩:=h;exact⟨_,_,_,_,(I.hok _ _ a).1⟩
theorem tj{l:on (DV×Cl)}(h:Q2 a np cs l=some re):∃d,(l.all λ p=>p.2 == .strong||p.2 == .fresh)=true/\(l.map (·.1)).length=np/\a C2 (l.map (·.1)++cs)=some (.v d false)/\d.nolam=true/\re=.ok d .strong:=by
 unfold Q2 at h;split at h
 ·rename_i z;split at h
  ·rename_i d b;split at h
   ·rename_i nl;cases h;exact⟨d,z.1,by rw[g6];exact z.2,b,nl,rfl⟩
   ·cases h
  ·cases h
 ·cases h
def tClo(X:Cx)(δ:on Sv)(F:Nat->on DV->Ir Ou)(C:CloD)(cs:on DV)(ta:TA)(at_:St->Hp->Iv->Prop):TE:=λ σ H Q=>∃f O W,at_ σ H f/\RSt X.D H σ δ O W/\ta σ H λ vs H1=>Same H H1/\∃ds d,RepL X.D (L2.wo (O++W) H1) ds vs/\ds.length=C.np/\F C2 (ds++cs)=some (.v d false)/\d.nolam=true/\∀v H',Same H1 H'->Rep X.D (L2.wo (O++W) H') d v->Q v H'
theorem tm(co:aF X.prog X.w X.K X.mg X.base C fn bl cl k (FF C2))(hr:Room k X.A)(o:Y2 C fn bl cl pr bd sc cap=true)(S:X.Ok->CloScope C.N (C.N.take C.np) C.nc sc cc l/\(∀x c,cc.lookup x=some c->X.env.cells.lookup x=some c)/\∀c∈l,∃x,cc.lookup x=some c)(m:∀{a:on (Iv×Obj)} {b:on (Ir V)} {H:Hp} {s:Iu},Inv X a b H s->∀c∈l,X.base.get? c=none/\c∉frs X.stack)
  (z:∀{a:on (Iv×Obj)} {b:on (Ir V)} {H H':Hp} {s:Iu} {f:Iv},Inv X a b H' s->Same H H'->at_ b H f->K7 H' o8 q pr bd sc cc f/\∃c0,cc.lookup o8=some c0/\s.heap.IsCell c0 (some (.ref f))) (n:X.env.kindOf o8=some .cell\/X.env.kindOf o8=some .free)
  (L:fr.length=C.nc) (g:∀(j i:Nat),fr[j]? = some i->∃y,C.N[C.np+j]? = some y/\X.N[i]? = some y/\(X.env.kindOf y=some .cell\/X.env.kindOf y=some .free)) (w:capD δ fr=some cs)
  (A:PA X (e::es) P) (hs:t5 e=false) (K:es.any t5=false):PE X (.Call (.Name o8 p) (e::es) [] pos) (tClo X δ FF C cs P at_):=by
 intro a s b H Q I h;obtain⟨f,O,W,U,R,h⟩:=h;obtain⟨df,c0,M,Y⟩:=z I (Same.refl H) U;obtain⟨S,v,hl⟩:=S I.ok;have B:=v _ _ M;have J:wpAny IQ X.A (eval (.Name o8 p) X.env) (λ u s1=>u=.ref f/\Inv X a b H s1) X.xe s:=by
  rcases n with n | n
  ·exact cQ (wpAny_loadName_cell I.ok.kind n B Y ⟨rfl,I⟩) IL
  ·exact cQ (wpAny_loadName_free I.ok.kind n B Y ⟨rfl,I⟩ IL) IL
 refine ae (thn J λ u s1 t0=>?_);obtain⟨eu,Z⟩:=t0;subst eu;refine PySem.W.callWith_F (sZ Z df) (thn (A pos a s1 b H _ Z h) λ us s2 ⟨vs,H2,F,r,sm,ds,d,g1,g2,g3,g4,g5⟩=>?_) (w4 hs) (aB es K);obtain⟨E,c2,N,y2⟩:=z F sm U;rw[M]at N;cases N;refine⟨sZ F E,?_⟩;exact EC F co hr.toL E o S v hl (m F) M y2 L g w (R.mono sm) g2 g1 r g3 g4 g5
theorem K7.un(u:Un fs ex H c h h')(d:K7 H nm q pr bd sc cc f):K7 c nm q pr bd sc cc f:=by
 obtain⟨p,i,o,e,t,a,g,b,T,n,m,l,k,j,r⟩:=d;exact⟨p,i,o,e,t,a,g,b,T,u.frzs _ _ _ n,u.frzs _ _ _ m,l,k,u.tbls _ _ j,r⟩
theorem ED(T:CloTx C sc)(ok:X.Ok)(d:∀y∈sc.names,y.2=NameKind.free->∃a,X.env.cells.lookup y.1=some a):CloScope C.N (C.N.take C.np) C.nc sc (p5 X.env.cells sc.names []) ((p5 X.env.cells sc.names []).map (·.2))/\(∀x c,(p5 X.env.cells sc.names []).lookup x=some c->X.env.cells.lookup x=some c)/\∀c∈(p5 X.env.cells sc.names []).map (·.2),∃x,(p5 X.env.cells sc.names []).lookup x=some c:=by
 have g:(C.N.take C.np).length=C.np:=by rw[F3];have:=T.len;omega
 refine⟨⟨T.kind,T.co,T.gen,T.nd,by rw[g],T.par,T.nocell,λ i x a b e=>T.fre i x (by rw[g]at a;exact a) (by rw[g]at b;exact b) e,λ x h=>?_,λ x y c l k=>ok.inj x y c (bK d l).1 (bK d k).1,λ x c h=>i8.mpr ⟨_,D7 h,rfl⟩⟩,λ x c h=>(bK d h).1,λ c j=>?_⟩
 ·have f:=D7 h;obtain⟨c,e⟩:=d _ f rfl;exact⟨c,dH d f e⟩
 ·obtain⟨⟨x,c'⟩,f,rfl⟩:=i8.mp j;rcases br d f with z | z
  ·cases z
  ·exact⟨x,dH d z.2 z.1⟩
theorem tu(P:∀{c:TA},PA X (e::es) c->PE X (.Call (.Name o8 p) (e::es) [] pos) (tClo X δ i C cs c at_))(A:PA X (e::es) (dA X.D δ b))(h:(Rs.thn (some b) λ l=>Q2 i C.np cs l)=some re) :
  PE X (.Call (.Name o8 p) (e::es) [] pos) (λ a H Q=>∃f,at_ a H f/\dE X.D δ re a H Q):=by
 cases b with
 | ok l=>
  obtain⟨d,z,j,m,nl,rfl⟩:=tj h;exact(P A).weak λ a H Q ⟨f,k,O,W,R,p⟩=>⟨f,O,W,k,R,O,W,R,λ vs H1 s1 n=>⟨s1,_,d,n.strong (R.hid.mono s1) z,j,m,nl,λ v o s g=>p v o (s1.trans s) g⟩⟩
theorem EF(L:DefAt X sc c P (X.env.qual++o8))(b:dw pr (C.N.take C.np)=true)(q:X.N.Nodup)(o:X.N[i]? = some o8)(n:X.env.kindOf o8=some .cell)(k:Loc X.env.scope o8)(p:X.fn o8=true\/X.env.scope.names.lookup o8=some .local) :
  PS X (.FunctionDef o8 pr bd [] none [] sc none o8 pos) (λ j e H=>∀f a,Same H a->H f=none->K7 a o8 (X.env.qual++o8) pr bd sc (p5 X.env.cells sc.names []) f->j.nx (e.set i (some (.ref f))) a):=by
 intro g s e H j I h;have l:qualnameIn X.env o8 o8=X.env.qual++o8:=by unfold qualnameIn;rw[n];rfl
 have d:pr.defaults=[]/\pr.kw_defaults=[]/\annTrees pr none X.env=[]:=ro b λ x y=>⟨rfl,rfl,rfl⟩;refine PySem.W.nestDef_K d.1 d.2.1 d.2.2 ?_;rw[l];refine CO I L λ f a s' w sm m r=>?_;exact jK w q o k (v:=.ref f) rfl (λ s2 u=>⟨_,a,u,h f a sm m r⟩) p
end
def CloG(G:Gs)(F:Nat->on DV->Ir Ou)(X:Cx):Prop:=
 (∃c P,X.env.code=.ref c/\∀{pins:on (Iv×Obj)} {σ:on (Ir V)} {H:Hp} {s:Iu},Inv X pins σ H s->PySem.W.CodeHd s.heap c P/\H P=some (.tbl (X.env.qual ++ "<lambda>"))) /\
 (∀x a,X.env.cells.lookup x=some a->X.base.get? a=none/\a∉frs X.stack) /\
 ∀{δ:on Sv} {e:Ix} {es:on Ix} {pos p:Pos} {rs:Rs} {re:Re} {np nc:Nat},PA X (e::es) (dA X.D δ rs)->t5 e=false->es.any t5=false->db G F np nc (some rs) (capD δ (List.range' np nc))=some re->PE X (.Call (.Name o8 p) (e::es) [] pos) (dE X.D δ re)
noncomputable def tagN(sc:on (Str×II)):Str:=if sc.lookup o8=some .cell then o8 else "<lambda>"
structure Good(sg:Sg)(G:Gs)(F:Nat->List DV->Option Ou)(X:Cx):Prop where
 N:X.N=sg.N
 nd:X.N.Nodup
 vis:∀x,visB sg x=true->Vis X.env.scope x
 glo:∀x,gloB sg x=true->Gl X x
 loc:∀x,locB sg x=true->Loc X.env.scope x/\(X.fn x=true\/X.env.scope.names.lookup x=some .local)
 lcl:∀x,sg.sc.lookup x=some .local->X.env.scope.names.lookup x=some .local
 cel:∀x,(sg.sc.lookup x=some .cell\/sg.sc.lookup x=some .free)->X.env.scope.names.lookup x=some .cell\/X.env.scope.names.lookup x=some .free
 calm:X.calm=true
 hu:X.A.units+64<cLine
 fns:∀f x,sg.fn[f]? = some x->∃k fa fd ps,Room k X.A/\X.mg x=some (.ref fa)/\PySem.W.keepIn X.K (.ref fa)=true/\P9 X.K fd ps []/\(∀ds o,F f ds=some o->ds.length=ps.length) /\
  FnOk X.prog X.w X.K X.mg X.base CX0 k fa fd ps (spF X.D ps.length (F f))
 blt:∀x∈sg.bl,X.mg x=none
 con:∀x d,G.con.lookup x=some d->∃u v,X.mg x=some u/\RelV v u/\∀H,Rep X.D H d v
 own:sg.lp=true->PassesOwn IQ X.A X.env X.xe
 st:sg.top=true->X.stack=X.env::X.outer/\X.env.frame=some X.env.locals/\X.ex=[]
 lms:G.fnl.isEmpty=false->(G.fnl=sg.fn/\G.bll=sg.bl/\G.cll=sg.cl)/\(∃k,Room k X.A/\Y8 X.prog X.w X.K X.mg X.base sg.fn sg.bl sg.cl k (F A8)/\∀C,G.clo=some C->aF X.prog X.w X.K X.mg X.base C sg.fn sg.bl sg.cl k (F C2))/\(sg.top=true->∃c P,X.env.code=.ref c/\(∀h:Heap,X.K.In h->PySem.W.CodeHd h c P)/\(P,X.env.qual++tagN sg.sc)∈A2 X.K/\(sg.sc.lookup o8=some .cell->N0 (X.env.qual++o8)=true))
 cos:∀pr bd sc cap,sg.co pr bd sc cap=true->∃C,G.clo=some C/\Y2 C sg.fn sg.bl sg.cl pr bd sc cap=true
 clo:sg.lp=true->sg.top=false->CloG G F X
theorem bN:∀{l:on Str},P1 l=true->l.Nodup
 | [],_=>bf
 | x::r,h=>by unfold P1 at h;rw[f9]at h;refine O4.mpr ⟨λ z=>?_,bN h.2⟩;have:=h.1;rw[G0.mpr z]at this;cases this
theorem dN(g:Good m G F X)(h:aw m f fr sc tg=true):CompScope X.N f sc X.env.scope fr/\(∀(j k i:Nat),fr[j]? = some (some i)->fr[k]? = some (some i)->j=k)/\∀i∈av tg,fr[i]? = some none:=by
 unfold aw at h;simp only[f9,F4,g9]at h;obtain⟨⟨⟨⟨⟨⟨B,A⟩,o⟩,z⟩,n⟩,w⟩,v⟩:=h;have d:∀(j i:Nat),fr[j]? = some _->∃x,f[j]? = some x/\m.N[i]? = some x/\(x,NameKind.free)∈sc.names:=λ j i e=>by
  have l:j<f.length:=by rw[←n];exact (A9.mp e).1
  have r:(some i,f[j])∈fr.zip f:=(by refine L0 (i:=j) ?_;rw[eI];exact⟨e,k7 l⟩);have q:=w _ r;simp only[f9,g9,G0]at q;exact⟨_,k7 l,q.1,q.2⟩
 refine⟨⟨A,bN o,bN z,n,λ j i e=>?_,λ y s u=>?_⟩,λ j k i E C=>?_,B⟩
 ·obtain⟨x,a,b,c⟩:=d j i e;exact⟨x,a,by rw[g.N];exact b,c⟩
 ·have q:=v y s;rw[f8 u]at q;simp only[F0,g9]at q;exact g.cel _ q
 ·obtain⟨x,a,b,_⟩:=d j i E;obtain⟨x',H,p,_⟩:=d k i C;rw[b]at p;cases p;exact jJ (bN o) a H
theorem aG(g:Good j G F X)(h:aw j i fr sc tg=true)(C:Iv)(b:on (Str×Iv))(c:Iu)(d:Hp)(fp:on Iv):Good ⟨i,sc.names,j.fn,j.bl,j.cl,false,false,noCo⟩ G F (u7 X sc i C b c d fp):=by
 obtain⟨S,_,_⟩:=dN g h;have f:∀x,(u7 X sc i C b c d fp).env.scope.names.lookup x=(sc.names.lookup x).map λ k=>if(k==NameKind.free&&X.env.scope.kind == .function&&X.env.kindOf x==some .cell)=true then NameKind.cell else k:=λ x=>kh
 have one:∀x k,sc.names.lookup x=some k->k ≠ .free->(u7 X sc i C b c d fp).env.scope.names.lookup x=some k:=λ x k e l=>by rw[f,e,O5,g8];intro z;simp only[f9,g9]at z;exact l z.1.1
 have two:∀x,sc.names.lookup x=some .free->(u7 X sc i C b c d fp).env.scope.names.lookup x=some .cell\/(u7 X sc i C b c d fp).env.scope.names.lookup x=some .free:=λ x e=>by
  rw[f,e,O5];split
  ·exact .inl rfl
  ·exact .inr rfl
 refine⟨rfl,S.nd,λ x a=>?_,λ x a=>?_,λ x a=>?_,λ x a=>one x _ a IT,λ x a=>?_,g.calm,g.hu,g.fns,g.blt,g.con,(λ z=>nomatch z),(λ z=>nomatch z),(λ z=>⟨(g.lms z).1,(g.lms z).2.1,λ w=>nomatch w⟩),(λ _ _ _ _ z=>nomatch z),(λ z=>nomatch z)⟩
 ·unfold visB at a;simp only[F0,g9]at a;rcases a with(a | a) | a
  ·exact .inl (one x _ a IT)
  ·exact .inr (.inl (one x _ a IT))
  ·exact .inr (two x a)
 ·unfold gloB at a;rw[g9]at a;exact one x _ a IT
 ·unfold locB at a;simp only[F0,g9]at a;rcases a with a | a
  ·exact⟨.inl (one x _ a IT),.inr (one x _ a IT)⟩
  ·exact⟨.inr (one x _ a IT),.inl (by show(sc.names.lookup x==some .cell)=true;rw[a];rfl)⟩
 ·rcases a with a | a
  ·exact .inl (one x _ a IT)
  ·exact two x a
theorem V3(g:Good a G F X)(h:Q6 a i x=true):X.N[i]? = some x/\Vis X.env.scope x/\(x==("__debug__" : Str))=false/\(x==("__classdict__" : Str))=false:=by
 unfold Q6 at h;simp only[f9,g9,bo,ne_eq]at h;obtain⟨⟨⟨e,d⟩,c⟩,b⟩:=h;exact⟨by rw[g.N];exact e,g.vis x d,B5.mpr c,B5.mpr b⟩
theorem Z1(g:Good a G F X)(h:bltB a x f=true):(∃p,f=.Name x p)/\Gl X x/\X.mg x=none:=by
 unfold bltB at h;simp only[f9,g9,G0]at h;obtain⟨⟨d,c⟩,b⟩:=h;exact⟨V1 d,g.glo x c,g.blt x b⟩
theorem tw(g:Good b G F X):∀(is:on Nat) (es:on Ix),es.length=is.length->((is.zip es).all λ p=>match L8 p.2 with | some x=>b.N[p.1]? == some x&&locB b x | none=>false)=true ->
  PGs X es (gW is)/\(assignEach es X.env).length=is.length/\(assignEach es X.env).findIdx? (·.1)=none
 | [],[],_,_=>⟨xG,rfl,rfl⟩
 | [],_::_,h,_=>by cases h
 | _::_,[],h,_=>by cases h
 | i::is,e::es,c,h=>by
  rw[List.zip_cons_cons,List.all_cons,f9]at h;obtain⟨a,d⟩:=h;obtain⟨A,B,C⟩:=tw g is es (by simpa using c) d;split at a
  ·rename_i x q;obtain⟨p,rfl⟩:=V1 q;simp only[f9,g9]at a;have l:=g.loc x a.2;refine⟨xH (oR g.nd (by rw[g.N];exact a.1) l.1 l.2) A rfl,?_,?_⟩
   ·show(assignEach es X.env).length+1=is.length+1;rw[B]
   ·show(_::assignEach es X.env).findIdx? (·.1)=none;rw[List.findIdx?_cons,C];rfl
  ·cases a
theorem dO(g:Good b G F X)(h:tgOk b tg a=true):PG X a (gT X.K tg):=by
 cases tg with
 | one i=>
  unfold tgOk at h;dsimp only at h;split at h
  ·rename_i x q;obtain⟨p,rfl⟩:=V1 q;simp only[f9,g9]at h;have l:=g.loc x h.2;exact oR g.nd (by rw[g.N];exact h.1) l.1 l.2
  ·cases h
 | many c=>
  unfold tgOk at h;dsimp only at h;split at h
  ·rename_i d q;obtain⟨k,p,rfl⟩:=lr q;rw[f9,f9,g9]at h;obtain⟨A,B,C⟩:=tw g c d h.1.1 h.2;exact xI g.calm A B C
  ·cases h
section
variable (G:Gs) (F:Nat->on DV->Ir Ou)
def SE(m:ME):Prop:=∀{sg:Sg} {X:Cx} {e:Ix} {δ:on Sv} {r:Re},Good sg G F X->corE sg false m e=true->evE G F m δ=some r->PE X e (dE X.D δ r)
def ST(m:ME):Prop:=∀{sg:Sg} {X:Cx} {e:Ix} {δ:on Sv} {r:Rt},Good sg G F X->corE sg false m e=true->tstD (evE G F m δ)=some r->PT X e (dT X.D δ r)
def SI(m:ME):Prop:=∀{sg:Sg} {X:Cx} {e tg:Ix} {δ:on Sv} {r:Ri},Good sg G F X->corE sg true m e=true->(isZp m=true->(Q5 tg).isSome=true)->s9 (evE G F m δ)=some r->PI X tg e (dI X.D δ r)
def SEs(ms:on ME):Prop:=∀{sg:Sg} {X:Cx} {es:on Ix} {δ:on Sv} {r:Rs},Good sg G F X->u5 sg ms es=true->evEs G F ms δ=some r->PA X es (dA X.D δ r)
def SAnd(ms:on ME):Prop:=∀{sg:Sg} {X:Cx} {es:on Ix} {δ:on Sv} {pos:Pos},Good sg G F X->u5 sg ms es=true ->
 (∀r,N1 G F ms δ=some r->PE X (.BoolOp .And es pos) (dE X.D δ r))/\(∀r,tstD (N1 G F ms δ)=some r->PW X (.BoolOp .And es pos) (dT X.D δ r))
def SOr(ms:on ME):Prop:=∀{sg:Sg} {X:Cx} {es:on Ix} {δ:on Sv} {pos:Pos},Good sg G F X->u5 sg ms es=true ->
 (∀r,evOr G F ms δ=some r->PE X (.BoolOp .Or es pos) (dE X.D δ r))/\(∀r,tstD (evOr G F ms δ)=some r->PW X (.BoolOp .Or es pos) (dT X.D δ r))
def S1(m:ME):Prop:=SE G F m/\ST G F m/\SI G F m
end
theorem S1.of(h:SE G F m)(hw:∀b e,corE b true m e=corE b false m e)(i:∀b e env,corE b false m e=true->∀a,isTrue e env a=(do let v ←a;standAt e.pos;holding [v] (truthy v))):S1 G F m:=
 ⟨h,λ {b X e f r} g c q=>BV (λ z d=>h g c d) (i b e X.env c) q,λ {b X e tg f r} g c _ q=>so (λ z d=>h g (by rw[←hw];exact c) d) q⟩
theorem S1.of2(h:SE G F m)(c:ST G F m)(hw:∀a e,corE a true m e=corE a false m e):S1 G F m:=
 ⟨h,c,λ {a X e tg δ r} g d _ q=>so (λ z b=>h g (by rw[←hw];exact d) b) q⟩
noncomputable def tz:Ix->Bool
 | .UnaryOp .Not _ _=>false | .BoolOp _ _ _=>false | .IfExp _ _ _ _=>false | .Compare _ _ _ _=>false
 | _=>true
theorem E1(h:tz e=true)(env:Env):∀b,isTrue e env b=(do let v ←b;standAt e.pos;holding [v] (truthy v)):=by
 cases e with
 | UnaryOp o a p=>cases o<;>first | (intro _;rfl) | cases h
 | BoolOp _ _ _=>cases h
 | IfExp _ _ _ _=>cases h
 | Compare _ _ _ _=>cases h
 | _=>intro _;rfl
section
variable {G:Gs} {F:Nat->on DV->Ir Ou} {a b c:ME}
theorem EG:S1 G F (.var i):=by
 refine .of (λ {c X e δ r} g a h=>?_) (λ _ _=>rfl) (λ c e b a=>?_)
 ·refine K5 a λ x p a=>?_;obtain⟨k,j,f,d⟩:=V3 g a;exact Bv k j f d h
 ·exact K5 a λ x p _=>E1 rfl b
theorem hE(f:∀a w e,corE a w m e=true->Y1 e=some k)(l:∀δ,evE G F m δ=some (.ok d .strong))(hw:∀a e,corE a true m e=corE a false m e)
  (i:∀{X:Cx} {δ:on Sv} {j:Nat} {pos:Pos} a e,corE a false m e=true->PE X (.Constant k j pos) (dE X.D δ (.ok d .strong))):S1 G F m:=by
 refine .of (λ {a X e δ r} g b h=>?_) hw (λ a e c b=>?_)
 ·obtain⟨j,p,rfl⟩:=gF (f a false e b);rw[l]at h;cases h;exact i a _ b
 ·obtain⟨j,p,rfl⟩:=gF (f a false e b);exact E1 rfl c
theorem EH:S1 G F (.int i):=hE (λ sg w e h=>g9.mp h) (λ δ=>rfl) (λ _ _=>rfl) λ _ _ _=>Bw
theorem s_bl:S1 G F (.bl i):=hE (λ sg w e h=>g9.mp h) (λ δ=>rfl) (λ _ _=>rfl) λ _ _ _=>Bx
theorem EI:S1 G F .non:=hE (λ sg w e h=>g9.mp h) (λ δ=>rfl) (λ _ _=>rfl) λ _ _ _=>Bz
theorem EJ:S1 G F (.str i):=hE (λ sg w e h=>g9.mp (L3.mp h).1) (λ δ=>rfl) (λ _ _=>rfl) λ _ _ h=>By (i9 (jf (L3.mp h).2) IL)
theorem EK:S1 G F (.glb x):=by
 refine .of (λ {c X e δ r} g a h=>?_) (λ _ _=>rfl) (λ c e b a=>?_)
 ·have a:(L8 e==some x&&gloB c x&&x != "__debug__")=true:=a;simp only[f9,g9,bo,ne_eq]at a;obtain⟨p,rfl⟩:=V1 a.1.1;obtain⟨d,k,j⟩:=B0.mp h;cases j;obtain⟨u,v,m,f,i⟩:=g.con x d k;exact(xx (g.glo x a.1.2) m f (B5.mpr a.2)).weak λ σ H Q ⟨O,W,R,p⟩=>p v H (Same.refl H) (i _)
 ·obtain⟨p,rfl⟩:=V1 (g9.mp (L3.mp (L3.mp a).1).1);exact E1 rfl b
theorem EL(k:S1 G F a)(j:S1 G F b):S1 G F (.bin op a b):=by
 refine .of (λ {i X e δ r} g c h=>?_) (λ _ _=>rfl) (λ i e f c=>?_)
 ·refine qC c λ ea o eb p c=>?_;simp only[f9,g9]at c;obtain⟨⟨n,m⟩,l⟩:=c;subst n;exact BG (λ z d=>k.1 g m d) (λ z d=>j.1 g l d) h
 ·exact qC c λ _ _ _ p _=>E1 rfl f
theorem EM(k:S1 G F a):S1 G F (.neg a):=by
 refine .of (λ {i X e δ r} g b h=>?_) (λ _ _=>rfl) (λ i e d b=>?_)
 ·refine gu b λ o ea p b=>?_;simp only[f9,g9]at b;obtain⟨c,f⟩:=b;subst c;exact BH (λ z j=>k.1 g f j) h
 ·refine gu b λ _ _ p b=>?_;simp only[f9,g9]at b;obtain⟨c,f⟩:=b;subst c;exact E1 rfl d
theorem EN(i:S1 G F a):S1 G F (.not a):=by
 refine .of2 (λ {k X e j r} g b h=>?_) (λ {k X e j r} g b h=>?_) (λ _ _=>rfl)
 ·refine gu b λ o l p b=>?_;simp only[f9,g9]at b;obtain⟨f,d⟩:=b;subst f;exact BX (λ z c=>i.1 g d c) h
 ·refine gu b λ o l p b=>?_;simp only[f9,g9]at b;obtain⟨f,d⟩:=b;subst f;exact Ca (λ z c=>i.2.1 g d c) h
theorem EO(m:S1 G F a)(l:S1 G F b):S1 G F (.cmp op a b):=by
 refine .of2 (λ {q X e n r} g c h=>?_) (λ {q X e n r} g c h=>?_) (λ _ _=>rfl)
 ·refine qK c λ u o s p c=>?_;simp only[f9,g9,u8]at c;obtain⟨⟨⟨k,j⟩,i⟩,f⟩:=c;subst k;exact BO g.hu (λ z d=>m.1 g j d) (λ z d=>l.1 g i d) f h
 ·refine qK c λ u o s p c=>?_;simp only[f9,g9,u8]at c;obtain⟨⟨⟨k,j⟩,i⟩,f⟩:=c;subst k;exact BR g.hu (λ z d=>m.1 g j d) (λ z d=>l.1 g i d) f h
theorem EQ(v:S1 G F a)(u:S1 G F b)(j:S1 G F c):S1 G F (.chain op k a b c):=by
 refine .of2 (λ {x X e w r} g f h=>?_) (λ {x X e w r} g f h=>?_) (λ _ _=>rfl)
 ·refine qM f λ C o y B A p f=>?_;simp only[f9,g9,u8]at f;obtain⟨⟨⟨⟨⟨s,i⟩,q⟩,n⟩,m⟩,l⟩:=f;subst s i;exact BS g.hu (λ z d=>v.1 g q d) (λ z d=>u.1 g n d) (λ z d=>j.1 g m d) l h
 ·refine qM f λ C o y B A p f=>?_;simp only[f9,g9,u8]at f;obtain⟨⟨⟨⟨⟨s,i⟩,q⟩,n⟩,m⟩,l⟩:=f;subst s i;exact BU g.hu (λ z d=>v.1 g q d) (λ z d=>u.1 g n d) (λ z d=>j.1 g m d) l h
theorem s_ix(k:S1 G F a)(j:S1 G F b):S1 G F (.ix a b):=by
 refine .of (λ {i X e δ r} g c h=>?_) (λ _ _=>rfl) (λ i e f c=>?_)
 ·refine L7 c λ ea eb p c=>?_;simp only[f9,u8]at c;obtain⟨⟨n,m⟩,l⟩:=c;exact BK (λ z d=>k.1 g n d) (λ z d=>j.1 g m d) l h
 ·exact L7 c λ _ _ p _=>E1 rfl f
theorem s_sl(m:S1 G F a)(l:S1 G F b)(i:S1 G F c):S1 G F (.sl a b c):=by
 refine .of (λ {k X e δ r} g d h=>?_) (λ _ _=>rfl) (λ k e j d=>?_)
 ·refine L7 d λ ea es p d=>?_;refine Bf d λ _ _ p2 d=>?_;simp only[f9]at d;obtain⟨⟨q,o⟩,n⟩:=d;exact BN (λ z f=>m.1 g q f) (λ z f=>l.1 g o f) (λ z f=>i.1 g n f) h
 ·exact L7 d λ _ _ p _=>E1 rfl j
theorem ER(k:S1 G F a)(j:S1 G F b):S1 G F (.slf a b):=by
 refine .of (λ {i X e δ r} g c h=>?_) (λ _ _=>rfl) (λ i e f c=>?_)
 ·refine L7 c λ ea es p c=>?_;refine Bd c λ _ p2 c=>?_;simp only[f9]at c;obtain⟨m,l⟩:=c;exact BL (λ z d=>k.1 g m d) (λ z d=>j.1 g l d) h
 ·exact L7 c λ _ _ p _=>E1 rfl f
theorem ES(k:S1 G F a)(j:S1 G F b):S1 G F (.slt a b):=by
 refine .of (λ {i X e δ r} g c h=>?_) (λ _ _=>rfl) (λ i e f c=>?_)
 ·refine L7 c λ ea es p c=>?_;refine Be c λ _ p2 c=>?_;simp only[f9]at c;obtain⟨m,l⟩:=c;exact BM (λ z d=>k.1 g m d) (λ z d=>j.1 g l d) h
 ·exact L7 c λ _ _ p _=>E1 rfl f
theorem T4:∀{a:Sg} {b:on ME} {es:on Ix},u5 a b es=true->es.any t5=false
 | _,[],[],_=>rfl
 | _,[],_::_,h=>by unfold u5 at h;cases h
 | _,_::_,[],h=>by unfold u5 at h;cases h
 | a,m::b,e::es,h=>by unfold u5 at h;simp[f9,u8]at h;rw[G2,h.1.2,T4 h.2];rfl
theorem ET{c:on ME}(i:SEs G F c):S1 G F (.lst c):=by
 refine .of (λ {d X e δ r} g a h=>?_) (λ _ _=>rfl) (λ d e b a=>?_)
 ·refine qE a λ es p a=>?_;exact Cf (λ z f=>i g a f) h
 ·exact qE a λ _ p _=>E1 rfl b
theorem EU{c:on ME}(i:SEs G F c):S1 G F (.tup c):=by
 refine .of (λ {d X e δ r} g a h=>?_) (λ _ _=>rfl) (λ d e b a=>?_)
 ·refine kU a λ es k p a=>?_;exact Cg (λ z f=>i g a f) h
 ·exact kU a λ _ k p _=>E1 rfl b
theorem EV(w:SEs G F i):S1 G F (.call f i):=by
 refine .of (λ {l X e δ r} g a h=>?_) (λ _ _=>rfl) (λ l e d a=>?_)
 ·refine K0 a λ ef B m a=>?_;rw[f9,f9]at a;obtain⟨⟨b,A⟩,j⟩:=a;refine K5 b λ x p b=>?_;simp only[f9,g9,bo,ne_eq]at b;obtain⟨k,fa,fd,ps,o,q,u,v,s,fo⟩:=g.fns f x b.1.1;cases B with
  | nil=>cases A
  | cons y ys=>
   have c:=T4 j;rw[G2,O1]at c;exact Cm fo s o (g.glo x b.1.2) q u v (λ z n=>w g j n) (B5.mpr b.2) c.1 c.2 h
 ·exact K0 a λ _ _ _ _=>E1 rfl d
theorem s_bi(B:SEs G F x):S1 G F (.bi f x):=by
 refine .of (λ {J X e M r} g u h=>?_) (λ _ _=>rfl) (λ J e C u=>?_)
 ·refine K0 u λ ef Q O u=>?_;rw[f9,f9]at u;obtain⟨⟨P,s⟩,a⟩:=u;obtain⟨⟨p,rfl⟩,l,k⟩:=Z1 g P;cases Q with
  | nil=>cases s
  | cons y N=>
   have m:u5 J x _=true->(∀q,evEs G F x M=some q->PA X _ _)/\t5 y=false/\N.any t5=false:=λ z=>by have b:=T4 z;rw[G2,O1]at b;exact⟨λ w o=>B g z o,b.1,b.2⟩
   cases f with
   | len=>obtain⟨A,s1,s2⟩:=m a;exact gQ Cp l k boot_len IL IL A s1 s2 h
   | min=>obtain⟨A,s1,s2⟩:=m a;exact gQ (Cq g.calm (by have:=g.hu;omega)) l k boot_min IL IL A s1 s2 h
   | max=>obtain⟨A,s1,s2⟩:=m a;exact gQ (Cr g.calm) l k boot_max IL IL A s1 s2 h
   | sum=>obtain⟨A,s1,s2⟩:=m a;exact gQ (Cs g.calm) l k Cu IL IL A s1 s2 h
   | int=>obtain⟨A,s1,s2⟩:=m a;exact lK Cz l k boot_int IL IL A s1 s2 h
   | tuple=>obtain⟨A,s1,s2⟩:=m a;exact lK CB l k boot_tuple IL IL A s1 s2 h
   | list=>obtain⟨A,s1,s2⟩:=m a;exact lK CA l k boot_list IL IL A s1 s2 h
   | lrng=>
    have a:=a
    clear m
    revert s;refine N5 a λ L a=>K0 a λ v j n a=>λ s=>?_
    rw[f9,f9]at a;obtain⟨⟨K,rfl⟩,i,d⟩:=Z1 g a.1.1;cases j with
    | nil=>cases a.1.2
    | cons I c=>
     have b:=T4 a.2;rw[G2,O1]at b;cases c with
     | nil=>exact Db g.calm l k i d (λ w o=>B g a.2 o) b.1 h
     | cons H E=>
      have z:=g9.mp a.1.2;simp at z
   | lset=>
    have a:=a
    clear m
    revert s;refine N5 a λ L a=>K0 a λ v j n a=>λ s=>?_
    rw[f9,f9]at a;obtain⟨⟨K,rfl⟩,i,d⟩:=Z1 g a.1.1;cases j with
    | nil=>cases a.1.2
    | cons I c=>
     have b:=T4 a.2;rw[G2,O1]at b;cases c with
     | nil=>exact Cy g.calm l k i d (λ w o=>B g a.2 o) b.1 h
     | cons H E=>
      have z:=g9.mp a.1.2;simp at z
   | sset=>
    have a:=a
    clear m
    revert s;refine N5 a λ L a=>K0 a λ v j n a=>λ s=>?_
    rw[f9,f9]at a;obtain⟨⟨K,rfl⟩,i,d⟩:=Z1 g a.1.1;cases j with
    | nil=>cases a.1.2
    | cons I c=>
     have b:=T4 a.2;rw[G2,O1]at b;cases c with
     | nil=>exact Cw g.calm l k i d (λ w o=>B g a.2 o) b.1 h
     | cons H E=>
      have z:=g9.mp a.1.2;simp at z
 ·exact K0 u λ _ _ _ _=>E1 rfl C
theorem EW(h:X6.contains x=true):∃t,bI x=some t:=by
 have a:∀x∈X6,∃t,bI x=some t:=by
  intro x b;simp only[X6,i7,W6,X3]at b;rcases b with rfl | rfl | rfl | rfl | rfl | rfl
  ·exact⟨"int",by decide +kernel⟩
  ·exact⟨"bool",by decide +kernel⟩
  ·exact⟨"str",by decide +kernel⟩
  ·exact⟨"list",by decide +kernel⟩
  ·exact⟨"tuple",by decide +kernel⟩
  ·exact⟨"dict",by decide +kernel⟩
 exact a x (G0.mp h)
theorem EX:∀x∈X6,x ≠ "__name__" /\ (x==("__debug__" : Str))=false:=by
 intro x a;simp[X6,i7,W6,X3]at a;rcases a with rfl | rfl | rfl | rfl | rfl | rfl<;>exact⟨by decide +kernel,by decide +kernel⟩
def EY:V->on V->Hp->VK->Prop:=λ x xs H Q=>∃i,x=.int i/\xs=[]/\Q (.int (bt i)) H
theorem EZ(i:Int):((Builtin.Int.intBits i:Nat):Int)=bt i:=by
 unfold Builtin.Int.intBits bt;by_cases h:i=0
 ·subst h;rfl
 ·rw[g8 (by grind),g8 h];rfl
theorem Fa:MtR X "int.bit_length" EY:=by
 intro a s σ H x xs v us Q I b c h;obtain⟨i,rfl,rfl,q⟩:=h;obtain⟨t,rfl⟩:=(b);cases c;exact PyProof.Rows.call_int_bit_length ⟨.int _,H,I.tok _,by rw[←EZ];exact⟨_,rfl⟩,q⟩
theorem Fb(C:S1 G F a):S1 G F (.meth m a es):=by
 refine .of (λ {z X e w r} g b h=>?_) (λ _ _=>rfl) (λ z e s b=>?_)
 ·refine ll b λ ef A b=>?_;refine bv b λ k n u b=>?_;simp only[f9,g9]at b;obtain⟨⟨⟨⟨K,J⟩,f⟩,I⟩,h5⟩:=b;subst K;have o:attributeBase k (rg m) X.env (eval k X.env)=eval k X.env:=by
   rw[F0]at f;rcases f with f | f
   ·obtain⟨y,l⟩:=Z7.mp f;obtain⟨B,rfl⟩:=V1 l;rfl
   ·obtain⟨⟨a1,o1,b1⟩,l⟩:=Z7.mp f;obtain⟨B,rfl⟩:=Bn l;rfl
  have h:(if m=.bitLength then Re.thn _ (λ x _=>mtD m x)else none)=some r:=h;cases m with
  | bitLength=>
   rw[f8 rfl]at h;cases c:evE G F a w with
   | none=>rw[c]at h;cases h
   | some q=>
    rw[c]at h;cases q with
    | ok d dc=>
     have j:mtD .bitLength d=some r:=h;unfold mtD at j;split at j
     ·rename_i i _;cases j;exact((λ t (E:PE X k t)=>yZ PySem.F.plainAttrs_int PySem.F.slot_int_bit_length PySem.F.type_int_bit_length Fa E o (by rw[g9];exact I)) _ (C.1 g J c)).weak λ σ H Q ⟨O,W,R,p⟩=>⟨O,W,R,λ v M s1 L=>by
       have hv:=L.int (R.hid.mono s1);subst hv;exact⟨rfl,i,rfl,rfl,p _ M s1 x5⟩⟩
     ·cases j
  | index=>rw[g8 IL]at h;cases h
  | get=>rw[g8 IL]at h;cases h
 ·exact ll b λ _ _ _=>E1 rfl s
theorem Fd(o:S1 G F a)(m:S1 G F b):S1 G F (.idx a b):=by
 refine .of (λ {j X e δ r} g c h=>?_) (λ _ _=>rfl) (λ j e f c=>?_)
 ·refine bz c λ ef eb k c=>?_;refine bv c λ ea n i c=>?_;simp only[f9,g9,u8]at c;obtain⟨⟨⟨⟨⟨w,v⟩,u⟩,s⟩,q⟩,p⟩:=c;subst w;obtain⟨y,l⟩:=Z7.mp u;obtain⟨np,rfl⟩:=V1 l;exact Ck g.hu (λ z d=>o.1 g v d) (λ z d=>m.1 g q d) rfl (by rw[g9];exact s) (w4 p) h
 ·exact bz c λ _ _ _ _=>E1 rfl f
theorem Fe(k:S1 G F a)(j:S1 G F b):S1 G F (.dix a b):=by
 refine .of (λ {i X e δ r} g c h=>?_) (λ _ _=>rfl) (λ i e f c=>?_)
 ·refine L7 c λ ea eb p c=>?_;simp only[f9,u8]at c;obtain⟨⟨n,m⟩,l⟩:=c;exact El (ag IK g.hu) (λ z d=>k.1 g n d) (λ z d=>j.1 g m d) l h
 ·exact L7 c λ _ _ p _=>E1 rfl f
theorem Ff(m:S1 G F b):S1 G F (.dgp i b):=by
 refine .of (λ {f X e δ r} g a h=>?_) (λ _ _=>rfl) (λ f e d a=>?_)
 ·refine L7 a λ ob ek p a=>?_;simp only[f9,u8]at a;obtain⟨⟨c,o⟩,n⟩:=a;refine K5 c λ x np c=>?_;obtain⟨s1,s2,k,j⟩:=V3 g c;exact Es (ag IK g.hu) (R6 s1 s2 k j) (λ z l=>m.1 g o l) n h
 ·exact L7 a λ _ _ p _=>E1 rfl d
theorem tB:∀{a:on (Str×Nat)},a.lookup x=some f->(x,f)∈a
 | [],h=>by cases h
 | (y,g)::a,h=>by
  rw[G6]at h;split at h
  ·rename_i q;cases h;rw[g9.mp q];exact o5 ..
  ·exact o4 _ (tB h)
theorem Fg(v:SEs G F u):S1 G F (.callv i xs u):=by
 refine .of (λ {H X e A r} g a h=>?_) (λ _ _=>rfl) (λ H e o a=>?_)
 ·refine K0 a λ ef S I a=>?_;rw[f9,f9,f9]at a;obtain⟨⟨⟨n,R⟩,Q⟩,l⟩:=a;refine K5 n λ x p n=>?_;obtain⟨s1,s2,s,q⟩:=V3 g n;cases S with
  | nil=>cases Q
  | cons y ys=>
   have b:=T4 l;rw[G2,O1]at b;have h:fZ G F xs _ A[i]? = some r:=h;unfold fZ at h;split at h
   ·rename_i J j;split at h
    ·rename_i f O;obtain⟨k,fa,fd,ps,d,L,N,P,M,fo⟩:=g.fns f J (g9.mp (F4.mp R _ (tB O)));exact Co fo M d (R6 s1 s2 s q) L N P j (λ z c=>v g l c) b.1 b.2 h
    ·cases h
   ·rename_i m cs j;split at h
    ·rename_i w;obtain⟨⟨E,C,B⟩,⟨k,d,K,_⟩,_⟩:=g.lms w.2.2.2;exact CT K d (R6 s1 s2 s q) (w.1.trans E) (w.2.1.trans C) (w.2.2.1.trans B) j (λ z c=>v g l c) b.1 b.2 h
    ·cases h
   ·cases h
 ·exact K0 a λ _ _ _ _=>E1 rfl o
theorem Fh{a:IG}(h:dv a ps=true):defaultsOf a env=([],[]):=rj h (λ _ _ _ _=>rfl) λ _ _ _ _=>rfl
theorem Fi(ha:S1 G F a):S1 G F (.mink a N d w fr):=by
 refine .of (λ {Y X e u r} g b h=>?_) (λ _ _=>rfl) (λ Y e K b=>?_)
 ·obtain⟨B,b⟩:=L3.mp b;refine qY b λ ef ea kn el kp pos b=>?_
  simp only[f9,g9,u8]at b;obtain⟨⟨⟨⟨c1,c2⟩,c4⟩,c5⟩,b⟩:=b;refine AR b λ pr bd v lp b=>?_
  subst c2;obtain⟨⟨px,rfl⟩,H,E⟩:=Z1 g c1;rw[f9]at b;obtain⟨s,c9⟩:=b;have U:=s;unfold rm at s;simp only[f9,g9,u8,F4,bo,ne_eq,B2]at s;obtain⟨⟨⟨⟨⟨⟨⟨⟨⟨⟨⟨⟨R,l2⟩,l3⟩,l4⟩,l5⟩,l6⟩,l7⟩,l8⟩,l9⟩,o⟩,A⟩,lc⟩,x⟩:=s;have h:fY G F (evE G F a u) N d w (capD u fr)=some r:=h;unfold fY at h;split at h
  ·rename_i cs q;split at h
   ·cases h
   ·rename_i C;obtain⟨⟨O,M,L⟩,⟨k,hr,lo,_⟩,wt⟩:=g.lms (by simpa using C);rw[f9,u8]at B;obtain⟨⟨c,P,k1,S⟩,k3,_⟩:=g.clo B.1 B.2;have m:∀y∈v.names,y.2=NameKind.free->X.env.kindOf y.1=some .cell\/X.env.kindOf y.1=some .free:=λ y n J=>by have z:=x y n;rw[f8 (by rw[J])]at z;exact g.cel y.1 (.inr (g9.mp z))
    have T:LamTx N (N.take d) v:=by
     have Q:(N.take d).length=d:=by rw[F3];omega
     refine⟨l2,l3,l4,bN l5,by rw[Q],l8,l9,λ i y h1 h2=>o y ?_⟩;rw[Q]at h1;refine L0 (i:=i - d) ?_;rw[af,show d+(i - d)=i by omega];exact h2
    have f:∀(j i:Nat),fr[j]? = some i->∃y,N[d+j]? = some y/\X.N[i]? = some y/\(X.env.kindOf y=some .cell\/X.env.kindOf y=some .free):=λ j i W=>by
     have hjl:j<fr.length:=(A9.mp W).1;have p:d+j<N.length:=by omega
     have n:(N.drop d)[j]? = some N[d+j]:=by rw[af,k7 p]
     have hz:(i,N[d+j])∈fr.zip (N.drop d):=L0 (i:=j) (by rw[eI];exact⟨W,n⟩);have q1:=A _ hz;have Z:=o _ (L0 n);exact⟨_,k7 p,by rw[g.N];exact q1,m _ (D7 Z) rfl⟩
    cases l:evE G F a u with
    | none=>rw[l]at h;cases h
    | some ra=>
     rw[l]at h;exact DC (fr:=fr) (P:=P) (c:=c) lo hr O M L H E c5 ⟨k1,λ I=>(S I).1,λ I=>(S I).2,m⟩ (Fh R) T (λ I c b=>by
       obtain⟨y,e,_⟩:=gU I (λ y n J=>I.ok.has y.1 (m y n J)) c b;exact k3 y c e) ((by unfold ax;rw[f9];refine⟨R,?_⟩;show corE ⟨N,v.names,G.fnl,G.bll,G.cll,false,false,noCo⟩ false w bd=true;rw[O,M,L];exact c9)) l7 f q (ha.1 g c4 l) h
  ·cases h
 ·obtain⟨_,b⟩:=L3.mp b;exact qY b λ _ _ _ _ _ _ _=>E1 rfl K
theorem Fj(s:SEs G F f):S1 G F (.self k l f):=by
 refine .of (λ {o X e n r} g a h=>?_) (λ _ _=>rfl) (λ o e j a=>?_)
 ·obtain⟨i,a⟩:=L3.mp a;refine K0 a λ ef v q a=>?_
  simp only[f9,u8]at a;obtain⟨⟨c,u⟩,m⟩:=a;refine K5 c λ x p c=>?_
  rw[g9]at c;subst c;rw[f9,u8]at i;have h:db G F k l _ _=some r:=h;cases v with
  | nil=>cases u
  | cons e0 er=>
   have d:=T4 m;rw[G2,O1]at d;cases b:evEs G F f n with
   | none=>
    rw[b]at h;unfold db at h;split at h
    ·split at h
     ·obtain⟨_,_,z⟩:=v5.mp h;cases z
     ·cases h
    ·cases h
   | some rs=>
    rw[b]at h;exact(g.clo i.1 i.2).2.2 (s g m b) d.1 d.2 h
 ·obtain⟨_,a⟩:=L3.mp a;exact K0 a λ _ _ _ _=>E1 rfl j
theorem Fk(m:S1 G F a)(l:S1 G F b):S1 G F (.dc2 x y a b):=by
 refine .of (λ {i X e δ r} g c h=>?_) (λ _ _=>rfl) (λ i e f c=>?_)
 ·refine qW c λ ka kb ea eb p c=>?_;simp only[f9,g9,bo,ne_eq]at c;obtain⟨⟨⟨⟨u,s⟩,q⟩,o⟩,n⟩:=c;obtain⟨j1,k,rfl⟩:=gF u;obtain⟨j2,j,rfl⟩:=gF s;exact CZ q (λ z d=>m.1 g o d) (λ z d=>l.1 g n d) h
 ·exact qW c λ _ _ _ _ p _=>E1 rfl f
theorem Fm(w:S1 G F a):S1 G F (.isi a i):=by
 refine .of (λ {j X e δ r} g b h=>?_) (λ _ _=>rfl) (λ j e d b=>?_)
 ·refine qR b λ ef ea et k b=>?_;simp only[f9,u8]at b;obtain⟨⟨⟨⟨B,A⟩,y⟩,h4⟩,c⟩:=b;obtain⟨⟨p,rfl⟩,v,u⟩:=Z1 g B;split at c
  ·rename_i t;simp only[f9,g9,G0]at c;obtain⟨⟨⟨q,o⟩,n⟩,f⟩:=c;obtain⟨p',rfl⟩:=V1 q;obtain⟨T,x⟩:=EW (G0.mpr f);obtain⟨m,l⟩:=EX t f;exact CI x v u (g.glo t o) (g.blt t n) m l (λ z s=>w.1 g A s) y h
  ·cases c
 ·exact qR b λ _ _ _ _ _=>E1 rfl d
theorem mv:∀{a:on ME} {b:on Sv} {l:on (DV×Cl)},evEs G F a b=some (.ok l)->l.length=a.length
 | [],_,_,h=>by unfold evEs at h;cases h;rfl
 | m::a,b,l,h=>by
  unfold evEs at h;split at h
  ·cases h
  ·split at h
   ·cases h
   ·rename_i l' q;cases h;rw[w6,w6,mv q]
theorem tE:∀{b:Sg} {a:on ME} {es:on Ix},u5 b a es=true->a.length=es.length
 | _,[],[],_=>rfl
 | _,[],_::_,h=>by unfold u5 at h;cases h
 | _,_::_,[],h=>by unfold u5 at h;cases h
 | b,m::a,e::es,h=>by unfold u5 at h;simp[f9]at h;rw[w6,w6,tE h.2]
theorem Fn(s:SEs G F d):S1 G F (.rng d):=by
 refine⟨λ {n X e m r} g a h=>?_,λ {n X e m r} g a h=>?_,λ {n X e tg m r} g a _ h=>?_⟩
 ·cases(a:false=true)
 ·cases(a:false=true)
 ·refine K0 (L3.mp a).2 λ ef x w a=>?_;rw[f9,B2]at a;obtain⟨a,j⟩:=a;rw[f9]at a;obtain⟨⟨p,rfl⟩,q,o⟩:=Z1 g a.1;have f:=tE a.2;have c:=T4 a.2;cases x with
  | nil=>
   exfalso;cases d with
   | nil=>cases(h:none=some r)
   | cons _ _=>cases f
  | cons y v=>
   rw[G2,O1]at c;cases v with
   | nil=>exact De q o (λ z i=>s g a.2 i) c.1 h λ l k=>by rw[mv k,f];rfl
   | cons z u=>
    cases u with
    | nil=>
     have b:=c.2;rw[G2,O1]at b;exact Df q o (λ z i=>s g a.2 i) c.1 b.1 h λ l k=>by rw[mv k,f];rfl
    | cons _ _=>simp at j
theorem Fo(s:S1 G F a):S1 G F (.enu a):=by
 refine⟨λ {d X e c r} g b h=>?_,λ {d X e c r} g b h=>?_,λ {d X e j c r} g b n h=>?_⟩
 ·cases(b:false=true)
 ·cases(b:false=true)
 ·refine bz (L3.mp b).2 λ ef ea l b=>?_;simp only[f9,u8]at b;obtain⟨⟨w,v⟩,u⟩:=b;obtain⟨⟨p,rfl⟩,q,o⟩:=Z1 g w;have t:=n rfl;cases f:Q5 j with
  | none=>rw[f]at t;cases t
  | some i=>
   obtain⟨k,tp,rfl⟩:=lr f;exact Dw q o u (λ z m=>s.1 g v m) h
theorem Fp(w:S1 G F a):S1 G F (.itm a):=by
 refine⟨λ {d X e c r} g b h=>?_,λ {d X e c r} g b h=>?_,λ {d X e o c r} g b u h=>?_⟩
 ·cases(b:false=true)
 ·cases(b:false=true)
 ·refine ll (L3.mp b).2 λ ef p b=>?_;refine bv b λ q n m b=>?_;simp only[f9]at b;obtain⟨⟨⟨B,A⟩,y⟩,j⟩:=b;have v:=g9.mp B;subst v;cases i:L8 q with
  | none=>rw[i]at j;cases j
  | some x=>
   obtain⟨np,rfl⟩:=V1 i;have t:=u rfl;cases f:Q5 o with
   | none=>rw[f]at t;cases t
   | some l=>
    obtain⟨k,tp,rfl⟩:=lr f;exact EA rfl y (λ z s=>w.1 g A s) h
theorem Fq{sg:Sg}{X:Cx}{e:Ix}{δ:on Sv}{r:Re}{tg:Tg}{fr:on (Ir Nat)}{cp:CParts}{tn:on Str}(ha:S1 G F a)(hb:S1 G F b)(g:Good sg G F X)(hemp:cp.ifs=[])
  (h2:corE sg true b cp.it=true) (hz:isZp b=true->(Q5 cp.tg).isSome=true) (h4:aw sg (K1 sg tn fr) fr cp.sc tg=true) (h5:tgOk ⟨K1 sg tn fr,cp.sc.names,sg.fn,sg.bl,sg.cl,false,false,noCo⟩ tg cp.tg=true) (h6:corE ⟨K1 sg tn fr,cp.sc.names,sg.fn,sg.bl,sg.cl,false,false,noCo⟩ false a cp.elt=true)
  (h:evE G F (.comp a tg b fr) δ=some r):Y9 X δ cp.tg cp.it cp.ifs cp.elt cp.sc (K1 sg tn fr) fr tg r:=by
 obtain⟨S,nd,sl⟩:=dN g h4;rw[hemp];exact Dh S g.calm nd sl (λ z hz'=>hb.2.2 g h2 hz hz') (λ C cells s₂ H₂ fp=>dO (aG g h4 C cells s₂ H₂ fp) h5) (λ δ' r' hr C cells s₂ H₂ fp=>ha.1 (aG g h4 C cells s₂ H₂ fp) h6 hr) h
theorem Fs{sg:Sg}{X:Cx}{e cd:Ix}{δ:on Sv}{r:Re}{tg:Tg}{fr:on (Ir Nat)}{cp:CParts}{tn:on Str}(ha:S1 G F a)(hb:S1 G F b)(hcc:S1 G F c)(g:Good sg G F X)(hemp:cp.ifs=[cd])
  (h2:corE sg true b cp.it=true) (hz:isZp b=true->(Q5 cp.tg).isSome=true) (h4:aw sg (K1 sg tn fr) fr cp.sc tg=true) (h5:tgOk ⟨K1 sg tn fr,cp.sc.names,sg.fn,sg.bl,sg.cl,false,false,noCo⟩ tg cp.tg=true) (h6:corE ⟨K1 sg tn fr,cp.sc.names,sg.fn,sg.bl,sg.cl,false,false,noCo⟩ false a cp.elt=true)
  (h7:corE ⟨K1 sg tn fr,cp.sc.names,sg.fn,sg.bl,sg.cl,false,false,noCo⟩ false c cd=true) (h:evE G F (.compi a tg b c fr) δ=some r):Y9 X δ cp.tg cp.it cp.ifs cp.elt cp.sc (K1 sg tn fr) fr tg r:=by
 obtain⟨S,nd,sl⟩:=dN g h4;rw[hemp];exact Di S g.calm nd sl (λ z hz'=>hb.2.2 g h2 hz hz') (λ C cells s₂ H₂ fp=>dO (aG g h4 C cells s₂ H₂ fp) h5) (λ δ' r' hr C cells s₂ H₂ fp=>ha.1 (aG g h4 C cells s₂ H₂ fp) h6 hr)
  (λ δ' r' hr C cells s₂ H₂ fp=>hcc.2.1 (aG g h4 C cells s₂ H₂ fp) h7 hr) h
def aH(G:Gs)(F:Nat->on DV->Ir Ou)(m:ME):Prop:=∀{sg:Sg} {X:Cx} {e:Ix} {δ:on Sv} {r:Re},Good sg G F X->corE sg false m e=true->evE G F m δ=some r ->
 ∃(cp:CParts) (N':on Str) (fr:on (Ir Nat)) (tg:Tg) (p:Pos),e=.ListComp cp.elt [⟨cp.tg,cp.it,cp.ifs,0⟩] cp.sc p/\CompScope X.N N' cp.sc X.env.scope fr/\Y9 X δ cp.tg cp.it cp.ifs cp.elt cp.sc N' fr tg r /\
  (∀C cells s₂ H₂ fp,PG (u7 X cp.sc N' C cells s₂ H₂ fp) cp.tg (gT X.K tg))/\J8 cp.it=false
theorem aH.s1(h:aH G F m)(hw:∀a e,corE a true m e=corE a false m e)(f:∀a e,corE a false m e=true->tz e=true):S1 G F m:=by
 refine .of (λ {a X e δ r} g b q=>?_) hw (λ a e c b=>?_)
 ·obtain⟨cp,N',fr,tg,p,rfl,S,P,i,d⟩:=h g b q;exact P.pe S g.calm i d
 ·exact E1 (f a e b) c
theorem tF(m:S1 G F a)(l:S1 G F b):aH G F (.comp a tg b fr):=by
 intro sg X e δ r g k h;refine gG k λ f p k=>?_
 simp only[f9,u8,F0]at k;obtain⟨⟨⟨s,q,o⟩,n⟩,c⟩:=k;obtain⟨tn,_,c⟩:=C9 c;simp only[f9]at c;refine⟨f,_,fr,tg,p,rfl,(dN g c.1.1).1,Fq (e:=.ListComp f.elt [⟨f.tg,f.it,f.ifs,0⟩] f.sc p) m l g (List.isEmpty_iff.mp s) q (λ z=>?_) c.1.1 c.1.2 c.2 h,λ C d i j u=>dO (aG g c.1.1 C d i j u) c.1.2,n⟩;rcases o with w | w
 ·rw[z]at w;cases w
 ·exact w
theorem tG(q:S1 G F a)(o:S1 G F b)(m:S1 G F c):aH G F (.compi a tg b c fr):=by
 intro sg X e δ r g l h;refine gG l λ i p l=>?_
 simp only[f9,u8,F0]at l;obtain⟨⟨⟨v,u⟩,s⟩,d⟩:=l;obtain⟨tn,_,d⟩:=C9 d;obtain⟨ec,n,d⟩:=AC d;simp only[f9]at d;refine⟨i,_,fr,tg,p,rfl,(dN g d.1.1.1).1,Fs (e:=.ListComp i.elt [⟨i.tg,i.it,i.ifs,0⟩] i.sc p) q o m g n v (λ z=>?_) d.1.1.1 d.1.1.2 d.1.2 d.2 h,λ C f j k x=>dO (aG g d.1.1.1 C f j k x) d.1.1.2,s⟩;rcases u with w | w
 ·rw[z]at w;cases w
 ·exact w
theorem Ft(g:S1 G F a)(f:S1 G F b):S1 G F (.comp a tg b fr):=aH.s1 (λ {c X e δ r}=>tF g f) (λ _ _=>rfl) λ c e d=>gG d λ _ _ _=>rfl
theorem Fu(i:S1 G F a)(h:S1 G F b)(d:S1 G F c):S1 G F (.compi a tg b c fr):=aH.s1 (λ {f X e δ r}=>tG i h d) (λ _ _=>rfl) λ f e g=>gG g λ _ _ _=>rfl
theorem Fv:SEs G F []:=λ {sg X b δ r} g a h=>by
 cases b with
 | nil=>unfold evEs at h;cases h;exact Cd
 | cons _ _=>unfold u5 at a;cases a
theorem Fw(j:S1 G F a)(i:SEs G F d):SEs G F (a::d):=λ {sg X f δ r} g b h=>by
 cases f with
 | nil=>unfold u5 at b;cases b
 | cons e f=>
  unfold u5 at b;simp only[f9,u8]at b;unfold evEs at h;exact Ce b.1.2 (λ z c=>j.1 g b.1.1 c) (λ z c=>i g b.2 c) h
theorem Fx:SAnd G F []:=λ {sg X es δ a} g hc=>⟨λ r h=>(by unfold N1 at h;cases h),λ r h=>(by unfold N1 at h;cases h)⟩
theorem Fy:SOr G F []:=λ {sg X es δ a} g hc=>⟨λ r h=>(by unfold evOr at h;cases h),λ r h=>(by unfold evOr at h;cases h)⟩
theorem Fz(i:S1 G F a)(n:SAnd G F f):SAnd G F (a::f):=λ {l X d k j} g b=>by
 cases d with
 | nil=>unfold u5 at b;cases b
 | cons e d=>
  unfold u5 at b;simp only[f9,u8]at b;cases f with
  | nil=>
   cases d with
   | nil=>
    refine⟨λ r h=>?_,λ r h=>?_⟩
    ·unfold N1 at h;exact oP (i.1 g b.1.1 h)
    ·unfold N1 at h;exact xz (i.2.1 g b.1.1 h)
   | cons _ _=>have:=b.2;unfold u5 at this;cases this
  | cons m f=>
   cases d with
   | nil=>have:=b.2;unfold u5 at this;cases this
   | cons e' d=>
    have B:=@n l X _ k j g b.2;refine⟨λ r h=>?_,λ r h=>?_⟩
    ·unfold N1 at h;exact BY (λ z c=>i.1 g b.1.1 c) (λ z c=>B.1 z c) h
    ·unfold N1 at h;exact Cb (λ z c=>i.2.1 g b.1.1 c) (λ z c=>B.2 z c) h
theorem FA(i:S1 G F a)(n:SOr G F f):SOr G F (a::f):=λ {l X d k j} g b=>by
 cases d with
 | nil=>unfold u5 at b;cases b
 | cons e d=>
  unfold u5 at b;simp only[f9,u8]at b;cases f with
  | nil=>
   cases d with
   | nil=>
    refine⟨λ r h=>?_,λ r h=>?_⟩
    ·unfold evOr at h;exact oP (i.1 g b.1.1 h)
    ·unfold evOr at h;exact xA (i.2.1 g b.1.1 h)
   | cons _ _=>have:=b.2;unfold u5 at this;cases this
  | cons m f=>
   cases d with
   | nil=>have:=b.2;unfold u5 at this;cases this
   | cons e' d=>
    have B:=@n l X _ k j g b.2;refine⟨λ r h=>?_,λ r h=>?_⟩
    ·unfold evOr at h;exact BZ (λ z c=>i.1 g b.1.1 c) (λ z c=>B.1 z c) h
    ·unfold evOr at h;exact Cc (λ z c=>i.2.1 g b.1.1 c) (λ z c=>B.2 z c) h
theorem FB(f:SAnd G F d):S1 G F (.and d):=by
 refine .of2 (λ {j X e i r} g a h=>?_) (λ {j X e i r} g a h=>?_) (λ _ _=>rfl)
 ·refine gy a λ o k p a=>?_;simp only[f9,g9]at a;obtain⟨c,b⟩:=a;subst c;exact(f g b).1 r h
 ·refine gy a λ o k p a=>?_;simp only[f9,g9]at a;obtain⟨c,b⟩:=a;subst c;exact((f g b).2 r h).pt
theorem s_or(f:SOr G F d):S1 G F (.or d):=by
 refine .of2 (λ {j X e i r} g a h=>?_) (λ {j X e i r} g a h=>?_) (λ _ _=>rfl)
 ·refine gy a λ o k p a=>?_;simp only[f9,g9]at a;obtain⟨c,b⟩:=a;subst c;exact(f g b).1 r h
 ·refine gy a λ o k p a=>?_;simp only[f9,g9]at a;obtain⟨c,b⟩:=a;subst c;exact((f g b).2 r h).pt
end
section
variable {G:Gs} {F:Nat->on DV->Ir Ou}
mutual
theorem snd:∀m:ME,S1 G F m
 | .var _=>EG
 | .int _=>EH
 | .bl _=>s_bl
 | .str _=>EJ
 | .non=>EI
 | .glb _=>EK
 | .bin _ a b=>EL (snd a) (snd b)
 | .neg a=>EM (snd a)
 | .not a=>EN (snd a)
 | .cmp _ a b=>EO (snd a) (snd b)
 | .chain _ _ a b c=>EQ (snd a) (snd b) (snd c)
 | .and es=>FB (tH es)
 | .or es=>s_or (tI es)
 | .lst es=>ET (sndL es)
 | .tup es=>EU (sndL es)
 | .ix a b=>s_ix (snd a) (snd b)
 | .sl a b c=>s_sl (snd a) (snd b) (snd c)
 | .slf a b=>ER (snd a) (snd b)
 | .slt a b=>ES (snd a) (snd b)
 | .call _ es=>EV (sndL es)
 | .bi _ es=>s_bi (sndL es)
 | .isi a _=>Fm (snd a)
 | .meth _ a _=>Fb (snd a)
 | .comp a _ b _=>Ft (snd a) (snd b)
 | .compi a _ b c _=>Fu (snd a) (snd b) (snd c)
 | .idx a b=>Fd (snd a) (snd b)
 | .rng es=>Fn (sndL es)
 | .enu a=>Fo (snd a)
 | .itm a=>Fp (snd a)
 | .dix a b=>Fe (snd a) (snd b)
 | .dgp _ b=>Ff (snd b)
 | .callv _ _ es=>Fg (sndL es)
 | .mink a _ _ _ _=>Fi (snd a)
 | .self _ _ es=>Fj (sndL es)
 | .dc2 _ _ a b=>Fk (snd a) (snd b)
theorem sndL:∀ms:on ME,SEs G F ms
 | []=>Fv
 | a::ms=>Fw (snd a) (sndL ms)
theorem tH:∀ms:on ME,SAnd G F ms
 | []=>Fx
 | a::ms=>Fz (snd a) (tH ms)
theorem tI:∀ms:on ME,SOr G F ms
 | []=>Fy
 | a::ms=>FA (snd a) (tI ms)
end
end
section
variable (G:Gs) (F:Nat->on DV->Ir Ou) (fu:Nat)
def SS(m:MS):Prop:=∀{sg:Sg} {X:Cx} {st:IC} {δ:on Sv} {o:Out},Good sg G F X->corS sg m st=true->evS G F fu m δ=some o->PS X st (dS X.D δ o)
def SSs(ms:on MS):Prop:=∀{sg:Sg} {X:Cx} {sts:on IC} {δ:on Sv} {o:Out},Good sg G F X->K6 sg ms sts=true->evSs G F fu ms δ=some o->PSs X sts (dS X.D δ o)
end
theorem FC(h:rq e=true):aH G F e:=by
 cases e with
 | comp a _ b _=>exact tF (snd a) (snd b)
 | compi a _ b c _=>exact tG (snd a) (snd b) (snd c)
 | _=>cases h
theorem FE:SS G F fu (.set i own e):=by
 intro sg X st u o g c h;refine gD c λ t v w c=>?_
 refine K5 c λ x pt c=>?_;simp only[f9,g9,F0,u8]at c;obtain⟨⟨⟨E,C⟩,s⟩,d⟩:=c;have l:=g.loc x C;have q:X.N[i]? = some x:=by rw[g.N];exact E
 have h:Re.thnS u _ _=some o:=h;cases hv:aq v with
 | false=>exact sH g.nd q l.1 l.2 (λ z j=>(snd e).1 g s j) (md hv) h
 | true=>
  rcases d with d | B
  ·rw[hv]at d;cases d
  ·cases m:evE G F e u with
   | none=>rw[m]at h;cases h
   | some r=>
    obtain⟨a,N',fr,tg,p,rfl,S,P,A,y⟩:=FC B g s m;cases f:(X.env.blockKind == .function&&X.env.kindOf x==some .local&&pt.line==(Expr.ListComp a.elt [⟨a.tg,a.it,a.ifs,0⟩] a.sc p).pos.line && !_)with
    | false=>
     have b:=(by show(pure (X.env.blockKind == .function&&X.env.kindOf x==some .local&&pt.line==(Expr.ListComp a.elt [⟨a.tg,a.it,a.ifs,0⟩] a.sc p).pos.line && !(a.sc.names.any λ (n,k)=>n==x&&(k == .local||k == .cell))):Sem Bool)=pure false;rw[f]);exact sH g.nd q l.1 l.2 (λ z j=>(snd e).1 g s j) b h
    | true=>
     have b:=(by show(pure (X.env.blockKind == .function&&X.env.kindOf x==some .local&&pt.line==(Expr.ListComp a.elt [⟨a.tg,a.it,a.ifs,0⟩] a.sc p).pos.line && !(a.sc.names.any λ (n,k)=>n==x&&(k == .local||k == .cell))):Sem Bool)=pure true;rw[f]);rw[m]at h;have d:X.env.kindOf x=some .local:=by simp only[f9,g9]at f;exact f.1.1.2
     exact DJ S g.calm g.nd q d P A y b h
theorem FG:SS G F fu (.pop i e):=by
 intro sg X st δ o g a h;refine gC a λ v k a=>?_
 refine bz a λ ef ea c a=>?_;refine bv a λ ob n d a=>?_;simp only[f9,u8]at a;obtain⟨⟨⟨⟨s,b⟩,r⟩,q⟩,p⟩:=a;refine K5 b λ x np b=>?_;obtain⟨s1,s2,j,f⟩:=V3 g b;have m:=g9.mp s;subst m;exact DL (R6 s1 s2 j f) (λ z l=>(snd e).1 g r l) q p h
theorem FH:SS G F fu (.app i e):=by
 intro sg X st δ o g a h;refine gC a λ v k a=>?_
 refine bz a λ ef ea c a=>?_;refine bv a λ ob n d a=>?_;simp only[f9,u8]at a;obtain⟨⟨⟨⟨s,b⟩,r⟩,q⟩,p⟩:=a;refine K5 b λ x np b=>?_;obtain⟨s1,s2,j,f⟩:=V3 g b;have m:=g9.mp s;subst m;exact DK (R6 s1 s2 j f) (λ z l=>(snd e).1 g r l) q p h
theorem FJ:SS G F fu (.ext i e):=by
 intro sg X st δ o g a h;refine gC a λ v k a=>?_
 refine bz a λ ef ea c a=>?_;refine bv a λ ob n d a=>?_;simp only[f9,u8]at a;obtain⟨⟨⟨⟨s,b⟩,r⟩,q⟩,p⟩:=a;refine K5 b λ x np b=>?_;obtain⟨s1,s2,j,f⟩:=V3 g b;have m:=g9.mp s;subst m;exact DN (R6 s1 s2 j f) (λ z l=>(snd e).1 g r l) q p h
theorem FK:SS G F fu (.retd i):=by
 intro sg X st δ o g a h;refine lq a λ v d a=>?_
 refine K5 a λ x np a=>?_;obtain⟨s1,s2,c,b⟩:=V3 g a;exact Eg (R6 s1 s2 c b) h
theorem FL:SS G F fu (.sep i):=by
 intro sg X st δ o g a h;refine gD a λ t v b a=>?_
 refine K5 a λ x np a=>?_;refine Bg a λ _ a=>?_;rw[f9,g9]at a;obtain⟨d,c⟩:=g.loc x a.2;exact Eo g.nd (by rw[g.N];exact a.1) d c h
theorem FM:SS G F fu (.dpp i ks e):=by
 intro sg X st δ o g a h;refine gD a λ t v k a=>?_
 refine L7 a λ ob ek sp a=>?_;simp only[f9,u8]at a;obtain⟨⟨⟨d,c⟩,m⟩,l⟩:=a;refine K5 d λ x np d=>?_;obtain⟨s1,s2,j,f⟩:=V3 g d;refine kU c λ es tk tp c=>?_;exact Er (ag IK g.hu) (R6 s1 s2 j f) (λ z b=>(snd e).1 g m b) (λ z b=>sndL ks g c b) l h
theorem FN:SS G F fu (.seti i k e):=by
 intro sg X st δ o g a h;refine gD a λ t v j a=>?_
 refine L7 a λ ob ek sp a=>?_;simp only[f9,u8]at a;obtain⟨⟨⟨c,n⟩,m⟩,l⟩:=a;refine K5 c λ x np c=>?_;obtain⟨s1,s2,f,d⟩:=V3 g c;exact DM (R6 s1 s2 f d) (λ z b=>(snd e).1 g l b) (λ z b=>(snd k).1 g n b) m h
theorem FO:SS G F fu (.exp e):=by
 intro sg X st δ o g a h;refine gC a λ _ _ a=>?_
 simp only[f9,u8]at a;exact DI (λ z b=>(snd e).1 g a.1 b) a.2 h
theorem FP:SS G F fu (.ret e):=by
 intro sg X st δ o g a h;refine lq a λ _ _ a=>?_
 exact DH (λ z b=>(snd e).1 g a b) h
theorem FQ:SS G F fu .unk:=by
 intro sg X st δ o g hc h;cases h
theorem FR:SS G F fu (.dfr i fr es):=by
 intro sg X st δ o g a h;cases a
theorem FT(i:SSs G F fu a)(f:SSs G F fu b):SS G F fu (.iff c a b):=by
 intro sg X st δ o g d h;refine AY d λ _ _ _ _ d=>?_
 simp only[f9]at d;exact DG (λ z e=>(snd c).2.1 g d.1.1 e) (λ z e=>i g d.1.2 e) (λ z e=>f g d.2 e) h
theorem t_fo(f:SSs G F fu body):SS G F fu (.fo tg e body):=by
 intro sg X st δ o g a h;refine Bl a λ _ _ _ _ a=>?_
 simp only[f9,u8,F0]at a;obtain⟨⟨⟨⟨n,m⟩,l,k⟩,j⟩,i⟩:=a;exact DO (g.own n) g.calm (λ z c=>(snd e).2.2 g l (λ w=>by
  rcases k with q | q
  ·rw[w]at q;cases q
  ·exact q) c) (dO g m) (λ b o' d=>f g i d) j h
theorem t_wh(f:SSs G F fu body):SS G F fu (.wh c body):=by
 intro sg X st δ o g a h;refine Bm a λ _ _ _ a=>?_
 simp only[f9]at a;exact DP (g.own a.1.1) (λ b r d=>(snd c).2.1 g a.1.2 d) (λ b o' e=>f g a.2 e) h
noncomputable def FU:MS->Bool
 | .dfr _ _ _=>true
 | _=>false
theorem FV:SSs G F fu []:=by
 intro sg X c δ o g d h;cases c with
 | nil=>unfold evSs at h;cases h;exact DD
 | cons a b=>unfold K6 at d;cases d
theorem dP(g:Good b G F X)(z:b.sc.lookup y=some .cell):X.env.kindOf y=some .cell/\X.fn y=true/\Loc X.env.scope y:=by
 have a:=g.loc y (by unfold locB;rw[z];rfl);have nl:X.env.scope.names.lookup y≠some .local:=λ w=>by rcases g.cel y (.inl z)with v | v<;>(rw[w]at v;cases v)
 exact⟨a.1.elim (λ w=>absurd w nl) id,a.2.elim id λ w=>absurd w nl,a.1⟩
theorem FW(m:G.clo=some C)(h:dfrS G F fr a g e=some o):C.nc=fr.length/\e=some .no/\G.fnl.isEmpty=false/\∃cs l d,g=some cs/\a=some (.ok l)/\Q2 F C.np cs l=some (.ok d .strong)/\o=.rt d false:=by
 unfold dfrS at h;rw[m]at h;dsimp only at h;split at h
 ·rename_i z;obtain⟨k,c,j⟩:=z;obtain⟨cs,n,h⟩:=v5.mp h;obtain⟨r,i,h⟩:=v5.mp h;have f:e=some .no:=by
   unfold noB at c;split at c
   ·rfl
   ·cases c
  cases a with
  | none=>cases i
  | some a=>
   cases a with
   | ok l=>
    have b:=i;obtain⟨d,_,_,_,_,rfl⟩:=tj b;cases h;exact⟨k,f,j,cs,l,d,n,rfl,b,rfl⟩
 ·cases h
theorem FX:SSs G F fu (.dfr i fr es::ms):=by
 intro q X a0 w o g b h;have N:(lu q i fr a0 (u5 q es)&&ms.isEmpty)=true:=by unfold K6 at b;exact b
 rw[f9]at N;obtain⟨b,hms⟩:=N;have h:(match dfrS G F fr (evEs G F es w) (capD w fr) w[i]? with | some (.nx δ')=>evSs G F fu ms δ' | o=>o)=some o:=h;unfold lu at b;rw[f9,f9,g9]at b;obtain⟨⟨ht,e⟩,b⟩:=b;refine X9 b λ sa sb b=>Bj b λ n pr bd S x dp b=>?_
 simp only[f9,g9,F4,B2]at b;obtain⟨⟨⟨⟨⟨⟨rfl,rfl⟩,hi⟩,a6⟩,a3⟩,a2⟩,b⟩:=b;refine lq b λ v rp b=>K0 b λ ef ea cp b=>?_
 simp only[f9,u8]at b;obtain⟨⟨Y,h2⟩,h3⟩:=b;refine K5 Y λ x np Y=>?_
 rw[g9]at Y;subst Y;cases ea with
 | nil=>cases h2
 | cons e0 er=>
  have ns:=T4 h3;rw[G2,O1]at ns;obtain⟨C,hC,r⟩:=g.cos _ _ _ _ a6;obtain⟨a1,tx,M,_⟩:=mu r;cases hd:dfrS G F fr (evEs G F es w) (capD w fr) w[i]? with
  | none=>rw[hd]at h;cases h
  | some o'=>
   obtain⟨z1,z2,z3,cs,l,d,e1,e2,e3,rfl⟩:=FW hC hd;rw[hd]at h;cases h;obtain⟨_,⟨k,hr,_,a7⟩,wt⟩:=g.lms z3;obtain⟨c,P,k1,k2,k3,k4⟩:=wt ht;rw[show tagN q.sc=o8 from f8 e]at k3;have p:∀y∈S.names,y.2=NameKind.free->q.sc.lookup y.1=some .cell:=λ y m B=>by have z:=a2 y m;rw[f8 (by rw[B])]at z;exact g9.mp z
   obtain⟨Z,c2,c3⟩:=dP g e;have D:=EF (pos:=dp) (bd:=bd) (⟨k1,k2,k3,λ y m B=>(dP g (p y m B)).1,k4 e⟩) a1 g.nd (by rw[g.N];exact hi) Z c3 (.inl c2);have has:X.Ok->∀y∈S.names,y.2=NameKind.free->∃a,X.env.cells.lookup y.1=some a:=λ ok y m B=>ok.has y.1 (.inl (dP g (p y m B)).1)
   have PC:PE X (.Call (.Name o8 np) (e0::er) [] cp) (λ E H Q=>∃f,(E[i]? = some (some (.ref f))/\K7 H o8 (X.env.qual++o8) pr bd S (p5 X.env.cells S.names []) f)/\dE X.D w (.ok d .strong) E H Q):=by
    refine tu (cs:=cs) (C:=C) (λ {ta} A=>tm (a7 C hC) hr r (λ ok=>ED tx ok (has ok)) (λ I=>CU I (has I.ok) λ y m B=>(dP g (p y m B)).2.1) (λ {b0 E H H' s f} I sm ha=>⟨ha.2.mono sm,?_⟩) (.inl Z) z1.symm (λ j J hj=>?_) e1 A ns.1 ns.2) ((sndL es) g h3 e2) e3
    ·obtain⟨mm,hn',a4⟩:=I.loc;obtain⟨u,rv,lk⟩:=a4 i o8 _ (by rw[g.N];exact hi) ha.1 (.inr (.inl Z));obtain rfl:u=Value.ref f:=rv;rcases lk with⟨U,_⟩ | ⟨_,cx,q2,q3⟩
     ·have U:X.env.kindOf o8=some .local:=U;rw[Z]at U;cases U
     ·exact⟨cx,dH (has I.ok) (D7 tx.slf) q2,q3⟩
    ·have hjl:j<fr.length:=(A9.mp hj).1;have L:=a3 J (L0 hj);have m:q.N[J]? = some (q.N.getD J ""):=by rw[k7 L,p6,k7 L];rfl
     have hq:((C.N.drop C.np).take C.nc)[j]? = some (q.N.getD J ""):=(by rw[←M,q0,hj];rfl);have K:C.N[C.np+j]? = some (q.N.getD J ""):=(by rw[aQ IK,af]at hq;exact hq);refine⟨_,K,by rw[g.N];exact m,.inl ?_⟩;have a9:=tx.fre (C.np+j) _ IK IK K;exact(dP g (p _ (D7 a9) rfl)).1
   refine(fK D (fK (jM (pos:=rp) PC) fM)).weak λ Dn E H ⟨H0,O,W,R,frr,fo,sm,kk⟩ f H' s1 hn df=>?_;have a5:i<E.length:=by rw[R.len];exact(A9.mp z2).1
   refine⟨f,⟨by rw[O0 a5],df⟩,O,W,(R.mono s1).anyNo z2 _,λ v H2 s2 g2=>kk v H2 (sm.trans (s1.trans s2)) ?_⟩;have a8:Rep X.D (L2.wo (O++W) H2) d v:=g2;exact(a8.mono (N6 bD):Rep X.D (L2.wo O H2) d v)
theorem M1(l:SS G F fu m)(p:SSs G F fu f)(k:FU m=false):SSs G F fu (m::f):=by
 intro j X a δ o g e h;cases a with
 | nil=>
  exfalso;cases m<;>first | (cases k;done) | (unfold K6 at e;cases e)
 | cons n a=>
  have b:corS j m n=true/\K6 j f a=true:=(by cases m<;>first | (cases k;done) | (unfold K6 at e;rw[f9]at e;exact e));unfold evSs at h;split at h
  ·rename_i c q;exact DE (l g b.1 q) (p g b.2 h)
  ·rename_i i;cases o with
   | nx c=>exact absurd h (i c)
   | rt d fr=>exact DF (l g b.1 h)
section
variable {G:Gs} {F:Nat->on DV->Ir Ou} {fu:Nat}
mutual
theorem sndS:∀m:MS,SS G F fu m
 | .set _ _ _=>FE
 | .app _ _=>FH
 | .pop _ _=>FG
 | .ext _ _=>FJ
 | .seti _ _ _=>FN
 | .exp _=>FO
 | .ret _=>FP
 | .iff _ a b=>FT (F1 a) (F1 b)
 | .fo _ _ body=>t_fo (F1 body)
 | .wh _ body=>t_wh (F1 body)
 | .sep _=>FL
 | .dpp _ _ _=>FM
 | .retd _=>FK
 | .unk=>FQ
 | .dfr _ _ _=>FR
theorem F1:∀ms:on MS,SSs G F fu ms
 | []=>FV
 | .dfr _ _ _::ms=>FX
 | .set i o e::ms=>M1 (sndS (.set i o e)) (F1 ms) rfl
 | .app i o::ms=>M1 (sndS (.app i o)) (F1 ms) rfl
 | .pop i o::ms=>M1 (sndS (.pop i o)) (F1 ms) rfl
 | .ext i o::ms=>M1 (sndS (.ext i o)) (F1 ms) rfl
 | .seti i k o::ms=>M1 (sndS (.seti i k o)) (F1 ms) rfl
 | .exp e::ms=>M1 (sndS (.exp e)) (F1 ms) rfl
 | .ret e::ms=>M1 (sndS (.ret e)) (F1 ms) rfl
 | .iff c a b::ms=>M1 (sndS (.iff c a b)) (F1 ms) rfl
 | .fo t i b::ms=>M1 (sndS (.fo t i b)) (F1 ms) rfl
 | .wh c b::ms=>M1 (sndS (.wh c b)) (F1 ms) rfl
 | .retd i::ms=>M1 (sndS (.retd i)) (F1 ms) rfl
 | .sep i::ms=>M1 (sndS (.sep i)) (F1 ms) rfl
 | .dpp i k e::ms=>M1 (sndS (.dpp i k e)) (F1 ms) rfl
 | .unk::ms=>M1 (sndS .unk) (F1 ms) rfl
end
end
structure FunD(K:PySem.W.Frag)(x qual:Str)(st:Stmt)(f:Addr)(fd:FuncData):Prop where
 ex:∃(oc:Value) (od:Option Addr) (dV kV doc pm:Value) (an:Option Addr) (cdv ct:Value) (osl:Array (Option Value)),
  fd=PySem.W.fnOf x qual (P8 st) (L5 st) (A1 st) dV kV doc pm an cdv ct/\K.lookup f=some ⟨oc,od,.func fd,osl⟩/\PySem.W.codeIn K cdv qual=true
theorem FunD.okX{K:IE}(F:FunD K x a d f fd)(S:FnScope N ps (A1 d))(g:∀vs H Q E,e vs H Q E->vs.length=ps.length)
  (c:∀(b:Is),fd.code=b->∀(A:IB) (outer:on Env) (s:Iu) (H:Hp) (vs:on V) (Q:VK) (E:XK),Room k (A.deeper (envOfC a (A1 d) s.heap.objs.size f b))->e vs H Q E ->
   ∃t,PSs (cxD P w K mg base N a (A1 d) f b A outer s H) (L5 d) t/\t {nx:=λ _ o=>Q .non o,rt:=Q} (start N vs) H):FnOk P w K mg base CX0 (k+1) f fd ps e:=by
 obtain⟨oc,od,dV,kV,n,pm,an,b,ct,j,rfl,l,i⟩:=F.ex;exact yC l i S g λ A outer s H vs Q E m h=>c b rfl A outer s H vs Q E m h
theorem RSt.start(m:n=N.length)(r:RepL D (L2.wo O H) ds vs)(k:Hdn O H):RSt D H (L2.start N vs) (o9 n ds) O []:=by
 subst m;have c:∀(i:Nat) b,(o9 N.length ds)[i]? ≠ some (.own b):=λ i b h=>by
  unfold o9 at h;by_cases e:i<(ds.map Sv.val).length
  ·rw[P3 e,q0]at h;cases q:ds[i]? with
   | none=>rw[q]at h;cases h
   | some d=>rw[q]at h;cases h
  ·rw[Q7 IK,bW]at h;split at h<;>cases h
 have g:∀(i:Nat) b,(o9 N.length ds)[i]? ≠ some (.od b):=λ i b h=>by
  unfold o9 at h;by_cases e:i<(ds.map Sv.val).length
  ·rw[P3 e,q0]at h;cases q:ds[i]? with
   | none=>rw[q]at h;cases h
   | some d=>rw[q]at h;cases h
  ·rw[Q7 IK,bW]at h;split at h<;>cases h
 refine⟨λ i d h=>?_,λ i b h=>absurd h (c i b),λ i j a p d2 h=>absurd h (c i p),λ i d h=>absurd h (g i d),?_,⟨λ a f=>k.ne a (by simpa using f),Same.refl _,λ a f=>(nomatch f),λ a f=>(nomatch f),k⟩⟩
 ·unfold o9 at h;by_cases e:i<(ds.map Sv.val).length
  ·rw[P3 e,q0]at h;cases q:ds[i]? with
   | none=>rw[q]at h;cases h
   | some d'=>
    rw[q]at h;cases h;obtain⟨v,l,o⟩:=r.get q;refine⟨v,?_,by rw[G1];exact o⟩;unfold L2.start;rw[P3 (by rw[g6];exact(A9.mp l).1),q0,l];rfl
  ·rw[Q7 IK,bW]at h;split at h<;>cases h
 ·unfold L2.start o9;rw[u0,u0,g6,g6,eN,eN,r.length]
noncomputable def cloB(o:Ir CloD)(fn bl cl:on Str):IG->on IC->IF->on Str->Bool:=match o with
 | some C=>Y2 C fn bl cl
 | none=>noCo
def dqB(x:Str)(sc:on (Str×II)):Bool:=N0 (x ++ ".<locals>." ++ o8)==(sc.lookup o8==some .cell)
theorem FY(h:dqB x sc=true):tagQ x=(x ++ ".<locals>.")++tagN sc/\(sc.lookup o8=some .cell->N0 ((x ++ ".<locals>.")++o8)=true):=by
 unfold dqB at h;rw[g9]at h;unfold tagQ tagN;by_cases z:sc.lookup o8=some .cell
 ·have e:N0 (x ++ ".<locals>." ++ o8)=true:=by rw[h,z];rfl
  have a:N0 (x ++ ".<locals>." ++ "plan_of")=true:=e;rw[f8 z,f8 a];exact⟨rfl,λ _=>e⟩
 ·have e:N0 (x ++ ".<locals>." ++ o8)=false:=by rw[h];exact B5.mpr z
  rw[g8 z,g8 ((by have:N0 (x ++ ".<locals>." ++ "plan_of")=false:=e;rw[this];decide))];exact⟨rfl,λ w=>absurd w z⟩
structure Stands(K:PySem.W.Frag)(mg:Str->Option Value)(fn bl cl:List Str)(d:FD)(x:Str)(fa:Addr)(fd:FuncData)(ps:List Str):Prop where
 mg:mg x=some (.ref fa)
 kp:PySem.W.keepIn K (.ref fa)=true
 bi:P9 K fd ps []
 np:d.np=ps.length
 ex:∃qual st N,qual=x/\FunD K x qual st fa fd/\FnScope N ps (A1 st)/\d.n=N.length/\K6 ⟨N,(A1 st).names,fn,bl,cl,true,true,cloB d.clo fn bl cl⟩ d.body (L5 st)=true/\dqB x (A1 st).names=true
theorem FZ(hd:T[f]? = some d)(e:d.np=n)(q:run G T fu k f ds=some o):ds.length=n:=by
 cases k with
 | zero=>cases q
 | succ k=>
  have b:(match T[f]? with | none=>if f=A8 then lamR _ ds else if f=C2 then cloR G _ ds else none | some c=>if ds.length=c.np then Ou.of (evSs G _ fu c.body _)else none)=some o:=q;rw[hd]at b;have a:(if ds.length=d.np then Ou.of (evSs G _ fu d.body _)else none)=some o:=b;split at a
  ·rename_i z;rw[z,e]
  ·cases a
theorem mw{K:IE}(v:T.length=fn.length)(r:∀(i:Nat) d x,T[i]? = some d->fn[i]? = some x->∃b fd ps,Stands K mg fn bl cl d x b fd ps)
  (m:∀(i:Nat) d x b fd ps,T[i]? = some d->fn[i]? = some x->Stands K mg fn bl cl d x b fd ps->FnOk P w K mg base CX0 k b fd ps (spF ⟨K,mg⟩ ps.length (run G T fu k i))) (s:Room k A) (f:Nat) (y:Str) (n:fn[f]? = some y) :
  ∃p b fd ps,Room p A/\mg y=some (.ref b)/\PySem.W.keepIn K (.ref b)=true/\P9 K fd ps []/\(∀ds o,run G T fu k f ds=some o->ds.length=ps.length)/\FnOk P w K mg base CX0 p b fd ps (spF ⟨K,mg⟩ ps.length (run G T fu k f)):=by
 have u:f<T.length:=by rw[v];exact(A9.mp n).1
 obtain⟨l,c⟩:∃l,T[f]? = some l:=⟨_,k7 u⟩;obtain⟨h,g,e,j⟩:=r f l y c n;exact⟨k,h,g,e,s,j.mg,j.kp,j.bi,λ ds o q=>FZ c j.np q,m f l y h g e c n j⟩
theorem Ga{G:Gs}(h:o=none\/o=G.clo)(z:cloB o fn bl cl b bd sc a=true):∃C,G.clo=some C/\Y2 C fn bl cl b bd sc a=true:=by
 cases o with
 | none=>cases z
 | some C=>exact⟨C,(h.elim (λ w=>nomatch w) id).symm,z⟩
theorem Gb{K:IE}(hT:T.length=fn.length)(hs:∀(i:Nat) d x,T[i]? = some d->fn[i]? = some x->∃fa fd ps,Stands K mg fn bl cl d x fa fd ps)(b6:∀x∈bl,mg x=none)
  (a0:∀x d,G.con.lookup x=some d->∃u v,mg x=some u/\RelV v u/\∀H,Rep ⟨K,mg⟩ H d v) (Z:G.fnl=fn/\G.bll=bl/\G.cll=cl) (b8:T.length<=gb)
  (b3:∀(i:Nat) d x fa fd ps,T[i]? = some d->fn[i]? = some x->Stands K mg fn bl cl d x fa fd ps->FnOk P w K mg base CX0 k fa fd ps (spF ⟨K,mg⟩ ps.length (run G T fu k i))) (b2:Y8 P w K mg base fn bl cl k (run G T fu k A8)) (b1:∀C,G.clo=some C->aF P w K mg base C fn bl cl k (run G T fu k C2)):Y8 P w K mg base fn bl cl (k+1) (run G T fu (k+1) A8):=by
 intro A I s H us U Q E O f m cs F d hr e0 r hO m1 m2 m3 rp rl hF hq;have b7:T[A8]? = none:=aa (i9 b8 IL);have a1:(match T[A8]? with | none=>if A8=A8 then lamR (evE G (IY k)) (.lam m cs::F)else if A8=C2 then cloR G (evSs G (IY k) fu) (.lam m cs::F)else none | some fd=>if(DV.lam m cs::F).length=fd.np then Ou.of (evSs G (IY k) fu fd.body (o9 fd.n (.lam m cs::F)))else none)=some (.v d false):=hF;rw[b7]at a1;have j:=a1;rw[f8 rfl]at j;unfold lamR at j;dsimp only at j;split at j
 ·rename_i a4;obtain⟨n1,n2,n3,n4⟩:=a4;split at j
  ·rename_i d' b5;split at j
   ·rename_i nl;cases j;obtain⟨f',pr,bd,sc,q,a5,l,M,e1,lf,p,S,rc,b0,a9,a8⟩:=gH.mp rp;cases e1;have a7:=lf.mono A4;have a6:∀c∈l,∃o v,H c=some (.frz o (.own c))/\s.heap.get? c=some o/\o.data=.cell v:=λ c hc=>by obtain⟨o,v,X,W⟩:=a9 c hc;have g:=(C6 X).2;exact⟨o,v,g,(e0.hok c _ g).1,W⟩
    have C:CellsT l s.heap H:=⟨a6⟩;unfold ax at p;rw[f9]at p;have Y:U.length=F.length:=rl.length;have B:(m.N.take m.np).length=m.np:=by rw[F3];omega
    have b4:us.length=(m.N.take m.np).length:=by rw[←r.length,Y,B];exact n1
    have hlw:M.length=cs.length:=rc.length;have L:∀c∈l,∃o,H c=some (.frz o (.own c)):=λ c hc=>by obtain⟨o,_,g,_⟩:=a6 c hc;exact⟨o,g⟩
    have b9:Hdn O (L2.wo l H):=λ a ha=>by obtain⟨o,X,W⟩:=hO a ha;refine⟨o,?_,W⟩;rw[k9 λ z=>by obtain⟨o',g⟩:=L a z;rw[X]at g;cases g;cases W];exact X
    refine CM (ps:=m.N.take m.np) (ws:=M) (vs:=U) S C hr.ok e0 a7 (λ pm c' ctv=>Br p.1 b4) (by rw[Y,B];exact n1) r (by rw[B];exact b0) (λ i x v h1 h2=>?_) λ c'=>?_
    ·rw[B]at h1;obtain⟨c,o,u,X,W,g3,g4⟩:=a8 i x v h1 h2;have g:=(C6 W).2;exact⟨c,u,X,⟨o,(e0.hok c _ g).1,g3⟩,g4⟩
    ·have J:Room k (A.deeper (PySem.W.envX q sc s.heap.objs.size f (.ref c') a5)):=hr.deeper _;have g4:Good ⟨m.N,sc.names,fn,bl,cl,false,false,noCo⟩ G (IY k) (S9 P w K mg base m.N q sc f (.ref c') a5 A I s (L2.wo l H)):=by
      refine⟨rfl,S.nd,λ y h=>?_,λ y h=>?_,λ y h=>?_,λ y h=>h,λ y h=>h,rfl,J.units,mw hT hs b3 J,b6,a0,(λ z=>nomatch z),(λ z=>nomatch z),(λ z=>⟨Z,⟨k,J,b2,b1⟩,λ w=>nomatch w⟩),(λ _ _ _ _ z=>nomatch z),(λ z=>nomatch z)⟩
      ·unfold visB at h;simp only[F0,g9]at h;rcases h with(h | h) | h
       ·exact .inl h
       ·exact .inr (.inl h)
       ·exact .inr (.inr h)
      ·unfold gloB at h;rw[g9]at h;exact h
      ·unfold locB at h;simp only[F0,g9]at h;rcases h with h | h
       ·exact⟨.inl h,.inr h⟩
       ·exact absurd rfl (S.nocell _ (D7 h))
     have pe:=(snd m.body).1 g4 ((by have:=p.2;rw[m1,m2,m3]at this;exact this)) b5;refine⟨_,pe,O,[],?_,λ v H' sm gt=>λ a3=>?_⟩
     ·have R:=RSt.start (D:=⟨K,mg⟩) (N:=m.N) (ds:=F++cs) (vs:=U++M) (n:=m.N.length) rfl ((V2 L n3 rl).append (V2 L n4 rc)) b9;have e1:o9 m.N.length (F++cs)=(F++cs).map Sv.val:=(by unfold o9;rw[u0,show m.N.length - (F.length+cs.length)=0 by omega];exact G1 _);have e2:L2.start m.N (U++M)=(U++M).map some:=(by unfold L2.start;rw[u0,show m.N.length - (U.length+M.length)=0 by omega];exact G1 _);rw[e1,e2]at R;exact R
     ·have a2:Rep ⟨K,mg⟩ (L2.wo (O++[]) H') d v:=gt;rw[G1]at a2;refine hq v _ (λ b o e=>?_) (a2.mono λ b o e=>?_)
      ·by_cases hb:b∈l
       ·rw[gR hb];exact e
       ·rw[S8 hb];exact sm _ _ (by rw[k9 hb];exact e)
      ·obtain⟨hb,e⟩:=C6 e;rw[k9 hb,S8 λ z=>by rw[a3 b z]at e;cases e];exact e
   ·cases j
  ·cases j
 ·cases j
theorem Gc{K:IE}(hT:T.length=fn.length)(hs:∀(i:Nat) d x,T[i]? = some d->fn[i]? = some x->∃fa fd ps,Stands K mg fn bl cl d x fa fd ps)(d3:∀x∈bl,mg x=none)
  (b0:∀x d,G.con.lookup x=some d->∃u v,mg x=some u/\RelV v u/\∀H,Rep ⟨K,mg⟩ H d v) (a9:G.fnl=fn/\G.bll=bl/\G.cll=cl) (d5:T.length<=gb)
  (c4:∀(i:Nat) d x fa fd ps,T[i]? = some d->fn[i]? = some x->Stands K mg fn bl cl d x fa fd ps->FnOk P w K mg base CX0 k fa fd ps (spF ⟨K,mg⟩ ps.length (run G T fu k i))) (c3:Y8 P w K mg base fn bl cl k (run G T fu k A8)) (a7:∀C,G.clo=some C->aF P w K mg base C fn bl cl k (run G T fu k C2)) (hC:G.clo=some C):aF P w K mg base C fn bl cl (k+1) (run G T fu (k+1) C2):=by
 intro A B s H us vs Q E O f cs ds d hr e0 r hO ca a5 rl hF hq;have d4:T[C2]? = none:=aa (i9 d5 IL);have b2:(match T[C2]? with | none=>if C2=A8 then lamR (evE G (IY k)) (ds++cs)else if C2=C2 then cloR G (evSs G (IY k) fu) (ds++cs)else none | some fd=>if(ds++cs).length=fd.np then Ou.of (evSs G (IY k) fu fd.body (o9 fd.n (ds++cs)))else none)=some (.v d false):=hF;rw[d4]at b2;have L:=b2;rw[g8 IL]at L;rw[f8 rfl]at L;unfold cloR at L;rw[hC]at L;have F:(if(ds++cs).length=C.np+C.nc/\DV.nolams (ds++cs)=true then(match evSs G (IY k) fu C.body (o9 C.N.length (ds++cs))with
  | some (.rt d false)=>if d.nolam then some (Ou.v d false)else none
  | _=>none)else none)=some (.v d false):=L
 split at F
 ·rename_i b6;split at F
  ·rename_i d' d1;split at F
   ·rename_i nl;cases F;obtain⟨q,pr,bd,sc,cap,cc,l,ws,c0,o0,df,a1,S,rc,a2,c2,b9,c9,⟨s1,s2,s3⟩,J⟩:=ca;obtain⟨c8,tx,d2,a6⟩:=mu a1;have a0:∀c∈l,∃o v,H c=some (.frz o (.own c))/\s.heap.get? c=some o/\o.data=.cell v:=λ c Z=>by obtain⟨o,v,g,g2⟩:=c2 c Z;exact⟨o,v,g,(e0.hok c _ g).1,g2⟩
    have Ct:CellsT l s.heap H:=⟨a0⟩;have a3:vs.length=ds.length:=rl.length;have W:(C.N.take C.np).length=C.np:=by rw[F3];have:=tx.len;omega
    have c5:us.length=(C.N.take C.np).length:=by rw[←r.length,a3,W];exact a5
    have Y:∀c∈l,∃o,H c=some (.frz o (.own c)):=λ c Z=>by obtain⟨o,_,g,_⟩:=a0 c Z;exact⟨o,g⟩
    have b1:Hdn O (L2.wo l H):=λ a ha=>by obtain⟨o,g1,g2⟩:=hO a ha;refine⟨o,?_,g2⟩;rw[k9 λ z=>by obtain⟨o',g⟩:=Y a z;rw[g1]at g;cases g;cases g2];exact g1
    have M:∀{a b:on DV},DV.nolams (a++b)=true->DV.nolams a=true/\DV.nolams b=true:=λ {a b} h=>by
     induction a with
     | nil=>exact⟨rfl,h⟩
     | cons x a ih=>
      have h':(x.nolam&&DV.nolams (a++b))=true:=h;rw[f9]at h';obtain⟨i1,i2⟩:=ih h'.2;refine⟨?_,i2⟩;show(x.nolam&&DV.nolams a)=true;rw[h'.1,i1];rfl
    obtain⟨n3,n4⟩:=M b6.2;have nt:∀{b:Iv} {o:Obj} {u:HO},H b=some (.frz o u)->(∀v,o.data ≠ .cell v)->b∉l:=λ e hd z=>by obtain⟨o',v,g,_,d'⟩:=a0 _ z;rw[e]at g;cases g;exact hd v d'
    refine CQ (N:=C.N) (ps:=C.N.take C.np) (ws:=ws) (vs:=vs) (n:=C.N.length - C.np - C.nc) (by rw[a2];exact S) Ct hr.ok e0 df (λ b4 pm c' b5=>EB c8 c5) (by rw[a3,W];exact a5) r (by rw[W,a2];have:=tx.len;omega) (λ i x v h1 h2=>?_) λ c' oc u T' h1 h2 h3=>?_
    ·rw[W]at h1;obtain⟨c,o,u,g1,g2,g3,g4⟩:=b9 i x v h1 h2;exact⟨c,u,g1,⟨o,(e0.hok c _ g2).1,g3⟩,g4⟩
    ·have U:Room k (A.deeper (PySem.W.envX q sc s.heap.objs.size f (.ref c') cc)):=hr.deeper _;have a8:∀v,oc.data ≠ .cell v:=λ v z=>by obtain⟨o,vv,_,_,_,_,_,_,_,q1,_,q2,_⟩:=h3 s.heap (e0.hok c' _ h1).1;rw[(e0.hok c' _ h1).1]at q1;cases q1;rw[q2]at z;cases z
     have d7:K7 (L2.wo l H) o8 q pr bd sc cc f:=by
      obtain⟨c1,b8,u1,b7,t1,b4,pm,b5,T1,y1,y2,y3,y4,y5,y6⟩:=df;refine⟨c1,b8,u1,b7,t1,b4,pm,b5,T1,?_,?_,y3,y4,?_,y6⟩
      ·rw[k9 (nt y1 λ v z=>by cases z)];exact y1
      ·rw[k9 (nt y2 λ v z=>by rw[y3]at z;cases z)];exact y2
      ·rw[k9 λ z=>by obtain⟨o',g⟩:=Y _ z;rw[y5]at g;cases g];exact y5
     have new:∀c∈l,base.get? c=none/\c∉frs (PySem.W.envX q sc s.heap.objs.size f (.ref c') cc::B):=λ c Z=>by
      refine⟨(J c Z).1,λ z=>?_⟩;obtain⟨o,v,_,g,_⟩:=a0 c Z;have z':c∈s.heap.objs.size::frs B:=z;rcases i7.mp z' with w | w
      ·exact absurd (n7 g) (by rw[w];exact M9 _)
      ·exact(J c Z).2 w
     have LA:=CS (P:=P) (w:=w) (K:=K) (mg:=mg) (base:=base) (N:=C.N) (scope:=sc) (f:=f) (cl:=cc) (A:=A) (outer:=B) (sc:={sc with names:=[]}) Ct h1 a8 h2 h3 (λ y m=>absurd (show y∈([]:on (Str×II))from m) IX);have g4:Good ⟨C.N,sc.names,fn,bl,cl,false,true,noCo⟩ G (IY k) (S9 P w K mg base C.N q sc f (.ref c') cc A B s (L2.wo l H)):=by
      refine⟨rfl,tx.nd,λ y m=>?_,λ y m=>?_,λ y m=>?_,λ y m=>m,λ y m=>m,rfl,U.units,mw hT hs c4 U,d3,b0,(λ _=>PassesOwn.never),(λ z=>nomatch z),(λ z=>⟨a9,⟨k,U,c3,a7⟩,λ w=>nomatch w⟩),(λ _ _ _ _ z=>nomatch z),λ _ _=>⟨⟨c',T',rfl,λ I=>⟨LA.hd I,LA.tab I⟩⟩,λ x a e=>new a (S.mem x a e),?_⟩⟩
      ·unfold visB at m;simp only[F0,g9]at m;rcases m with(m | m) | m
       ·exact .inl m
       ·exact .inr (.inl m)
       ·exact .inr (.inr m)
      ·unfold gloB at m;rw[g9]at m;exact m
      ·unfold locB at m;simp only[F0,g9]at m;rcases m with m | m
       ·exact⟨.inl m,.inr m⟩
       ·exact absurd rfl (tx.nocell _ (D7 m))
      ·intro δ e es pos p rs re np nc d9 c7 c6 h;unfold db at h;rw[hC]at h;dsimp only at h;split at h
       ·rename_i z;obtain⟨rfl,rfl⟩:=z;obtain⟨d8,e1,h⟩:=v5.mp h;refine(tu (cs:=d8) (C:=C) (at_:=λ _ _ f'=>f'=f) (λ {ta} A=>tm (q:=q) (X:=S9 P w K mg base C.N q sc f (.ref c') cc _ B s (L2.wo l H)) (a7 C hC) U a1 (λ _=>⟨S,λ _ _ e=>e,c9⟩) (λ _ c Z=>new c Z) (λ {e3 σ H1 H2 s' f'} I sm ha=>?_) (.inr tx.slf) (by rw[List.length_range']) (λ j i' hj=>?_) e1 A c7 c6) d9 h).weak λ σ H Q z=>⟨f,rfl,z⟩
        ·subst ha;refine⟨d7.un I.base,c0,s1,o0,I.base.keep c0 o0 (e0.hok c0 _ s2).1 (Y4 (S.mem _ _ s1)) (J c0 (S.mem _ _ s1)).2 (λ z=>absurd (show c0∈([]:on Iv)from z) IX),s3⟩
        ·have d0:j<C.nc:=by have:=(A9.mp hj).1;rw[List.length_range']at this;exact this
         rw[List.getElem?_range' d0]at hj;cases hj;have a4:C.np+j<C.N.length:=by have:=tx.len;omega
         refine⟨C.N[C.np+j],k7 a4,?_,.inr (tx.fre _ _ IK IK (k7 a4))⟩;show C.N[C.np+1*j]? = _;rw[cP];exact k7 a4
       ·cases h
     refine⟨_,F1 C.body g4 a6 d1,L2.wo l H,O,[],?_,(λ a ha=>(nomatch ha)),b1.ne,Same.refl _,λ v H' sm gt=>λ b3=>?_⟩
     ·have R:=RSt.start (D:=⟨K,mg⟩) (N:=C.N) (ds:=ds++cs) (vs:=vs++ws) (n:=C.N.length) rfl ((V2 Y n3 rl).append (V2 Y n4 rc)) b1;have e2:L2.start C.N (vs++ws)=(vs++ws).map some++List.replicate (C.N.length - C.np - C.nc) none:=(by unfold L2.start;rw[u0,a3,a5,a2,Nat.sub_sub]);rw[e2]at R;exact R
     ·have d6:Rep ⟨K,mg⟩ (L2.wo O H') d v:=gt;refine hq v _ (λ b o e=>?_) (d6.mono λ b o e=>?_)
      ·by_cases hb:b∈l
       ·rw[gR hb];exact e
       ·rw[S8 hb];exact sm _ _ (by rw[k9 hb];exact e)
      ·obtain⟨hb,e⟩:=C6 e;rw[k9 hb,S8 λ z=>by rw[b3 b z]at e;cases e];exact e
   ·cases F
  ·cases F
 ·cases F
theorem tJ{P:IA}{w:Iz}{K:IE}{mg:Str->Ir Is}{base:Iw}{G:Gs}{T:on FD}{fu:Nat}{fn bl cl:on Str}(hT:T.length=fn.length)(hs:∀(i:Nat) d x,T[i]? = some d->fn[i]? = some x->∃fa fd ps,Stands K mg fn bl cl d x fa fd ps)(hbl:∀x∈bl,mg x=none)
  (hcon:∀x d,G.con.lookup x=some d->∃u v,mg x=some u/\RelV v u/\∀H,Rep ⟨K,mg⟩ H d v)
  (hlm:G.fnl.isEmpty=false->(G.fnl=fn/\G.bll=bl/\G.cll=cl)/\T.length<=gb/\∀(i:Nat) (d:FD) (x qual:Str) (st:IC) (fa:Iv) (fd:ID),T[i]? = some d->fn[i]? = some x->qual=x->FunD K x qual st fa fd->∃c P,fd.code=.ref c/\(∀h:Iw,K.In h->PySem.W.CodeHd h c P)/\(P,tagQ qual)∈A2 K) (hcl:∀d∈T,d.clo=none\/d.clo=G.clo) :
  ∀k,(∀(i:Nat) d x fa fd ps,T[i]? = some d->fn[i]? = some x->Stands K mg fn bl cl d x fa fd ps->FnOk P w K mg base CX0 k fa fd ps (spF ⟨K,mg⟩ ps.length (run G T fu k i)))/\(G.fnl.isEmpty=false->Y8 P w K mg base fn bl cl k (run G T fu k A8)/\∀C,G.clo=some C->aF P w K mg base C fn bl cl k (run G T fu k C2))
 | 0=>by
  refine⟨λ i d x fa fd ps h1 h2 S=>?_,λ _=>⟨(λ A outer s H us vs Q E O f m cs ds d _ _ _ _ _ _ _ _ _ hF _=>by cases hF),λ C _ A outer s H us vs Q E O f cs ds d _ _ _ _ _ _ _ hF _=>by cases hF⟩⟩;refine⟨λ vs H Q E h=>?_,λ A outer s H args us vs Q E hr he hb hv h=>?_⟩
  ·obtain⟨_,_,_,_,_,_,q,_⟩:=h;cases q
  ·obtain⟨_,_,_,_,_,_,q,_⟩:=h;cases q
 | k+1=>by
  have ih:=tJ (P:=P) (w:=w) (base:=base) (fu:=fu) hT hs hbl hcon hlm hcl k;refine⟨λ i d x fa fd ps h1 h2 S=>?_,λ z=>⟨Gb hT hs hbl hcon (hlm z).1 (hlm z).2.1 ih.1 (ih.2 z).1 (ih.2 z).2,λ C hC=>Gc hT hs hbl hcon (hlm z).1 (hlm z).2.1 ih.1 (ih.2 z).1 (ih.2 z).2 hC⟩⟩;obtain⟨qual,st,N,hqx,F,FS,hn,hc,hdq⟩:=S.ex;refine F.okX FS (λ vs H Q E h=>?_) (λ cdv hcd A outer s H vs Q E hr h=>?_)
  ·obtain⟨O,ds,o,_,e1,e2,_⟩:=h;rw[e2.length,e1]
  ·obtain⟨O,ds,o,ho,e1,e2,e3,e4⟩:=h;have e3':(match T[i]? with | none=>if i=A8 then lamR (evE G (IY k)) ds else if i=C2 then cloR G (evSs G (IY k) fu) ds else none | some fd=>if ds.length=fd.np then Ou.of (evSs G (IY k) fu fd.body (o9 fd.n ds))else none)=some o:=e3;rw[h1]at e3';have e3'':(if ds.length=d.np then Ou.of (evSs G (IY k) fu d.body (o9 d.n ds))else none)=some o:=e3';rw[f8 (e1.trans S.np.symm)]at e3'';have g:Good ⟨N,(A1 st).names,fn,bl,cl,true,true,cloB d.clo fn bl cl⟩ G (IY k) (cxD P w K mg base N qual (A1 st) fa cdv A outer s H):=by
    refine⟨rfl,FS.nd,λ y hy=>?_,λ y hy=>?_,λ y hy=>⟨?_,.inl rfl⟩,λ y hy=>hy,λ y hy=>hy,rfl,hr.units,mw hT hs ih.1 hr,hbl,hcon,λ _=>PassesOwn.leaving,λ _=>⟨rfl,rfl,rfl⟩,λ z=>⟨(hlm z).1,⟨k,hr,(ih.2 z).1,(ih.2 z).2⟩,λ _=>by
      obtain⟨c,P,q1,q2,q3⟩:=(hlm z).2.2 i d x qual st fa fd h1 h2 hqx F;subst hqx;obtain⟨t1,t2⟩:=FY hdq;rw[t1]at q3;exact⟨c,P,hcd.symm.trans q1,q2,q3,t2⟩⟩,(λ pr bd sc cap z=>Ga (hcl d (L0 h1)) z),λ _ z=>nomatch z⟩
    ·unfold visB at hy;simp only[F0,g9]at hy;rcases hy with(hy | hy) | hy
     ·exact .inl hy
     ·exact .inr (.inl hy)
     ·exact .inr (.inr hy)
    ·unfold gloB at hy;rw[g9]at hy;exact hy
    ·unfold locB at hy;simp only[F0,g9]at hy;exact hy
   cases ho':evSs G (IY k) fu d.body (o9 d.n ds)with
   | none=>rw[ho']at e3'';cases e3''
   | some oo=>
    rw[ho']at e3'';refine⟨_,F1 d.body g hc ho',H,O,[],RSt.start hn e2 ho,(λ a ha=>(nomatch ha)),ho.ne,Same.refl H,?_⟩;cases oo with
    | nx δ=>cases e3'';exact λ σ' H' W R fr sm=>e4 .non H' sm (show Rep ⟨K,mg⟩ (L2.wo O H') .non .non by unfold Rep;rfl)
    | rt d fr=>cases e3'';exact λ v H' sm gt=>e4 v H' sm gt
noncomputable def okD(fn bl cl:on Str)(d:FD)(N ps:on Str)(st:IC):Bool:=
 (A1 st).kind == .function && !(A1 st).isCoroutine && !(A1 st).isGenerator&&P1 N&&(N.take ps.length==ps) &&
 ps.all (λ x=>(A1 st).names.lookup x==some .local||(A1 st).names.lookup x==some .cell)&&(A1 st).names.all (λ y=>!(y.2 == .free)) &&
 d.n==N.length&&d.np==ps.length&&K6 ⟨N,(A1 st).names,fn,bl,cl,true,true,cloB d.clo fn bl cl⟩ d.body (L5 st)
section
variable {P:IA} {w:Iz} {K:IE} {mg:Str->Ir Is} {base h:Iw} {G:Gs} {T:on FD} {fu:Nat} {fn bl cl:on Str}
theorem Gd{st:IC}{kV i:Is}(X:K.In h)(E:h.Ns mainGlobals mg)(ok:okD fn bl cl d N ps st=true)
  (a:PySem.W.nsIn K mainGlobals x=some (some (.ref f))) (l:K.lookup f=some ⟨o,n,.func (PySem.W.fnOf x x (P8 st) (L5 st) (A1 st) dV kV e pm j b i),g⟩)
  (c:PySem.W.codeIn K b x=true) (k:PySem.W.keepIn K (.ref f)=true)
  (p:P9 K (PySem.W.fnOf x x (P8 st) (L5 st) (A1 st) dV kV e pm j b i) ps [])
  (C:dqB x (A1 st).names=true:=by decide +kernel) :
  Stands K mg fn bl cl d x f (PySem.W.fnOf x x (P8 st) (L5 st) (A1 st) dV kV e pm j b i) ps:=by
 unfold okD at ok;simp only[f9,g9,u8,F4,F0,B5]at ok;obtain⟨⟨⟨⟨⟨⟨⟨⟨⟨B,A⟩,z⟩,y⟩,w⟩,v⟩,u⟩,r⟩,q⟩,m⟩:=ok;exact⟨PySem.W.mg_of X E a,k,p,q,x,st,N,rfl,⟨o,n,dV,kV,e,pm,j,b,i,g,rfl,l,c⟩,⟨B,A,z,bN y,w,v,u⟩,r,m,C⟩
theorem hL{st:IC}{kV g:Is}(X:K.In h)(r:h.Ns mainGlobals mg)(ok:okD fn bl cl d N ps st=true)
  (a:PySem.W.nsIn K mainGlobals x=some (some (.ref f))) (l:K.lookup f=some ⟨o,n,.func (PySem.W.fnOf x x (P8 st) (L5 st) (A1 st) .none kV e pm i b g),m⟩)
  (c:PySem.W.codeIn K b x=true) (k:PySem.W.keepIn K (.ref f)=true)
  (p:∀(kV e pm:Is) (i:Ir Iv) (b g:Is) (j:on Is),j.length=ps.length->bindArgs (PySem.W.fnOf x x (P8 st) (L5 st) (A1 st) .none kV e pm i b g) ⟨j,[]⟩=pure (ps.zip j)) (q:dqB x (A1 st).names=true:=by decide +kernel) :
  Stands K mg fn bl cl d x f (PySem.W.fnOf x x (P8 st) (L5 st) (A1 st) .none kV e pm i b g) ps:=
 Gd X r ok a l c k (.all (p kV e pm i b g)) q
def HS(K:IE)(mg:Str->Ir Is)(fn bl cl:on Str)(T:on FD)(fs:on Str):Prop:=∀(i:Nat) d x,T[i]? = some d->fs[i]? = some x->∃fa fd ps,Stands K mg fn bl cl d x fa fd ps
theorem Ge:HS K mg fn bl cl [] fs:=λ i d x h=>by cases h
theorem t6(h:Stands K mg fn bl cl d x e fd ps)(t:HS K mg fn bl cl T fs):HS K mg fn bl cl (d::T) (x::fs):=λ i f c b a=>by
 cases i with
 | zero=>cases b;cases a;exact⟨_,_,_,h⟩
 | succ i=>exact t i f c b a
theorem Gf:L2.wo [] H=H:=by
 funext b
 unfold L2.wo;simp
def HC(K:IE)(mg:Str->Ir Is)(c:on (Str×DV)):Prop:=∀x d,c.lookup x=some d->∃u v,mg x=some u/\RelV v u/\∀H,Rep ⟨K,mg⟩ H d v
theorem Gg:HC K mg []:=λ x d h=>by cases h
theorem my(h:∃u v,mg y=some u/\RelV v u/\∀H,Rep ⟨K,mg⟩ H d v)(t:HC K mg c):HC K mg ((y,d)::c):=λ x a q=>by
 rw[G6]at q;split at q
 ·rename_i e;cases q
  rwa [cU e]
 ·exact t x a q
noncomputable def spS(K:IE):Sp:=λ vs H Q _=>∃(a:Iv) (ns:on Int),vs=[.ref a]/\ns.length<=63/\SqS K H a (ns.map V.int)/\∀H',Q (.bl true) H'
theorem Gh(X:T.length=fn.length)(L:HS K mg fn bl cl T fn)(z:∀x∈bl,mg x=none)
  (j:∀x d,G.con.lookup x=some d->∃u v,mg x=some u/\RelV v u/\∀H,Rep ⟨K,mg⟩ H d v) (Z:T[i]? = some d) (Y:fn[i]? = some x) (S:Stands K mg fn bl cl d x l fd [p])
  (o:G.fnl.isEmpty=false->(G.fnl=fn/\G.bll=bl/\G.cll=cl)/\T.length<=gb/\∀(i:Nat) (d:FD) (x b:Str) (J:IC) (l:Iv) (fd:ID),T[i]? = some d->fn[i]? = some x->b=x->FunD K x b J l fd->∃c P,fd.code=.ref c/\(∀h:Iw,K.In h->PySem.W.CodeHd h c P)/\(P,tagQ b)∈A2 K) (y:∀d∈T,d.clo=none\/d.clo=G.clo)
  (n:∀ns:on Int,ns.length<=63->run G T fu k i [.scr ns]=some (.v (.bl true) false)):FnOk P w K mg base CX0 k l fd [p] (spS K):=by
 refine⟨λ F H Q E h=>?_,λ A f s H m I F Q E M R U hv h=>?_⟩
 ·obtain⟨a,ns,rfl,_⟩:=h;rfl
 ·obtain⟨a,ns,rfl,O,hS,N⟩:=h;refine P7 (((tJ X L z j o y k).1 i d x l fd [p] Z Y S).run A f s H m I _ Q E0 M R U hv ⟨[],[.scr ns],_,(λ a W=>(nomatch W)),rfl,?_,n ns O,λ v C _ g=>?_⟩) λ r s' q=>?_
  ·refine RepL.one (Y3.mpr ⟨a,rfl,?_⟩);rw[Gf];exact hS
  ·have B:Rep ⟨K,mg⟩ (L2.wo [] C) _ v:=g;rw[bA]at B;subst B;exact N C
  ·cases r with
   | error e=>exact(q:False).elim
   | ok fl=>cases fl<;>first | exact False.elim q | exact q
end
theorem walkE{l:PySem.W.OpenLaw}{XP:(Str->Ir Is)->Iw->Prop}{K:Params->IE}(r:l.most=some 63)(g:d.params.defaults=[])(o:Room k callerA)
  (x:∀(w:Iz) (h:Iw),YP w h->(K w.params).In h) (e:∀(w:Iz) (h:Iw),YP w h->(∀p∈A2 (K w.params),(K w.params).lookup p.1=none/\h.get? p.1=some {cls:=.none,data:=.fields #[]} /\ isCodeTable h p.1)/\((A2 (K w.params)).map (·.1)).Nodup)
  (F:∀(w:Iz) (c:Str->Ir Is) (j:Iv) (h:Iw),(K w.params).In h->h.Ns mainGlobals c->c d.name=some (.ref j) ->
   ∃i:ID,(∀(s:Iu) (u:Is),BindsTo s i ⟨[u],[]⟩ [(p,u)])/\∀b:Iw,(K w.params).In b->b.Ns mainGlobals c->FnOk l.prog w (K w.params) c b CX0 k j i [p] (spS (K w.params))) :
  PySem.W.WalkO q loose XP YP l.row.toRowW d [] (λ f m=>PySem.call f m):=
 L2.walk_of r IL g o x e F (λ _ _ a n v A y=>⟨a,n,rfl,v,SqS.of A y,λ _=>rfl⟩) λ _ _ _ _ _ z=>z
noncomputable def tK(K:IE)(o:Obj)(c:Iv):Ir Iv:=match o.cls,o.data with
 | .type "code",.fields vs=>(match(vs[11]?:Ir Is),(vs[18]?:Ir Is),(vs[7]?:Ir Is),(vs[9]?:Ir Is),(vs[10]?:Ir Is)with
  | some (.ref P),some (.str _ _),some (.int _ _),some (.bool _),some (.int _ _)=>if(c==P)=false/\(K.lookup P).isNone=true then some P else none
  | _,_,_,_,_=>none)
 | _,_=>none
def Gi(K:IE):Bool:=K.all λ p=>match p.2.data with
 | .func fd=>(match fd.code with
  | .ref c=>(match K.lookup c with | some o=>(tK K o c).isSome | none=>true)
  | _=>true)
 | _=>true
theorem dQ{vs:Iy Is}(h:vs[i]? = some v):vs.getD i .none=v:=by
 rw[aP,h];rfl
theorem Gj{K:IE}{st:IC}(R:Gi K=true)(F:FunD K x f st W fd):∃c P,fd.code=.ref c/\(∀h:Iw,K.In h->PySem.W.CodeHd h c P)/\(P,tagQ f)∈A2 K:=by
 obtain⟨oc,od,dV,kV,Y,pm,an,w,ct,H,e,I,g⟩:=F.ex;have j:fd.code=w:=by rw[e]
 have q:=F4.mp R _ (cX I);dsimp only at q;unfold PySem.W.codeIn at g;split at g
 ·rename_i c;rw[j]at q;dsimp only at q;split at g
  ·rename_i cls Z y sl p;rw[p]at q;dsimp only at q;obtain⟨P,i⟩:=Z7.mp q;unfold tK at i;split at i
   ·rename_i B A S;have u:=(by have:=S;injection this);subst u;split at i
    ·rename_i P' k E U m b C l o O N M L;split at i
     ·rename_i d;cases i;split at g
      ·rename_i a n t r hv;have Q:=g9.mp g;subst Q;have J:y[1]? = some (.str n t):=by rw[←K9,hv];rfl
       refine⟨c,P,j,λ h X=>⟨_,y,k,E,U,m,b,C,l,X _ _ p,A,rfl,o,dQ o,dQ O,dQ N,dQ M,dQ L,λ z=>?_⟩,?_⟩
       ·rw[z]at d;have:=d.1;simp at this
       ·unfold A2;refine cq.mpr ⟨_,cX p,?_⟩;have v:=A;subst v;simp only[o,J,d.2,if_true]
      ·cases g
     ·cases i
    ·cases i
   ·cases i
  ·cases g
 ·cases g
theorem Gk{K:IE}(h:p∈A2 K):∃(c:Iv) (a:Obj) (vs:Iy Is),(c,a)∈K/\a.cls=.type "code" /\ a.data=.fields vs/\vs[11]? = some (.ref p.1)/\K.lookup p.1=none:=by
 unfold A2 at h;obtain⟨⟨c,a⟩,d,e⟩:=cq.mp h;dsimp only at e;split at e
 ·rename_i vs g f;split at e
  ·rename_i P q t b k2;split at e
   ·rename_i z;cases e;exact⟨c,a,vs,d,g,f,b,nX.mp z⟩
   ·cases e
  ·cases e
 ·cases e
theorem Gm{K:IE}(f:(K.map (·.1)).Nodup)(h:(c,o)∈K):K.lookup c=some o:=by
 induction K with
 | nil=>cases h
 | cons y l g=>
  rw[B3]at f;have d:=O4.mp f;obtain⟨a,b⟩:=y;rw[G6];rcases i7.mp h with z | z
  ·cases z;rw[U0]
  ·have:c≠a:=λ e=>d.1 (by rw[←e];exact i8.mpr ⟨_,z,rfl⟩);rw[B5.mpr this];exact g d.2 z
theorem htb_of{K T:IE}(i:K.In h)(f:T.In h)(e:(K.map (·.1)).Nodup)(j:(A2 K).map (λ p=>T.lookup p.1)=(A2 K).map λ _=>some {cls:=.none,data:=.fields #[]}) :
  ∀p∈A2 K,K.lookup p.1=none/\h.get? p.1=some {cls:=.none,data:=.fields #[]} /\ isCodeTable h p.1:=λ p a=>by
 obtain⟨c,d,b,g,n,m,l,k⟩:=Gk a;exact⟨k,f _ _ (List.map_inj_left.mp j p a),c,d,b,i _ _ (Gm e g),n,m,l⟩
theorem in_app{K:IE}(X:PySem.W.Frag.In (T++K) h)(f:(K.map (·.1)).all (λ a=>(T.lookup a).isNone)=true):K.In h/\T.In h:=by
 have c:∀(T K:IE) a,(T++K).lookup a=(T.lookup a).or (K.lookup a):=λ T K a=>by
  induction T with
  | nil=>simp
  | cons y l d=>
   obtain⟨b,v⟩:=y;rw[List.cons_append,G6,G6];cases hb:a==b with
   | true=>rfl
   | false=>
    exact d
 refine⟨λ a o e=>X a o ?_,λ a o e=>X a o ?_⟩
 ·rw[c,nX.mp (F4.mp f a (i8.mpr ⟨_,cX e,rfl⟩)),e];rfl
 ·rw[c,e];rfl
end L2
end
noncomputable section
namespace k23
open PySem L2
noncomputable def tL:FD:={n:=3,np:=3,body:=[.ret (.and [.isi (.var 0) ["int"],.not (.isi (.var 0) ["bool"]),.chain .LtE .LtE (.var 1) (.var 0) (.var 2)])]}
noncomputable def tM:FD:={n:=1,np:=1,body:=[.ret (.bi .tuple [.comp (.bi .tuple [.comp (.ix (.var 0) (.var 1)) (.one 0) (.var 1) [none,some 0]]) (.one 0) (.rng [.bi .len [.ix (.var 0) (.int 0)]]) [none,some 0]])]}
noncomputable def tN:FD:={n:=3,np:=3,body:=[.exp (.call 3 [.var 1,.bi .len [.var 0]]),.exp (.call 3 [.var 2,.bi .len [.ix (.var 0) (.int 0)]]),.ret (.call 5 [.var 0,.call 4 [.var 1],.call 4 [.var 2]])]}
noncomputable def tO:FD:={n:=2,np:=2,body:=[.iff (.not (.call 0 [.var 0,.int 1,.bin .Sub (.bin .LShift (.int 1) (.var 1)) (.int 1)])) [.unk] []]}
noncomputable def mz:FD:={n:=1,np:=1,body:=[.ret (.compi (.var 0) (.one 0) (.rng [.meth .bitLength (.var 0) []]) (.bin .BitAnd (.bin .RShift (.var 1) (.var 0)) (.int 1)) [none,some 0])]}
noncomputable def tP:FD:={n:=3,np:=3,body:=[.ret (.bi .tuple [.comp (.bi .tuple [.comp (.ix (.ix (.var 1) (.var 2)) (.var 0)) (.one 0) (.var 1) [none,some 2,some 0]]) (.one 0) (.var 1) [none,some 2,some 0]])]}
noncomputable def tQ:FD:={n:=1,np:=1,body:=[.ret (.comp (.idx (.var 1) (.var 0)) (.one 0) (.var 0) [none,some 0])]}
noncomputable def tR:FD:={n:=1,np:=1,body:=[.ret (.call 6 [.call 1 [.var 0]])]}
noncomputable def tS:FD:={n:=1,np:=1,body:=[.ret (.call 5 [.var 0,.bi .sset [.call 6 [.var 0]],.bi .sset [.call 7 [.var 0]]])]}
noncomputable def tU:FD:={n:=2,np:=1,body:=[.set 1 false (.call 8 [.var 0]),.ret (.and [.cmp .LtE (.bi .len [.var 1]) (.glb "SMALL_LINES"),.cmp .LtE (.bi .len [.ix (.var 1) (.int 0)]) (.glb "SMALL_LINES")])]}
noncomputable def tV:FD:={n:=1,np:=1,body:=[.iff (.not (.call 9 [.var 0])) [.unk] []]}
def mB:FD:={n:=3,np:=1,body:=[.set 1 true (.lst []),.fo (.one 2) (.var 0) [.ext 1 (.var 2)],.ret (.bi .sset [.var 1])]}
noncomputable def tW:FD:={n:=1,np:=1,body:=[.ret (.call 14 [.call 15 [.var 0]])]}
noncomputable def tX:FD:={n:=1,np:=1,body:=[.ret (.call 14 [.call 16 [.var 0]])]}
noncomputable def tY:FD:={n:=1,np:=1,body:=[.ret (.comp (.tup [.ix (.var 0) (.int 0),.ix (.var 0) (.int 1),.var 1]) (.many [0,1]) (.itm (.var 0)) [none,none])]}
noncomputable def tZ:FD:={n:=1,np:=1,body:=[.ret (.call 19 [.var 0,.int 0,.glb "joined_bits"])]}
noncomputable def ua:FD:={n:=1,np:=1,body:=[.ret (.call 19 [.var 0,.int 1,.glb "joined_ends"])]}
noncomputable def mD:FD:={n:=2,np:=2,body:=[.ret (.bin .Add (.int 1) (.bi .max [.var 0,.var 1]))]}
noncomputable def ub:FD:={n:=2,np:=2,body:=[.ret (.bin .Add (.var 0) (.var 1))]}
def Gn:FD:={n:=8,np:=3,body:=[.exp (.call 10 [.var 0]),.set 3 false (.call 8 [.var 0]),.sep 4,.fo (.one 5) (.rng [.int 1,.bin .LShift (.int 1) (.bi .len [.var 3])]) [.fo (.one 6) (.rng [.int 1,.bin .LShift (.int 1) (.bi .len [.ix (.var 3) (.int 0)])]) [.iff (.cmp .Eq (.bi .len [.call 11 [.call 2 [.var 3,.var 5,.var 6]]]) (.int 1)) [.dpp 4 [.var 5,.var 6] (.var 1)] [.set 7 false (.call 20 [.var 5,.var 6]),.dpp 4 [.var 5,.var 6] (.bi .min [.comp (.callv 4 [("joined_bits",17),("joined_ends",18)] [.dgp 5 (.var 2),.dgp 5 (.var 3)]) (.many [0,1,2,3]) (.var 7) [none,none,none,none,some 2,some 4]])]]],.retd 4]}
noncomputable def mE:FD:={n:=4,np:=2,body:=[.set 2 false (.comp (.tup [.str "row",.var 0,.tup [.bin .Sub (.var 1) (.var 0),.var 2],.tup [.var 0,.var 2]]) (.one 0) (.call 21 [.var 0]) [none,some 0,some 1]),.set 3 false (.comp (.tup [.str "column",.var 0,.tup [.var 1,.bin .Sub (.var 2) (.var 0)],.tup [.var 1,.var 0]]) (.one 0) (.call 21 [.var 1]) [none,some 0,some 1]),.ret (.bin .Add (.var 2) (.var 3))]}
noncomputable def mF:FD:={n:=1,np:=1,body:=[.ret (.compi (.var 0) (.one 0) (.rng [.int 1,.var 0]) (.and [.cmp .Eq (.bin .BitAnd (.var 0) (.var 1)) (.var 0),.cmp .Lt (.var 0) (.bin .Sub (.var 1) (.var 0))]) [none,some 0])]}
noncomputable def uc:FD:={n:=1,np:=1,body:=[.ret (.ix (.ix (.call 12 [.var 0]) (.neg (.int 1))) (.int 2))]}
noncomputable def ud:FD:={n:=1,np:=1,body:=[.ret (.ix (.ix (.call 13 [.var 0]) (.neg (.int 1))) (.int 2))]}
noncomputable def ue:FD:={n:=1,np:=1,body:=[.ret (.call 26 [.var 0,.call 15 [.var 0],.glb "joined_bits"])]}
noncomputable def uf:FD:={n:=1,np:=1,body:=[.ret (.call 26 [.var 0,.call 16 [.var 0],.glb "joined_ends"])]}
def clo:Ir CloD:=some ⟨["rows","columns","numbers","joined","rest","own","words","split","no","yes"],2,4,[.set 6 false (.call 11 [.call 2 [.var 4,.var 0,.var 1]]),.iff (.cmp .Eq (.bi .len [.var 6]) (.int 1)) [.ret (.tup [.str "end",.ix (.var 6) (.int 0)])] [],.set 7 false (.mink (.call 20 [.var 0,.var 1]) ["way","joined","numbers"] 1 (.callv 1 [("joined_bits",17),("joined_ends",18)] [.dix (.var 2) (.ix (.var 0) (.int 2)),.dix (.var 2) (.ix (.var 0) (.int 3))]) [3,2]),.set 8 false (.ix (.var 7) (.int 2)),.set 9 false (.ix (.var 7) (.int 3)),.ret (.tup [.str "ask",.ix (.var 7) (.int 0),.call 28 [.ix (.var 7) (.int 1),.dix (.var 5) (.ix (.var 7) (.int 0))],.self 2 4 [.ix (.var 8) (.int 0),.ix (.var 8) (.int 1)],.self 2 4 [.ix (.var 9) (.int 0),.ix (.var 9) (.int 1)]])]⟩
def dR:FD:={n:=6,np:=3,clo:=clo,body:=[.set 3 false (.call 8 [.var 0]),.set 4 false (.dc2 "row" "column" (.call 27 [.call 6 [.var 0]]) (.call 27 [.call 7 [.var 0]])),.dfr 5 [1,2,3,4] [.bin .Sub (.bin .LShift (.int 1) (.bi .len [.var 3])) (.int 1),.bin .Sub (.bin .LShift (.int 1) (.bi .len [.ix (.var 3) (.int 0)])) (.int 1)]]}
noncomputable def mG:FD:={n:=1,np:=1,body:=[.ret (.comp (.bi .sum [.compi (.bin .LShift (.int 1) (.var 0)) (.many [0,1]) (.enu (.var 1)) (.cmp .Eq (.var 1) (.var 2)) [none,none,some 0]]) (.one 0) (.bi .sset [.var 0]) [none,some 0])]}
noncomputable def ug:FD:={n:=2,np:=2,body:=[.ret (.bi .sum [.comp (.ix (.var 1) (.var 0)) (.one 0) (.call 4 [.var 0]) [none,some 1]])]}
noncomputable def Go:FD:={n:=1,np:=1,body:=[.ret (.and [.isi (.var 0) ["int"],.not (.isi (.var 0) ["bool"])])]}
noncomputable def uh:FD:={n:=2,np:=2,body:=[.iff (.cmp .Lt (.var 1) (.bi .len [.var 0])) [.ret (.ix (.var 0) (.var 1))] [],.ret (.int 0)]}
def ui:FD:={n:=7,np:=2,body:=[.set 2 true (.lst []),.set 3 false (.var 0),.fo (.one 4) (.rng [.var 1]) [.app 2 (.bin .Mod (.var 3) (.int 306783379)),.set 3 false (.bin .FloorDiv (.var 3) (.int 306783379))],.iff (.cmp .Gt (.var 3) (.int 0)) [.ret (.var 2)] [],.set 5 false (.bin .Add (.bin .Mod (.var 0) (.int 2147483647)) (.int 48271)),.fo (.one 4) (.rng [.var 1]) [.set 5 false (.bin .Mod (.bin .Add (.bin .Add (.bin .Mult (.var 5) (.int 48271)) (.bin .Mult (.var 4) (.var 4))) (.int 11)) (.int 2147483647)),.set 6 false (.bin .Add (.bin .Add (.bin .Mult (.bin .FloorDiv (.var 5) (.int 977)) (.int 16807)) (.bin .Mult (.var 5) (.bin .Add (.bin .Mult (.var 4) (.var 4)) (.int 7)))) (.var 4)),.seti 2 (.var 4) (.bin .FloorDiv (.bin .Mod (.var 6) (.int 2147483587)) (.int 7))],.ret (.var 2)]}
def dU:FD:={n:=10,np:=3,body:=[.set 3 false (.ix (.lst [.int 4,.int 4,.int 4,.int 4,.int 4,.int 4,.int 4,.int 5]) (.bin .Mod (.ix (.var 2) (.int 0)) (.int 8))),.set 4 false (.bin .Add (.int 1) (.bin .Mod (.ix (.var 2) (.int 1)) (.var 3))),.set 5 false (.bin .Add (.int 1) (.bin .Mod (.ix (.var 2) (.int 2)) (.var 3))),.set 6 false (.ix (.lst [.int 2,.int 3,.int 10,.int 2]) (.bin .Mod (.ix (.var 2) (.int 3)) (.int 4))),.set 7 true (.comp (.bin .Mod (.var 0) (.var 1)) (.one 0) (.call 31 [.call 30 [.var 0,.int 1],.bin .Mult (.var 4) (.var 5)]) [none,some 6]),.fo (.one 8) (.rng [.bi .min [.bin .Mult (.var 4) (.var 5),.bin .Sub (.bi .len [.var 0]) (.var 1)]]) [.seti 7 (.var 8) (.bin .Mod (.ix (.var 0) (.bin .Add (.var 1) (.var 8))) (.var 6))],.set 9 false (.comp (.sl (.var 1) (.bin .Mult (.var 0) (.var 2)) (.bin .Add (.bin .Mult (.var 0) (.var 2)) (.var 2))) (.one 0) (.rng [.var 4]) [none,some 7,some 5]),.iff (.cmp .Eq (.bin .Mod (.ix (.var 2) (.int 4)) (.int 8)) (.int 1)) [.set 9 false (.comp (.comp (.bi .int [.cmp .Eq (.var 1) (.var 0)]) (.one 0) (.rng [.var 1]) [none,some 0]) (.one 0) (.rng [.var 4]) [none,some 5])] [],.iff (.cmp .Eq (.bin .Mod (.ix (.var 2) (.int 4)) (.int 8)) (.int 2)) [.set 9 false (.comp (.comp (.bi .int [.cmp .Lt (.var 1) (.var 0)]) (.one 0) (.rng [.var 1]) [none,some 0]) (.one 0) (.rng [.var 4]) [none,some 5])] [],.iff (.cmp .Eq (.bin .Mod (.ix (.var 2) (.int 4)) (.int 8)) (.int 3)) [.set 9 false (.comp (.comp (.bin .Mod (.ix (.var 1) (.int 5)) (.int 10)) (.one 0) (.rng [.var 1]) [none,some 2]) (.one 0) (.rng [.var 4]) [none,some 5,some 2])] [],.ret (.var 9)]}
def uj:FD:={n:=7,np:=2,body:=[.set 2 false (.call 31 [.call 30 [.var 0,.int 0],.int 24]),.set 3 false (.call 32 [.var 0,.var 1,.var 2]),.fo (.one 4) (.rng [.bin .Mod (.ix (.var 2) (.int 6)) (.int 5)]) [.iff (.and [.cmp .Lt (.bi .len [.var 3]) (.int 8),.cmp .Eq (.bin .Mod (.ix (.var 2) (.bin .Add (.int 7) (.var 4))) (.int 2)) (.int 0)]) [.set 5 false (.bin .Mod (.ix (.var 2) (.bin .Add (.int 12) (.var 4))) (.bin .Add (.bi .len [.var 3]) (.int 1))),.set 3 false (.bin .Add (.bin .Add (.slt (.var 3) (.var 5)) (.lst [.ix (.var 3) (.bin .Mod (.ix (.var 2) (.bin .Add (.int 17) (.var 4))) (.bi .len [.var 3]))])) (.slf (.var 3) (.var 5)))] [.iff (.cmp .Lt (.bi .len [.ix (.var 3) (.int 0)]) (.int 8)) [.set 5 false (.bin .Mod (.ix (.var 2) (.bin .Add (.int 12) (.var 4))) (.bin .Add (.bi .len [.ix (.var 3) (.int 0)]) (.int 1))),.set 6 false (.bin .Mod (.ix (.var 2) (.bin .Add (.int 17) (.var 4))) (.bi .len [.ix (.var 3) (.int 0)])),.set 3 false (.comp (.bin .Add (.bin .Add (.slt (.var 0) (.var 1)) (.lst [.ix (.var 0) (.var 2)])) (.slf (.var 0) (.var 1))) (.one 0) (.var 3) [none,some 5,some 6])] []]],.ret (.bi .tuple [.comp (.bi .tuple [.var 0]) (.one 0) (.var 3) [none]])]}
noncomputable def Gp:FD:={n:=4,np:=3,body:=[.wh (.cmp .Eq (.ix (.var 0) (.int 0)) (.str "ask")) [.set 3 false (.var 1),.iff (.cmp .Eq (.ix (.var 0) (.int 1)) (.str "column")) [.set 3 false (.var 2)] [],.set 0 false (.ix (.var 0) (.bin .Add (.int 3) (.bin .BitAnd (.bin .RShift (.ix (.var 0) (.int 2)) (.var 3)) (.int 1))))],.ret (.ix (.var 0) (.int 1))]}
noncomputable def Gq:FD:={n:=1,np:=1,body:=[.iff (.cmp .Eq (.ix (.var 0) (.int 0)) (.str "end")) [.ret (.int 0)] [],.ret (.bin .Add (.int 1) (.bi .max [.call 36 [.ix (.var 0) (.int 3)],.call 36 [.ix (.var 0) (.int 4)]]))]}
noncomputable def Gr:FD:={n:=1,np:=1,body:=[.iff (.cmp .Eq (.ix (.var 0) (.int 0)) (.str "end")) [.ret (.int 1)] [],.ret (.bin .Add (.call 37 [.ix (.var 0) (.int 3)]) (.call 37 [.ix (.var 0) (.int 4)]))]}
def uk:FD:={n:=4,np:=2,body:=[.fo (.one 2) (.rng [.bi .len [.var 1]]) [.fo (.one 3) (.rng [.bi .len [.ix (.var 1) (.int 0)]]) [.iff (.cmp .NotEq (.call 34 [.var 0,.var 2,.var 3]) (.ix (.ix (.var 1) (.var 2)) (.var 3))) [.ret (.bl false)] []]],.ret (.bl true)]}
def ul:FD:={n:=5,np:=3,body:=[.set 3 true (.lst []),.fo (.one 4) (.rng [.bi .len [.var 0]]) [.iff (.cmp .Eq (.bin .Mod (.bin .FloorDiv (.ix (.var 1) (.bin .Mod (.bin .Add (.var 2) (.var 4)) (.bi .len [.var 1]))) (.bin .Add (.int 3) (.var 4))) (.int 2)) (.int 1)) [.app 3 (.ix (.var 0) (.var 4))] []],.iff (.cmp .Eq (.var 3) (.lst [])) [.set 3 true (.lst [.ix (.var 0) (.bin .Mod (.ix (.var 1) (.bin .Mod (.var 2) (.bi .len [.var 1]))) (.bi .len [.var 0]))])] [],.iff (.cmp .Eq (.bi .len [.var 3]) (.bi .len [.var 0])) [.pop 3 (.bin .Mod (.ix (.var 1) (.bin .Mod (.var 2) (.bi .len [.var 1]))) (.bi .len [.var 0]))] [],.ret (.var 3)]}
def um:FD:={n:=5,np:=3,body:=[.set 3 false (.int 0),.fo (.one 4) (.rng [.int 8]) [.iff (.or [.cmp .In (.var 4) (.var 1),.and [.cmp .NotIn (.var 4) (.var 0),.cmp .Eq (.bin .BitAnd (.bin .RShift (.var 2) (.var 4)) (.int 1)) (.int 1)]]) [.set 3 false (.bin .BitOr (.var 3) (.bin .LShift (.int 1) (.var 4)))] []],.ret (.var 3)]}
def mH:FD:={n:=14,np:=6,body:=[.set 6 false (.lst []),.fo (.one 7) (.var 1) [.set 6 false (.bin .Add (.var 6) (.comp (.ix (.ix (.var 1) (.var 2)) (.var 0)) (.one 0) (.var 2) [none,some 0,some 7]))],.set 8 false (.ix (.var 3) (.bin .Mod (.var 4) (.bi .len [.var 3]))),.iff (.cmp .Eq (.bi .min [.var 6]) (.bi .max [.var 6])) [.iff (.or [.cmp .Eq (.var 5) (.int 0),.cmp .Gt (.bin .Mod (.var 8) (.int 5)) (.int 0)]) [.ret (.tup [.str "end",.ix (.var 6) (.int 0)])] [],.set 9 false (.call 41 [.var 0,.var 1,.var 2,.var 3,.bin .Add (.bin .Mult (.int 2) (.var 4)) (.int 1),.bin .Sub (.var 5) (.int 1)]),.ret (.tup [.str "ask",.ix (.lst [.str "row",.str "column"]) (.bin .Mod (.bin .FloorDiv (.var 8) (.int 5)) (.int 2)),.bin .Add (.int 1) (.bin .Mod (.bin .FloorDiv (.var 8) (.int 11)) (.int 255)),.var 9,.var 9])] [],.set 10 false (.or [.cmp .Eq (.bi .len [.var 2]) (.int 1),.and [.cmp .Gt (.bi .len [.var 1]) (.int 1),.cmp .Eq (.bin .Mod (.var 8) (.int 2)) (.int 0)]]),.iff (.var 10) [.set 11 false (.call 39 [.var 1,.var 3,.var 4]),.set 12 false (.call 41 [.var 0,.compi (.var 0) (.one 0) (.var 1) (.cmp .NotIn (.var 0) (.var 1)) [none,some 11],.var 2,.var 3,.bin .Add (.bin .Mult (.int 2) (.var 4)) (.int 1),.var 5]),.set 13 false (.call 41 [.var 0,.var 11,.var 2,.var 3,.bin .Add (.bin .Mult (.int 2) (.var 4)) (.int 2),.var 5]),.ret (.tup [.str "ask",.str "row",.call 40 [.var 1,.var 11,.bin .FloorDiv (.var 8) (.int 7)],.var 12,.var 13])] [],.set 11 false (.call 39 [.var 2,.var 3,.var 4]),.set 12 false (.call 41 [.var 0,.var 1,.compi (.var 0) (.one 0) (.var 2) (.cmp .NotIn (.var 0) (.var 1)) [none,some 11],.var 3,.bin .Add (.bin .Mult (.int 2) (.var 4)) (.int 1),.var 5]),.set 13 false (.call 41 [.var 0,.var 1,.var 11,.var 3,.bin .Add (.bin .Mult (.int 2) (.var 4)) (.int 2),.var 5]),.ret (.tup [.str "ask",.str "column",.call 40 [.var 2,.var 11,.bin .FloorDiv (.var 8) (.int 7)],.var 12,.var 13])]}
def hU:FD:={n:=13,np:=1,body:=[.set 1 false (.call 33 [.var 0,.int 2]),.set 2 false (.call 22 [.var 1]),.set 3 false (.call 23 [.var 1]),.iff (.or [.not (.call 29 [.var 2]),.not (.call 29 [.var 3]),.cmp .Gt (.var 3) (.bin .LShift (.int 1) (.var 2))]) [.ret (.bl false)] [],.set 4 false (.lst []),.fo (.one 5) (.var 1) [.set 4 false (.bin .Add (.var 4) (.bi .list [.var 5]))],.iff (.or [.cmp .Lt (.var 3) (.bi .lset [.var 4]),.cmp .NotEq (.cmp .Eq (.var 2) (.int 0)) (.cmp .Eq (.bi .lset [.var 4]) (.int 1))]) [.ret (.bl false)] [],.fo (.one 6) (.bin .Add (.lst [.call 30 [.var 0,.int 0]]) (.sl (.var 0) (.int 1) (.int 21))) [.set 7 false (.bi .lrng [.bi .len [.var 1]]),.set 8 false (.bi .lrng [.bi .len [.ix (.var 1) (.int 0)]]),.set 9 false (.call 41 [.var 1,.var 7,.var 8,.call 31 [.var 6,.int 61],.int 0,.int 1]),.iff (.or [.not (.call 38 [.var 9,.var 1]),.cmp .Gt (.var 2) (.call 36 [.var 9]),.cmp .Gt (.var 3) (.call 37 [.var 9])]) [.ret (.bl false)] []],.set 10 false (.call 24 [.var 1]),.set 11 false (.call 25 [.var 1]),.iff (.or [.cmp .NotEq (.call 36 [.var 10]) (.var 2),.cmp .NotEq (.call 37 [.var 11]) (.var 3),.cmp .Lt (.call 37 [.var 10]) (.var 3),.cmp .Lt (.call 36 [.var 11]) (.var 2)]) [.ret (.bl false)] [],.set 12 false (.bi .tuple [.comp (.bi .tuple [.comp (.bin .Sub (.int 9) (.var 0)) (.one 0) (.var 0) [none]]) (.one 0) (.var 1) [none]]),.ret (.and [.cmp .Eq (.call 22 [.var 12]) (.var 2),.cmp .Eq (.call 23 [.var 12]) (.var 3)])]}
def T:on FD:=[tL,tM,tN,tO,mz,tP,tQ,tR,tS,tU,tV,mB,tW,tX,tY,tZ,ua,mD,ub,Gn,mE,mF,uc,ud,ue,uf,dR,mG,ug,Go,uh,ui,dU,uj,Gp,tL,Gq,Gr,uk,ul,um,mH,hU]
noncomputable def fnl:on Str:="is_int" :: "flipped" :: "cut" :: "check_cards" :: "cards_in" :: "crossing" :: "row_kinds" :: "column_kinds" :: "trimmed" :: "is_small" :: "check_small" :: "words_in" :: "bits_paper" :: "ends_paper" :: "paper" :: "bits_numbers" :: "ends_numbers" :: "joined_bits" :: "joined_ends" :: "least_numbers" :: "splits" :: "halves" :: "least_bits" :: "fewest_ends" :: "least_plan" :: "fewest_plan" :: "plan_by" :: "sets_of_kinds" :: "widened" :: "_law_int" :: "_law_cell_at" :: "_law_stream" :: "_law_core" :: "_law_table" :: "_law_reached" :: "is_int" :: "_law_deep" :: "_law_ends" :: "_law_settles" :: "_law_chosen" :: "_law_set" :: "_law_asked" :: "law" :: []
noncomputable def bll:on Str:="isinstance" :: "int" :: "bool" :: "tuple" :: "range" :: "len" :: "sorted" :: "set" :: "max" :: "min" :: "sum" :: "enumerate" :: "list" :: []
noncomputable def cll:on Str:="TalkError" :: "NoCard" :: "TooGreat" :: []
def G:Gs:={con:=[("SMALL_LINES",.int 5),("joined_bits",.fn "joined_bits"),("joined_ends",.fn "joined_ends")],clo:=clo,fnl:=fnl,bll:=bll,cll:=cll}
end k23
namespace k23
open PySem L2
theorem uo:run G T fu (k+1) 29 [.int x]=some (.v (.bl true) false):=by
 rw[p7 rfl rfl];rfl
theorem mI(ns:on Int)(j:Nat):∃v:Int,run G T fu (k+1) 30 [.scr ns,.int j]=some (.v (.int v) false):=by
 rw[p7 rfl rfl];unfold uh;have c:∀F,evE G F (.cmp .Lt (.var 1) (.bi .len [.var 0])) _=some _:=λ F=>b_lt (f6 rfl) (rfl:evE G F (.bi .len [.var 0]) [.val (.scr ns),.val (.int j)]=some _)
 by_cases h:j<ns.length
 ·refine⟨ns[j],p9 (U8 (o7 ((c _).trans (by rw[A0 IK]))) (o6 (r6 (q9 (f6 rfl) (f6 rfl) ?_))))⟩;show((E4 ns.length (j:Int)).bind λ j=>ns[j]?).map DV.int=_;unfold E4;rw[f8 (E7 j),f8 IK,B7];show(ns[j]?).map DV.int=_;rw[k7 h];rfl
 ·exact⟨0,p9 (x8 (o7 ((c _).trans (by rw[C7 IK]))) (o6 rfl))⟩
theorem V4{n:Nat}(h:IM e cl (.int n))(hn:n<=1000):s9 (evE G F (.rng [e]) δ)=some (.ok (upTo 0 n) .fresh):=by
 show s9 (Rs.thn _ _)=_;rw[f7 h j9,dg];have hs:(J4 (n:Int)&&decide ((n:Int)<=(m7:Int)))=true:=by rw[f9,P5];refine⟨?_,bg (show(n:Int)<=1000 by omega) IL⟩;unfold J4;rw[f9,P5,P5];exact⟨bg IL (E7 n),iY (show(n:Int)<=1000 by omega) IL⟩
 show s9 ((if J4 (n:Int)&&decide ((n:Int)<=(m7:Int))then some (upTo 0 (n:Int).toNat)else none).map λ a=>.ok _ .fresh)=_;rw[f8 hs,B7];rfl
theorem aI(h:IM e c (.lst ds)):evE G F (.bi .tuple [e]) δ=some (.ok (.tup ds) c.item):=by
 show Rs.thn _ _=_;rw[f7 h j9];rfl
theorem V5(h:IM e c (.lst ds)):evE G F (.bi .len [e]) δ=some (.ok (.int ds.length) .strong):=by
 show Rs.thn _ _=_;rw[f7 h j9];rfl
theorem V6(h:IM e c (.tup ds)):evE G F (.bi .len [e]) δ=some (.ok (.int ds.length) .strong):=by
 show Rs.thn _ _=_;rw[f7 h j9];rfl
noncomputable def iD(r:on Int):on DV:=r.map DV.int
def rL(rows:on (on Int)):DV:=.lst (rows.map λ r=>.lst (iD r))
def tT(rows:on (on Int)):DV:=.tup (rows.map λ r=>.tup (iD r))
def Rect(n m:Nat)(rows:on (on Int)):Prop:=rows.length=n/\∀r∈rows,r.length=m
noncomputable def col(rows:on (on Int))(j:Nat):on Int:=rows.map λ r=>r.getD j 0
def flip(m:Nat)(rows:on (on Int)):on (on Int):=(List.range m).map (col rows)
theorem mJ{j:Nat}(h:j<r.length):ixD (.tup (iD r)) (.int j)=some (.int (r.getD j 0)):=by
 have a:(j:Int)<((r.map DV.int).length:Int):=by rw[g6];exact_mod_cast h
 unfold iD;simp only[ixD,atD,E4,f8 (E7 j),f8 a,O3,B7,q0,k7 h,O5,p6,cA]
theorem mK{j:Nat}(h:j<r.length):ixD (.lst (iD r)) (.int j)=some (.int (r.getD j 0)):=by
 have a:(j:Int)<((r.map DV.int).length:Int):=by rw[g6];exact_mod_cast h
 unfold iD;simp only[ixD,atD,E4,f8 (E7 j),f8 a,O3,B7,q0,k7 h,O5,p6,cA]
noncomputable def sub(rows:on (on Int))(I J:on Nat):on (on Int):=I.map λ i=>J.map λ j=>(rows.getD i []).getD j 0
theorem aJ{i:Nat}(h:i<rows.length):ixD (tT rows) (.int i)=some (.tup (iD (rows.getD i []))):=by
 have a:(i:Int)<((rows.map λ r=>DV.tup (iD r)).length:Int):=by rw[g6];exact_mod_cast h
 simp only[tT,ixD,atD,E4,f8 (E7 i),f8 a,O3,B7,q0,k7 h,O5,p6,cA]
theorem K8{rows:on (on Int)}(h:i<rows.length):rows.getD i []∈rows:=by
 rw[p6,k7 h];exact M8 h
theorem up(n:Nat):∀r:on Int,DV.plains n (iD r)=true
 | []=>by unfold iD;simp[DV.plains]
 | a::r=>by have q:=up n r;unfold iD at q ⊢;rw[B3];unfold DV.plains;rw[q];cases n<;>rfl
theorem Gu(hw:s9 (evE G F it δ)=some (.ok ds cl))(b:cl ≠ .weak)(hl:ds.length<=m7)
  (h:∀d∈ds,∃a c,tg.bind d (x9 fr δ)=some a/\evE G F elt a=some (.ok (f d) c)/\stro (f d) c=true):evE G F (.comp elt tg it fr) δ=some (.ok (.lst (ds.map f)) .fresh):=by
 show Ri.thn _ _=_;rw[hw,dh,g8 (by rintro(z | z);exact b z;omega),ky (λ d hd=>?_)]
 ·rfl
 ·obtain⟨a,c,i,g,e⟩:=h d hd;rw[i,O3,g];show(if stro (f d) c then some (Rc.item (f d))else none)=_;rw[f8 e]
theorem Gv(h:IM e cl (.int i))(a:i<=1000)(b : -1000<=i):s9 (evE G F (.rng [e]) δ)=some (.ok (upTo 0 i.toNat) .fresh):=by
 show s9 (Rs.thn _ _)=_;rw[f7 h j9,dg];have hs:(J4 i&&decide (i<=(m7:Int)))=true:=by rw[f9,P5];refine⟨?_,bg a IL⟩;unfold J4;rw[f9,P5,P5];exact⟨bg IL b,iY a IL⟩
 show s9 ((if J4 i&&decide _ then some _ else none).map λ ds=>.ok _ .fresh)=_;rw[f8 hs];rfl
noncomputable def V7(n m:Nat)(ws:on Int):on (on Int):=(List.range n).map λ j=>(ws.drop (j*m)).take m
theorem Gw(h:ws.length=n*m):Rect n m (V7 n m ws):=by
 unfold V7;refine⟨by rw[g6,A6],λ r a=>?_⟩;obtain⟨j,b,rfl⟩:=i8.mp a;rw[F3,W5,h];have:(j+1)*m<=n*m:=Nat.mul_le_mul_right m (r9.mp b);rw[fG,cP]at this;omega
theorem Gx(g:IM a c (.lst ds))(e:IM b c1 (.int l))(f:IM d i (.int h)):evE G F (.sl a b d) δ=some (.ok (.lst (cutD ds (some l) (some h))) (Cl.anew c c)):=by
 show Re.thn _ _=_;rw[g,C8];show Re.thn _ _=_;rw[e,C8];show Re.thn _ _=_;rw[f];rfl
theorem Gy{m:Nat}(h:ws.length=n*m)(b:j<n):cutD (iD ws) (some ((j:Int)*m)) (some ((j:Int)*m+m))=iD ((ws.drop (j*m)).take m):=by
 have d:((j:Int)*m)=((j*m:Nat):Int):=by push_cast;rfl
 have c:((j:Int)*m+m)=((j*m+m:Nat):Int):=by push_cast;rfl
 have a:=(by have:(j+1)*m<=n*m:=Nat.mul_le_mul_right m b;rw[fG,cP]at this;exact this);have len:(iD ws).length=n*m:=by unfold iD;rw[g6,h]
 unfold cutD slIx;rw[c,d];simp only[len];rw[g8 IK,g8 IK,B7,B7,cF a,cF IK,show j*m+m - j*m=m by omega];unfold iD;rw[←fz,←fA]
theorem hY(h:j<n):E4 n (j:Int)=some j:=by
 unfold E4;rw[f8 (E7 j),f8 IK,B7]
theorem mL{es:on ME}(h:evEs G F es δ=some (.ok l)):evE G F (.bi .min es) δ=minD l:=by
 have e:evE G F (.bi .min es) δ=Rs.thn _ _:=rfl;rw[e,h];rfl
theorem aK(R:Rect n m rows):Rect m n (flip m rows):=by
 unfold flip;refine⟨by rw[g6,A6],λ r a=>?_⟩;obtain⟨j,hj,rfl⟩:=i8.mp a;unfold col;rw[g6,R.1]
theorem uq{i:Nat}(h:i<rows.length):ixD (rL rows) (.int i)=some (.lst (iD (rows.getD i []))):=by
 have a:(i:Int)<((rows.map λ r=>DV.lst (iD r)).length:Int):=by rw[g6];exact_mod_cast h
 simp only[rL,ixD,atD,E4,f8 (E7 i),f8 a,O3,B7,q0,k7 h,O5,p6,cA]
theorem hZ{es:on ME}(h:evEs G F es δ=some (.ok l))(a:l.length<=m7)(hs:stros l=true):evE G F (.lst es) δ=some (.ok (.lst (l.map (·.1))) .fresh):=by
 have e:evE G F (.lst es) δ=Rs.thn _ _:=rfl;rw[e,h,dg,f8 a,hs];rfl
noncomputable def nD(l:on Nat):on DV:=l.map λ (j:Nat)=>DV.int (j:Int)
theorem ur{c:Type}[BEq c][LawfulBEq c]{f:c->DV}(d:∀a b,deq (f a) (f b)=(a==b))(r:c):∀{l:on c},r∈l->O7 (f r) (l.map f)=some (l.idxOf r)
 | a::l,g=>by
  rw[B3];unfold O7;rw[d,List.idxOf_cons];cases h:(a==r)with
  | true=>rfl
  | false=>
   have i:r∈l:=by
    rcases i7.mp g with e | e
    ·subst e;simp at h
    ·exact e
   rw[ur d r i];rfl
theorem ut:∀a b:on Int,deqs (iD a) (iD b)=(a==b)
 | [],[]=>rfl
 | [],_::_=>rfl
 | _::_,[]=>rfl
 | x::a,y::b=>by have c:=ut a b;unfold iD at c ⊢;rw[B3,B3];unfold deqs;rw[c];unfold deq;rfl
theorem Gz(a b:on Int):deq (.tup (iD a)) (.tup (iD b))=(a==b):=ut a b
theorem ib:∀{l:on DV},(∀d∈l,d.plain n=true)->DV.plains n l=true
 | [],_=>by unfold DV.plains;rfl
 | d::r,h=>by unfold DV.plains;rw[h d (o5 ..),ib λ x a=>h x (o4 _ a)];rfl
theorem uu(n:Nat)(a:on Int):DV.plain (n+1) (.tup (iD a))=true:=up n a
theorem GA(n:Nat)(rows:on (on Int)):DV.plains (n+1) (rows.map λ r=>.tup (iD r))=true:=ib λ d a=>by
 obtain⟨r,_,rfl⟩:=i8.mp a;exact uu n r
theorem GB{rows:on (on Int)}(h:r∈rows)(a:rows.length<=1000):idxD (.tup (rows.map λ r=>.tup (iD r))) (.tup (iD r))=some (.int (rows.idxOf r:Nat)):=by
 unfold idxD;dsimp;rw[uu 59,GA 59,A0 (by rw[g6];exact i9 a IL),ur Gz r h];rfl
theorem GC(e:evE G F a δ=some (.ok x cx))(hs:seqB x=true)(c:evE G F b δ=some (.ok y cy))(h:idxD x y=some d):evE G F (.idx a b) δ=some (.ok d .strong):=by
 show Re.thn _ _=_;rw[e,C8,f8 hs,c,C8,h];rfl
theorem uv{b:Type}{h f:b->DV}:∀{l:on b},(∀a∈l,g (h a)=some (.item (f a)))->A3 g (l.map h)=some (l.map f)
 | [],_=>rfl
 | a::r,q=>by rw[B3,B3];unfold A3;rw[q a (o5 ..)];show(match A3 g _ with | none=>none | some xs=>some _)=_;rw[uv λ x c=>q x (o4 _ c)]
theorem G4{e:Type}{l:on e}{h f:e->DV}(hw:s9 (evE G F it δ)=some (.ok (l.map h) cl))(g:cl ≠ .weak)(hl:l.length<=m7)
  (q:∀a∈l,∃d c,tg.bind (h a) (x9 fr δ)=some d/\evE G F elt d=some (.ok (f a) c)/\stro (f a) c=true):evE G F (.comp elt tg it fr) δ=some (.ok (.lst (l.map f)) .fresh):=by
 show Ri.thn _ _=_;rw[hw,dh,g8 (by rintro(z | z);exact g z;rw[g6]at z;omega),uv (λ a i=>?_)]
 ·rfl
 ·obtain⟨d,c,m,k,j⟩:=q a i;rw[m,O3,k];show(if stro (f a) c then some (Rc.item (f a))else none)=_;rw[f8 j]
theorem GD{j:Nat}(b:rows.length<=1000)(w:s9 (evE G F (.var 1) [.val (.int (j:Int)),.val d])=some (.ok (rows.map h) .strong))(c:∀r∈rows,ixD (h r) (.int j)=some (.int (r.getD j 0))):evE G F (.comp (.ix (.var 0) (.var 1)) (.one 0) (.var 1) [none,some 0]) [.val (.int j),.val d]=some (.ok (.lst (iD (col rows j))) .fresh):=by
 rw[G4 w IL (i9 b IL) λ r a=>⟨[.val (h r),.val _],.strong,rfl,q9 (f6 rfl) (f6 rfl) (c r a),rfl⟩];unfold iD col;rw[q5];rfl
theorem GE(rows:on (on Int))(m j:Nat)(b:∀r∈rows,r.length=m)(d:j<m)(c:rows.length<=1000):evE G F (.comp (.ix (.var 0) (.var 1)) (.one 0) (.var 1) [none,some 0]) [.val (.int j),.val (tT rows)]=some (.ok (.lst (iD (col rows j))) .fresh):=GD c rfl λ r a=>mJ (by rw[b r a];exact d)
theorem GF{n:Nat}(h:IM e c (.int (n:Int)))(a:n<=1000):s9 (evE G F (.rng [e]) δ)=some (.ok ((List.range n).map λ (j:Nat)=>DV.int (j:Int)) .fresh):=by
 rw[V4 h a];unfold L2.upTo
 congr 2
 apply M5;intro j _
 congr 1
 omega
theorem GG(rows:on (on Int))(n m:Nat)(R:Rect n m rows)(g:0<n)(d:n<=1000)(c:m<=1000):run G T fu (k+1) 1 [tT rows]=some (.v (tT IS) false):=by
 rw[p7 rfl rfl];have e:0<rows.length:=by rw[R.1];exact g
 have f:=V6 (F:=run G T fu k) (δ:=o9 1 [tT rows]) (q9 (a:=.var 0) (b:=.int 0) (cx:=.strong) (f6 rfl) (i4 (i:=((0:Nat):Int))) (aJ e));rw[show(iD (rows.getD 0 [])).length=m by unfold iD;rw[g6];exact R.2 _ (K8 e)]at f;have l:=G4 (tg:=.one 0) (fr:=[none,some 0]) (GF f c) IL (by rw[A6];exact i9 c IL) λ j h=>
  ⟨[.val _,.val _],.strong,rfl,aI (GE rows m j R.2 (r9.mp h) (by rw[R.1];exact d)),rfl⟩
 unfold tM;refine p9 (o6 (r6 (cl:=.strong) ((aI l).trans ?_)));unfold tT flip;rw[q5];rfl
theorem uw(rows:on (on Int))(n m:Nat)(R:Rect n m rows)(I J:on Nat)(o:∀i∈I,i<n)(h:∀j∈J,j<m)(d:I.length<=1000)(b:J.length<=1000):run G T fu (k+1) 5 [tT rows,.lst (nD I),.lst (nD J)]=some (.v (tT (sub rows I J)) false):=by
 rw[p7 rfl rfl];have p:=G4 (F:=run G T fu k) (δ:=o9 3 [tT rows,.lst (nD I),.lst (nD J)]) (l:=I) (f:=λ i=>.tup (iD (J.map λ j=>(rows.getD i []).getD j 0))) (elt:=.bi .tuple [.comp (.ix (.ix (.var 1) (.var 2)) (.var 0)) (.one 0) (.var 1) [none,some 2,some 0]]) (tg:=.one 0) (it:=.var 1) (fr:=[none,some 2,some 0]) rfl IL (i9 d IL) λ i g=>by
  refine⟨[.val (.int (i:Int)),.val (.lst (nD J)),.val (tT rows)],.strong,rfl,aI (c:=.fresh) ?_,rfl⟩;have a:i<rows.length:=by rw[R.1];exact o i g
  rw[G4 (l:=J) rfl IL (i9 b IL) λ j e=>⟨[.val (.int (j:Int)),.val (tT rows),.val (.int (i:Int))],.strong,rfl,q9 (q9 (cx:=.strong) (f6 rfl) (f6 rfl) (aJ a)) (f6 rfl) (mJ (by rw[R.2 _ (K8 a)];exact h j e)),rfl⟩];unfold iD;rw[q5];rfl
 unfold tP;refine p9 (o6 (r6 (cl:=.strong) ((aI p).trans ?_)));unfold tT sub;rw[q5];rfl
noncomputable def kI(rows:on (on Int)):on Int:=rows.map λ r=>((rows.idxOf r:Nat):Int)
theorem ic(rows:on (on Int))(a:rows.length<=1000):run G T fu (k+1) 6 [tT rows]=some (.v (.lst (iD (kI rows))) true):=by
 rw[p7 rfl rfl];unfold tQ;have e:=G4 (F:=run G T fu k) (δ:=o9 1 [tT rows]) (elt:=.idx (.var 1) (.var 0)) (tg:=.one 0) (it:=.var 0) (fr:=[none,some 0]) rfl IL (i9 a IL) (λ r b=>⟨[.val (.tup (iD r)),.val (tT rows)],.strong,rfl,GC (f6 rfl) rfl (f6 rfl) (GB b a),rfl⟩);have c:(rows.map λ r=>DV.int ((rows.idxOf r:Nat):Int))=iD (kI rows):=by unfold iD kI;rw[q5];rfl
 rw[c]at e;exact p9 (o6 (r6 e))
theorem GH(n:Nat):upTo 0 n=nD (List.range n):=by
 unfold L2.upTo nD;apply M5;intro j _;rw[jH]
theorem mM:∀{l:on Int},y∈insI x l↔y=x\/y∈l
 | []=>by simp[insI]
 | z::l=>by
  unfold insI;split
  ·simp
  ·rw[i7,mM,i7];constructor<;>(rintro(h | h | h)<;>simp[h])
theorem mN:∀{l:on Int},y∈K4 l↔y∈l
 | []=>O6
 | z::l=>by unfold K4;rw[mM,mN,i7]
theorem bO{y:Int}:∀{l σ:on Int},y∈l.foldl dk σ↔y∈σ\/y∈l
 | [],σ=>by simp
 | z::l,σ=>by
  rw[fj,bO,i7];unfold dk;split
  ·rename_i h;constructor
   ·rintro(q | q)
    ·exact .inl q
    ·exact .inr (.inr q)
   ·rintro(q | q | q)
    ·exact .inl q
    ·rw[q];exact .inl h
    ·exact .inr q
  ·rw[F5,u4,or_assoc]
theorem gk:∀{l σ:on Int},(l.foldl dk σ).length<=σ.length+l.length
 | [],σ=>by simp
 | z::l,σ=>by
  rw[fj,w6];have:=gk (l:=l) (σ:=dk σ z);have h2:(dk σ z).length<=σ.length+1:=by unfold dk;split<;>simp
  omega
theorem aL:∀r:on Int,ints? (iD r)=some r
 | []=>rfl
 | x::r=>by show(ints? (iD r)).map _=_;rw[aL r];rfl
theorem mO(h:evE G F e δ=some (.ok (.lst (iD r)) c))(hl:r.length<=60):evE G F (.bi .sset [e]) δ=some (.ok (.lst (iD (K4 (r.foldl dk [])))) .fresh):=by
 show Rs.thn _ _=_;rw[f7 h j9];show(match ints? (iD r)with
  | some a=>if a.length<4000/\(a.foldl dk []).length<64 then some _ else none
  | none=>none)=_
 rw[aL];have:=gk (l:=r) (σ:=[]);rw[jq]at this;exact f8 ⟨by omega,by omega⟩
theorem bP{F:Nat->on DV->Ir Ou}{δ:on Sv}{G:Gs}{a b:ME}{r:on ME}{cx:Cl}{o:Ir Re}(ha:IM a cx (.bl true))(hb:evE G F (.and (b::r)) δ=o):evE G F (.and (a::b::r)) δ=o:=by
 have e:evE G F (.and (a::b::r)) δ=Re.thn (evE G F a δ) (λ x c=>andD x c (N1 G F (b::r) δ)):=rfl;have e2:evE G F (.and (b::r)) δ=N1 G F (b::r) δ:=rfl;rw[e,ha,C8,←e2,hb];rfl
theorem mP{F:Nat->on DV->Ir Ou}{δ:on Sv}{G:Gs}{a b:ME}{r:on ME}{cx:Cl}(ha:IM a cx (.bl false)):evE G F (.and (a::b::r)) δ=some (.ok (.bl false) cx):=by
 have e:evE G F (.and (a::b::r)) δ=Re.thn (evE G F a δ) (λ x c=>andD x c (N1 G F (b::r) δ)):=rfl;rw[e,ha,C8];rfl
theorem dW{F:Nat->on DV->Ir Ou}{δ:on Sv}{G:Gs}{a:ME}{o:Ir Re}(ha:evE G F a δ=o):evE G F (.and [a]) δ=o:=by
 have e:evE G F (.and [a]) δ=evE G F a δ:=rfl;rw[e,ha]
theorem mQ(c:tg.bind d δ=some δ1)(b:body δ1=some (.nx a)):B4 tg body (d::r) δ=B4 tg body r a:=by
 show(match tg.bind d δ with | none=>none | some δ1=>match body δ1 with | some (.nx a)=>B4 tg body r a | o=>o)=_;rw[c];show(match body δ1 with | some (.nx a)=>B4 tg body r a | o=>o)=_;rw[b]
theorem ux:∀{a b:on Int},a.Pairwise (· < ·)->b.Pairwise (· < ·)->(∀x,x∈a↔x∈b)->a=b
 | [],[],_,_,_=>rfl
 | [],y::b,_,_,h=>absurd ((h y).mpr (o5 ..)) IX
 | x::a,[],_,_,h=>absurd ((h x).mp (o5 ..)) IX
 | x::a,y::b,d,c,h=>by
  rw[M6]at d c;have e:x=y:=by
   rcases i7.mp ((h x).mp (o5 ..))with z | z
   ·exact z
   ·rcases i7.mp ((h y).mpr (o5 ..))with w | w
    ·exact w.symm
    ·have h1:=d.1 y w;have h2:=c.1 x z;omega
  subst e;rw[ux d.2 c.2 λ z=>?_];constructor
  ·intro q;rcases i7.mp ((h z).mp (o4 _ q))with w | w
   · exact absurd (d.1 _ q) IK
   ·exact w
  ·intro q;rcases i7.mp ((h z).mpr (o4 _ q))with w | w
   · exact absurd (c.1 _ q) IK
   ·exact w
theorem uy:∀{l:on Int},l.Pairwise (· < ·)->x∉l->(insI x l).Pairwise (· < ·)
 | [],_,_=>by simp[insI]
 | y::l,h,b=>by
  rw[M6]at h;unfold insI;split
  ·rename_i q;rw[M6];refine⟨λ z a=>?_,M6.mpr h⟩;rcases i7.mp a with w | w
   ·rwa [w]
   ·have:=h.1 z w;omega
  ·rename_i q;rw[M6];refine⟨λ z a=>?_,uy h.2 λ w=>b (o4 _ w)⟩;rcases mM.mp a with w | w
   ·subst w;have:z≠y:=λ e=>b (by grind)
    omega
   ·exact h.1 z w
theorem uz:∀{l:on Int},l.Nodup->(K4 l).Pairwise (· < ·)
 | [],_=>List.Pairwise.nil
 | x::l,h=>by
  rw[O4]at h;exact uy (uz h.2) λ z=>h.1 (mN.mp z)
theorem ie:∀{l c:on Int},c.Nodup->(l.foldl dk c).Nodup
 | [],_,h=>h
 | x::l,c,h=>by
  rw[fj];refine ie ?_;unfold dk;split
  ·exact h
  ·rename_i q;rw[List.nodup_append];refine⟨h,by simp,λ a f b d e=>?_⟩;rw[u4]at d;subst d e;exact q f
theorem uA{l:on Int}(a:t.Pairwise (· < ·))(h:∀x,x∈l↔x∈t):K4 (l.foldl dk [])=t:=
 ux (uz (ie bf)) a λ x=>by rw[mN,bO,←h];simp
noncomputable def nI(l:on Nat):on Int:=l.map λ (j:Nat)=>(j:Int)
theorem mR(l:on Nat):iD (nI l)=nD l:=by unfold iD nI nD;rw[q5];rfl
theorem uB(p:Nat->Bool)(n:Nat):(nI ((List.range n).filter p)).Pairwise (· < ·):=by
 unfold nI;rw[List.pairwise_map];refine List.Pairwise.filter _ (jg ?_ iO);intro a b h;omega
theorem uC:x∈nI l↔∃j∈l,(j:Int)=x:=by unfold nI;rw[i8]
noncomputable def FI(rows:on (on Int)):on Nat:=(List.range rows.length).filter λ r=>rows.idxOf (rows.getD r [])==r
theorem ig{rows:on (on Int)}(h:r∈rows):rows.idxOf r<rows.length:=eF h
theorem ii{rows:on (on Int)}(h:r∈rows):rows.getD (rows.idxOf r) []=r:=by
 have a:=ig h;rw[p6,k7 a,cA];exact eZ a
theorem uD(rows:on (on Int)):K4 ((kI rows).foldl dk [])=nI (FI rows):=by
 refine uA (uB _ _) λ x=>?_;rw[uC];unfold kI FI;rw[i8];constructor
 ·rintro⟨r,a,rfl⟩
  refine⟨rows.idxOf r,B8.mpr ⟨r9.mpr (ig a),?_⟩,rfl⟩;rw[ii a,g9]
 ·rintro⟨j,b,rfl⟩
  obtain⟨d,c⟩:=B8.mp b;exact⟨rows.getD j [],K8 (r9.mp d),by rw[g9.mp c]⟩
theorem Z2(h:i∈FI rows):i<rows.length:=r9.mp (B8.mp h).1
theorem mS(rows:on (on Int)):(FI rows).length<=rows.length:=by
 unfold FI;have:=eQ (λ r=>rows.idxOf (rows.getD r [])==r) (List.range rows.length)
 rwa [A6]at this
theorem J1(h:0<rows.length):0<(FI rows).length:=by
 refine bZ (B8.mpr ⟨r9.mpr h,?_⟩);cases rows with
 | nil=>cases h
 | cons r rs=>simp
theorem mT(rows:on (on Int)):(kI rows).length=rows.length:=by unfold kI;rw[g6]
theorem mU(rows:on (on Int))(n m:Nat)(R:Rect n m rows)(c:0<n)(b:n<=1000)(a:m<=1000):run G T fu (k+2) 7 [tT rows]=some (.v (.lst (iD (kI IS))) true):=by
 rw[p7 rfl rfl];unfold tR;exact p9 (o6 (r6 (i5 (f7 (i5 rfl rfl (GG rows n m R c b a)) j9) rfl (ic _ (by rw[(aK R).1];exact a)))))
theorem ij(rows:on (on Int))(n m:Nat)(R:Rect n m rows)(g:0<n)(a:n<=60)(b:m<=60):run G T fu (k+3) 8 [tT rows]=some (.v (tT (sub rows (FI rows) (FI IS))) false):=by
 rw[p7 rfl rfl];unfold tS;have c:=aK R;have f:=mO (F:=run G T fu (k+2)) (δ:=[.val (tT rows)]) (e:=.call 6 [.var 0]) (i5 rfl rfl (ic rows (by rw[R.1];omega))) (by rw[mT,R.1];exact a);have d:=mO (F:=run G T fu (k+2)) (δ:=[.val (tT rows)]) (e:=.call 7 [.var 0]) (i5 rfl rfl (mU rows n m R g IK IK)) (by rw[mT,c.1];exact b);rw[uD,mR]at f d;have p:=uw (fu:=fu) (k:=k+1) rows n m R (FI rows) (FI IS) (λ i o=>by have:=Z2 o;rw[R.1]at this;exact this) (λ j h=>by have:=Z2 h;rw[c.1]at this;exact this) (by have:=mS rows;rw[R.1]at this;omega) (by have:=mS IS;rw[c.1]at this;omega);exact p9 (o6 (r6 (i5 (l:=[(tT rows,.strong),(.lst (nD (FI rows)),.fresh),(.lst (nD (FI IS)),.fresh)]) (f7 (f6 rfl) (f7 f (f7 d j9))) rfl p)))
theorem b_le(d:IM a cx (.int i))(c:IM b cy (.int j)):evE G F (.cmp .LtE a b) δ=some (.ok (.bl (decide (i<=j))) .strong):=H9 d c rfl
noncomputable def sm(a b:Nat):Bool:=decide (a<6)&&decide (b<6)
theorem GI(h:0<I.length):∃r a,sub rows I J=r::a/\r.length=J.length:=by
 cases I with
 | nil=>cases h
 | cons i I=>exact⟨_,_,rfl,by simp⟩
theorem GJ(rows:on (on Int))(n m:Nat)(R:Rect n m rows)(o:0<n)(f:n<=60)(g:m<=60):run G T fu (k+4) 9 [tT rows]=some (.v (.bl (sm (FI rows).length (FI IS).length)) false):=by
 rw[p7 rfl rfl];unfold tU;have v:=ij (fu:=fu) (k:=k) rows n m R o f g;obtain⟨r,a,y,z⟩:=GI (J1 (by rw[R.1];exact o));have p:(sub rows (FI rows) (FI IS)).length=(FI rows).length:=by unfold sub;rw[g6]
 rw[y]at v p;have x:evE G (IY (k+3)) (.bi .len [.var 1]) [.val (tT rows),.val (tT (r::a))]=some (.ok (.int (FI rows).length) .strong):=by have t:=V6 (F:=run G T fu (k+3)) (δ:=[.val (tT rows),.val (tT (r::a))]) (e:=.var 1) (ds:=(r::a).map λ r=>.tup (iD r)) (c:=.strong) rfl;rw[g6,p]at t;exact t
 have w:evE G (IY (k+3)) (.bi .len [.ix (.var 1) (.int 0)]) [.val (tT rows),.val (tT (r::a))]=some (.ok (.int (FI IS).length) .strong):=(by have t:=V6 (F:=run G T fu (k+3)) (δ:=[.val (tT rows),.val (tT (r::a))]) (q9 (f6 (n:=1) (d:=tT (r::a)) rfl) (i4 (i:=0)) (aJ (rows:=r::a) (i:=0) IX));rw[show(iD ((r::a).getD 0 [])).length=(FI IS).length by unfold iD;rw[g6];exact z]at t;exact t);have u:∀h:on Sv,evE G (IY (k+3)) (.glb "SMALL_LINES") h=some (.ok (.int 5) .strong):=λ h=>rfl;refine p9 (i6 (n9 (d:=tT (r::a)) (cl:=.strong) (i5 (l:=[(tT rows,.strong)]) rfl rfl v) rfl) (o6 (r6 (cl:=.strong) ?_)));have b:=b_le x (u _);have j:=b_le w (u _);have B:decide (((FI rows).length:Int)<=5)=decide ((FI rows).length<6):=by rw[jl];omega
 have A:decide (((FI IS).length:Int)<=5)=decide ((FI IS).length<6):=by rw[jl];omega
 rw[B]at b;rw[A]at j;unfold sm;cases q:decide ((FI rows).length<6)with
 | true=>rw[q]at b;exact bP b (dW j)
 | false=>rw[q]at b;exact mP b
theorem uE{i:Type}{h f:i->DV}{p:i->Bool}:∀{l:on i},(∀a∈l,g (h a)=some (if p a then .item (f a)else .skip))->A3 g (l.map h)=some ((l.filter p).map f)
 | [],_=>rfl
 | a::l,q=>by
  have d:=q a (o5 ..);have j:=uE (g:=g) (h:=h) (f:=f) (p:=p) (l:=l) λ b k=>q b (o4 _ k);cases e:p a with
  | true=>
   rw[e]at d;show(match g (h a)with | none=>none | some .skip=>A3 g _ | some (.item x)=>match A3 g (l.map h)with | none=>none | some c=>some (x::c))=_;rw[d,bX e,B3];show(match A3 g (l.map h)with | none=>none | some c=>some (f a::c))=_;rw[j]
  | false=>
   rw[e]at d;show(match g (h a)with | none=>none | some .skip=>A3 g (l.map h) | some (.item x)=>match A3 g (l.map h)with | none=>none | some c=>some (x::c))=_;rw[d,eJ (by rw[e];simp)];exact j
theorem mV{d:Type}{l:on d}{h f:d->DV}{p:d->Bool}(e:s9 (evE G F it δ)=some (.ok (l.map h) cl))(hc:cl ≠ .weak)(hl:l.length<=m7)
  (q:∀a∈l,∃b,tg.bind (h a) (x9 fr δ)=some b/\tstD (evE G F cd b)=some (.ok (p a))/\∃c,evE G F elt b=some (.ok (f a) c)/\stro (f a) c=true):evE G F (.compi elt tg it cd fr) δ=some (.ok (.lst ((l.filter p).map f)) .fresh):=by
 show Ri.thn _ _=_;rw[e,dh,g8 (by grind),uE (λ a g=>?_)]
 ·rfl
 ·obtain⟨b,m,k,c,j,i⟩:=q a g;rw[m,O3,k,j];cases p a with
  | false=>rfl
  | true=>
   show(if stro (f a) c then some _ else none)=_;rw[f8 i];rfl
noncomputable def WI(rows:on (on Int)):on Nat:=(List.range 10).filter λ w=>rows.any λ r=>r.any λ x=>x==(w:Int)
theorem uF(rows:on (on Int))(e:∀r∈rows,∀x∈r,0<=x/\x<=9):K4 (rows.flatten.foldl dk [])=nI (WI rows):=by
 refine uA (uB _ _) λ x=>?_;rw[uC,ff];unfold WI;constructor
 ·rintro⟨r,b,a⟩
  have:=e r b x a;refine⟨x.toNat,B8.mpr ⟨r9.mpr IK,U1.mpr ⟨r,b,U1.mpr ⟨x,a,?_⟩⟩⟩,by omega⟩;rw[g9];omega
 ·rintro⟨j,d,rfl⟩
  obtain⟨_,g⟩:=B8.mp d;obtain⟨r,b,f⟩:=U1.mp g;obtain⟨x,a,c⟩:=U1.mp f;rw[g9]at c;exact⟨r,b,by rw[←c];exact a⟩
theorem GK(c:δ[i]? = some (.own (.lst ds)))(h:evE G F e δ=some (.ok (.tup a) .strong))(b:ds.length+a.length<=m7):evS G F fu (.ext i e) δ=some (.nx (δ.set i (.own (.lst (ds++a))))):=by
 show(match δ[i]? with | some (.own (.lst ds))=>Re.thnS δ _ _ | _=>none)=_;rw[c];show Re.thnS δ _ _=_;rw[h];show(if Cl.strong=.strong\/Cl.strong=.fresh then(if ds.length+a.length<=m7 then some (Out.nx _)else none)else none)=_;rw[f8 (.inl rfl),f8 b]
theorem uG(t:Sv)(j:m<=8):∀(rows:on (on Int)) (a:on Int) (c:Sv),(∀r∈rows,r.length=m)->a.length+rows.length*m<=1000->∃e,B4 (.one 2) (λ b=>evSs G F fu [.ext 1 (.var 2)] b) (rows.map λ r=>.tup (iD r)) [t,.own (.lst (iD a)),c]=some (.nx [t,.own (.lst (iD (a++rows.flatten))),e])
 | [],a,c,_,_=>⟨c,by rw[List.flatten_nil,G1];rfl⟩
 | r::rows,a,c,h,k=>by
  have i:=h r (o5 ..);rw[w6,fG,cP]at k;obtain⟨e,g⟩:=uG t j rows (a++r) _ (λ f d=>h f (o4 _ d)) (by rw[u0,i];omega);refine⟨e,?_⟩;rw[W4,←Q9,←g];refine mQ rfl (i6 (GK rfl (f6 rfl) ?_) ?_)
  ·unfold iD;rw[g6,g6];exact i9 (show a.length+r.length<=1000 by omega) IL
  ·unfold iD;rw[C4];rfl
theorem uH(m:Nat):∀n,(List.replicate n m).sum=n*m
 | 0=>by simp
 | n+1=>by rw[W3,cK,uH m n,fG,cP,jC]
theorem uI:∀{l:on Int},(insI x l).length=l.length+1
 | []=>rfl
 | z::l=>by unfold insI;split<;>simp[uI]
theorem uJ:∀{l:on Int},(K4 l).length=l.length
 | []=>rfl
 | z::l=>by unfold K4;rw[uI,uJ,w6]
theorem uK(rows:on (on Int))(n m:Nat)(R:Rect n m rows)(i:n<=8)(c:m<=8)(j:∀r∈rows,∀x∈r,0<=x/\x<=9):run G T fu (k+1) 11 [tT rows]=some (.v (.lst (nD (WI rows))) true):=by
 rw[p7 (fd:=mB) rfl rfl];unfold mB;have nm:n*m<=8*8:=cH i c;obtain⟨p,e⟩:=uG (fu:=fu) (.val (tT rows)) c rows [] .no R.2 (by rw[R.1];simp;omega);rw[cC]at e;have o:∀x∈rows.flatten,0<=x/\x<=9:=λ x g=>by obtain⟨r,h,g⟩:=ff.mp g;exact j r h x g
 have a:(rows.flatten.foldl dk []).length<64/\rows.flatten.length<4000:=by
  have u:=uF rows j;have q:=uJ (l:=rows.flatten.foldl dk []);rw[u]at q;have l2:(nI (WI rows)).length<=10:=(by unfold nI WI;rw[g6];exact i9 (eQ _ _) IX);have l3:rows.flatten.length=n*m:=by
   rw[List.length_flatten];have:rows.map List.length=List.replicate n m:=by rw[List.eq_replicate_iff];refine⟨by rw[g6];exact R.1,λ b o=>?_⟩;obtain⟨r,h,rfl⟩:=i8.mp o;exact R.2 r h
   rw[this,uH]
  omega
 have s1:evE G (IY k) (.bi .sset [.var 1]) [.val (tT rows),.own (.lst (iD rows.flatten)),p]=some (.ok (.lst (nD (WI rows))) .fresh):=by
  show Rs.thn (evEs G (IY k) [.var 1] [.val (tT rows),.own (.lst (iD rows.flatten)),p]) (λ l=>fT l)=_;rw[f7 (X8 (d:=.lst (iD rows.flatten)) rfl) j9];show(match ints? (iD rows.flatten)with
   | some f=>if f.length<4000/\(f.foldl dk []).length<64 then some (Re.ok (.lst ((K4 (f.foldl dk [])).map DV.int)) .fresh)else none
   | none=>none)=_
  rw[aL];show(if rows.flatten.length<4000/\(rows.flatten.foldl dk []).length<64 then some (Re.ok (.lst (iD (K4 (rows.flatten.foldl dk [])))) .fresh)else none)=_;rw[f8 ⟨a.2,a.1⟩,uF rows j,mR]
 exact p9 (i6 (al rfl) (J5 (ds:=rows.map λ r=>.tup (iD r)) (cl:=.strong) rfl (.inl rfl) e (o6 (r6 s1))))
theorem uL:run G T fu (k+1) 0 [.int x,.int a,.int b]=some (.v (.bl (decide (a<=x)&&decide (x<=b))) false):=by
 rw[p7 rfl rfl];have e:evE G (IY k) (.chain .LtE .LtE (.var 1) (.var 0) (.var 2)) [.val (.int x),.val (.int a),.val (.int b)]=some (.ok (.bl (decide (a<=x)&&decide (x<=b))) .strong):=by show(match some (decide (a<=x))with | none=>none | some false=>some (Re.ok _ .strong) | some true=>(some _).map λ k=>.ok _ .strong)=_;cases decide (a<=x)<;>rfl
 exact p9 (o6 (r6 (bP rfl (bP rfl (dW e)))))
theorem uM(r o:Nat):Builtin.bitAnd r o=((r &&& o:Nat):Int):=by
 unfold Builtin.bitAnd;rw[A0 (E7 r),A0 (E7 o)];rfl
theorem uN(o i:Nat):Builtin.bitAnd ((o:Int)/2^((i:Int).toNat)) 1=if o.testBit i then 1 else 0:=by
 have e:(o:Int)/2^((i:Int).toNat)=((o/2^i:Nat):Int):=(by rfl);rw[e,show(1:Int)=((1:Nat):Int)from rfl,uM,Nat.and_one_is_mod,Nat.testBit_eq_decide_div_mod_eq];have:o/2^i%2=0\/o/2^i%2=1:=by omega
 rcases this with h | h<;>rw[h]<;>rfl
noncomputable def cs(c:Nat):on Nat:=(List.range (c.log2+1)).filter c.testBit
theorem mW(c:Nat)(h0:0<c)(h:c<2^64):run G T fu (k+1) 4 [.int c]=some (.v (.lst (nD (cs c))) true):=by
 rw[p7 (fd:=mz) rfl rfl];have f:bt (c:Int)=((c.log2+1:Nat):Int):=by unfold bt;rw[g8 IK,Int.natAbs_natCast];push_cast;rfl
 have hl:c.log2<64:=(fE IK).mpr h;have a:=zK (G:=G) (F:=run G T fu k) (δ:=o9 1 [.int c]) (elt:=.var 0) (tg:=.one 0) (it:=.rng [.meth .bitLength (.var 0) []]) (fr:=[none,some 0]) (p:=λ d=>match d with | .int i=>c.testBit i.toNat | _=>false) (cl:=.fresh)
  (V4 ((by rw[←f];rfl)) IK) IL (by unfold L2.upTo;rw[g6,A6];exact i9 (show c.log2+1<=64 by omega) IL) (λ d hd=>by
   obtain⟨j,hj,rfl⟩:=pR hd;rw[show(0:Int)+(j:Int)=j by omega];refine⟨[.val (.int j),.val (.int c)],rfl,?_,rfl⟩;have l:evE G (IY k) (.bin .RShift (.var 1) (.var 0)) [.val (.int j),.val (.int c)]=some (.ok (.int ((c:Int)/2^((j:Int).toNat))) .strong):=J6 (f6 rfl) (f6 rfl) (show(if 0<=(j:Int)then some (Re.ok (.int ((c:Int)/2^((j:Int).toNat))) Cl.strong)else none)=_ from f8 (E7 j));have g:evE G (IY k) (.bin .BitAnd (.bin .RShift (.var 1) (.var 0)) (.int 1)) [.val (.int j),.val (.int c)]=some (.ok (.int (if c.testBit j then 1 else 0)) .strong):=J6 l i4 (by rw[←uN];rfl);have b:∀t:Bool,tstD (some (Re.ok (DV.int (if t=true then 1 else 0)) Cl.strong))=some (Rt.ok t):=λ t=>by cases t<;>rfl
   rw[g];refine(b _).trans ?_;show _=some (Rt.ok (c.testBit (j:Int).toNat));rw[B7])
 have e:(upTo 0 (c.log2+1)).filter (λ d=>match d with | .int i=>c.testBit i.toNat | _=>false)=nD (cs c):=by
  unfold L2.upTo nD cs;rw[List.filter_map];have:((λ d=>match d with | DV.int i=>c.testBit i.toNat | _=>false) ∘ λ (i:Nat)=>DV.int (0+(i:Int)))=c.testBit:=by
   funext j
   show c.testBit ((0:Int)+(j:Int)).toNat=_;rw[show((0:Int)+(j:Int)).toNat=j by omega]
  rw[this];apply M5;intro j _;show DV.int _=DV.int _
  congr 1
  omega
 rw[e]at a;unfold mz;exact p9 (o6 (r6 a))
theorem dX{n:Nat}(hn:n<=1000)(h:IM e cl (.int n)):evE G F (.bin .Sub (.bin .LShift (.int 1) e) (.int 1)) δ=some (.ok (.int (((2^n:Nat):Int) - 1)) .strong):=by
 refine am (cx:=.strong) (J6 i4 h ?_) i4;show(if 0<=_/\_<=1000000/\(1:Int).natAbs<2^64 then some (Re.ok _ Cl.strong)else none)=_;rw[f8 ⟨E7 n,by omega,by decide⟩,B7,Int.one_mul]
 push_cast
 rfl
theorem uO{n:Nat}(a:n<=1000)(h:run G T fu (k+1) 0 [d,.int 1,.int (((2^n:Nat):Int) - 1)]=some (.v (.bl t) false)):run G T fu (k+2) 3 [d,.int n]=if t then some (.v .non false)else none:=by
 rw[p7 rfl rfl];unfold tO;have q:=di (i5 (δ:=o9 2 [d,.int n]) (es:=[.var 0,.int 1,.bin .Sub (.bin .LShift (.int 1) (.var 1)) _]) (f7 (f6 rfl) (f7 i4 (f7 (dX a (f6 rfl)) j9))) rfl h);cases t with
 | true=>exact pS (x8 (o7 q) rfl)
 | false=>
  show Ou.of _=_;unfold evSs;rw[(gf (o7 q))];rfl
theorem uP(h:c<2^n)(a:j∈cs c):j<n:=by
 unfold cs at a;rw[B8]at a;by_cases q:j<n
 ·exact q
 ·have z:=oF (u6 h (J3 IL (show n<=j by omega)));rw[z]at a;cases a.2
theorem uQ(h0:0<c)(h:c<2^64):(cs c).length<=1000:=by
 have hl:=(fE IK).mpr h;unfold cs;exact i9 (eQ _ _) (by rw[A6];omega)
theorem uR(rows:on (on Int))(n m a b:Nat)(R:Rect n m rows)(hn:0<n)(f:n<=64)(h:m<=64)(v:0<a)(u:a<2^n)(p:0<b)(o:b<2^m):run G T fu (k+3) 2 [tT rows,.int a,.int b]=some (.v (tT (sub rows (cs a) (cs b))) false):=by
 rw[p7 rfl rfl];obtain⟨c,rest,rfl⟩:∃c rest,rows=c::rest:=by
  cases rows with
  | nil=>have:=R.1;simp at this;omega
  | cons a b=>exact⟨a,b,rfl⟩
 have r:a<2^64:=u6 u (J3 IL f);have l:b<2^64:=u6 o (J3 IL h);have z:=(by have q:=V6 (F:=run G T fu (k+2)) (δ:=o9 3 [tT (c::rest),.int a,.int b]) (e:=.var 0) rfl;rw[g6,R.1]at q;exact q);have w:=(by have e:evE G (IY (k+2)) (.ix (.var 0) (.int 0)) (o9 3 [tT (c::rest),.int a,.int b])=some (.ok (.tup (iD c)) .strong):=q9 (x:=tT (c::rest)) (y:=.int 0) (f6 rfl) i4 (aJ (rows:=c::rest) (i:=0) IX);have q:=V6 e;rw[show(iD c).length=m by unfold iD;rw[g6,(R.2 c (o5 ..))]]at q;exact q);have E:=uO (fu:=fu) (k:=k) (d:=.int a) (n:=n) (t:=true) IK (by rw[uL,A0 IK,A0 IK];rfl);have C:=uO (fu:=fu) (k:=k) (d:=.int b) (n:=m) (t:=true) IK (by rw[uL,A0 IK,A0 IK];rfl);have g:=uw (fu:=fu) (k:=k+1) (c::rest) n m R (cs a) (cs b) (λ i B=>uP u B) (λ j A=>uP o A) (uQ v r) (uQ p l);unfold tN;exact p9 (i6 (kz (i5 (f7 (f6 rfl) (f7 z j9)) rfl E)) (i6 (kz (i5 (f7 (f6 rfl) (f7 w j9)) rfl C)) (o6 (r6 (i5 (f7 (f6 rfl) (f7 (i5 (f7 (f6 rfl) j9) rfl (mW a v r)) (f7 (i5 (f7 (f6 rfl) j9) rfl (mW b p l)) j9))) rfl g)))))
noncomputable def cd(n:Nat):Nat->on Int
 | 0=>[]
 | l+1=>((n/2^l%2:Nat):Int)::cd n l
theorem uS(h:IM e cl (.int i)):evE G F (.neg e) δ=some (.ok (.int (-i)) .strong):=by
 show Re.thn _ _=_;rw[h];rfl
noncomputable def sd(s:Bool):DV:=if s then .str "row" else .str "column"
noncomputable def hd(l:on Nat):DV:=match l with | []=>.non | c::_=>.int c
theorem ik{c:Type}{p q:c->Bool}:∀{l:on c},(∀x∈l,p x=true->q x=true)->(l.filter p).length<=(l.filter q).length
 | [],_=>k8 _
 | a::l,h=>by
  have e:=ik λ x f=>h x (o4 _ f);cases b:p a with
  | false=>
   rw[eJ (by rw[b];decide)];cases d:q a with
   | false=>rw[eJ (by rw[d];decide)];exact e
   | true=>rw[bX d,w6];omega
  | true=>
   rw[bX b,bX (h a (o5 ..) b),w6,w6];omega
theorem uT{b:Type}{p q r:b->Bool}:∀{l:on b},(∀x∈l,p x=true->q x=true\/r x=true)->(l.filter p).length<=(l.filter q).length+(l.filter r).length
 | [],_=>k8 _
 | a::l,h=>by
  have ih:=uT λ x c=>h x (o4 _ c);rw[aZ,aZ,aZ];cases f:p a<;>cases e:q a<;>cases d:r a<;>simp only[if_true,if_false,w6,aU]<;>first | omega | exact absurd ((h a (o5 ..)) f) (by rw[e,d];simp)
theorem uU{b:Type}{p q:b->Bool}:∀{l:on b},(l.filter p).length=(l.filter λ x=>p x&&q x).length+(l.filter λ x=>p x && !q x).length
 | []=>rfl
 | a::l=>by have ih:=uU (p:=p) (q:=q) (l:=l);rw[aZ,aZ,aZ];cases ep:p a<;>cases eq:q a<;>simp<;>omega
theorem uV{g:Nat->Nat}(c:g 0=0)(a:∀t,t<10->g (t+1)<=g t+1):∀N n,N<=10->n<=g N->∃t,t<=N/\g t=n
 | 0,n,_,h=>⟨0,k8 _,by omega⟩
 | N+1,n,hN,h=>by
  by_cases q:n<=g N
  ·obtain⟨t,h1,b⟩:=uV c a N n IK q;exact⟨t,by omega,b⟩
  ·have:=a N IK;exact⟨N+1,k8 _,by omega⟩
theorem uW:∀t,t<10->((List.range 10).filter λ w=>w==t).length<=1:=by decide
theorem J2(h:j∈cs c):c.testBit j=true:=(B8.mp h).2
theorem Z3(h:c.testBit j=true):j∈cs c:=by
 refine B8.mpr ⟨r9.mpr ?_,h⟩;have a:c≠0:=by intro z;rw[z,fg]at h;cases h
 have:=(Nat.le_log2 a).mpr (iK h);omega
theorem tb5(hc:c<32)(h:c.testBit j=true):j<5:=by
 have h1:=iK h;rcases X1 j 5 with z | z
 ·exact z
 ·have:2^5<=2^j:=J3 IL z;omega
def Sb(h C:Nat):Prop:=0<h/\h<C/\h &&& C=h
theorem im:∀C,C<32->∀h,h<32->h &&& C=h->∀j,j<5->(C - h).testBit j=(C.testBit j && !h.testBit j)/\(h.testBit j=true->C.testBit j=true):=by decide +kernel
theorem Sb.lt(s:Sb h C)(a:C<32):h<32:=cM s.2.1 a
theorem uX(s:Sb h C)(b:C<32)(c:j∈cs (C - h)):j∈cs C/\j∉cs h:=by
 have a:=J2 c;have d:=tb5 IK a;rw[(im C b h (s.lt b) s.2.2 j d).1,f9]at a;refine⟨Z3 a.1,λ z=>?_⟩;rw[J2 z]at a;exact absurd a.2 IL
theorem GL:∀R,R<32->2<=(cs R).length->∃h∈List.range 32,(0<h/\h<R/\h &&& R=h)/\2*(cs h).length<=(cs R).length+1/\2*(cs (R - h)).length<=(cs R).length+1:=by decide +kernel
theorem GM:∀e d c b a:Bool,∃h∈List.range 32,h.testBit 0=e/\h.testBit 1=d/\h.testBit 2=c/\h.testBit 3=b/\h.testBit 4=a:=by decide +kernel
theorem uY(q:Nat->Bool):∃h,h<32/\∀j,j<5->h.testBit j=q j:=by
 obtain⟨h,b,g,f,e,d,c⟩:=GM (q 0) (q 1) (q 2) (q 3) (q 4);refine⟨h,r9.mp b,λ j a=>?_⟩
 match j,a with
 | 0,_=>exact g
 | 1,_=>exact f
 | 2,_=>exact e
 | 3,_=>exact d
 | 4,_=>exact c
theorem uZ:∀C,C<32->∀h,h<32->(∀j,j<5->h.testBit j=true->C.testBit j=true)->h &&& C=h/\h<=C:=by decide +kernel
theorem tb0(e:h.testBit j=true):0<h:=by
 rcases iW h with z | z
 ·rw[z,fg]at e;cases e
 ·exact z
theorem N8:∀c,c<32->0<c->0<(cs c).length:=by decide +kernel
abbrev Mx:=Nat->Nat->Int
def wp(f:Mx)(R C:Nat)(w:Nat):Bool:=(cs R).any λ i=>(cs C).any λ j=>f i j==(w:Int)
def wn(f:Mx)(R C:Nat):Nat:=((List.range 10).filter (wp f R C)).length
theorem V8:wp f R C w=true↔∃i j,i∈cs R/\j∈cs C/\f i j=(w:Int):=by
 unfold wp;rw[U1];constructor
 ·rintro⟨i,b,h⟩
  obtain⟨j,a,h⟩:=U1.mp h;exact⟨i,j,b,a,g9.mp h⟩
 ·rintro⟨i,j,b,a,h⟩
  exact⟨i,b,U1.mpr ⟨j,a,g9.mpr h⟩⟩
theorem GN(x:C<32)(K:(cs R).length=1)(h2:2<=wn f R C):∃h,Sb h C/\2*wn f R h<=wn f R C+1/\2*wn f R (C - h)<=wn f R C+1:=by
 obtain⟨i,hi⟩:∃i,cs R=[i]:=by
  match e:cs R,K with
  | [i],_=>exact⟨i,rfl⟩
 let g:Nat->Nat:=λ t=>((List.range 10).filter λ w=>wp f R C w&&decide (w<t)).length
 have M:g 0=0:=(by show((List.range 10).filter λ w=>wp f R C w&&decide (w<0)).length=0;rw[show(λ w=>wp f R C w&&decide (w<0))=λ _=>false from funext λ w=>by simp];simp);have L:∀t,t<10->g (t+1)<=g t+1:=λ t E=>by
  refine i9 (uT λ w _ h=>?_) (Nat.add_le_add_left (uW t E) _);rw[f9,B2]at h;by_cases z:w=t
  ·exact .inr (g9.mpr z)
  ·exact .inl (by rw[f9,B2];exact⟨h.1,by omega⟩)
 have gN:wn f R C<=g 10:=ik λ w k h=>by rw[f9,B2];exact⟨h,r9.mp k⟩
 obtain⟨t,_,E⟩:=uV M L 10 ((wn f R C+1)/2) (k8 _) IK;have sm:wn f R C=g t+((List.range 10).filter λ w=>wp f R C w && !decide (w<t)).length:=uU;obtain⟨h,F,v⟩:=uY λ j=>C.testBit j&&decide (f i j<(t:Int))
 obtain⟨s1,H⟩:=uZ C x h F λ j J e=>by rw[v j J,f9]at e;exact e.1
 have d:∀j,j∈cs h↔j∈cs C/\f i j<(t:Int):=λ j=>by
  constructor
  ·intro e;have l:=J2 e;rw[v j (tb5 F l),f9,B2]at l;exact⟨Z3 l.1,l.2⟩
  ·rintro⟨n,m⟩
   have l:=J2 n;exact Z3 (by rw[v j (tb5 x l),l,cJ,B2];exact m)
 have ex:∀{p:Nat->Bool},0<((List.range 10).filter λ w=>wp f R C w&&p w).length->∃w j,p w=true/\j∈cs C/\f i j=(w:Int):=λ {p} I=>by obtain⟨w,k⟩:=T6 I;have k:=(B8.mp k).2;rw[f9]at k;obtain⟨B,j,a,b,c⟩:=V8.mp k.1;rw[hi,u4]at a;subst a;exact⟨w,j,k.2,b,c⟩
 have u:h<C:=by
  rcases X1 h C with z | z
  ·exact z
  ·exfalso;have e:h=C:=jt H z;obtain⟨w,j,n,m,y⟩:=ex (p:=λ w=>!decide (w<t)) IK;have:=((d j).mp (by rw[e];exact m)).2;rw[y]at this;rw[u8,oy]at n;omega
 have s:Sb h C:=⟨((by obtain⟨w,j,n,m,y⟩:=ex (by show 0<g t;omega);have:j∈cs h:=(d j).mpr ⟨m,by rw[y];have:=jf n;omega⟩;exact tb0 (J2 this))),u,s1⟩;refine⟨h,s,?_,?_⟩
 ·have:wn f R h<=g t:=ik λ w _ q=>by
   obtain⟨B,j,a,b,c⟩:=V8.mp q;have o:=a;rw[hi,u4]at o;subst o;obtain⟨r,A⟩:=(d j).mp b;rw[f9,B2];exact⟨V8.mpr ⟨_,j,a,r,c⟩,by rw[c]at A;omega⟩
  omega
 ·have:wn f R (C - h)<=((List.range 10).filter λ w=>wp f R C w && !decide (w<t)).length:=ik λ w _ q=>by
   obtain⟨B,j,a,b,c⟩:=V8.mp q;have o:=a;rw[hi,u4]at o;subst o;obtain⟨r,A⟩:=uX s x b;rw[f9,u8,oy];refine⟨V8.mpr ⟨_,j,a,r,c⟩,λ z=>A ((d j).mpr ⟨r,?_⟩)⟩;rw[c];omega
  omega
noncomputable def hv(R:Nat):on Nat:=((List.range (R - 1)).map (· + 1)).filter λ h=>h &&& R==h&&decide (h<R - h)
theorem GO:∀R,R<32->∀h,h<32->0<h->h<R->h &&& R=h->((hv R).contains h||((hv R).contains (R - h)&&decide (R - (R - h)=h)))=true:=by decide +kernel
theorem mX(R:Nat)(b:R<32)(h:Nat)(a:h<32)(s:Sb h R):h∈hv R\/(R - h∈hv R/\R - (R - h)=h):=by
 have:=GO R b h a s.1 s.2.1 s.2.2;rw[F0,f9,B2]at this;rcases this with z | z
 ·exact .inl (G0.mp z)
 ·exact .inr ⟨G0.mp z.1,z.2⟩
theorem Z4(q:h∈hv R):Sb h R/\h<R - h:=by
 obtain⟨c,a⟩:=B8.mp q;obtain⟨i,b,rfl⟩:=i8.mp c;rw[f9,g9,B2]at a;have:=r9.mp b;exact⟨⟨by omega,by omega,a.1⟩,a.2⟩
theorem GP(a:R<32)(c:C<32)(i:0<R)(C0:0<C)(g:2<=wn f R C):hv R≠[]\/hv C≠[]:=by
 have b:∀R,R<32->(∃h,Sb h R)->hv R≠[]:=λ R a ⟨h,s⟩ e=>by
  rcases mX R a h (s.lt a) s with z | z
  ·rw[e]at z;cases z
  ·rw[e]at z;cases z.1
 have rp:=N8 R a i;by_cases d:2<=(cs R).length
 ·obtain⟨h,_,s,_⟩:=GL R a d;exact .inl (b R a ⟨h,s⟩)
 ·obtain⟨h,s,_⟩:=GN c IK g;exact .inr (b C c ⟨h,s⟩)
end k23
end
noncomputable section
namespace k23
open PySem L2
variable {fu k:Nat} {F:Nat->on DV->Ir Ou} {δ:on Sv} {ds:on DV} {cl:Cl} {N M:Nat} {R C:Nat}
theorem mY{n:Nat}(c:IM b cx (.int n))(hn:n<=1000):s9 (evE G F (.rng [.int 1,b]) δ)=some (.ok (upTo 1 (n - 1)) .fresh):=by
 show s9 (Rs.thn (evEs G F [.int 1,b] δ) (λ l=>(rngD l).map λ a=>.ok (.lst a) .fresh))=_;rw[f7 i4 (f7 c j9),dg];have hs:(J4 1&&J4 (n:Int)&&decide ((n:Int) - 1<=(m7:Int)))=true:=by rw[f9,f9,P5];refine⟨⟨by decide,?_⟩,bg (show(n:Int) - 1<=1000 by omega) IL⟩;unfold J4;rw[f9,P5,P5];exact⟨bg IL (E7 n),iY (show(n:Int)<=1000 by omega) IL⟩
 show s9 ((if J4 1&&J4 (n:Int)&&decide ((n:Int) - 1<=(m7:Int))then some (upTo 1 ((n:Int) - 1).toNat)else none).map λ a=>.ok (.lst a) .fresh)=_;rw[f8 hs,show((n:Int) - 1).toNat=n - 1 by omega];rfl
theorem GQ(n:Nat):upTo 1 n=((List.range n).map (· + 1)).map λ (h:Nat)=>DV.int (h:Int):=by
 unfold L2.upTo;rw[q5];apply M5;intro j _;show DV.int _=DV.int _
 congr 1
 simp only[Function.comp];omega
theorem GR{i j:Nat}(d:IM a cx (.int i))(c:IM b cy (.int j)):evE G F (.bin .BitAnd a b) δ=some (.ok (.int ((i &&& j:Nat):Int)) .strong):=J6 d c (by show some _=_;rw[uM])
theorem vc{i j:Nat}(d:IM a cx (.int i))(c:IM b cy (.int j)):evE G F (.cmp .Eq a b) δ=some (.ok (.bl (i==j)) .strong):=by
 rw[b_eq d c]
 congr 3
 rw[W7,g9,g9];omega
theorem vd(hR:R<32):run G T fu (k+1) 21 [.int R]=some (.v (.lst (nD (hv R))) true):=by
 rw[p7 (fd:=mF) rfl rfl];unfold mF;have w:=mY (F:=run G T fu k) (δ:=o9 1 [.int R]) (b:=.var 0) (n:=R) (f6 rfl) IK;rw[GQ]at w;refine p9 (o6 (r6 (cl:=.fresh) (mV w IL (by rw[g6,A6];exact i9 (show R - 1<=1000 by omega) IL) λ h f=>?_)));refine⟨[.val (.int h),.val (.int R)],rfl,?_,.strong,f6 rfl,rfl⟩;obtain⟨i,e,rfl⟩:=i8.mp f;have:=r9.mp e;have c:=vc (F:=run G T fu k) (δ:=[.val (.int ((i+1:Nat):Int)),.val (.int R)]) (GR (a:=.var 0) (b:=.var 1) (f6 rfl) (f6 rfl)) (f6 (n:=0) rfl);have d:=b_lt (G:=G) (F:=run G T fu k) (δ:=[.val (.int ((i+1:Nat):Int)),.val (.int R)]) (f6 (n:=0) rfl) (am (a:=.var 1) (b:=.var 0) (f6 rfl) (f6 rfl));have g:decide (((i+1:Nat):Int)<(R:Int) - ((i+1:Nat):Int))=decide (i+1<R - (i+1)):=by rw[jl];omega
 rw[g]at d;cases q:((i+1) &&& R==i+1)with
 | true=>
  rw[q]at c;rw[bP c (dW d)];rfl
 | false=>
  rw[q]at c;rw[mP c];rfl
theorem ln4{l:on a}(h:l.length<=4):l.length<=m7:=i9 h IL
abbrev Wy:=DV×Nat×(Nat×Nat)×(Nat×Nat)
noncomputable def wD(a:Wy):DV:=.tup [a.1,.int a.2.1,.tup [.int a.2.2.1.1,.int a.2.2.1.2],.tup [.int a.2.2.2.1,.int a.2.2.2.2]]
def wl(R C:Nat):on Wy:=(hv R).map (λ h=>(.str "row",h,(R - h,C),(h,C)))++(hv C).map (λ h=>(.str "column",h,(R,C - h),(R,h)))
theorem bQ(h:R<32):(hv R).length<=31:=by
 unfold hv;refine i9 (eQ ..) ?_;rw[g6,A6];omega
theorem vf{b:Nat}(h:b<a):(a:Int) - (b:Int)=((a - b:Nat):Int):=by omega
theorem vg(d:R<32)(e:C<32):run G T fu (k+2) 20 [.int R,.int C]=some (.v (.lst ((wl R C).map wD)) true):=by
 rw[p7 (fd:=mE) rfl rfl];unfold mE;have q:=i5 (G:=G) (F:=run G T fu (k+1)) (δ:=o9 4 [.int R,.int C]) (f:=21) (es:=[.var 0]) (l:=[(.int R,.strong)]) rfl rfl (vd (k:=k) (fu:=fu) d);have p:=i5 (G:=G) (F:=run G T fu (k+1)) (δ:=[.val (.int R),.val (.int C),.val (.lst ((hv R).map λ h=>wD (.str "row",h,(R - h,C),(h,C)))),.no]) (f:=21) (es:=[.var 1]) (l:=[(.int C,.strong)]) rfl rfl (vd (k:=k) (fu:=fu) e);have m:s9 (evE G (IY (k+1)) (.call 21 [.var 0]) (o9 4 [.int R,.int C]))=some (.ok ((hv R).map λ (h:Nat)=>DV.int (h:Int)) .fresh):=by rw[q];rfl
 have g:s9 (evE G (IY (k+1)) (.call 21 [.var 1]) [.val (.int R),.val (.int C),.val (.lst ((hv R).map λ h=>wD (.str "row",h,(R - h,C),(h,C)))),.no])=some (.ok ((hv C).map λ (h:Nat)=>DV.int (h:Int)) .fresh):=by rw[p];rfl
 have o:=G4 (elt:=.tup [.str "row",.var 0,.tup [.bin .Sub (.var 1) (.var 0),.var 2],.tup [.var 0,.var 2]]) (tg:=.one 0) (fr:=[none,some 0,some 1]) m IL (i9 (bQ d) IL) λ h c=>
  ⟨[.val (.int h),.val (.int R),.val (.int C)],.strong,rfl,by
   have s:=am (G:=G) (F:=run G T fu (k+1)) (δ:=[.val (.int h),.val (.int R),.val (.int C)]) (a:=.var 1) (b:=.var 0) (i:=R) (j:=h) (f6 rfl) (f6 rfl);rw[vf (Z4 c).1.2.1]at s;exact N3 (f7 F7 (f7 (f6 rfl) (f7 (N3 (f7 s (f7 (f6 rfl) j9)) (ln4 IX) rfl) (f7 (N3 (f7 (f6 rfl) (f7 (f6 rfl) j9)) (ln4 IX) rfl) j9)))) (ln4 IX) rfl,rfl⟩
 have n:=G4 (elt:=.tup [.str "column",.var 0,.tup [.var 1,.bin .Sub (.var 2) (.var 0)],.tup [.var 1,.var 0]]) (tg:=.one 0) (fr:=[none,some 0,some 1]) g IL (i9 (bQ e) IL) λ h c=>
  ⟨[.val (.int h),.val (.int R),.val (.int C)],.strong,rfl,by
   have s:=am (G:=G) (F:=run G T fu (k+1)) (δ:=[.val (.int h),.val (.int R),.val (.int C)]) (a:=.var 2) (b:=.var 0) (i:=C) (j:=h) (f6 rfl) (f6 rfl);rw[vf (Z4 c).1.2.1]at s;exact N3 (f7 F7 (f7 (f6 rfl) (f7 (N3 (f7 (f6 rfl) (f7 s j9)) (ln4 IX) rfl) (f7 (N3 (f7 (f6 rfl) (f7 (f6 rfl) j9)) (ln4 IX) rfl) j9)))) (ln4 IX) rfl,rfl⟩
 refine p9 (i6 (n9 o rfl) (i6 (n9 n rfl) (o6 (r6 (cl:=.fresh) ?_))));refine(J6 (f6 rfl) (f6 rfl) (show binD .Add _ _ .strong .strong=some (.ok (.lst ((wl R C).map wD)) .fresh)from ?_));show(if((hv R).map λ h=>wD (.str "row",h,(R - h,C),(h,C))).length+((hv C).map λ h=>wD (.str "column",h,(R,C - h),(R,h))).length<=m7 then _ else none)=_;rw[f8]
 ·unfold wl;rw[C4,q5,q5];rfl
 ·rw[g6,g6];exact i9 (jw (bQ d) (bQ e)) IL
abbrev Tb:=on ((Nat×Nat)×Nat)
noncomputable def kk(p:Nat×Nat):DKey:=.t [.inl (p.1:Int),.inl (p.2:Int)]
def dC(L:Tb):DV:=.dct (L.map λ p=>kk p.1) (L.map λ p=>.int (p.2:Int))
def dD(L:Tb):DV:=.tup [dC L]
theorem vh(h:kk p=kk q):p=q:=by
 unfold kk at h;obtain⟨a,b⟩:=p;obtain⟨c,d⟩:=q;simp at h;obtain⟨f,e⟩:=h;rw[jz f,jz e]
theorem mZ(q:Nat×Nat):∀L:Tb,F6 (kk q) (L.map λ p=>kk p.1) (L.map λ p=>.int (p.2:Int))=(L.lookup q).map λ z=>DV.int ((z:Nat):Int)
 | []=>rfl
 | (p,z)::L=>by
  show(if kk p=kk q then some (DV.int _)else F6 (kk q) _ _)=_;rw[G6];by_cases h:p=q
  ·rw[f8 (by rw[h]),h,U0];rfl
  ·rw[g8 (λ e=>h (vh e)),mZ q L,show(q==p)=false from B5.mpr (Ne.symm h)]
theorem vi:∀{L:Tb},L.lookup q=none->kk q∉L.map λ p=>kk p.1
 | [],_,h=>by cases h
 | (p,z)::L,e,h=>by
  rw[G6]at e;split at e
  ·cases e
  ·rename_i a;rcases i7.mp h with w | w
   ·rw[vh w,U0]at a;cases a
   ·exact vi e w
theorem vj{r c z:Nat}(b:δ[i]? = some (.od (dD L)))(h:evE G F e δ=some (.ok (.tup [.int r,.int c]) cx))(a:L.lookup (r,c)=some z):evE G F (.dgp i e) δ=some (.ok (.int z) .strong):=by
 have d:evE G F (.dgp i e) δ=(match δ[i]? with
  | some (.od (.tup [.dct ks vs]))=>Re.thn _ λ y _=>dgpD ks vs y
  | _=>none):=rfl
 rw[d,b];show Re.thn _ _=_;rw[h,C8];show(match F6 (kk (r,c)) _ (L.map λ p=>.int _)with | some (.int v)=>some _ | _=>none)=_;rw[mZ,a];rfl
theorem vk{r c z:Nat}(m:δ[i]? = some (.od (dD L)))(h:IM e o (.int z))(k:IM a cx (.int r))(j:IM b cy (.int c))(f:L.lookup (r,c)=none)(g:L.length<100000):evS G F fu (.dpp i [a,b] e) δ=some (.nx (δ.set i (.od (dD (L++[((r,c),z)]))))):=by
 have n:evS G F fu (.dpp i [a,b] e) δ=(match δ[i]? with
  | some (.od (.tup [.dct kk vs]))=>Re.thnS δ _ λ d _=>Rs.thnS δ _ λ l=>(dppD i δ kk vs l d).map Out.nx
  | _=>none):=rfl
 rw[n,m];show Re.thnS δ _ _=_;rw[h];show Rs.thnS δ _ _=_;rw[f7 k (f7 j j9)];show((if(L.map λ p=>kk p.1).length<m7 then some (δ.set i (.od (.tup [.dct (putD (kk (r,c)) (.int z) (L.map λ p=>kk p.1) (L.map λ p=>.int (p.2:Int))).1 (putD (kk (r,c)) (.int z) (L.map λ p=>kk p.1) (L.map λ p=>.int (p.2:Int))).2])))else none).map Out.nx)=_;rw[f8 (by rw[g6];exact cM g IL)];unfold putD;rw[g8 (vi f)];unfold dD dC;rw[C4,C4];rfl
theorem vm(e:δ[i]? = some (.val (.fn x)))(a:xs.lookup x=some f)(c:evEs G F es δ=some (.ok l))(b:(l.all λ p=>p.2 == .strong||p.2 == .fresh)=true)(h:F f (l.map (·.1))=some (.v d false)):evE G F (.callv i xs es) δ=some (.ok d .strong):=by
 show fZ G F xs _ δ[i]? = _;rw[e,c];show(match xs.lookup x with
   | some f=>O8 F f l
   | none=>none)=_
 rw[a];show O8 F f l=_;unfold O8;rw[h,b];rfl
theorem io:∀(r:on Int) (m:Int),(minI m r=m\/minI m r∈r)/\minI m r<=m/\∀x∈r,minI m r<=x
 | [],m=>⟨.inl rfl,fF _,λ x a=>nomatch a⟩
 | y::r,m=>by
  show(minI _ r=m\/minI _ r∈y::r)/\minI _ r<=m/\∀x∈y::r,minI _ r<=x;obtain⟨d,c,b⟩:=io r (if y<m then y else m);by_cases q:y<m
  ·rw[f8 q]at d c b ⊢;refine⟨.inr ?_,by omega,λ x a=>?_⟩
   ·rcases d with z | z
    ·rw[z];exact o5 ..
    ·exact o4 _ z
   ·rcases i7.mp a with z | z
    ·rw[z];exact c
    ·exact b x z
  ·rw[g8 q]at d c b ⊢;refine⟨?_,c,λ x a=>?_⟩
   ·rcases d with z | z
    ·exact .inl z
    ·exact .inr (o4 _ z)
   ·rcases i7.mp a with z | z
    ·rw[z];omega
    ·exact b x z
theorem vn:∀l:on Nat,ints? (nD l)=some (l.map λ (j:Nat)=>(j:Int))
 | []=>rfl
 | a::l=>by show(ints? (nD l)).map _=_;rw[vn l];rfl
theorem GS(h:evE G F e δ=some (.ok (.lst (nD l)) cl))(f:l≠[]):∃z∈l,(∀x∈l,z<=x)/\evE G F (.bi .min [e]) δ=some (.ok (.int (z:Nat)) .strong):=by
 cases l with
 | nil=>exact absurd rfl f
 | cons a l=>
  obtain⟨i,g,c⟩:=io _ a;have k:evE G F (.bi .min [e]) δ=some (.ok (.int (minI a (l.map λ (j:Nat)=>(j:Int)))) .strong):=by rw[mL (f7 h j9)];show(match ints? (nD (a::l))with | some (n::r)=>some _ | _=>_)=_;rw[vn];rfl
  obtain⟨z,b,ez⟩:∃z∈a::l,minI a _=((z:Nat):Int):=by
   rcases i with q | q
   ·exact⟨a,o5 ..,q⟩
   ·obtain⟨z,b,q⟩:=i8.mp q;exact⟨z,o4 _ b,q.symm⟩
  refine⟨z,b,λ x d=>?_,by rw[k,ez]⟩;rw[ez]at g c;rcases i7.mp d with q | q
  ·rw[q];omega
  ·have:=c _ (i8.mpr ⟨x,q,rfl⟩);omega
end k23
end
noncomputable section
namespace k23
open PySem L2
theorem GT(a b:Nat):run G T fu (k+1) 17 [.int a,.int b]=some (.v (.int ((1+max a b:Nat):Int)) false):=by
 rw[p7 rfl rfl];unfold mD;have m:evE G (IY k) (.bi .max [.var 0,.var 1]) (o9 2 [.int a,.int b])=some (.ok (.int ((max a b:Nat):Int)) .strong):=by
  show some _=_
  congr 3
  by_cases h:(b:Int)>(a:Int)
  ·rw[f8 h];omega
  ·rw[g8 h];omega
 have s:=E5 (i4 (G:=G) (F:=run G T fu k) (i:=1)) m;rw[show(1:Int)+_=((1+max a b:Nat):Int) by omega]at s;exact p9 (o6 (r6 s))
end k23
end
noncomputable section
namespace k23
open PySem L2
variable {fu k:Nat} {F:Nat->on DV->Ir Ou} {δ:on Sv} {ds:on DV} {cl:Cl} {R C a b:Nat} {rest:on (on Int)} {L:Tb}
def mf(rest:on (on Int)):Mx:=λ i j=>(rest.getD i []).getD j 0
theorem vo(rest:on (on Int))(R C:Nat):WI (sub rest (cs R) (cs C))=(List.range 10).filter (wp (mf rest) R C):=by
 unfold WI sub wp mf
 congr 1
 funext w
 rw[fD]
 congr 1
 funext i
 show((cs C).map λ j=>(rest.getD i []).getD j 0).any _=_;rw[fD];rfl
def W9(rest:on (on Int)):Prop:=∀r∈rest,∀x∈r,0<=x/\x<=9
theorem nb{r:on Int}(h:j<r.length):r.getD j 0∈r:=by
 rw[p6,k7 h];exact M8 h
theorem bR(c:Rect a b rest)(e:W9 rest)(g:i<a)(f:j<b):0<=mf rest i j/\mf rest i j<=9:=by
 have d:=K8 (by rw[c.1];exact g);exact e _ d _ (nb (by rw[c.2 _ d];exact f))
theorem N9(a:c<2^n)(h:i∈cs c):i<n:=by
 exact(Nat.pow_lt_pow_iff_right (by decide:1<2)).mp (ag (iK (J2 h)) a)
theorem p32(h:n<=5):2^n<=32:=J3 IL h
theorem cs5:∀c,c<32->(cs c).length<=5:=by decide +kernel
theorem vt(f:Rect a b rest)(e:W9 rest)(h:a<=5)(g:b<=5)(l:0<R)(k:R<2^a)(n:0<C)(m:C<2^b):0<wn (mf rest) R C:=by
 have pa:=p32 h;have pb:=p32 g;obtain⟨i,d⟩:=T6 (N8 R IK l);obtain⟨j,c⟩:=T6 (N8 C IK n);have q:=bR f e (N9 k d) (N9 m c);unfold wn;refine bZ (a:=(mf rest i j).toNat) (B8.mpr ⟨r9.mpr IK,V8.mpr ⟨i,j,d,c,by omega⟩⟩)
theorem GU(e:Rect a b rest)(h:W9 rest)(A:0<a)(u:a<=5)(q:b<=5)(B:0<R)(f:R<2^a)(E:0<C)(g:C<2^b)(y:δ[3]? = some (.val (tT rest)))(w:δ[5]? = some (IU R))(v:δ[6]? = some (IU C)) :
  evE G (IY (k+3)) (.bi .len [.call 11 [.call 2 [.var 3,.var 5,.var 6]]]) δ=some (.ok (.int (wn (mf rest) R C:Nat)) .strong):=by
 have pa:=p32 u;have pb:=p32 q;have m:Rect (cs R).length (cs C).length (sub rest (cs R) (cs C)):=(by refine⟨by unfold sub;rw[g6],λ r d=>?_⟩;obtain⟨i,_,rfl⟩:=i8.mp d;rw[g6]);have c:W9 (sub rest (cs R) (cs C)):=λ r d x n=>by obtain⟨i,p,rfl⟩:=i8.mp d;obtain⟨j,o,rfl⟩:=i8.mp n;exact bR e h (N9 f p) (N9 g o)
 have z:=i5 (G:=G) (f7 (f6 y) (f7 (f6 w) (f7 (f6 v) j9))) rfl (uR (fu:=fu) (k:=k) rest a b R C e A IK IK B f E g);have l:=V5 (i5 (f7 z j9) rfl (uK _ _ _ m (i9 (cs5 R IK) IL) (i9 (cs5 C IK) IL) c));rw[vo]at l;unfold nD at l;rw[g6]at l;exact l
noncomputable def lnB:on MS:=[.iff (.cmp .Eq (.bi .len [.call 11 [.call 2 [.var 3,.var 5,.var 6]]]) (.int 1)) [.dpp 4 [.var 5,.var 6] (.var 1)] [.set 7 false (.call 20 [.var 5,.var 6]),.dpp 4 [.var 5,.var 6] (.bi .min [.comp (.callv 4 [("joined_bits",17),("joined_ends",18)] [.dgp 5 (.var 2),.dgp 5 (.var 3)]) (.many [0,1,2,3]) (.var 7) [none,none,none,none,some 2,some 4]])]]
structure Jt where
 g:Nat
 j:Nat->Nat->Nat
 nm:Str
abbrev jE:Jt:=⟨1,λ a b=>a+b,"joined_ends"⟩
abbrev jB:Jt:=⟨0,λ a b=>1+max a b,"joined_bits"⟩
abbrev JOk(J:Jt):Prop:=J=jB\/J=jE
theorem JOk.comm(h:JOk J)(a b:Nat):J.j a b=J.j b a:=by
 rcases h with rfl | rfl
 ·show 1+max a b=1+max b a;omega
 ·exact jC ..
theorem vw(h:JOk J)(e:δ[i]? = some (.val (.fn J.nm)))(c:evEs G (IY (k+1)) es δ=some (.ok [(.int a,.strong),(.int b,.strong)])):evE G (IY (k+1)) (.callv i [("joined_bits",17),("joined_ends",18)] es) δ=some (.ok (.int ((J.j a b:Nat):Int)) .strong):=by
 rcases h with rfl | rfl
 ·exact vm e rfl c rfl (GT a b)
 refine vm e rfl c rfl ?_;rw[p7 rfl rfl];exact p9 (o6 (r6 (E5 (f6 (d:=.int a) rfl) (f6 (d:=.int b) rfl))))
def lnD(J:Jt)(t:DV)(rest:on (on Int))(L:Tb)(x y w:Sv):on Sv:=[.val t,.val (.int J.g),.val (.fn J.nm),.val (tT rest),.od (dD L),x,y,w]
end k23
end
noncomputable section
namespace k23
open PySem L2
theorem dY{n:Nat}(h:IM e cx (.int n))(hn:n<=1000):evE G F (.bin .LShift (.int 1) e) δ=some (.ok (.int ((2^n:Nat):Int)) .strong):=J6 i4 h (by
 show(if 0<=_/\_<=1000000/\(1:Int).natAbs<2^64 then some (Re.ok _ .strong)else none)=_;rw[f8 ⟨by omega,by omega,by decide⟩,B7,Int.one_mul]
 congr 3)
def lnF:MS:=.fo (.one 6) (.rng [.int 1,.bin .LShift (.int 1) (.bi .len [.ix (.var 3) (.int 0)])]) lnB
theorem GV(h:noOt i δ=true):evS G F fu (.sep i) δ=some (.nx (δ.set i (.od (dD [])))):=by
 have a:evS G F fu (.sep i) δ=if noOt i δ then some (.nx _)else none:=rfl
 rw[a,f8 h];rfl
theorem GW(h:δ[i]? = some (.od (dD L))):evS G F fu (.retd i) δ=some (.rt (dC L) false):=by
 have a:evS G F fu (.retd i) δ=(match δ[i]? with
  | some (.od d)=>if isDc d then some (.rt _ false)else none
  | _=>none):=rfl
 rw[a,h];rfl
theorem GX(rows:on (on Int))(n m:Nat)(d:Rect n m rows)(e:0<n)(a:n<=60)(b:m<=60)(h1:(FI rows).length<=5)(h2:(FI IS).length<=5):run G T fu (k+5) 10 [tT rows]=some (.v .non false):=by
 rw[p7 rfl rfl];unfold tV;have c:=i5 (G:=G) (δ:=o9 1 [tT rows]) (es:=[.var 0]) rfl rfl (GJ (fu:=fu) (k:=k) rows n m d e a b);have s:sm (FI rows).length (FI IS).length=true:=by unfold sm;rw[f9,B2,B2];omega
 rw[s]at c;have q:=di c;exact pS (x8 (o7 q) rfl)
def rst(m:Nat)(rows:on (on Int)):on (on Int):=sub rows (FI rows) (FI IS)
theorem vx:∀L:Tb,kvp? (L.map λ p=>kk p.1) (L.map λ p=>.int (p.2:Int))=some (L.map λ p=>(((p.1.1:Int),(p.1.2:Int)),(p.2:Int)))
 | []=>rfl
 | p::L=>by show(kvp? _ _).map _=_;rw[vx L];rfl
noncomputable def tD(p:(Nat×Nat)×Nat):DV:=.tup [.int p.1.1,.int p.1.2,.int p.2]
theorem vz(L:Tb)(h:L≠[])(a:L.length<=100000):run G T fu (k+1) 14 [dC L]=some (.v (.lst (L.map tD)) true):=by
 rw[p7 rfl rfl];unfold tY;have w:s9 (evE G (IY k) (.itm (.var 0)) (o9 1 [dC L]))=some (.ok (L.map λ p=>.tup [.tup [.int p.1.1,.int p.1.2],.int p.2]) .strong):=by have b:evE G (IY k) (.itm (.var 0)) (o9 1 [dC L])=Re.thn (evE G (IY k) (.var 0) (o9 1 [dC L])) (λ x c=>itmD x c):=rfl;rw[b,f6 rfl,C8];show s9 (if Cl.strong=.strong/\(L.map λ p=>kk p.1).isEmpty=false then(kvp? (L.map λ p=>kk p.1) (L.map λ p=>.int (p.2:Int))).map (λ l=>.ok (.lst (l.map λ p=>.tup [.tup [.int p.1.1,.int p.1.2],.int p.2])) .strong)else none)=_;rw[f8 ⟨rfl,by cases L with | nil=>exact absurd rfl h | cons _ _=>rfl⟩,vx];show some _=_;rw[q5];rfl
 refine p9 (o6 (r6 (G4 w IL (i9 a IL) λ p hp=>?_)));refine⟨[.val _,.val _],.strong,rfl,?_,rfl⟩;exact N3 (f7 (q9 (cx:=.strong) (f6 rfl) (i4 (i:=0)) rfl) (f7 (q9 (cx:=.strong) (f6 rfl) (i4 (i:=1)) rfl) (f7 (f6 rfl) j9))) (ln4 IX) rfl
theorem vA(xs:on DV)(x:DV):ixD (.lst (xs++[x])) (.int (-1))=some x:=by
 show(E4 (xs++[x]).length (-1)).bind _=_;have e:E4 (xs++[x]).length (-1)=some xs.length:=by
  unfold E4;rw[g8 IL,f8 (by rw[u0];simp;omega)];rw[u0]
  congr 1
  simp;omega
 rw[e,O3,Q7 (k8 _),jI];rfl
theorem b_gt{G:Gs}{F:Nat->on DV->Ir Ou}{δ:on Sv}{a b:ME}{i j:Int}{cx cy:Cl}(ha:IM a cx (.int i))(hb:IM b cy (.int j)):evE G F (.cmp .Gt a b) δ=some (.ok (.bl (decide (j<i))) .strong):=H9 ha hb rfl
theorem dZ(h1 : -(2^62)<j)(h2:j<2^62):Q1 i j=true:=by
 unfold Q1;have e1:(2:Int)^62=4611686018427387904:=IL;have e2:(2:Int)^64=18446744073709551616:=IL;rw[A0 (show -(2^64)<j by omega),A0 (show j<2^64 by omega)];rw[Bool.and_self,jF,jG]
abbrev sS(c n:Int)(xs:on Int)(a b d e:Sv):on Sv:=[.val (.int c),.val (.int n),.own (.lst (iD xs)),a,b,d,e]
theorem GY(xs:on Int)(x:Int):iD xs++[DV.int x]=iD (xs++[x]):=by unfold iD;rw[C4];rfl
noncomputable def s1:on MS:=[.app 2 (.bin .Mod (.var 3) (.int 306783379)),.set 3 false (.bin .FloorDiv (.var 3) (.int 306783379))]
noncomputable def s2:on MS:=[.set 5 false (.bin .Mod (.bin .Add (.bin .Add (.bin .Mult (.var 5) (.int 48271)) (.bin .Mult (.var 4) (.var 4))) (.int 11)) (.int 2147483647)),.set 6 false (.bin .Add (.bin .Add (.bin .Mult (.bin .FloorDiv (.var 5) (.int 977)) (.int 16807)) (.bin .Mult (.var 5) (.bin .Add (.bin .Mult (.var 4) (.var 4)) (.int 7)))) (.var 4)),.seti 2 (.var 4) (.bin .FloorDiv (.bin .Mod (.var 6) (.int 2147483587)) (.int 7))]
theorem GZ(c:Int)(n:Nat)(hn:n<=100):∃xs:on Int,xs.length=n/\run G T fu (k+1) 31 [.int c,.int (n:Int)]=some (.v (.lst (iD xs)) true):=by
 rw[p7 (fd:=ui) rfl rfl];have w:∀(xs:on Int) (a b d e:Sv),s9 (evE G (IY k) (.rng [.var 1]) (sS c n xs a b d e))=some (.ok (upTo 0 n) .fresh):=λ xs a b d e=>V4 (f6 rfl) IK
 have U:∃g,B4 (.one 4) (λ g=>evSs G (IY k) fu s1 g) (upTo 0 n) (sS c n [] (IU c) .no .no .no)=some (.nx g)/\∃xs r b,xs.length=n/\g=sS c n xs (IU r) b .no .no:=(by refine U9 (i:=4) (I:=λ j s=>∃xs r b,xs.length=j/\s=sS c n xs (IU r) b .no .no) n 0 (λ j L s C=>?_) ⟨[],c,.no,rfl,rfl⟩;obtain⟨xs,r,b,m,rfl⟩:=C;refine⟨sS c n (xs++[r%306783379]) (IU (r/306783379)) (IU (0+(j:Int))) .no .no,?_,xs++[r%306783379],_,_,by rw[u0,m];rfl,rfl⟩;refine i6 (δ':=sS c n (xs++[r%306783379]) (IU r) (IU (0+(j:Int))) .no .no) ?_ (i6 (n9 (ao (f6 rfl) i4 IL) rfl) rfl);have:=pV (fu:=fu) (G:=G) (F:=run G T fu k) (i:=2) (δ:=sS c n xs (IU r) (IU (0+(j:Int))) .no .no) (ds:=iD xs) rfl (C5 (f6 (n:=3) (d:=.int r) rfl) (i4 (i:=306783379)) IL) rfl (by unfold iD;rw[g6,m];exact u6 (show j<1000 by omega) IL);rw[GY]at this;exact this);obtain⟨g,O,xs,r,b,K,rfl⟩:=U;have y:=b_gt (G:=G) (F:=run G T fu k) (δ:=sS c n xs (IU r) b .no .no) (f6 (n:=3) (d:=.int r) rfl) (i4 (i:=0));by_cases z:0<r
 ·rw[A0 z]at y;exact⟨xs,K,p9 (i6 (al (d:=.lst []) rfl) (i6 (n9 (f6 rfl) rfl) (J5 (w [] _ _ _ _) (.inr rfl) O (U8 (o7 y) (o6 (r6 (cl:=.top) (X8 rfl)))))))⟩
 ·rw[C7 z]at y;have S:∃g,B4 (.one 4) (λ g=>evSs G (IY k) fu s2 g) (upTo 0 n) (sS c n xs (IU r) b (IU (c%2147483647+48271)) .no)=some (.nx g)/\∃xs b q e,xs.length=n/\g=sS c n xs (IU r) b q e:=by
   have:=U9 (i:=4) (body:=λ g=>evSs G (IY k) fu s2 g) (I:=λ _ s=>∃xs b q e,xs.length=n/\s=sS c n xs (IU r) b (IU q) e) n 0 (λ j L s C=>?_) (δ:=sS c n xs (IU r) b (IU (c%2147483647+48271)) .no) ⟨xs,b,_,.no,K,rfl⟩
   ·obtain⟨g,M,h,B,q,o,m,Z⟩:=this;exact⟨g,M,h,B,_,o,m,Z⟩
   ·obtain⟨h,B,q,o,m,rfl⟩:=C;rw[jH];have N:(2:Int)^62=4611686018427387904:=IL;have jj:((j:Int)*(j:Int))<=10000:=by
     have M:j*j<=100*100:=cH IK IK;have:((j*j:Nat):Int)<=10000:=by omega
     rw[Int.natCast_mul]at this;exact this
    have j0:0<=(j:Int)*(j:Int):=Int.mul_nonneg (E7 j) (E7 j);obtain⟨D,x⟩:∃D,sS c n h (.val (.int r)) (.val (.int (j:Int))) (.val (.int q)) o=D:=⟨_,rfl⟩;have H:evE G (IY k) (.var 4) D=some (.ok (.int (j:Int)) .strong):=by rw[←x];exact f6 rfl
    have R:evE G (IY k) (.var 5) D=some (.ok (.int q) .strong):=by rw[←x];exact f6 rfl
    have Q:=C5 (E5 (E5 (S0 R (i4 (i:=48271)) (dZ IK IK)) (S0 H H (dZ IK IK))) (i4 (i:=11))) (i4 (i:=2147483647)) IL;obtain⟨p,Y⟩:∃p,(q*48271+(j:Int)*(j:Int)+11)%2147483647=p:=⟨_,rfl⟩;rw[Y]at Q;obtain⟨v,l⟩:∃v,sS c n h (.val (.int r)) (.val (.int (j:Int))) (.val (.int p)) o=v:=⟨_,rfl⟩;have A:evE G (IY k) (.var 4) v=some (.ok (.int (j:Int)) .strong):=by rw[←l];exact f6 rfl
    have E:evE G (IY k) (.var 5) v=some (.ok (.int p) .strong):=by rw[←l];exact f6 rfl
    have P:=E5 (E5 (S0 (ao E (i4 (i:=977)) IL) (i4 (i:=16807)) (dZ IK IK)) (S0 E (E5 (S0 A A (dZ IK IK)) (i4 (i:=7))) (dZ IK IK))) A;obtain⟨u,X⟩:∃u,p/977*16807+p*((j:Int)*(j:Int)+7)+(j:Int)=u:=⟨_,rfl⟩;rw[X]at P;refine⟨sS c n (h.set j (u%2147483587/7)) (IU r) (IU (j:Int)) (IU p) (IU u),?_,h.set j (u%2147483587/7),_,_,_,by rw[E9];exact m,rfl⟩;show evSs G (IY k) fu s2 (sS c n h (IU r) (IU (j:Int)) (IU q) o)=_;rw[x];refine i6 (δ':=v) (by rw[n9 Q rfl,←x,←l];rfl) (i6 (δ':=sS c n h (IU r) (IU (j:Int)) (IU p) (IU u)) (by rw[n9 P rfl,←l];rfl) (i6 ?_ rfl));have J:=pW (fu:=fu) (G:=G) (F:=run G T fu k) (i:=2) (k:=.var 4) (δ:=sS c n h (IU r) (IU (j:Int)) (IU p) (IU u)) (ds:=iD h) (j:=j) rfl (ao (C5 (f6 (n:=6) (d:=.int u) rfl) (i4 (i:=2147483587)) IL) (i4 (i:=7)) IL) (f6 rfl) rfl (hY (by unfold iD;rw[g6,m];exact L));have es:(iD h).set j (DV.int (u%2147483587/7))=iD (h.set j (u%2147483587/7)):=by unfold iD;rw[List.map_set]
    rw[es]at J;exact J
  obtain⟨g,N,h,B,q,o,W,rfl⟩:=S;exact⟨h,W,p9 (i6 (al (d:=.lst []) rfl) (i6 (n9 (f6 rfl) rfl) (J5 (w [] _ _ _ _) (.inr rfl) O (x8 (o7 y) (i6 (n9 (E5 (C5 (f6 rfl) i4 IL) i4) rfl) (J5 (w xs _ _ _ _) (.inr rfl) N (o6 (r6 (cl:=.top) (X8 rfl)))))))))⟩
theorem nh(c:Int)(n:Nat)(a:n<=100):∃xs:on Int,xs.length=n/\run G T fu (k+1) 31 [.int c,.int n]=some (.v (.lst (xs.map DV.int)) true):=GZ c n a
end k23
end
noncomputable section
namespace k23
open PySem L2
variable {fu k:Nat} {F:Nat->on DV->Ir Ou} {δ:on Sv} {ds:on DV} {cl:Cl} {n m:Nat} {f:Nat->Nat->Int} {d:DV}
def Look(d:DV)(n m:Nat)(f:Nat->Nat->Int):Prop:=∀i,i<n->∃x,ixD d (.int (i:Int))=some x/\∀j,j<m->ixD x (.int (j:Int))=some (.int (f i j))
noncomputable def at2(rows:on (on Int))(i j:Nat):Int:=(rows.getD i []).getD j 0
theorem Ha(R:Rect n m rows)(h:i<n):(rows.getD i []).length=m:=R.2 _ (K8 (by rw[R.1];exact h))
theorem vB(R:Rect n m rows):Look (tT rows) n m (at2 rows):=λ i a=>⟨_,aJ (by rw[R.1];exact a),λ j b=>mJ (by rw[Ha R a];exact b)⟩
theorem vC{i j:Nat}(L:Look d n m f)(l:evE G F a δ=some (.ok d .strong))(k:IM b r (.int (i:Int)))(h:IM e q (.int (j:Int)))(g:i<n)(c:j<m):evE G F (.ix (.ix a b) e) δ=some (.ok (.int (f i j)) .strong):=by
 obtain⟨x,p,o⟩:=L i g;exact q9 (q9 l k p) h (o j c)
theorem b_ne(d:IM a cx (.int i))(c:IM b cy (.int j)):evE G F (.cmp .NotEq a b) δ=some (.ok (.bl (i != j)) .strong):=H9 d c rfl
theorem Hb(ds:on DV)(h:Nat):cutD ds (some (h:Int)) none=ds.drop h:=by
 unfold cutD slIx;dsimp only;rw[g8 IK,B7];by_cases q:h<=ds.length
 ·rw[cF q,iP (by grind)]
 ·rw[jm IK,jk,List.take_nil,List.drop_of_length_le IK]
theorem Hc(ds:on DV)(h:Nat):cutD ds none (some (h:Int))=ds.take h:=by
 unfold cutD slIx;dsimp only;rw[g8 IK,B7,jx,Nat.sub_zero];by_cases q:h<=ds.length
 ·rw[cF q]
 ·rw[jm IK,List.take_length,iP IK]
theorem vD{h:Nat}(e:IM a c (.lst ds))(d:IM b c1 (.int (h:Int))):evE G F (.slf a b) δ=some (.ok (.lst (ds.drop h)) (Cl.anew c c)):=by
 show Re.thn _ _=_;rw[e,C8];show Re.thn _ _=_;rw[d,C8,←Hb];rfl
theorem vE{h:Nat}(e:IM a c (.lst ds))(d:IM b c1 (.int (h:Int))):evE G F (.slt a b) δ=some (.ok (.lst (ds.take h)) (Cl.anew c c)):=by
 show Re.thn _ _=_;rw[e,C8];show Re.thn _ _=_;rw[d,C8,←Hc];rfl
theorem aM(d:IM a cx (.lst x))(c:IM b cy (.lst y))(h:x.length+y.length<=1000):evE G F (.bin .Add a b) δ=some (.ok (.lst (x++y)) (Cl.anew cx cy)):=
 J6 d c (f8 (i9 h IL))
variable {fu k:Nat} {F:Nat->on DV->Ir Ou} {δ:on Sv} {ds:on DV} {cl:Cl} {n m:Nat} {f:Nat->Nat->Int} {d:DV}
variable {rows:on (on Int)}
theorem Hd(rows:on (on Int)):(FI rows).Pairwise (· < ·):=by
 unfold FI;exact(iO).sublist iV
variable {fu k:Nat} {F:Nat->on DV->Ir Ou} {δ:on Sv} {ds:on DV} {cl:Cl} {n m:Nat} {f:Nat->Nat->Int} {d:DV} {rows:on (on Int)}
theorem ip{n:Nat}(h:IM e c (.int (n:Int)))(a:n<=1000):s9 (evE G F (.rng [e]) δ)=some (.ok ((List.range n).map λ (j:Nat)=>DV.int (j:Int)) .fresh):=by
 rw[V4 h a,GH];rfl
theorem He{F:Nat->on DV->Ir Ou}{δ:on Sv}{e:ME}{r:on Int}{c:Cl}(h:evE G F e δ=some (.ok (.tup (iD r)) .strong)):evE G F (.bi .list [e]) δ=some (.ok (.lst (iD r)) .fresh):=by
 show Rs.thn (evEs G F [e] δ) (λ l=>fU l)=_;rw[f7 h j9];rfl
theorem vF(h:j<m):(IS).getD j []=col rows j:=by
 unfold flip;rw[p6,q0,eV h];rfl
theorem M2:(IS).length=m:=by unfold flip;rw[g6,A6]
variable {fu k:Nat} {F:Nat->on DV->Ir Ou} {δ:on Sv} {ds:on DV} {cl:Cl} {n m:Nat} {f:Nat->Nat->Int} {d:DV} {rows:on (on Int)}
theorem V9{i j:Nat}(d:IM a cx (.int (i:Int)))(c:IM b cy (.int (j:Int))):evE G F (.cmp .Eq a b) δ=some (.ok (.bl (i==j)) .strong):=by
 have q:=b_eq d c;rw[show(_==_)=(i==j) by rw[W7,g9,g9];omega]at q;exact q
theorem add1{i:Nat}(h:IM e c (.int (i:Int))):evE G F (.bin .Add e (.int 1)) δ=some (.ok (.int ((i+1:Nat):Int)) .strong):=by
 rw[show(((i+1:Nat)):Int)=_+1 by push_cast;rfl];exact E5 h i4
variable {fu k:Nat} {F:Nat->on DV->Ir Ou} {δ:on Sv} {ds:on DV} {cl:Cl} {n m:Nat} {f:Nat->Nat->Int} {d:DV} {rows:on (on Int)}
theorem or_f{F:Nat->on DV->Ir Ou}{δ:on Sv}{G:Gs}{a b:ME}{r:on ME}{cx:Cl}{o:Ir Re}(ha:IM a cx (.bl false))(hb:evE G F (.or (b::r)) δ=o):evE G F (.or (a::b::r)) δ=o:=by
 show Re.thn (evE G F a δ) (λ x c=>orD x c (evE G F (.or (b::r)) δ))=o;rw[ha];exact hb
theorem or_1{F:Nat->on DV->Ir Ou}{δ:on Sv}{G:Gs}{a:ME}{o:Ir Re}(ha:evE G F a δ=o):evE G F (.or [a]) δ=o:=by
 exact ha
variable {fu k:Nat} {F:Nat->on DV->Ir Ou} {δ:on Sv} {ds:on DV} {cl:Cl} {n m:Nat} {f:Nat->Nat->Int} {d:DV} {rows:on (on Int)}
def Few(L:on (on Int)):Prop:=∃S:on (on Int),S.length<=5/\∀r∈L,r∈S
theorem ee{b:Type}[BEq b][LawfulBEq b]:∀{l S:on b},l.Nodup->(∀x∈l,x∈S)->l.length<=S.length
 | [],_,_,_=>G3 _
 | a::l,S,h,hs=>by
  obtain⟨g,f⟩:=O4.mp h;have c:=hs a (o5 ..);have q:=ee (S:=S.erase a) f λ x d=>(List.mem_erase_of_ne (λ e=>g (by grind))).mpr (hs x (o4 _ d))
  rw[List.length_erase_of_mem c]at q;have:=bZ c;rw[w6];omega
theorem G5(h:Few rows):(FI rows).length<=5:=by
 obtain⟨S,h1,k⟩:=h;have q:((FI rows).map λ r=>rows.getD r []).length<=S.length:=by
  refine ee ?_ λ x c=>?_
  ·rw[List.nodup_iff_pairwise_ne,List.pairwise_map];refine List.Pairwise.imp_of_mem (λ {a b} j g d=>?_) (Hd rows);intro e;have l:=cU (B8.mp j).2;have e2:=cU (B8.mp g).2;rw[e]at l;omega
  ·obtain⟨i,f,rfl⟩:=i8.mp c;exact k _ (K8 (Z2 f))
 rw[g6]at q;omega
theorem vG(h:rows.length<=5):Few rows:=⟨rows,h,λ _ a=>a⟩
noncomputable def ins(a s:Nat)(l:on Int):on Int:=l.take a++[l.getD s 0]++l.drop a
theorem Hf:(ins a s l).length=l.length+1:=by
 unfold ins;rw[u0,u0,F3,W5,T9];omega
noncomputable def src(a s j:Nat):Nat:=if j<a then j else if j=a then s else j - 1
theorem oZ(ha:a<=l.length):(ins a s l).getD j 0=l.getD (src a s j) 0:=by
 unfold ins src;simp only[p6];have lt:(l.take a).length=a:=by rw[F3];omega
 by_cases b:j<a
 ·rw[f8 b,P3 (by rw[u0,lt,T9];omega),P3 (by rw[lt];exact b),aQ b]
 ·rw[g8 b];by_cases c:j=a
  ·rw[f8 c,P3 (by rw[u0,lt,T9];omega),Q7 (by rw[lt];omega),lt,c,jI];rfl
  ·rw[g8 c,Q7 (by rw[u0,lt,T9];omega),u0,lt,T9,af]
   congr 2
   omega
noncomputable def insR(a s:Nat)(rows:on (on Int)):on (on Int):=rows.take a++[rows.getD s []]++rows.drop a
structure Tk(n m:Nat)(rows:List (List Int)):Prop where
 n0:0<n
 n8:n<=8
 m0:0<m
 m8:m<=8
 R:Rect n m rows
 fr:Few rows
 fc:Few IS
 w9:W9 rows
theorem Tk.row(t:Tk n m rows)(hn:n<8)(ha:a<=n)(d:s<n):Tk (n+1) m (insR a s rows):=by
 have c:∀r∈insR a s rows,r∈rows:=λ r b=>by
  unfold insR at b;rcases F5.mp b with q | q
  ·rcases F5.mp q with q | q
   ·exact eR q
   ·rw[u4.mp q];exact K8 (by rw[t.R.1];exact d)
  ·exact eT q
 refine⟨by omega,by omega,t.m0,t.m8,⟨?_,λ r b=>t.R.2 r (c r b)⟩,?_,?_,λ r b=>t.w9 r (c r b)⟩
 ·unfold insR;rw[u0,u0,F3,W5,T9,t.R.1];omega
 ·obtain⟨S,f,e⟩:=t.fr;exact⟨S,f,λ r b=>e r (c r b)⟩
 ·obtain⟨S,f,e⟩:=t.fc;refine⟨S.map (ins a s),by rw[g6];exact f,λ r b=>?_⟩;obtain⟨j,g,rfl⟩:=i8.mp b;refine i8.mpr ⟨col rows j,e _ (i8.mpr ⟨j,g,rfl⟩),?_⟩;unfold col ins insR;rw[C4,C4,fA,fz]
  congr 2
  rw[p6,q0,k7 (by rw[t.R.1];exact d),List.map_singleton,p6 (l:=rows),k7 (by rw[t.R.1];exact d)];rfl
theorem Tk.colm(t:Tk n m rows)(hm:m<8)(o:a<=m)(i:s<m):Tk n (m+1) (rows.map (ins a s)):=by
 refine⟨t.n0,t.n8,by omega,by omega,⟨by rw[g6,t.R.1],λ r c=>?_⟩,?_,?_,λ r c x h=>by
  obtain⟨d,b,rfl⟩:=i8.mp c;refine t.w9 d b x ?_;unfold ins at h;rcases F5.mp h with q | q
  ·rcases F5.mp q with q | q
   ·exact eR q
   ·rw[u4.mp q];exact nb (by rw[t.R.2 d b];exact i)
  ·exact eT q⟩
 ·obtain⟨d,b,rfl⟩:=i8.mp c;rw[Hf,t.R.2 d b]
 ·obtain⟨S,g,f⟩:=t.fr;refine⟨S.map (ins a s),by rw[g6];exact g,λ r c=>?_⟩;obtain⟨d,b,rfl⟩:=i8.mp c;exact i8.mpr ⟨d,f d b,rfl⟩
 ·obtain⟨S,g,f⟩:=t.fc;refine⟨S,g,λ r c=>?_⟩;obtain⟨j,l,rfl⟩:=i8.mp c;have k:=r9.mp l;have e:col (rows.map (ins a s)) j=col rows (src a s j):=by unfold col;rw[q5];apply M5;intro r c;exact oZ (by rw[t.R.2 r c];exact o)
  rw[e];refine f _ (i8.mpr ⟨src a s j,r9.mpr ?_,rfl⟩);unfold src;split
  ·omega
  ·split<;>omega
theorem ni{F:Nat->on DV->Ir Ou}{δ:on Sv}{elt eo ei:ME}{fi fo:on (Ir Nat)}{g:Nat->Nat->Int}(hn:evE G F eo δ=some (.ok (.int (n:Int)) .strong))(n5:n<=8)(m5:m<=8)(ho:∀r,r<n->∃δ1,(Tg.one 0).bind (.int (r:Int)) (x9 fo δ)=some δ1/\evE G F ei δ1=some (.ok (.int (m:Int)) .strong)/\∀c,c<m->∃δ2,(Tg.one 0).bind (.int (c:Int)) (x9 fi δ1)=some δ2/\evE G F elt δ2=some (.ok (.int (g r c)) .strong)) :
  evE G F (.comp (.comp elt (.one 0) (.rng [ei]) fi) (.one 0) (.rng [eo]) fo) δ=some (.ok (rL ((List.range n).map λ r=>(List.range m).map (g r))) .fresh):=by
 have e:=G4 (l:=List.range n) (h:=λ (j:Nat)=>DV.int (j:Int)) (f:=λ r=>.lst (iD ((List.range m).map (g r)))) (elt:=.comp elt (.one 0) (.rng [ei]) fi) (tg:=.one 0) (fr:=fo) (ip hn IK) IL (by rw[A6];exact i9 n5 IL) λ r hr=>by
  obtain⟨δ1,h1,h2,h3⟩:=ho r (r9.mp hr);refine⟨δ1,.fresh,h1,?_,rfl⟩;have q:=G4 (F:=F) (δ:=δ1) (l:=List.range m) (h:=λ (j:Nat)=>DV.int (j:Int)) (f:=λ c=>.int (g r c)) (elt:=elt) (tg:=.one 0) (fr:=fi) (ip h2 IK) IL (by rw[A6];exact i9 m5 IL) λ c hc=>by obtain⟨δ2,h4,h5⟩:=h3 c (r9.mp hc);exact⟨δ2,.strong,h4,h5,rfl⟩
  rw[q];unfold iD;rw[q5];rfl
 rw[e];unfold rL;rw[q5];rfl
theorem nj(g:Nat->Nat->Int):Rect n m ((List.range n).map λ r=>(List.range m).map (g r)):=by
 refine⟨by rw[g6,A6],λ r a=>?_⟩;obtain⟨i,_,rfl⟩:=i8.mp a;rw[g6,A6]
theorem vH(h:IM e c (.bl b)):evE G F (.bi .int [e]) δ=some (.ok (.int (if b then 1 else 0)) .strong):=by
 show Rs.thn _ _=_;rw[f7 h j9];rfl
theorem top4(x:Int):∃a:Int,0<a/\a<=10/\ixD (.lst [.int 2,.int 3,.int 10,.int 2]) (.int (x%4))=some (.int a):=by
 have:x%4=0\/x%4=1\/x%4=2\/x%4=3:=by omega
 rcases this with h | h | h | h<;>rw[h]
 ·exact⟨2,by decide,by decide,rfl⟩
 ·exact⟨3,by decide,by decide,rfl⟩
 ·exact⟨10,by decide,by decide,rfl⟩
 ·exact⟨2,by decide,by decide,rfl⟩
theorem Hg(x:Int):∃a:Int,0<a/\a<=5/\ixD (.lst [.int 4,.int 4,.int 4,.int 4,.int 4,.int 4,.int 4,.int 5]) (.int (x%8))=some (.int a):=by
 have:x%8=0\/x%8=1\/x%8=2\/x%8=3\/x%8=4\/x%8=5\/x%8=6\/x%8=7:=by omega
 rcases this with h | h | h | h | h | h | h | h<;>rw[h]
 ·exact⟨4,by decide,by decide,rfl⟩
 ·exact⟨4,by decide,by decide,rfl⟩
 ·exact⟨4,by decide,by decide,rfl⟩
 ·exact⟨4,by decide,by decide,rfl⟩
 ·exact⟨4,by decide,by decide,rfl⟩
 ·exact⟨4,by decide,by decide,rfl⟩
 ·exact⟨4,by decide,by decide,rfl⟩
 ·exact⟨5,by decide,by decide,rfl⟩
variable {fu k:Nat} {F:Nat->on DV->Ir Ou} {δ:on Sv} {ds:on DV} {cl:Cl} {n m:Nat} {f:Nat->Nat->Int} {d:DV} {rows:on (on Int)}
theorem aN{xs:on Int}{i:Int}(c:0<=i)(h:i<xs.length):∃v,∀{F:Nat->on DV->Ir Ou} {δ:on Sv} {e:ME},evE G F e δ=some (.ok (.lst (xs.map DV.int)) .strong)->evE G F (.ix e (.int i)) δ=some (.ok (.int v) .strong):=by
 obtain⟨v,a⟩:=pX c h;exact⟨v,λ b=>q9 b i4 a⟩
abbrev Sc(ns xs:on Int)(mo:Int)(n m:Nat)(tp:Int)(x y z:Sv):on Sv:=[.val (.scr ns),.val (.int 2),.val (.lst (xs.map DV.int)),.val (.int mo),.val (.int n),.val (.int m),.val (.int tp),x,y,z]
theorem nk{g:Nat->Nat->Int}(h:∀r c,0<=g r c/\g r c<=9):W9 ((List.range n).map λ r=>(List.range m).map (g r)):=λ r b x a=>by
 obtain⟨i,_,rfl⟩:=i8.mp b;obtain⟨j,_,rfl⟩:=i8.mp a;exact h i j
theorem Hh(h:∀x∈ws,0<=x/\x<=9):W9 (V7 n m ws):=λ r b x a=>by
 obtain⟨i,_,rfl⟩:=i8.mp b;exact h x (eT (eR a))
theorem Hi(ns:on Int)(hns:ns.length<=63)(xs:on Int)(u:xs.length=24):∃(n m:Nat) (rows:on (on Int)),0<n/\n<=5/\0<m/\m<=5/\Rect n m rows/\W9 rows/\run G T fu (k+2) 32 [.scr ns,.int 2,.lst (xs.map DV.int)]=some (.v (rL rows) false):=by
 obtain⟨v1,c1⟩:=mI (fu:=fu) (k:=k) ns 1;obtain⟨a0,h0⟩:=aN (xs:=xs) (i:=0) IK (by rw[u];omega);obtain⟨P,h1⟩:=aN (xs:=xs) (i:=1) IK (by rw[u];omega);obtain⟨O,h2⟩:=aN (xs:=xs) (i:=2) IK (by rw[u];omega);obtain⟨a3,N⟩:=aN (xs:=xs) (i:=3) IK (by rw[u];omega);obtain⟨C,h4⟩:=aN (xs:=xs) (i:=4) IK (by rw[u];omega);obtain⟨Z,h5⟩:=aN (xs:=xs) (i:=5) IK (by rw[u];omega);obtain⟨p,w,mo5,X⟩:=Hg a0;obtain⟨l,B,a6,L⟩:=top4 a3;have m9:∀x:Int,0<=x%l/\x%l<=9:=λ x=>⟨bc x IK,by have:=cr x B;omega⟩
 have b1:=bc P (b:=p) IK;have b2:=cr P (b:=p) w;have b3:=bc O (b:=p) IK;have b4:=cr O (b:=p) w;obtain⟨n,hn⟩:∃n:Nat,1+P%p=(n:Int):=⟨(1+P%p).toNat,by omega⟩;obtain⟨m,hm⟩:∃m:Nat,1+O%p=(m:Int):=⟨(1+O%p).toNat,by omega⟩;have U:n<=5:=by omega
 have m5:m<=5:=by omega
 have nm:n*m<=25:=cH U m5;obtain⟨v,J,R⟩:=nh (fu:=fu) (k:=k) v1 (n*m) IK;have H:Q1 (n:Int) (m:Int)=true:=by unfold Q1;simp;omega
 have cm:=zL (G:=G) (F:=run G T fu (k+1)) (δ:=(Sc ns xs p n m l .no .no .no)) (elt:=.bin .Mod (.var 0) (.var 1)) (tg:=.one 0) (it:=.call 31 [.call 30 [.var 0,.int 1],.bin .Mult (.var 4) (.var 5)]) (fr:=[none,some 6]) (f:=λ d=>match d with | .int x=>.int (x%l) | d=>d) (ds:=v.map DV.int) (cl:=.fresh)
  (by
   have q:=i5 (G:=G) (F:=run G T fu (k+1)) (δ:=(Sc ns xs p n m l .no .no .no)) (f:=31) (f7 (i5 (f:=30) (f7 (f6 (n:=0) (d:=.scr ns) rfl) (f7 (i4 (i:=1)) j9)) rfl c1) (f7 (S0 (f6 (n:=4) (d:=.int n) rfl) (f6 (n:=5) (d:=.int m) rfl) H) j9)) rfl (by rw[show((n:Int)*(m:Int))=((n*m:Nat):Int) by push_cast;rfl];exact R);rw[q];rfl) IL (by rw[g6,J];exact i9 nm IL) (λ d hd=>by
   obtain⟨x,u,rfl⟩:=i8.mp hd;exact⟨[.val (.int x),.val (.int l)],rfl,C5 (f6 rfl) (f6 rfl) B⟩)
 rw[q5,show((λ d=>match d with | DV.int x=>DV.int (x%l) | d=>d) ∘ DV.int)=DV.int ∘ (λ x:Int=>x%l)from rfl,←q5]at cm;obtain⟨b,hb,hb1,hb2⟩:∃b:Int,(if(ns.length:Int) - 2<(n:Int)*m then(ns.length:Int) - 2 else(n:Int)*m)=b/\b<=((n*m:Nat):Int)/\b<=(ns.length:Int) - 2:=by refine⟨_,rfl,?_,?_⟩<;>split<;>push_cast<;>omega
 have Y : -1000<=b:=(by rw[←hb];have:(0:Int)<=(n:Int)*m:=Int.mul_nonneg (E7 n) (E7 m);split<;>omega);obtain⟨δ1,l1,o,z,K,A,rfl⟩:=U9 (i:=8) (I:=λ _ δ=>∃(o:on Int) (z:Sv),o.length=n*m/\(∀x∈o,0<=x/\x<=9)/\δ=(Sc ns xs p n m l (.own (.lst (o.map DV.int))) z .no))
  (body:=λ Q=>evSs G (IY (k+1)) fu [.seti 7 (.var 8) (.bin .Mod (.ix (.var 0) (.bin .Add (.var 1) (.var 8))) (.var 6))] Q) b.toNat 0
  (λ j hj δ I=>by
   obtain⟨o,z,K,A,rfl⟩:=I;rw[show(0:Int)+(j:Int)=j by omega];have N:2+j<ns.length:=by omega
   have hv:ixD (.scr ns) (.int (2+(j:Int)))=some (.int ns[2+j]):=(by rw[show(2:Int)+(j:Int)=((2+j:Nat):Int) by push_cast;rfl];show((E4 ns.length ((2+j:Nat):Int)).bind λ j=>ns[j]?).map DV.int=_;rw[hY N,O3,k7 N];rfl);refine⟨_,i6 (pW (d:=.int (ns[2+j]%l)) (cl:=.strong) (n:=j) (cx:=.strong) (j:=j) rfl (C5 (q9 (f6 rfl) (E5 (f6 rfl) (f6 rfl)) hv) (f6 rfl) B) (f6 rfl) rfl (hY (by rw[g6,K];omega))) rfl,o.set j (ns[2+j]%l),.val (.int j),by rw[E9];exact K,λ x u=>(List.mem_or_eq_of_mem_set u).elim (A x) (λ e=>e▸m9 _),?_⟩;rw[List.map_set];rfl) ⟨v.map λ x=>x%l,.no,by rw[g6];exact J,λ x u=>by obtain⟨y,_,rfl⟩:=i8.mp u;exact m9 y,rfl⟩
 have em:evE G (IY (k+1)) (.bi .min [.bin .Mult (.var 4) (.var 5),.bin .Sub (.bi .len [.var 0]) (.var 1)]) (Sc ns xs p n m l (.own (.lst ((v.map λ x=>x%l).map DV.int))) .no .no)=some (.ok (.int b) .strong):=(by have e1:evE G (IY (k+1)) (.bi .len [.var 0]) (Sc ns xs p n m l (.own (.lst ((v.map λ x=>x%l).map DV.int))) .no .no)=some (.ok (.int ns.length) .strong):=rfl;rw[mL (f7 (S0 (f6 (n:=4) (d:=.int n) rfl) (f6 (n:=5) (d:=.int m) rfl) H) (f7 (am e1 (f6 (n:=1) (d:=.int 2) rfl)) j9)),←hb];rfl);have rt:=Gu (F:=run G T fu (k+1)) (δ:=(Sc ns xs p n m l (.own (.lst (o.map DV.int))) z .no)) (elt:=.sl (.var 1) (.bin .Mult (.var 0) (.var 2)) (.bin .Add (.bin .Mult (.var 0) (.var 2)) (.var 2))) (tg:=.one 0) (it:=.rng [.var 4]) (fr:=[none,some 7,some 5]) (f:=λ d=>match d with | .int j=>.lst (iD ((o.drop (j.toNat*m)).take m)) | d=>d) (ds:=upTo 0 n) (cl:=.fresh)
  (V4 (f6 rfl) IK) IL (by unfold L2.upTo;rw[g6,A6];exact i9 U IL) (λ d hd=>by
   obtain⟨j,hj,rfl⟩:=pR hd;rw[show(0:Int)+(j:Int)=j by omega];have E:Q1 (j:Int) (m:Int)=true:=by unfold Q1;simp;omega
   refine⟨[.val (.int j),.own (.lst (iD o)),.val (.int m)],.fresh,rfl,?_,rfl⟩;show _=some (Re.ok (.lst (iD ((o.drop ((j:Int).toNat*m)).take m))) .fresh);rw[B7,←Gy K hj];exact Gx (X8 rfl) (S0 (f6 rfl) (f6 rfl) E) (E5 (S0 (f6 rfl) (f6 rfl) E) (f6 rfl)))
 have hf:(upTo 0 n).map (λ d=>match d with | .int j=>DV.lst (iD ((o.drop (j.toNat*m)).take m)) | d=>d)=(V7 n m o).map λ r=>.lst (iD r):=by unfold L2.upTo V7;rw[q5,q5];apply M5;intro j _;show DV.lst (iD ((o.drop (((0:Int)+(j:Int)).toNat*m)).take m))=_;rw[show((0:Int)+(j:Int)).toNat=j by omega];rfl
 rw[hf]at rt
 let D:DV->on Sv:=λ r=>(Sc ns xs p n m l (.own (.lst (o.map DV.int))) z (.val r))
 have g1:∀r,evE G (IY (k+1)) (.comp (.comp (.bi .int [.cmp .Eq (.var 1) (.var 0)]) (.one 0) (.rng [.var 1]) [none,some 0]) (.one 0) (.rng [.var 4]) [none,some 5]) (D r)=some (.ok (rL ((List.range n).map λ (r:Nat)=>(List.range m).map λ (c:Nat)=>if((r:Int)==(c:Int))then(1:Int)else 0)) .fresh):=λ r=>
  ni (n:=n) (m:=m) (g:=λ (r c:Nat)=>if((r:Int)==(c:Int))then 1 else 0) (f6 rfl) IK IK λ r hr=>⟨[.val (.int (r:Int)),.val (.int (m:Int))],rfl,f6 rfl,λ c hc=>⟨[.val (.int (c:Int)),.val (.int (r:Int))],rfl,vH (b_eq (f6 rfl) (f6 rfl))⟩⟩
 have g2:∀r,evE G (IY (k+1)) (.comp (.comp (.bi .int [.cmp .Lt (.var 1) (.var 0)]) (.one 0) (.rng [.var 1]) [none,some 0]) (.one 0) (.rng [.var 4]) [none,some 5]) (D r)=some (.ok (rL ((List.range n).map λ (r:Nat)=>(List.range m).map λ (c:Nat)=>if decide ((r:Int)<(c:Int))then(1:Int)else 0)) .fresh):=λ r=>
  ni (n:=n) (m:=m) (g:=λ (r c:Nat)=>if decide ((r:Int)<(c:Int))then 1 else 0) (f6 rfl) IK IK λ r hr=>⟨[.val (.int (r:Int)),.val (.int (m:Int))],rfl,f6 rfl,λ c hc=>⟨[.val (.int (c:Int)),.val (.int (r:Int))],rfl,vH (b_lt (f6 rfl) (f6 rfl))⟩⟩
 have g3:∀r,evE G (IY (k+1)) (.comp (.comp (.bin .Mod (.ix (.var 1) (.int 5)) (.int 10)) (.one 0) (.rng [.var 1]) [none,some 2]) (.one 0) (.rng [.var 4]) [none,some 5,some 2]) (D r)=some (.ok (rL ((List.range n).map λ (_:Nat)=>(List.range m).map λ (_:Nat)=>Z%10)) .fresh):=λ r=>
  ni (n:=n) (m:=m) (g:=λ (r c:Nat)=>Z%10) (f6 rfl) IK IK λ r hr=>⟨[.val (.int (r:Int)),.val (.int (m:Int)),.val (.lst (xs.map DV.int))],rfl,f6 rfl,λ c hc=>⟨[.val (.int (c:Int)),.val (.lst (xs.map DV.int))],rfl,C5 (h5 (f6 rfl)) i4 IL⟩⟩
 have s:∀(r:DV) (j:Int),evE G (IY (k+1)) (.cmp .Eq (.bin .Mod (.ix (.var 2) (.int 4)) (.int 8)) (.int j)) (D r)=some (.ok (.bl (C%8==j)) .strong):=λ r j=>b_eq (C5 (h4 (f6 rfl)) i4 IL) i4;obtain⟨rows,Rr,R9,tail⟩:∃rows,Rect n m rows/\W9 rows/\evSs G (run G T fu (k+1)) fu (dU.body.drop 7) (D (rL (V7 n m o)))=some (.rt (rL rows) false):=by
  unfold dU;simp only[List.drop_succ_cons,jx];by_cases M:C%8=1
  ·refine⟨_,nj (λ (r c:Nat)=>if((r:Int)==(c:Int))then 1 else 0),nk λ r c=>by(split<;>decide),Q3 (o7 (by rw[s,M];rfl)) (i6 (n9 (g1 _) rfl) rfl) (x8 (o7 (show _=some (Re.ok (.bl false) .strong)from by rw[show((D (rL (V7 n m o))).set 9 _)=D _ from rfl,s,M];rfl)) (x8 (o7 (show _=some (Re.ok (.bl false) .strong)from by rw[show((D (rL (V7 n m o))).set 9 _)=D _ from rfl,s,M];rfl)) (o6 rfl)))⟩
  ·have W:(C%8==1)=false:=B5.mpr M;by_cases S:C%8=2
   ·refine⟨_,nj (λ (r c:Nat)=>if decide ((r:Int)<(c:Int))then 1 else 0),nk λ r c=>by(split<;>decide),x8 (o7 (by rw[s,W])) (Q3 (o7 (by rw[s,S];rfl)) (i6 (n9 (g2 _) rfl) rfl) (x8 (o7 (show _=some (Re.ok (.bl false) .strong)from by rw[show((D (rL (V7 n m o))).set 9 _)=D _ from rfl,s,S];rfl)) (o6 rfl)))⟩
   ·have n2:(C%8==2)=false:=B5.mpr S;by_cases q3:C%8=3
    ·refine⟨_,nj (λ (r c:Nat)=>Z%10),nk λ r c=>by omega,x8 (o7 (by rw[s,W])) (x8 (o7 (by rw[s,n2])) (Q3 (o7 (by rw[s,q3];rfl)) (i6 (n9 (g3 _) rfl) rfl) (o6 rfl)))⟩
    ·have n3:(C%8==3)=false:=B5.mpr q3;exact⟨_,Gw K,Hh A,x8 (o7 (by rw[s,W])) (x8 (o7 (by rw[s,n2])) (x8 (o7 (by rw[s,n3])) (o6 rfl)))⟩
 refine⟨n,m,rows,by omega,U,by omega,m5,Rr,R9,?_⟩;rw[p7 (fd:=dU) rfl rfl];unfold dU at tail ⊢;simp only[List.drop_succ_cons,jx]at tail;exact p9 (i6 (n9 (d:=.int p) (cl:=.strong) (q9 (cx:=.fresh) (x:=.lst [.int 4,.int 4,.int 4,.int 4,.int 4,.int 4,.int 4,.int 5]) rfl (C5 (h0 (f6 rfl)) i4 IL) X) rfl)
  (i6 (n9 (d:=.int n) (cl:=.strong) (by rw[←hn];exact E5 i4 (C5 (h1 (f6 rfl)) (f6 rfl) w)) rfl) (i6 (n9 (d:=.int m) (cl:=.strong) (by rw[←hm];exact E5 i4 (C5 (h2 (f6 rfl)) (f6 rfl) w)) rfl)
  (i6 (n9 (d:=.int l) (cl:=.strong) (q9 (cx:=.fresh) (x:=.lst [.int 2,.int 3,.int 10,.int 2]) rfl (C5 (N (f6 rfl)) i4 IL) L) rfl)
  (i6 (al cm) (J5 (Gv em IK Y) (.inr rfl) l1 (i6 (n9 rt rfl) tail)))))))
variable {fu k:Nat} {F:Nat->on DV->Ir Ou} {δ:on Sv} {ds:on DV} {cl:Cl} {n m:Nat} {f:Nat->Nat->Int} {d:DV} {rows:on (on Int)}
theorem nr{xs:on Int}{i:Int}(d:0<=i+j)(h:i+j<xs.length):∃v,∀{F:Nat->on DV->Ir Ou} {δ:on Sv},evE G F (.var 2) δ=some (.ok (.lst (xs.map DV.int)) .strong)->evE G F (.var 4) δ=some (.ok (.int (j:Int)) .strong)->evE G F (.ix (.var 2) (.bin .Add (.int i) (.var 4))) δ=some (.ok (.int v) .strong):=by
 obtain⟨v,a⟩:=pX d h;exact⟨v,λ c b=>q9 c (E5 i4 b) a⟩
theorem eg(x:Int)(hn:0<n):∃a:Nat,x%(n:Int)=(a:Int)/\a<n:=by
 have q1:=bc x (b:=(n:Int)) IK;have q2:=cr x (b:=(n:Int)) IK;exact⟨(x%(n:Int)).toNat,by omega,by omega⟩
theorem Hj(R:Rect n m rows)(b:0<n)(h:evE G F (.var 3) δ=some (.ok (rL rows) .strong)):evE G F (.bi .len [.ix (.var 3) (.int 0)]) δ=some (.ok (.int (m:Int)) .strong):=by
 have a:0<rows.length:=by rw[R.1];exact b
 have t:=V5 (q9 h (i4) (uq a));rw[show(iD _).length=m by unfold iD;rw[g6];exact R.2 _ (K8 a)]at t;exact t
theorem Hk(R:Rect n m rows)(h:evE G F (.var 3) δ=some (.ok (rL rows) .strong)):evE G F (.bi .len [.var 3]) δ=some (.ok (.int (n:Int)) .strong):=by
 have q:=V5 h;rw[g6,R.1]at q;exact q
abbrev S7(s p:DV)(xs:on Int)(rows:on (on Int))(j:Nat)(y z:Sv):on Sv:=[.val s,.val p,.val (.lst (xs.map DV.int)),.val (rL rows),.val (.int (j:Int)),y,z]
noncomputable def vI:on MS:=[.iff (.and [.cmp .Lt (.bi .len [.var 3]) (.int 8),.cmp .Eq (.bin .Mod (.ix (.var 2) (.bin .Add (.int 7) (.var 4))) (.int 2)) (.int 0)]) [.set 5 false (.bin .Mod (.ix (.var 2) (.bin .Add (.int 12) (.var 4))) (.bin .Add (.bi .len [.var 3]) (.int 1))),.set 3 false (.bin .Add (.bin .Add (.slt (.var 3) (.var 5)) (.lst [.ix (.var 3) (.bin .Mod (.ix (.var 2) (.bin .Add (.int 17) (.var 4))) (.bi .len [.var 3]))])) (.slf (.var 3) (.var 5)))] [.iff (.cmp .Lt (.bi .len [.ix (.var 3) (.int 0)]) (.int 8)) [.set 5 false (.bin .Mod (.ix (.var 2) (.bin .Add (.int 12) (.var 4))) (.bin .Add (.bi .len [.ix (.var 3) (.int 0)]) (.int 1))),.set 6 false (.bin .Mod (.ix (.var 2) (.bin .Add (.int 17) (.var 4))) (.bi .len [.ix (.var 3) (.int 0)])),.set 3 false (.comp (.bin .Add (.bin .Add (.slt (.var 0) (.var 1)) (.lst [.ix (.var 0) (.var 2)])) (.slf (.var 0) (.var 1))) (.one 0) (.var 3) [none,some 5,some 6])] []]]
theorem lst1(h:evE G F e δ=some (.ok d c))(hs:stro d c=true):evE G F (.lst [e]) δ=some (.ok (.lst [d]) .fresh):=hZ (f7 h j9) (show 1<=m7 by decide) (by unfold stros;simp[hs])
theorem Hl{fu:Nat}{F:Nat->on DV->Ir Ou}{xs:on Int}(hx:xs.length=24){j:Nat}(hj:j<5){s p:DV}{z5 z6:Sv}(t:Tk n m rows):∃n' m' rows' z5' z6',Tk n' m' rows'/\evSs G F fu vI (S7 s p xs rows j z5 z6)=some (.nx [.val s,.val p,.val (.lst (xs.map DV.int)),.val (rL rows'),.val (.int (j:Int)),z5',z6']):=by
 obtain⟨v7,h7⟩:=nr (xs:=xs) (i:=7) (j:=j) IK (by rw[hx];omega);obtain⟨v12,h12⟩:=nr (xs:=xs) (i:=12) (j:=j) IK (by rw[hx];omega);obtain⟨v17,h17⟩:=nr (xs:=xs) (i:=17) (j:=j) IK (by rw[hx];omega);have ln:∀z5 z6,evE G F (.bi .len [.var 3]) (S7 s p xs rows j z5 z6)=some (.ok (.int (n:Int)) .strong):=λ z5 z6=>Hk t.R (f6 rfl)
 have lm:∀z5 z6,evE G F (.bi .len [.ix (.var 3) (.int 0)]) (S7 s p xs rows j z5 z6)=some (.ok (.int (m:Int)) .strong):=λ z5 z6=>Hj t.R t.n0 (f6 rfl);have q1:=b_lt (ln z5 z6) (i4 (i:=8));have q2:=b_eq (C5 (h7 (F:=F) (δ:=(S7 s p xs rows j z5 z6)) (f6 rfl) (f6 rfl)) (i4 (i:=2)) IL) (i4 (i:=0));have q3:=b_lt (lm z5 z6) (i4 (i:=8));unfold vI;have tA:tstD (evE G F (.and [.cmp .Lt (.bi .len [.var 3]) (.int 8),.cmp .Eq (.bin .Mod (.ix (.var 2) (.bin .Add (.int 7) (.var 4))) (.int 2)) (.int 0)]) (S7 s p xs rows j z5 z6))=some (.ok (decide ((n:Int)<8)&&(v7%2==0))):=by
  cases hd:decide ((n:Int)<8)with
  | false=>rw[hd]at q1;exact o7 (mP q1)
  | true=>rw[hd]at q1;exact o7 (bP q1 (dW q2))
 cases hA:decide ((n:Int)<8)&&(v7%2==0)with
 | true=>
  rw[hA]at tA;rw[f9,P5]at hA;obtain⟨a,ha,hal⟩:=eg v12 (n:=n+1) IK;obtain⟨b,hb,hbl⟩:=eg v17 t.n0;have e5:evE G F (.bin .Mod (.ix (.var 2) (.bin .Add (.int 12) (.var 4))) (.bin .Add (.bi .len [.var 3]) (.int 1))) (S7 s p xs rows j z5 z6)=some (.ok (.int (a:Int)) .strong):=by rw[←ha];exact C5 (h12 (f6 rfl) (f6 rfl)) (add1 (ln z5 z6)) IK
  have e3:evE G F (.bin .Add (.bin .Add (.slt (.var 3) (.var 5)) (.lst [.ix (.var 3) (.bin .Mod (.ix (.var 2) (.bin .Add (.int 17) (.var 4))) (.bi .len [.var 3]))])) (.slf (.var 3) (.var 5))) (S7 s p xs rows j (IU (a:Int)) z6)=some (.ok (rL (insR a b rows)) .fresh):=(by have ei:evE G F (.ix (.var 3) (.bin .Mod (.ix (.var 2) (.bin .Add (.int 17) (.var 4))) (.bi .len [.var 3]))) (S7 s p xs rows j (IU (a:Int)) z6)=some (.ok (.lst (iD (rows.getD b []))) .strong):=(by refine q9 (cx:=.strong) (y:=.int (b:Int)) (cy:=.strong) (f6 rfl) ?_ (uq (by rw[t.R.1];exact hbl));rw[←hb];exact C5 (h17 (f6 rfl) (f6 rfl)) (ln _ z6) IK);have q:=aM (aM (vE (F:=F) (δ:=(S7 s p xs rows j (IU (a:Int)) z6)) (a:=.var 3) (b:=.var 5) (c:=.strong) (c1:=.strong) (ds:=rows.map λ r=>.lst (iD r)) (h:=a) (f6 rfl) (f6 rfl)) (lst1 ei rfl) (by rw[F3,g6,t.R.1];simp;have:=t.n8;omega)) (vD (F:=F) (δ:=(S7 s p xs rows j (IU (a:Int)) z6)) (a:=.var 3) (b:=.var 5) (c:=.strong) (c1:=.strong) (ds:=rows.map λ r=>.lst (iD r)) (h:=a) (f6 rfl) (f6 rfl)) (by rw[u0,F3,W5,g6,t.R.1];simp;have:=t.n8;omega);rw[q];unfold rL insR;rw[C4,C4,fA,fz];rfl);exact⟨_,_,_,_,_,t.row (a:=a) (s:=b) IK IK hbl,Q3 tA (i6 (n9 e5 rfl) (i6 (n9 e3 rfl) rfl)) rfl⟩
 | false=>
  rw[hA]at tA;cases hB:decide ((m:Int)<8)with
  | false=>
   rw[hB]at q3;exact⟨n,m,rows,z5,z6,t,gh tA (x8 (o7 q3) rfl) rfl⟩
  | true=>
   rw[hB]at q3;rw[P5]at hB;obtain⟨a,ha,hal⟩:=eg v12 (n:=m+1) IK;obtain⟨b,hb,hbl⟩:=eg v17 t.m0;have e5:evE G F (.bin .Mod (.ix (.var 2) (.bin .Add (.int 12) (.var 4))) (.bin .Add (.bi .len [.ix (.var 3) (.int 0)]) (.int 1))) (S7 s p xs rows j z5 z6)=some (.ok (.int (a:Int)) .strong):=by rw[←ha];exact C5 (h12 (f6 rfl) (f6 rfl)) (add1 (lm z5 z6)) IK
   have e6:evE G F (.bin .Mod (.ix (.var 2) (.bin .Add (.int 17) (.var 4))) (.bi .len [.ix (.var 3) (.int 0)])) (S7 s p xs rows j (IU (a:Int)) z6)=some (.ok (.int (b:Int)) .strong):=(by rw[←hb];exact C5 (h17 (f6 rfl) (f6 rfl)) (lm _ z6) IK);have e3:evE G F (.comp (.bin .Add (.bin .Add (.slt (.var 0) (.var 1)) (.lst [.ix (.var 0) (.var 2)])) (.slf (.var 0) (.var 1))) (.one 0) (.var 3) [none,some 5,some 6]) (S7 s p xs rows j (IU (a:Int)) (IU (b:Int)))=some (.ok (rL (rows.map (ins a b))) .fresh):=by
    have q:=G4 (F:=F) (δ:=(S7 s p xs rows j (IU (a:Int)) (IU (b:Int)))) (l:=rows) (h:=λ r=>.lst (iD r)) (f:=λ r=>.lst (iD (ins a b r))) (elt:=.bin .Add (.bin .Add (.slt (.var 0) (.var 1)) (.lst [.ix (.var 0) (.var 2)])) (.slf (.var 0) (.var 1))) (tg:=.one 0) (it:=.var 3) (fr:=[none,some 5,some 6]) (cl:=.strong) rfl IL (by rw[t.R.1];exact i9 t.n8 IL) λ r hr=>by
     refine⟨[.val (.lst (iD r)),.val (.int (a:Int)),.val (.int (b:Int))],.fresh,rfl,?_,rfl⟩;have hrl:=t.R.2 r hr;have idl:(iD r).length=m:=by unfold iD;rw[g6,hrl]
     have q:=aM (aM (vE (F:=F) (δ:=[.val (.lst (iD r)),.val (.int (a:Int)),.val (.int (b:Int))]) (a:=.var 0) (b:=.var 1) (c:=.strong) (c1:=.strong) (ds:=iD r) (h:=a) (f6 rfl) (f6 rfl)) (lst1 (q9 (a:=.var 0) (b:=.var 2) (cx:=.strong) (f6 rfl) (f6 rfl) (mK (r:=r) (j:=b) (by rw[hrl];exact hbl))) rfl) (by rw[F3,idl];simp;omega)) (vD (F:=F) (δ:=[.val (.lst (iD r)),.val (.int (a:Int)),.val (.int (b:Int))]) (a:=.var 0) (b:=.var 1) (c:=.strong) (c1:=.strong) (ds:=iD r) (h:=a) (f6 rfl) (f6 rfl)) (by rw[u0,F3,W5,idl];simp;omega);rw[q];unfold ins iD;rw[C4,C4,fA,fz];rfl
    rw[q];unfold rL;rw[q5];rfl
   exact⟨_,_,_,_,_,t.colm (a:=a) (s:=b) IK IK hbl,gh tA (Q3 (o7 q3) (i6 (n9 e5 rfl) (i6 (n9 e6 rfl) (i6 (n9 e3 rfl) rfl))) rfl) rfl⟩
theorem Hm(a:rows.length<=8)(h:s9 (evE G F e δ)=some (.ok (rows.map λ r=>.lst (iD r)) .strong)):evE G F (.bi .tuple [.comp (.bi .tuple [.var 0]) (.one 0) e [none]]) δ=some (.ok (tT rows) .strong):=
 aI (G4 h IL (i9 a IL) λ r hr=>⟨[.val _],.strong,rfl,rfl,rfl⟩)
theorem Hn(ns:on Int)(s:ns.length<=63):∃(n m:Nat) (rows:on (on Int)),Tk n m rows/\run G T fu (k+3) 33 [.scr ns,.int 2]=some (.v (tT rows) false):=by
 obtain⟨y,L⟩:=mI ns 0;obtain⟨l,q,z⟩:=nh y 24 IL;obtain⟨n,m,rows,B,A,E,C,R,N,co⟩:=Hi (k:=k) ns s l q;obtain⟨M,K⟩:=aN (i:=6) IK (by rw[q];omega);obtain⟨v,r,J⟩:=eg M (n:=5) IL;obtain⟨x,H,o,p,a,h,d,c,b,rfl⟩:=U9 (i:=4) (I:=λ _ u=>∃n m rows h d c,Tk n m rows/\u=[.val (.scr ns),.val (.int 2),.val (.lst (l.map DV.int)),.val (rL rows),h,d,c])
  v 0
  (λ j hj u I=>by
   obtain⟨n,m,rows,h,d,c,t,rfl⟩:=I;rw[show(0:Int)+(j:Int)=j by omega];obtain⟨o,p,a,g,f,b,e⟩:=Hl (F:=run G T fu (k+2)) (fu:=fu) q (j:=j) IK (z5:=d) (z6:=c) t;exact⟨_,e,o,p,a,_,g,f,b,rfl⟩) ⟨n,m,rows,.no,.no,.no,(⟨B,by omega,E,by omega,R,vG (by rw[R.1];exact A),vG (by rw[M2];exact C),N⟩),rfl⟩
 refine⟨o,p,a,b,?_⟩;rw[p7 rfl rfl];unfold uj;have w:evE G (IY (k+2)) (.bin .Mod (.ix (.var 2) (.int 6)) (.int 5)) [.val (.scr ns),.val (.int 2),.val (.lst (l.map DV.int)),.val (rL rows),.no,.no,.no]=some (.ok (.int (v:Int)) .strong):=by rw[←r];exact C5 (K (f6 rfl)) i4 IL
 exact p9 (i6 (n9 (i5 (fr:=true) (f7 (i5 (fr:=false) (f7 (f6 rfl) (f7 i4 j9)) rfl L) (f7 i4 j9)) rfl z) rfl)
  (i6 (n9 (i5 (fr:=false) (f7 (f6 rfl) (f7 (f6 rfl) (f7 (f6 rfl) j9))) rfl co) rfl) (J5 (V4 w IK) (.inr rfl) H (o6 (r6 (Hm (by rw[b.R.1];exact b.n8) rfl))))))
theorem vJ(e:IM a cx (.int i))(d:IM b cy (.int j))(c:0<=j):evE G F (.bin .RShift a b) δ=some (.ok (.int (i/2^j.toNat)) .strong):=
 J6 e d (f8 c)
theorem lenT(R:Rect n m rows)(h:evE G F e δ=some (.ok (tT rows) .strong)):evE G F (.bi .len [e]) δ=some (.ok (.int (n:Int)) .strong):=by
 have q:=V6 h;rw[g6,R.1]at q;exact q
theorem iq(R:Rect n m rows)(b:0<n)(h:evE G F e δ=some (.ok (tT rows) .strong)):evE G F (.bi .len [.ix e (.int 0)]) δ=some (.ok (.int (m:Int)) .strong):=by
 have a:0<rows.length:=by rw[R.1];exact b
 have t:=V6 (q9 h (i4) (aJ a));rw[show(iD _).length=m by unfold iD;rw[g6];exact R.2 _ (K8 a)]at t;exact t
end k23
end
noncomputable section
namespace k23
open PySem L2
noncomputable def minN:on Nat->Nat
 | []=>0
 | x::r=>if r.isEmpty then x else min x (minN r)
theorem nu:∀{l:on Nat},l≠[]->minN l∈l/\∀x∈l,minN l<=x
 | [],h=>absurd rfl h
 | [x],_=>⟨by simp[minN],by simp[minN]⟩
 | x::y::r,_=>by
  obtain⟨c,b⟩:=nu (l:=y::r) IX;have e:minN (x::y::r)=min x _:=rfl;rw[e];refine⟨?_,λ z a=>?_⟩
  ·by_cases q:x<=minN (y::r)
   ·rw[cF q];exact o5
   ·rw[jm IK];exact o4 _ c
  ·rcases i7.mp a with q | q
   ·rw[q];exact Nat.min_le_left ..
   ·exact i9 (Nat.min_le_right ..) (b z q)
theorem vK(c:z∈l)(d:∀x∈l,z<=x):z=minN l:=by
 obtain⟨a,b⟩:=nu (l:=l) (by rintro rfl;cases c);exact jt (d _ a) (b _ c)
def stp(J:Jt)(f:Mx)(V:Nat->Nat->Nat)(R C:Nat):Nat:=if wn f R C=1 then J.g else minN ((wl R C).map λ w=>J.j (V w.2.2.1.1 w.2.2.1.2) (V w.2.2.2.1 w.2.2.2.2))
def zZ(J:Jt)(f:Mx):Nat->Nat->Nat->Nat
 | 0,_,_=>0
 | n+1,R,C=>stp J f (zZ J f n) R C
theorem vL(h:w∈wl R C):(∃g,Sb g R/\g<R - g/\w.2.2=((R - g,C),(g,C)))\/∃g,Sb g C/\g<C - g/\w.2.2=((R,C - g),(R,g)):=by
 unfold wl at h;rcases F5.mp h with q | q
 ·obtain⟨g,a,rfl⟩:=i8.mp q;exact .inl ⟨g,(Z4 a).1,(Z4 a).2,rfl⟩
 ·obtain⟨g,a,rfl⟩:=i8.mp q;exact .inr ⟨g,(Z4 a).1,(Z4 a).2,rfl⟩
theorem Ho(h:w∈wl R C):w.2.2.1.1+w.2.2.1.2<R+C/\w.2.2.2.1+w.2.2.2.2<R+C:=by
 rcases vL h with⟨g,s,_,e⟩ | ⟨g,s,_,e⟩
 ·rw[e];have:=s.1;have:=s.2.1;dsimp only;omega
 ·rw[e];have:=s.1;have:=s.2.1;dsimp only;omega
theorem vM{V:Nat->Nat->Nat}(h:∀r c,r+c<R+C->V r c=W r c):stp J f V R C=stp J f W R C:=by
 unfold stp;split
 ·rfl
 ·congr 1
  apply M5;intro w d;obtain⟨a,b⟩:=Ho d;rw[h _ _ a,h _ _ b]
theorem nv(f:Mx):∀(N n R C:Nat),n<=N->R+C<=n->zZ J f n R C=zZ J f (R+C) R C
 | 0,n,R,C,b,a=>by rw[show R+C=n by omega]
 | N+1,n,R,C,b,a=>by
  by_cases e:R+C=n
  ·rw[e]
  ·obtain⟨m,rfl⟩:∃m,n=m+1:=⟨n - 1,by omega⟩;cases hk:R+C with
   | zero=>
    obtain rfl:R=0:=by omega
    obtain rfl:C=0:=by omega
    show stp J f _ 0 0=0;unfold stp;split
    ·rename_i h;have:wn f 0 0=0:=rfl;omega
    ·rfl
   | succ k=>
    show stp J f _ R C=stp J f _ R C;exact vM λ r c h=>by rw[nv f N m r c IK IK,nv f N k r c IK IK]
def V(J:Jt)(f:Mx)(R C:Nat):Nat:=zZ J f (R+C) R C
theorem V_eq(f:Mx)(h:0<R+C):V J f R C=stp J f (V J f) R C:=by
 unfold V;cases hk:R+C with
 | zero=>omega
 | succ k=>
  show stp J f _ R C=_;exact vM λ r c h=>nv f k k r c (k8 _) IK
noncomputable def r1(n:Nat):on Nat:=(List.range (n - 1)).map (· + 1)
theorem bS:j∈r1 n↔0<j/\j<n:=by
 unfold r1;rw[i8];constructor
 ·rintro⟨i,h,rfl⟩;have:=r9.mp h;omega
 ·rintro⟨h1,h2⟩;exact⟨j - 1,r9.mpr IK,by omega⟩
theorem vN(h:0<c):r1 (c+1)=r1 c++[c]:=by
 unfold r1;obtain⟨d,rfl⟩:∃d,c=d+1:=⟨c - 1,by omega⟩;rw[show d+1+1 - 1=d+1 by omega,show d+1 - 1=d by omega,jp,C4];rfl
def ps(b r c:Nat):on (Nat×Nat):=(r1 r).flatMap (λ i=>(r1 (2^b)).map λ j=>(i,j))++(r1 c).map λ j=>(r,j)
theorem bT:q∈ps b r c↔(0<q.1/\q.1<r/\0<q.2/\q.2<2^b)\/(q.1=r/\0<q.2/\q.2<c):=by
 unfold ps;rw[F5,List.mem_flatMap,i8];constructor
 ·rintro(⟨i,h1,h2⟩ | ⟨j,h,rfl⟩)
  ·obtain⟨j,a,rfl⟩:=i8.mp h2;have:=bS.mp h1;have:=bS.mp a;exact .inl ⟨by omega,by omega,by omega,by omega⟩
  ·exact .inr ⟨rfl,bS.mp h⟩
 ·rintro(⟨h1,h2,a,h4⟩ | ⟨h1,h2,a⟩)
  ·exact .inl ⟨q.1,bS.mpr ⟨h1,h2⟩,i8.mpr ⟨q.2,bS.mpr ⟨a,h4⟩,rfl⟩⟩
  ·exact .inr ⟨q.2,bS.mpr ⟨h2,a⟩,by rw[←h1]⟩
theorem Hq(h:0<c):ps b r (c+1)=ps b r c++[(r,c)]:=by
 unfold ps;rw[vN h,C4,Q9];rfl
theorem nw(h:0<r):ps b (r+1) 1=ps b r (2^b):=by
 unfold ps;rw[vN h,List.flatMap_append];show _++[]=_;rw[G1]
 congr 1
 simp
theorem Hr(b:Nat):ps b 1 1=[]:=rfl
theorem vO(n:Nat):(r1 n).length=n - 1:=by unfold r1;rw[g6,A6]
theorem ny(b:Nat):∀d,(ps b (d+1) 1).length=d*(2^b - 1)
 | 0=>by rw[Hr];simp
 | d+1=>by
  have e:ps b (d+1) (2^b)=ps b (d+1) 1++(r1 (2^b)).map λ j=>(d+1,j):=by unfold ps;rw[Q9];rfl
  rw[nw IK,e,u0,g6,vO,ny b d,cL]
def tbl(J:Jt)(f:Mx)(b r c:Nat):Tb:=(ps b r c).map λ p=>(p,V J f p.1 p.2)
theorem vP{V:Nat×Nat->Nat}:∀l:on (Nat×Nat),(l.map λ p=>(p,V p)).lookup q=if q∈l then some (V q)else none
 | []=>rfl
 | p::l=>by
  rw[B3,G6];by_cases e:q=p
  ·subst e;simp
  ·rw[show(q==p)=false from B5.mpr e];show(l.map λ p=>_).lookup q=_;rw[vP l];simp[e]
theorem ir(q:Nat×Nat):(tbl J f b r c).lookup q=if q∈ps b r c then some (V J f q.1 q.2)else none:=vP _
theorem vQ(f:Mx)(b r c:Nat):(tbl J f b r c).length=(ps b r c).length:=g6 ..
theorem vR(a:b<=5)(R0:0<R)(hR:R<=32)(hC:C<=32):(ps b R C).length<=1000:=by
 have e:ps b R C=ps b R 1++(r1 C).map λ j=>(R,j):=by unfold ps;rw[Q9];rfl
 obtain⟨d,rfl⟩:∃d,R=d+1:=⟨R - 1,by omega⟩;rw[e,u0,g6,vO,ny];have pb:=p32 a;have:d*(2^b - 1)<=31*31:=cH IK IK;omega
theorem Hs(c:0<C)(a:C<2^b)(R0:0<R)(h:w∈wl R C):w.2.2.1∈ps b R C/\w.2.2.2∈ps b R C:=by
 rcases vL h with⟨g,s,_,e⟩ | ⟨g,s,_,e⟩
 ·have:=s.1;have:=s.2.1;rw[e];exact⟨bT.mpr (.inl ⟨by dsimp only;omega,by dsimp only;omega,c,a⟩),bT.mpr (.inl ⟨by dsimp only;omega,by dsimp only;omega,c,a⟩)⟩
 ·have:=s.1;have:=s.2.1;rw[e];exact⟨bT.mpr (.inr ⟨rfl,by dsimp only;omega,by dsimp only;omega⟩),bT.mpr (.inr ⟨rfl,by dsimp only;omega,by dsimp only;omega⟩)⟩
def wv(J:Jt)(f:Mx)(w:Wy):Nat:=J.j (V J f w.2.2.1.1 w.2.2.1.2) (V J f w.2.2.2.1 w.2.2.2.2)
theorem vS(h:0<C):tbl J f b R (C+1)=tbl J f b R C++[((R,C),V J f R C)]:=by
 unfold tbl;rw[Hq h,C4];rfl
theorem vT(d:R<32)(e:C<32)(h:0<R)(i:0<C)(g:2<=wn f R C):wl R C≠[]:=by
 intro a;unfold wl at a;obtain⟨c,b⟩:=List.append_eq_nil_iff.mp a;rcases GP d e h i g with q | q
 ·exact q (eX.mp c)
 ·exact q (eX.mp b)
theorem Hu{rest:on (on Int)}(P:JOk J)(t:DV)(v:Rect a b rest)(u:W9 rest)(U:0<a)(n:a<=5)(j:b<=5)(f:0<R)(A:R<2^a)(g:0<C)(s:C<2^b)(w:Sv) :
  ∃E,evSs G (IY (k+3)) fu lnB (lnD J t rest (tbl J (mf rest) b R C) (IU R) (IU C) w)=some (.nx (lnD J t rest (tbl J (mf rest) b R (C+1)) (IU R) (IU C) E)):=by
 have pa:=p32 n;have pb:=p32 j;have o:R<32:=by omega
 have p:C<32:=by omega
 have e:(tbl J (mf rest) b R C).length<100000:=by rw[vQ];have:=vR (b:=b) (R:=R) (C:=C) j f IK IK;omega
 have x:(tbl J (mf rest) b R C).lookup (R,C)=none:=by
  rw[ir,g8 λ z=>?_];rcases bT.mp z with q | q
  ·have:=q.2.1;dsimp only at this;omega
  ·have:=q.2.2;dsimp only at this;omega
 have r:=GU (fu:=fu) (k:=k) (δ:=lnD J t rest (tbl J (mf rest) b R C) (IU R) (IU C) w) v u U n j f A g s rfl rfl rfl;have c:=vc r (i4 (i:=((1:Nat):Int)));have B:=vt v u n j f A g s;have d:=V_eq (J:=J) (mf rest) (R:=R) (C:=C) IK;unfold stp at d;rw[vS g];by_cases m:wn (mf rest) R C=1
 ·rw[m]at c;rw[f8 m]at d;rw[d];exact⟨w,Q3 (o7 c) (i6 (vk (z:=J.g) rfl (f6 rfl) (f6 rfl) (f6 rfl) x e) rfl) rfl⟩
 ·have H:(wn (mf rest) R C==1)=false:=B5.mpr m;rw[H]at c;rw[g8 m]at d;have Q:2<=wn (mf rest) R C:=by omega
  have S:=G4 (F:=run G T fu (k+3)) (δ:=lnD J t rest (tbl J (mf rest) b R C) (IU R) (IU C) (.val (.lst ((wl R C).map wD)))) (l:=wl R C) (h:=wD) (elt:=.callv 4 [("joined_bits",17),("joined_ends",18)] [.dgp 5 (.var 2),.dgp 5 (.var 3)]) (tg:=.many [0,1,2,3]) (it:=.var 7) (fr:=[none,none,none,none,some 2,some 4]) (cl:=.strong) rfl IL
   (by unfold wl;rw[u0,g6,g6];exact i9 (jw (bQ o) (bQ p)) IL) λ w N=>by obtain⟨K,I⟩:=Hs g s f N;refine⟨[.val w.1,.val (.int w.2.1),.val _,.val _,.val (.fn J.nm),.od (dD (tbl J (mf rest) b R C))],.strong,rfl,?_,rfl⟩;exact vw (k:=k+2) P rfl (f7 (vj (L:=tbl J (mf rest) b R C) rfl (f6 rfl) (by rw[ir,f8 K])) (f7 (vj (L:=tbl J (mf rest) b R C) rfl (f6 rfl) (by rw[ir,f8 I])) j9))
  have ne:(wl R C).map (wv J (mf rest))≠[]:=λ z=>vT o p f g Q (eX.mp z);obtain⟨z,M,O,y⟩:=GS ((by rw[S];unfold nD;rw[q5];rfl)) ne;rw[vK M O,show minN ((wl R C).map (wv J (mf rest)))=V J (mf rest) R C from d.symm]at y;exact⟨_,gh (o7 c) (i6 (n9 (i5 rfl rfl (vg o p)) rfl) (i6 (vk (z:=V J (mf rest) R C) rfl y (f6 rfl) (f6 rfl) x e) rfl)) rfl⟩
theorem Hv{rest:on (on Int)}(m:JOk J)(t:DV)(g:Rect a b rest)(f:W9 rest)(o:0<a)(l:a<=5)(i:b<=5)(q:0<R)(p:R<2^a)(y w:Sv) :
  ∃δ',B4 (.one 6) (λ δ'=>evSs G (IY (k+3)) fu lnB δ') (upTo 1 (2^b - 1)) (lnD J t rest (tbl J (mf rest) b R 1) (IU R) y w)=some (.nx δ')/\∃d c,δ'=lnD J t rest (tbl J (mf rest) b R (2^b - 1+1)) (IU R) d c:=by
 refine U9 (I:=λ j δ'=>∃d c,δ'=lnD J t rest (tbl J (mf rest) b R (j+1)) (IU R) d c) _ 1 (λ j hj δ h=>?_) ⟨y,w,rfl⟩;obtain⟨d,c,rfl⟩:=h;obtain⟨w2,e⟩:=Hu m t g f o l i q p (C:=j+1) IK IK c;have n:(lnD J t rest (tbl J (mf rest) b R (j+1)) (IU R) d c).set 6 (IU (1+(j:Int)))=lnD J t rest (tbl J (mf rest) b R (j+1)) (IU R) (IU ((j+1:Nat):Int)) c:=by show lnD J t rest _ (IU R) (IU (1+(j:Int))) c=_;rw[show(1:Int)+_=((j+1:Nat):Int) by omega]
 exact⟨_,by rw[n];exact e,_,_,rfl⟩
theorem Hw{rest:on (on Int)}(s:JOk J)(t:DV)(g:Rect a b rest)(q:W9 rest)(o:0<a)(r:a<=5)(n:b<=5)(x y w:Sv) :
  ∃δ',B4 (.one 5) (λ δ'=>evSs G (IY (k+3)) fu [lnF] δ') (upTo 1 (2^a - 1)) (lnD J t rest [] x y w)=some (.nx δ')/\∃f c d,δ'=lnD J t rest (tbl J (mf rest) b (2^a - 1+1) 1) f c d:=by
 have pb:=p32 n;have b1:=fk b;refine U9 (I:=λ j δ'=>∃f c d,δ'=lnD J t rest (tbl J (mf rest) b (j+1) 1) f c d) _ 1 (λ j hj δ h=>?_) ⟨x,y,w,rfl⟩;obtain⟨f,c,d,rfl⟩:=h;obtain⟨p,e,y2,w2,rfl⟩:=Hv s t g q o r n (R:=j+1) IK IK c d;rw[show 2^b - 1+1=2^b by omega]at e;have v:(lnD J t rest (tbl J (mf rest) b (j+1) 1) f c d).set 5 (IU (1+(j:Int)))=lnD J t rest (tbl J (mf rest) b (j+1) 1) (IU ((j+1:Nat):Int)) c d:=(by show lnD J t rest (tbl J (mf rest) b (j+1) 1) (IU (1+(j:Int))) c d=_;rw[show(1:Int)+(j:Int)=((j+1:Nat):Int) by omega]);have u:tbl J (mf rest) b (j+1) (2^b)=tbl J (mf rest) b (j+1+1) 1:=by unfold tbl;rw[nw IK]
 rw[u]at e;have l:0<rest.length:=by rw[g.1];exact o
 have m:=V6 (F:=run G T fu (k+3)) (δ:=lnD J t rest (tbl J (mf rest) b (j+1) 1) (IU ((j+1:Nat):Int)) c d) (q9 (a:=.var 3) (b:=.int 0) (cx:=.strong) (f6 rfl) (i4 (i:=((0:Nat):Int))) (aJ l));rw[show(iD (rest.getD 0 [])).length=b by unfold iD;rw[g6];exact g.2 _ (K8 l)]at m;exact⟨_,by rw[v];exact J5 (mY (dY m IK) IK) (.inr rfl) e rfl,_,_,_,rfl⟩
def ft(J:Jt)(m:Nat)(rows:on (on Int)):Tb:=tbl J (mf (rst m rows)) (FI IS).length (2^(FI rows).length) 1
theorem eA:Rect (FI rows).length (FI IS).length (rst m rows):=by
 refine⟨by unfold rst sub;rw[g6],λ r a=>?_⟩;obtain⟨i,_,rfl⟩:=i8.mp a;rw[g6]
theorem nz(a:Rect n m rows)(b:W9 rows):W9 (rst m rows):=λ r d x c=>by
 obtain⟨i,f,rfl⟩:=i8.mp d;obtain⟨j,e,rfl⟩:=i8.mp c;have:=Z2 f;have:=Z2 e;rw[(aK a).1]at this;exact bR a b (by rw[←a.1];omega) this
theorem iu(o:JOk J)(rows:on (on Int))(n m:Nat)(d:Rect n m rows)(l:W9 rows)(f:0<n)(b:n<=60)(c:m<=60)(g:(FI rows).length<=5)(i:(FI IS).length<=5) :
  run G T fu (k+6) 19 [tT rows,.int J.g,.fn J.nm]=some (.v (dC (ft J m rows)) false):=by
 have a:=eA (m:=m) (rows:=rows);obtain⟨j,e,x',y',w',rfl⟩:=Hw o (tT rows) a (nz d l) (J1 (by rw[d.1];exact f)) g i .no .no .no;have a1:=fk (FI rows).length;rw[show 2^(FI rows).length - 1+1=2^(FI rows).length by omega]at e;have pa:=p32 g;rw[p7 rfl rfl];have h:=V6 (F:=run G T fu (k+5)) (δ:=lnD J (tT rows) (rst m rows) [] .no .no .no) (e:=.var 3) rfl;rw[g6,a.1]at h;show Ou.of _=_;exact p9 (i6 (kz (i5 rfl rfl (GX rows n m d f b c g i))) (i6 (n9 (i5 rfl rfl (ij rows n m d f b c)) rfl) (i6 (GV rfl) (J5 (mY (dY h IK) IK) (.inr rfl) e (o6 (GW rfl))))))
theorem iw(d:0<(FI rows).length)(c:0<(FI IS).length):∃L,ft J m rows=L++[((2^(FI rows).length - 1,2^(FI IS).length - 1),V J (mf (rst m rows)) (2^(FI rows).length - 1) (2^(FI IS).length - 1))]:=by
 unfold ft;generalize (FI rows).length=A at *;generalize (FI _).length=B at *;have a1:=i9 (by decide:2<=2^1) (J3 IL d);have b1:=i9 (by decide:2<=2^1) (J3 IL c);have e:=vS (J:=J) (f:=mf (rst m rows)) (b:=B) (R:=2^A - 1) (C:=2^B - 1) IK;rw[show 2^B - 1+1=2^B by omega]at e;have a:tbl J (mf (rst m rows)) B (2^A) 1=tbl J (mf (rst m rows)) B (2^A - 1) (2^B):=by have:=nw (b:=B) (r:=2^A - 1) IK;rw[show 2^A - 1+1=2^A by omega]at this;unfold tbl;rw[this]
 exact⟨_,a.trans e⟩
theorem vU(b:(FI rows).length<=5)(a:(FI IS).length<=5):(ft J m rows).length=(2^(FI rows).length - 1)*(2^(FI IS).length - 1)/\(ft J m rows).length<=1000:=by
 unfold ft;rw[vQ];have c:=fk (FI rows).length;refine⟨?_,vR a c (p32 b) IK⟩;have:=ny (FI IS).length (2^(FI rows).length - 1)
 rwa [show 2^(FI rows).length - 1+1=2^(FI rows).length by omega]at this
theorem Hx(rows:on (on Int))(n m:Nat)(a:Rect n m rows)(j:W9 rows)(g:0<n)(b:n<=60)(l:0<m)(d:m<=60)(i:(FI rows).length<=5)(h:(FI IS).length<=5) :
  run G T fu (k+8) 13 [tT rows]=some (.v (.lst ((ft jE m rows).map tD)) true):=by
 have e:=iu (fu:=fu) (k:=k) (J:=jE) (.inr rfl) rows n m a j g b d i h;rw[p7 rfl rfl];unfold tX;have c:=i5 (G:=G) (F:=run G T fu (k+7)) (δ:=o9 1 [tT rows]) (f:=16) (es:=[.var 0]) rfl rfl ((by rw[p7 rfl rfl];unfold ua;exact p9 (o6 (r6 (i5 rfl rfl e)))));obtain⟨L,o⟩:=iw (J:=jE) (m:=m) (J1 (by rw[a.1];exact g)) (J1 (by rw[(aK a).1];exact l));exact p9 (o6 (r6 (i5 (f7 c j9) rfl (vz _ (by rw[o];simp) (by have:=(vU (J:=jE) (m:=m) i h).2;omega)))))
theorem vV(rows:on (on Int))(n m:Nat)(a:Rect n m rows)(h:W9 rows)(e:0<n)(b:n<=60)(f:0<m)(d:m<=60)(l:(FI rows).length<=5)(j:(FI IS).length<=5) :
  run G T fu (k+9) 23 [tT rows]=some (.v (.int (V jE (mf (rst m rows)) (2^(FI rows).length - 1) (2^(FI IS).length - 1):Nat)) false):=by
 have g:=Hx (fu:=fu) (k:=k) rows n m a h e b f d l j;obtain⟨L,o⟩:=iw (J1 (by rw[a.1];exact e)) (J1 (by rw[(aK a).1];exact f));rw[o]at g;rw[p7 rfl rfl];unfold ud;generalize 2^(FI rows).length - 1=A at *;generalize 2^(FI IS).length - 1=B at *;have c:=i5 (G:=G) (δ:=o9 1 [tT rows]) (es:=[.var 0]) rfl rfl g;rw[C4]at c;exact p9 (o6 (r6 (cl:=.strong) (q9 (cx:=.strong) (q9 c (uS (i4 (i:=1))) (vA _ _)) (i4 (i:=2)) rfl)))
theorem Hy(rows:on (on Int))(n m:Nat)(a:Rect n m rows)(j:W9 rows)(g:0<n)(b:n<=60)(l:0<m)(d:m<=60)(i:(FI rows).length<=5)(h:(FI IS).length<=5) :
  run G T fu (k+8) 12 [tT rows]=some (.v (.lst ((ft jB m rows).map tD)) true):=by
 have e:=iu (fu:=fu) (k:=k) (J:=jB) (.inl rfl) rows n m a j g b d i h;rw[p7 rfl rfl];unfold tW;have c:=i5 (G:=G) (F:=run G T fu (k+7)) (δ:=o9 1 [tT rows]) (f:=15) (es:=[.var 0]) rfl rfl ((by rw[p7 rfl rfl];unfold tZ;exact p9 (o6 (r6 (i5 rfl rfl e)))));obtain⟨L,o⟩:=iw (J:=jB) (m:=m) (J1 (by rw[a.1];exact g)) (J1 (by rw[(aK a).1];exact l));exact p9 (o6 (r6 (i5 (f7 c j9) rfl (vz _ (by rw[o];simp) (by have:=(vU (J:=jB) (m:=m) i h).2;omega)))))
theorem vW(rows:on (on Int))(n m:Nat)(a:Rect n m rows)(h:W9 rows)(e:0<n)(b:n<=60)(f:0<m)(d:m<=60)(l:(FI rows).length<=5)(j:(FI IS).length<=5) :
  run G T fu (k+9) 22 [tT rows]=some (.v (.int (V jB (mf (rst m rows)) (2^(FI rows).length - 1) (2^(FI IS).length - 1):Nat)) false):=by
 have g:=Hy (fu:=fu) (k:=k) rows n m a h e b f d l j;obtain⟨L,o⟩:=iw (J1 (by rw[a.1];exact e)) (J1 (by rw[(aK a).1];exact f));rw[o]at g;rw[p7 rfl rfl];unfold uc;generalize 2^(FI rows).length - 1=A at *;generalize 2^(FI IS).length - 1=B at *;have c:=i5 (G:=G) (δ:=o9 1 [tT rows]) (es:=[.var 0]) rfl rfl g;rw[C4]at c;exact p9 (o6 (r6 (cl:=.strong) (q9 (cx:=.strong) (q9 c (uS (i4 (i:=1))) (vA _ _)) (i4 (i:=2)) rfl)))
inductive Pn where
 | fin (w:Int) | ask (s:Bool) (c:Nat) (n y:Pn)
def Pn.D:Pn->DV
 | .fin w=>.tup [.str "end",.int w]
 | .ask s c n y=>.tup [.str "ask",sd s,.int c,n.D,y.D]
noncomputable def Pn.deep:Pn->Nat
 | .fin _=>0
 | .ask _ _ n y=>1+max n.deep y.deep
noncomputable def Pn.rch:Pn->Nat->Nat->Int
 | .fin w,_,_=>w
 | .ask s c n y,i,j=>if c.testBit (if s then i else j)then y.rch i j else n.rch i j
noncomputable def bs:Nat->(Nat->Bool)->Nat
 | 0,_=>0
 | n+1,q=>2^n*(if q n then 1 else 0)+bs n q
theorem iy(q:Nat->Bool):∀n,bs n q<2^n
 | 0=>Nat.zero_lt_one
 | n+1=>by have:=iy q n;show 2^n*_+bs n q<2^(n+1);rw[Nat.pow_succ];split<;>omega
theorem iz(q:Nat->Bool)(i:Nat):∀n,(bs n q).testBit i=(decide (i<n)&&q i)
 | 0=>by show Nat.testBit 0 i=_;rw[fg,C7 (cE i)];rfl
 | n+1=>by
  show(2^n*_+bs n q).testBit i=_;rw[Nat.testBit_two_pow_mul_add _ (iy q n)];split
  ·rename_i h;rw[iz q i n,A0 h,A0 IK]
  ·rename_i h;by_cases e:i=n
   ·subst e;rw[jI,A0 (P6 i)];cases q i<;>rfl
   ·rw[C7 IK];obtain⟨d,hd⟩:∃d,i - n=d+1:=⟨i - n - 1,by omega⟩;rw[hd];cases q n
    ·exact fg _
    ·show Nat.testBit 1 (d+1)=false;exact oF (by rw[Nat.pow_succ];have:=fk d;omega)
theorem iA:∀{n},(∀c,c<n->q c=a c)->bs n q=bs n a
 | 0,_=>rfl
 | n+1,h=>by show 2^n*_+bs n q=2^n*_+bs n a;rw[h n IK,iA λ c hc=>h c IK]
theorem vX:∀{n},(∀c,c<n->q c=true->a c=false)->bs n q+bs n a=bs n λ c=>q c||a c
 | 0,_=>rfl
 | n+1,h=>by
  show(2^n*_+bs n q)+(2^n*_+bs n a)=2^n*(if q n||a n then 1 else 0)+bs n λ c=>q c||a c
  rw[←(vX λ c hc=>h c IK)];have:=h n IK;cases d:q n<;>cases b:a n
  ·simp;
  ·simp;omega
  ·simp;omega
  ·rw[d]at this;rw[this rfl]at b;cases b
theorem vY:∀n,bs n (λ _=>false)=0
 | 0=>rfl
 | n+1=>by show 2^n*0+bs n _=0;rw[vY n,Nat.mul_zero]
theorem vZ(q:Nat->Bool):∀n,(((List.range n).filter q).map λ c=>((2^c:Nat):Int)).sum=(bs n q:Nat)
 | 0=>rfl
 | n+1=>by
  rw[jp,List.filter_append,C4,List.sum_append,vZ q n];show _=((2^n*_+bs n q:Nat):Int);cases e:q n
  ·simp[e]
  ·simp[e];omega
noncomputable def kd(rows:on (on Int))(c:Nat):Nat:=rows.idxOf (rows.getD c [])
def kx(rows:on (on Int))(c:Nat):Nat:=(FI rows).idxOf (kd rows c)
section
variable {rows:on (on Int)} {i j n m h:Nat}
theorem wa(a:i<rows.length):kd rows i∈FI rows:=by
 unfold FI;have:=K8 a;refine B8.mpr ⟨r9.mpr (ig this),?_⟩;unfold kd;rw[ii this,U0]
theorem T5(a:i<rows.length):kx rows i<(FI rows).length:=eF (wa a)
theorem wb(a:i<rows.length):(FI rows).getD (kx rows i) 0=kd rows i:=by
 unfold kx;rw[p6,k7 (eF (wa a))];exact eZ _
theorem wc(rows:on (on Int)):(FI rows).Nodup:=(iV).nodup fh
theorem Hz(hi:i<rows.length)(a:t<(FI rows).length):(kd rows i==(FI rows).getD t 0)=(kx rows i==t):=by
 rw[p6,k7 a];show(kd rows i==_[t])=_;rw[W7,g9,g9];constructor
 ·intro e;unfold kx;rw[e];exact oe (wc rows) t a
 ·intro e;subst e;exact(eZ _).symm
def ks(rows:on (on Int)):on Nat:=(FI rows).map λ t=>bs rows.length λ c=>kd rows c==t
theorem HA(a:t<(FI rows).length):(ks rows).getD t 0=bs rows.length λ c=>kx rows c==t:=by
 unfold ks;rw[p6,q0,k7 a];show bs rows.length _=_;refine iA λ c b=>?_
 have:=Hz b a;rw[p6,k7 a]at this;exact this
theorem we:∀(L:on Nat),L.Nodup->(∀t∈L,t<(FI rows).length)->(L.map λ t=>(ks rows).getD t 0).sum=bs rows.length λ c=>L.contains (kx rows c)
 | [],_,_=>(vY _).symm
 | t::L,d,b=>by
  have a:=O4.mp d;rw[B3,cK,we L a.2 λ t f=>b t (o4 _ f),HA (b t (o5 ..)),vX λ c g e=>?_]
  ·refine iA λ c g=>?_;rw[List.contains_cons]
  ·rw[g9]at e;rw[e];cases q:L.contains t with
   | false=>rfl
   | true=>exact absurd (G0.mp q) a.1
def wd(rows:on (on Int))(h:Nat):Nat:=((cs h).map λ t=>(ks rows).getD t 0).sum
theorem wf(b:h<2^(FI rows).length):wd rows h=bs rows.length λ c=>h.testBit (kx rows c):=by
 unfold wd;rw[we (cs h) ((iV).nodup fh) λ t a=>N9 b a];refine iA λ c hc=>?_
 rw[W7,G0];exact⟨J2,Z3⟩
theorem nC(b:h<2^(FI rows).length)(a:i<rows.length):(wd rows h).testBit i=h.testBit (kx rows i):=by
 rw[wf b,iz,A0 a,cJ]
theorem wg(a:h<2^(FI rows).length):wd rows h<2^rows.length:=by
 rw[wf a];exact iy _ _
theorem wj(f:h<2^(FI rows).length)(g:0<h)(a:h<32):0<wd rows h:=by
 obtain⟨t,b⟩:=T6 (N8 h a g);have d:=N9 f b;have c:=M8 d;refine tb0 (j:=(FI rows)[t]) ?_;rw[nC f (Z2 c)];have e:kd rows (FI rows)[t]=(FI rows)[t]:=g9.mp (B8.mp c).2;have:kx rows (FI rows)[t]=t:=by unfold kx;rw[e];exact oe (wc rows) t d
 rw[this];exact J2 b
theorem HB(h:Rect n m rows)(o:i<n)(f:j<m):mf (rst m rows) (kx rows i) (kx IS j)=mf rows i j:=by
 have a:i<rows.length:=by rw[h.1];exact o
 have b:j<(IS).length:=by rw[M2];exact f
 have e:=T5 a;have d:=T5 b;have p:mf (rst m rows) (kx rows i) (kx IS j)=mf rows ((FI rows).getD (kx rows i) 0) ((FI IS).getD (kx IS j) 0):=(by unfold mf rst sub;rw[p6 (i:=kx rows i),q0,k7 e];show(List.map _ _).getD _ 0=_;rw[p6,q0,k7 d,p6 (i:=kx rows i),k7 e,p6 (l:=FI IS),k7 d];rfl);rw[p,wb a,wb b];have r1:rows.getD (kd rows i) []=rows.getD i []:=ii (K8 a);have g:(IS).getD (kd IS j) []=(IS).getD j []:=ii (K8 b);have k:kd IS j<m:=by have:=ig (K8 b);rw[M2]at this;exact this
 rw[vF k,vF f]at g;have c:(col rows (kd IS j)).getD i 0=(col rows j).getD i 0:=by rw[g]
 unfold col at c;rw[p6,p6,q0,q0,k7 a]at c;unfold mf;rw[r1,p6 (l:=rows),k7 a];exact c
end
theorem wk(h:evE G F e δ=some (.ok (.lst (iD r)) c)):evE G F (.bi .sum [e]) δ=some (.ok (.int r.sum) .strong):=by
 show Rs.thn _ _=_;rw[f7 h j9];show(ints? (iD r)).map _=_;rw[aL];rfl
theorem wm:∀l:on Nat,(l.map λ (j:Nat)=>(j:Int)).sum=((l.sum:Nat):Int)
 | []=>rfl
 | a::l=>by rw[B3,cK,cK,wm l];omega
theorem wq:∀(l:on (on Int)) (k:Nat),enuD k (l.map g)=(List.range l.length).map λ c=>.tup [.int ((k+c:Nat):Int),g (l.getD c [])]
 | [],_=>rfl
 | a::l,k=>by
  rw[B3,w6,iN,B3,q5];show _::enuD (k+1) _=_;rw[wq l (k+1)]
  congr 1
  refine M5 λ c _=>?_;show DV.tup _=.tup _;rw[show k+1+c=k+(c+1) by omega];rfl
theorem iB(rows:on (on Int))(b:rows.length<=8):run G T fu (k+1) 27 [.lst (iD (kI rows))]=some (.v (.lst (nD (ks rows))) true):=by
 rw[p7 (fd:=mG) rfl rfl];unfold mG;have a:=mO (F:=run G T fu k) (δ:=o9 1 [.lst (iD (kI rows))]) (e:=.var 0) (r:=kI rows) (f6 rfl) (by rw[mT];omega);rw[uD,mR]at a;have w:s9 (evE G (IY k) (.bi .sset [.var 0]) (o9 1 [.lst (iD (kI rows))]))=some (.ok ((FI rows).map λ (t:Nat)=>DV.int (t:Int)) .fresh):=by rw[a];rfl
 have o:=G4 (F:=run G T fu k) (elt:=.bi .sum [.compi (.bin .LShift (.int 1) (.var 0)) (.many [0,1]) (.enu (.var 1)) (.cmp .Eq (.var 1) (.var 2)) [none,none,some 0]]) (tg:=.one 0) (it:=.bi .sset [.var 0]) (fr:=[none,some 0]) (l:=FI rows) (f:=λ t=>.int ((bs rows.length λ c=>kd rows c==t:Nat):Int)) w IL (i9 (mS rows) (i9 b IL)) (λ t ht=>⟨[.val (.int (t:Int)),.val (.lst (iD (kI rows)))],.strong,rfl,?_,rfl⟩)
 ·have j:((FI rows).map λ t=>DV.int ((bs rows.length λ c=>kd rows c==t:Nat):Int))=nD (ks rows):=by unfold nD ks;rw[q5];rfl
  rw[j]at o;exact p9 (o6 (r6 o))
 ·have g:s9 (evE G (IY k) (.enu (.var 1)) [.val (.int (t:Int)),.val (.lst (iD (kI rows)))])=some (.ok ((List.range rows.length).map λ (c:Nat)=>DV.tup [.int (c:Int),.int ((kd rows c:Nat):Int)]) .strong):=by
   show some _=_;unfold iD kI;rw[q5,wq]
   congr 3
   funext c
   rw[jD];rfl
  have d:=mV (F:=run G T fu k) (l:=List.range rows.length) (p:=λ c=>kd rows c==t) (elt:=.bin .LShift (.int 1) (.var 0)) (tg:=.many [0,1]) (cd:=.cmp .Eq (.var 1) (.var 2)) (fr:=[none,none,some 0]) g IL (by rw[A6];exact i9 b IL) (λ c h=>⟨[.val (.int (c:Int)),.val (.int ((kd rows c:Nat):Int)),.val (.int (t:Int))],rfl,o7 (V9 (f6 rfl) (f6 rfl)),.strong,dY (f6 rfl) (by have:=r9.mp h;omega),rfl⟩);have i:(((List.range rows.length).filter λ c=>kd rows c==t).map λ c=>DV.int ((2^c:Nat):Int))=iD (((List.range rows.length).filter λ c=>kd rows c==t).map λ c=>((2^c:Nat):Int)):=by unfold iD;rw[q5];rfl
  rw[i]at d;have:=wk d;rw[vZ]at this;exact this
theorem nE{i:Nat}(h:i<l.length):ixD (.lst (nD l)) (.int (i:Int))=some (.int ((l.getD i 0:Nat):Int)):=by
 show(E4 (nD l).length _).bind _=_;unfold nD;rw[g6,hY h];show(List.map _ l)[i]? = _;rw[q0,k7 h,p6,k7 h];rfl
theorem wu{h:Nat}(d:0<h)(a:h<32)(c:h<2^S.length):run G T fu (k+2) 28 [.int (h:Int),.lst (nD S)]=some (.v (.int ((((cs h).map λ t=>S.getD t 0).sum:Nat):Int)) false):=by
 rw[p7 rfl rfl];unfold ug;have g:=i5 (G:=G) (δ:=o9 2 [.int (h:Int),.lst (nD S)]) (f:=4) (es:=[.var 0]) rfl rfl (mW (fu:=fu) (k:=k) h d IK);have w:s9 (evE G (IY (k+1)) (.call 4 [.var 0]) (o9 2 [.int (h:Int),.lst (nD S)]))=some (.ok ((cs h).map λ (t:Nat)=>DV.int (t:Int)) .fresh):=by rw[g];rfl
 have o:=G4 (elt:=.ix (.var 1) (.var 0)) (tg:=.one 0) (fr:=[none,some 1]) (l:=cs h) w IL (i9 (cs5 h a) IL) (λ t b=>⟨[.val (.int (t:Int)),.val (.lst (nD S))],.strong,rfl,q9 (cx:=.strong) (f6 rfl) (f6 rfl) (nE (N9 c b)),rfl⟩);have e:((cs h).map λ t=>DV.int ((S.getD t 0:Nat):Int))=iD (((cs h).map λ t=>S.getD t 0).map λ (j:Nat)=>(j:Int)):=by unfold iD;rw[q5,q5];rfl
 rw[e]at o;have:=wk o;rw[wm]at this;exact p9 (o6 (r6 this))
theorem HD(r:on Int):DV.nolams (iD r)=true:=by
 induction r with
 | nil=>rfl
 | cons a r b=>exact b
theorem ww(r:on Nat):DV.nolams (nD r)=true:=by
 induction r with
 | nil=>rfl
 | cons a r b=>exact b
theorem iC(rows:on (on Int)):(tT rows).nolam=true:=by
 show DV.nolams _=true
 induction rows with
 | nil=>rfl
 | cons a r b=>
  show(DV.nolams (iD a)&&DV.nolams _)=true;rw[HD,b];rfl
theorem bU(L:Tb):(dC L).nolam=true:=by
 show DV.nolams _=true
 induction L with
 | nil=>rfl
 | cons a r b=>exact b
theorem Z5:∀p:Pn,p.D.nolam=true
 | .fin w=>rfl
 | .ask s c n y=>by show((sd s).nolam&&(n.D.nolam&&(y.D.nolam&&true)))=true;rw[Z5 n,Z5 y];cases s<;>rfl
abbrev own(m:Nat)(rows:on (on Int)):DV:=.dct [.s "row",.s "column"] [.lst (nD (ks rows)),.lst (nD (ks IS))]
abbrev caps(J:Jt)(m:Nat)(rows:on (on Int)):on DV:=[dC (ft J m rows),.fn J.nm,tT (rst m rows),own m rows]
theorem iE(m:Nat)(rows:on (on Int)):(own m rows).nolam=true:=by
 show(DV.nolams _&&(DV.nolams _&&true))=true;rw[ww,ww];rfl
theorem HE(m:Nat)(rows:on (on Int)):DV.nolams (caps J m rows)=true:=by
 show((dC _).nolam&&(true&&((tT _).nolam&&((own m rows).nolam&&true))))=true;rw[bU,iC,iE];rfl
def clB:on MS:=match clo with | some C=>C.body | none=>[]
theorem wy(h:evSs G (IY k) fu clB (o9 10 (.int R :: .int C::caps J m rows))=some (.rt d false))(hd:d.nolam=true):run G T fu (k+1) C2 (.int R :: .int C::caps J m rows)=some (.v d false):=by
 show(if 6=2+4/\DV.nolams _=true then(match evSs G _ fu clB (o9 10 _)with
  | some (.rt d false)=>if d.nolam then some (Ou.v d false)else none
  | _=>none)else none)=_
 rw[f8 ⟨rfl,HE m rows⟩,h];exact f8 hd
theorem wz{cs:on DV}(c:capD δ [2,3,4,5]=some cs)(e:evEs G F es δ=some (.ok l))(a:(l.all λ p=>p.2 == .strong||p.2 == .fresh)=true)(b:l.length=2)(h:F C2 (l.map (·.1)++cs)=some (.v d false))(hd:d.nolam=true):evE G F (.self 2 4 es) δ=some (.ok d .strong):=by
 show(if 2=2/\4=4 then(capD δ [2,3,4,5]).bind λ cs=>Rs.thn _ λ l=>Q2 F 2 cs l else none)=_;rw[f8 ⟨rfl,rfl⟩,c,e];show Q2 F 2 cs l=_;unfold Q2;rw[f8 ⟨a,b⟩,h];exact f8 hd
theorem HF{cs:on DV}{ks:on Int}(g:evE G F a δ=some (.ok (.lst ds) .fresh))(f:capD δ fr=some cs)(c:R8 F (.lam ⟨N,np,b,G.fnl,G.bll,G.cll⟩ cs) ds=some ks)(e:O9 ks=some i)(hd:ds[i]? = some d):evE G F (.mink a N np b fr) δ=some (.ok d .strong):=by
 show fY G F _ N np b _=_;rw[f,g];show((R8 F _ ds).bind λ ks=>(O9 ks).bind λ i=>ds[i]?.map λ d=>Re.ok d .strong)=_;rw[c];show((O9 ks).bind λ i=>ds[i]?.map λ d=>Re.ok d .strong)=_;rw[e];show(ds[i]?.map λ d=>Re.ok d .strong)=_;rw[hd];rfl
theorem HG{ks:on Int}(h:ks≠[]):∃i,O9 ks=some i/\i<ks.length/\∀x∈ks,ks.getD i 0<=x:=by
 cases f:ks with
 | nil=>exact absurd f h
 | cons m r=>
  obtain⟨v,u,p⟩:=io r m;have l:=v.elim (λ e=>by rw[e];exact o5 ..) λ e=>o4 _ e
  have c:=λ x k=>(i7.mp k).elim (λ e=>by rw[e];exact u) (p x);rw[←f]at l c ⊢;generalize minI m r=z at l c;have d:=eF l;have n:ks.getD (ks.idxOf z) 0=z:=by rw[p6,k7 d];exact eZ d
  have w:∀j,j<ks.length->ks.getD j 0∈ks:=λ j b=>by rw[p6,k7 b];exact M8 b
  have ok:((List.range ks.length).all λ j=>decide (ks.getD (ks.idxOf z) 0<=ks.getD j 0)&&(decide (ks.idxOf z<=j)||decide (ks.getD (ks.idxOf z) 0<ks.getD j 0)))=true:=by
   rw[F4];intro j b;have b:=r9.mp b;rw[f9,F0,B2,B2,B2,n];have a:=c _ (w j b);refine⟨a,?_⟩;rcases X1 j (ks.idxOf z)with q | q
   ·refine .inr (Int.lt_iff_le_and_ne.mpr ⟨a,λ e=>?_⟩);have:=List.not_of_lt_findIdx q;rw[p6,k7 b]at e;have y:z=ks[j]:=e;rw[←y,U0]at this;cases this
   ·exact .inl q
  cases g:O9 ks with
  | none=>
   unfold O9 at g;have:=List.find?_eq_none.mp g _ (r9.mpr d);exact absurd ok this
  | some i=>
   unfold O9 at g;have o:=js g;rw[F4]at o;refine⟨i,rfl,(r9.mp (iJ g)),λ x k=>?_⟩;obtain⟨j,b,rfl⟩:=List.mem_iff_getElem.mp k;have:=o j (r9.mpr b);rw[f9,B2]at this;have e:=this.1;rw[p6 (i:=j),k7 b]at e;exact e
theorem wA{F:Nat->on DV->Ir Ou}{m:DV}{α:Type}{h:α->DV}{g:α->Int}:∀{l:on α},(∀a∈l,F A8 [m,h a]=some (.v (.int (g a)) false))->R8 F m (l.map h)=some (l.map g)
 | [],_=>rfl
 | a::l,q=>by
  show(match F A8 [m,h a]with
   | some (.v (.int k) false)=>(R8 F m (l.map h)).map (k :: ·)
   | _=>none)=_
  rw[q a (o5 ..),wA λ b hb=>q b (o4 _ hb)];rfl
theorem wB{r c:Nat}(b:IM u cx (dC L))(h:evE G F e δ=some (.ok (.tup [.int r,.int c]) cy))(a:L.lookup (r,c)=some z):evE G F (.dix u e) δ=some (.ok (.int z) .strong):=by
 have d:evE G F (.dix u e) δ=Re.thn _ _:=rfl;rw[d,b,C8,h,C8];show(match F6 (kk (r,c)) _ (L.map λ p=>.int _)with
  | some (.int v)=>some _
  | _=>none)=_
 rw[mZ,a];rfl
end k23
end
noncomputable section
namespace k23
open PySem L2
variable {fu k:Nat} {F:Nat->on DV->Ir Ou} {δ:on Sv} {ds:on DV} {cl:Cl} {n m R C:Nat} {rows:on (on Int)}
theorem HH{m:LamD}{cs args:on DV}{d:DV}(h1:args.length=m.np/\args.length+cs.length=m.N.length/\DV.nolams args=true/\DV.nolams cs=true)(h:evE G (IY k) m.body ((args++cs).map Sv.val)=some (.ok d .strong))(hd:d.nolam=true):run G T fu (k+1) A8 (.lam m cs::args)=some (.v d false):=by
 have e1:run G T fu (k+1) A8 (.lam m cs::args)=lamR (evE G (IY k)) (.lam m cs::args):=rfl;rw[e1];show(if args.length=m.np/\args.length+cs.length=m.N.length/\DV.nolams args=true/\DV.nolams cs=true then(match evE G (IY k) m.body ((args++cs).map Sv.val)with
  | some (.ok d .strong)=>if d.nolam then some (Ou.v d false)else none
  | _=>none)else none)=_
 rw[f8 h1,h];exact f8 hd
theorem HI(b:evE G F u δ=some (.ok (.dct [.s "row",.s "column"] [d,a]) .strong))(h:IM e cy (sd s)):evE G F (.dix u e) δ=some (.ok (if s then d else a) .strong):=by
 have c:evE G F (.dix u e) δ=Re.thn _ _:=rfl;rw[c,b,C8,h,C8];cases s
 ·show(if DKey.s "row" = DKey.s "column" then some d else if DKey.s "column" = DKey.s "column" then some a else none).map (λ d=>Re.ok d .strong)=_;rw[g8 IL,f8 rfl];rfl
 ·show(if DKey.s "row" = DKey.s "row" then some d else if DKey.s "column" = DKey.s "row" then some a else none).map (λ d=>Re.ok d .strong)=_;rw[f8 rfl];rfl
theorem M3(h:δ[i]? = some (.val d))(hd:d.nolam=true)(b:capD δ r=some a):capD δ (i::r)=some (d::a):=by
 show(match δ[i]?,capD δ r with
  | some (.val d),some a=>if d.nolam then some (d::a)else none
  | _,_=>none)=_
 rw[h,b];exact f8 hd
theorem nF(h:w∈wl R C):(∃g,Sb g R/\w=(sd true,g,(R - g,C),(g,C)))\/∃g,Sb g C/\w=(sd false,g,(R,C - g),(R,g)):=by
 unfold wl at h;rcases F5.mp h with q | q
 ·obtain⟨g,a,rfl⟩:=i8.mp q;exact .inl ⟨g,(Z4 a).1,rfl⟩
 ·obtain⟨g,a,rfl⟩:=i8.mp q;exact .inr ⟨g,(Z4 a).1,rfl⟩
theorem wC:∀R,R<32->∀g,g<32->0<g/\g<R/\g &&& R=g->(cs g).length+(cs (R - g)).length=(cs R).length:=by decide +kernel
noncomputable def Pn.ok(n m:Nat):Pn->Prop
 | .fin w=>0<=w/\w<=9
 | .ask s c a b=>0<c/\c<2^(if s then n else m)/\a.ok n m/\b.ok n m
noncomputable def Pn.val(J:Jt):Pn->Nat
 | .fin _=>J.g
 | .ask _ _ n y=>J.j (n.val J) (y.val J)
structure PlOk(J:Jt)(n m:Nat)(rows:List (List Int))(R C:Nat)(p:Pn):Prop where
 val:p.val J=V J (mf (rst m rows)) R C
 few:p.deep+2<=(cs R).length+(cs C).length
 ok:p.ok n m
 to:∀i j,i<n->j<m->R.testBit (kx rows i)=true->C.testBit (kx IS j)=true->p.rch i j=mf rows i j
theorem HJ(l:JOk J)(rc:Rect n m a)(h1:(FI a).length<=5)(h2:(FI (flip m a)).length<=5)(f:0<R)(hR:R<2^(FI a).length)(h:0<C)(hC:C<2^(FI (flip m a)).length)(hw:w∈wl R C)(j:N.length=3) :
  run G T fu (k+3) A8 [.lam ⟨N,1,.callv 1 [("joined_bits",17),("joined_ends",18)] [.dix (.var 2) (.ix (.var 0) (.int 2)),.dix (.var 2) (.ix (.var 0) (.int 3))],G.fnl,G.bll,G.cll⟩ [.fn J.nm,dC (ft J m a)],wD w]=some (.v (.int ((wv J (mf (rst m a)) w:Nat):Int)) false):=by
 have b:∀r c,0<r->r<=R->0<c->c<=C->(ft J m a).lookup (r,c)=some _:=λ r c i r1 o c1=>by unfold ft;rw[ir,f8 (bT.mpr (.inl ⟨i,by dsimp only;omega,o,by dsimp only;omega⟩))]
 have d:(ft J m a).lookup w.2.2.1=some (V J (mf (rst m a)) w.2.2.1.1 w.2.2.1.2)/\(ft J m a).lookup w.2.2.2=some (V J (mf (rst m a)) w.2.2.2.1 w.2.2.2.2):=by
  rcases nF hw with⟨g,s,rfl⟩ | ⟨g,s,rfl⟩
  ·have:=s.1;have:=s.2.1;exact⟨b _ _ IK IK h IK,b _ _ s.1 IK h IK⟩
  ·have:=s.1;have:=s.2.1;exact⟨b _ _ f IK IK IK,b _ _ f IK s.1 IK⟩
 have nl:(wD w).nolam=true:=(by rcases nF hw with⟨g,s,rfl⟩ | ⟨g,s,rfl⟩<;>rfl);have e:∀F,evE G F (.var 0) (([wD w]++[.fn J.nm,dC (ft J m a)]).map Sv.val)=some _:=λ F=>f6 rfl;refine HH ⟨rfl,j.symm,?_,?_⟩ (vw l rfl (f7 (wB (f6 rfl) (q9 (e _) i4 rfl) d.1) (f7 (wB (f6 rfl) (q9 (e _) i4 rfl) d.2) j9))) rfl
 ·show((wD w).nolam&&true)=true;rw[nl];rfl
 ·show(true&&((dC (ft J m a)).nolam&&true))=true;rw[bU];rfl
theorem nG{J:Jt}(hJ:JOk J)(rc:Rect n m rows)(w9:W9 rows)(n0:0<n)(m0:0<m)(n8:n<=8)(m8:m<=8)(h1:(FI rows).length<=5)(h2:(FI IS).length<=5) :
  ∀(N R C:Nat),(cs R).length+(cs C).length<=N->0<R->R<2^(FI rows).length->0<C->C<2^(FI IS).length->∃p,PlOk J n m rows R C p/\run G T fu (k+N+6) C2 (.int R :: .int C::caps J m rows)=some (.v p.D false)
 | 0,R,C,hN,R0,hR,C0,hC=>by have:=N8 R (u6 hR (p32 h1)) R0;omega
 | N+1,R,C,hN,R0,hR,C0,hC=>by
  have pa:=p32 h1;have pb:=p32 h2;have r1:=N8 R IK R0;have c1':=N8 C IK C0;have rc':=eA (m:=m) (rows:=rows);have w9':=nz rc w9;have a0:0<(FI rows).length:=J1 (by rw[rc.1];exact n0);have ih:=nG hJ rc w9 n0 m0 n8 m8 h1 h2 N
  let F:=run G T fu (k+N+6)
  let D0:on Sv:=o9 10 (.int R :: .int C::caps J m rows)
  let f:=mf (rst m rows)
  have rs:Rect (cs R).length (cs C).length (sub (rst m rows) (cs R) (cs C)):=(by refine⟨by unfold sub;rw[g6],λ r hr=>?_⟩;obtain⟨i,_,rfl⟩:=i8.mp hr;rw[g6]);have w9s:W9 (sub (rst m rows) (cs R) (cs C)):=λ r hr x hx=>by obtain⟨i,hi,rfl⟩:=i8.mp hr;obtain⟨j,hj,rfl⟩:=i8.mp hx;exact bR rc' w9' (N9 hR hi) (N9 hC hj)
  have c1:=i5 (G:=G) (F:=F) (δ:=D0) (f:=2) (es:=[.var 4,.var 0,.var 1]) (l:=[(tT (rst m rows),.strong),(.int R,.strong),(.int C,.strong)]) rfl rfl (uR (fu:=fu) (k:=k+N+3) (rst m rows) _ _ R C rc' a0 IK IK R0 hR C0 hC);have c2:=i5 (G:=G) (F:=F) (δ:=D0) (f:=11) (es:=[.call 2 [.var 4,.var 0,.var 1]]) (f7 c1 j9) rfl (uK (fu:=fu) (k:=k+N+5) _ _ _ rs (i9 (cs5 R IK) IL) (i9 (cs5 C IK) IL) w9s);rw[vo]at c2;obtain⟨ws,hws⟩:∃ws,(List.range 10).filter (wp f R C)=ws:=⟨_,rfl⟩;have hwn:wn f R C=ws.length:=by rw[←hws];rfl
  rw[show(List.range 10).filter (wp (mf (rst m rows)) R C)=ws from hws]at c2
  let D1:on Sv:=D0.set 6 (.val (.lst (nD ws)))
  have st1:evS G F fu (.set 6 false (.call 11 [.call 2 [.var 4,.var 0,.var 1]])) D0=some (.nx D1):=n9 c2 rfl;have l1:=V5 (F:=F) (δ:=D1) (e:=.var 6) (ds:=nD ws) (c:=.strong) (f6 rfl);unfold nD at l1;rw[g6,←hwn]at l1;have t1:=V9 l1 (i4 (i:=1));by_cases h1w:wn f R C=1
  ·obtain⟨w,rfl⟩:=ce.mp (hwn.symm.trans h1w);refine⟨.fin w,⟨by rw[V_eq _ IK];exact(f8 h1w).symm,by show 0+2<=_;omega,?_,λ i j hi hj hbi hbj=>?_⟩,wy (k:=k+N+6) ?_ (Z5 _)⟩
   ·have:w∈(List.range 10).filter (wp f R C):=by rw[hws];exact u4.mpr rfl
    have:=r9.mp (B8.mp this).1;exact⟨by omega,by omega⟩
   ·have e:=HB rc hi hj;have b9:=bR rc' w9' (T5 (rows:=rows) (i:=i) (by rw[rc.1];exact hi)) (T5 (rows:=flip m rows) (i:=j) (by rw[M2];exact hj));have hx:(mf (rst m rows) (kx rows i) (kx IS j)).toNat∈(List.range 10).filter (wp f R C):=B8.mpr ⟨r9.mpr IK,V8.mpr ⟨_,_,Z3 hbi,Z3 hbj,by show mf _ _ _=_;omega⟩⟩;rw[hws]at hx;have:=u4.mp hx;rw[←e];show(w:Int)=_;omega
   ·rw[show(wn f R C==1)=true by rw[h1w];rfl]at t1;have x0:evE G F (.ix (.var 6) (.int 0)) D1=some (.ok (.int (w:Int)) .strong):=q9 (cx:=.strong) (f6 (n:=6) (d:=.lst (nD [w])) rfl) i4 rfl;exact i6 st1 (U8 (o7 t1) (o6 (r6 (N3 (f7 (F7 (x:="end")) (f7 x0 j9)) (show 2<=m7 by decide) rfl))))
  ·have hp:0<wn f R C:=vt rc' w9' h1 h2 R0 hR C0 hC;have hwl:=vT (f:=f) (R:=R) (C:=C) IK IK R0 C0 IK;rw[show(wn f R C==1)=false from B5.mpr h1w]at t1;have sp:=i5 (G:=G) (F:=F) (δ:=D1) (f:=20) (es:=[.var 0,.var 1]) (l:=[(.int R,.strong),(.int C,.strong)]) rfl rfl (vg (fu:=fu) (k:=k+N+4) (R:=R) (C:=C) IK IK);have cp:capD D1 [3,2]=some [.fn J.nm,dC (ft J m rows)]:=M3 rfl rfl (M3 rfl (bU _) rfl);have hk:=wA (F:=F) (m:=.lam ⟨["way","joined","numbers"],1,.callv 1 [("joined_bits",17),("joined_ends",18)] [.dix (.var 2) (.ix (.var 0) (.int 2)),.dix (.var 2) (.ix (.var 0) (.int 3))],G.fnl,G.bll,G.cll⟩ [.fn J.nm,dC (ft J m rows)]) (h:=wD) (g:=λ w=>((wv J f w:Nat):Int)) (l:=wl R C) (λ w hw=>HJ (k:=k+N+3) hJ rc h1 h2 R0 hR C0 hC hw rfl);obtain⟨i,hi,hil,hmin⟩:=HG (ks:=(wl R C).map λ w=>((wv J f w:Nat):Int)) (λ z=>hwl (eX.mp z));rw[g6]at hil;obtain⟨w,hw⟩:∃w,(wl R C)[i]? = some w:=⟨_,k7 hil⟩;have hwm:=L0 hw;have mk:=HF sp cp hk hi (by rw[q0,hw];rfl);have gi:((wl R C).map λ w=>((wv J f w:Nat):Int)).getD i 0=((wv J f w:Nat):Int):=by rw[p6,q0,hw];rfl
   rw[gi]at hmin;have hV:wv J f w=V J f R C:=by
    rw[V_eq f IK];unfold stp;rw[g8 h1w];refine vK (i8.mpr ⟨w,hwm,rfl⟩) λ x hx=>?_
    obtain⟨w',hw',rfl⟩:=i8.mp hx;have:=hmin _ (i8.mpr ⟨w',hw',rfl⟩);exact Int.ofNat_le.mp this
   let D2:on Sv:=D1.set 7 (.val (wD w))
   let D3:on Sv:=D2.set 8 (.val (.tup [.int w.2.2.1.1,.int w.2.2.1.2]))
   let D4:on Sv:=D3.set 9 (.val (.tup [.int w.2.2.2.1,.int w.2.2.2.2]))
   have cp4:capD D4 [2,3,4,5]=some (caps J m rows):=M3 rfl (bU _) (M3 rfl rfl (M3 rfl (iC _) (M3 rfl (iE _ _) rfl)));have fin:∀(s:Bool) (g c:Nat) (pn py:Pn),w.1=sd s->w.2.1=g->run G T fu (k+N+6) 28 [.int (g:Int),if s then .lst (nD (ks rows))else .lst (nD (ks IS))]=some (.v (.int (c:Int)) false) ->
     run G T fu (k+N+6) C2 (.int w.2.2.1.1 :: .int w.2.2.1.2::caps J m rows)=some (.v pn.D false)->run G T fu (k+N+6) C2 (.int w.2.2.2.1 :: .int w.2.2.2.2::caps J m rows)=some (.v py.D false)->run G T fu (k+(N+1)+6) C2 (.int R :: .int C::caps J m rows)=some (.v (Pn.ask s c pn py).D false):=λ s g c pn py e1 e2 e3 e4 e5=>by
    refine wy (k:=k+N+6) ?_ (Z5 _);have v7:evE G F (.var 7) D4=some (.ok (wD w) .strong):=f6 rfl;have x0:evE G F (.ix (.var 7) (.int 0)) D4=some (.ok (sd s) .strong):=q9 (cx:=.strong) v7 i4 (by rw[←e1];rfl);have x1:evE G F (.ix (.var 7) (.int 1)) D4=some (.ok (.int (g:Int)) .strong):=q9 (cx:=.strong) v7 i4 (by rw[←e2];rfl);have x2:=i5 (G:=G) (F:=F) (δ:=D4) (f:=28) (es:=[.ix (.var 7) (.int 1),.dix (.var 5) (.ix (.var 7) (.int 0))]) (f7 x1 (f7 (HI (s:=s) (u:=.var 5) (f6 rfl) x0) j9)) rfl e3;have y3:=wz (F:=F) (δ:=D4) (es:=[.ix (.var 8) (.int 0),.ix (.var 8) (.int 1)]) (l:=[(.int w.2.2.1.1,.strong),(.int w.2.2.1.2,.strong)]) cp4 rfl rfl rfl e4 (Z5 _);have y4:=wz (F:=F) (δ:=D4) (es:=[.ix (.var 9) (.int 0),.ix (.var 9) (.int 1)]) (l:=[(.int w.2.2.2.1,.strong),(.int w.2.2.2.2,.strong)]) cp4 rfl rfl rfl e5 (Z5 _);exact i6 st1 (x8 (o7 t1) (i6 (n9 mk rfl) (i6 (n9 (δ:=D2) (q9 (cx:=.strong) (f6 (n:=7) (d:=wD w) rfl) i4 rfl) rfl) (i6 (n9 (δ:=D3) (q9 (cx:=.strong) (f6 (n:=7) (d:=wD w) rfl) i4 rfl) rfl) (o6 (r6 (N3 (f7 (F7 (x:="ask")) (f7 x0 (f7 x2 (f7 y3 (f7 y4 j9))))) (show 5<=m7 by decide) rfl)))))))
   rcases nF hwm with⟨g,s,rfl⟩ | ⟨g,s,rfl⟩
   ·have s1:=s.1;have s2:=s.2.1;have two:=wC R IK g (s.lt IK) s;have g1:=N8 g (s.lt IK) s1;have g2:=N8 (R - g) IK IK;obtain⟨pn,okn,en⟩:=ih (R - g) C IK IK IK C0 hC;obtain⟨py,oky,ey⟩:=ih g C IK s1 IK C0 hC;have hgl:g<2^(FI rows).length:=by omega
    refine⟨.ask true (wd rows g) pn py,⟨?_,?_,⟨wj hgl s1 IK,by show _<2^n;rw[←rc.1];exact wg hgl,okn.ok,oky.ok⟩,λ i j hi hj hbi hbj=>?_⟩,fin true g _ pn py rfl rfl ?_ en ey⟩
    ·show J.j (pn.val J) (py.val J)=V J f R C;rw[okn.val,oky.val,←hV];rfl
    ·have a:=okn.few;have b:=oky.few;show 1+max pn.deep py.deep+2<=_;omega
    ·have hil:i<rows.length:=by rw[rc.1];exact hi
     have k5:kx rows i<5:=u6 (T5 hil) h1;have bits:=(im R IK g (s.lt IK) s.2.2 (kx rows i) k5).1;show(if(wd rows g).testBit i then py.rch i j else pn.rch i j)=_;rw[nC hgl hil];cases e:g.testBit (kx rows i)with
     | true=>exact oky.to i j hi hj e hbj
     | false=>exact okn.to i j hi hj (by rw[bits,hbi,e];rfl) hbj
    ·exact wu s1 IK (by unfold ks;rw[g6];exact hgl)
   ·have s1:=s.1;have s2:=s.2.1;have two:=wC C IK g (s.lt IK) s;have g1:=N8 g (s.lt IK) s1;have g2:=N8 (C - g) IK IK;obtain⟨pn,okn,en⟩:=ih R (C - g) IK R0 hR IK IK;obtain⟨py,oky,ey⟩:=ih R g IK R0 hR s1 IK;have hgl:g<2^(FI IS).length:=by omega
    refine⟨.ask false (wd IS g) pn py,⟨?_,?_,⟨wj hgl s1 IK,by have:=wg hgl;rw[M2]at this;exact this,okn.ok,oky.ok⟩,λ i j hi hj hbi hbj=>?_⟩,fin false g _ pn py rfl rfl ?_ en ey⟩
    ·show J.j (pn.val J) (py.val J)=V J f R C;rw[okn.val,oky.val,←hV];rfl
    ·have a:=okn.few;have b:=oky.few;show 1+max pn.deep py.deep+2<=_;omega
    ·have hjl:j<(IS).length:=by rw[M2];exact hj
     have k5:kx IS j<5:=u6 (T5 hjl) h2;have bits:=(im C IK g (s.lt IK) s.2.2 (kx IS j) k5).1;show(if(wd IS g).testBit j then py.rch i j else pn.rch i j)=_;rw[nC hgl hjl];cases e:g.testBit (kx IS j)with
     | true=>exact oky.to i j hi hj hbi e
     | false=>exact okn.to i j hi hj hbi (by rw[bits,hbj,e];rfl)
    ·exact wu s1 IK (by unfold ks;rw[g6];exact hgl)
end k23
end
noncomputable section
namespace k23
open PySem L2
variable {fu k:Nat} {F:Nat->on DV->Ir Ou} {δ:on Sv} {ds:on DV} {cl:Cl} {n m:Nat} {rows:on (on Int)}
theorem wE(h:evE G F a δ=some (.ok d c))(g:evE G F b δ=some (.ok e f))(j:stro d c=true)(i:stro e f=true):evE G F (.dc2 "row" "column" a b) δ=some (.ok (.dct [.s "row",.s "column"] [d,e]) .strong):=by
 show Re.thn _ _=_;rw[h,C8,g,C8];exact f8 ⟨j,i,by decide⟩
theorem wF{cs:on DV}(c:δ[5]? = some .no)(e:capD δ [1,2,3,4]=some cs)(f:evEs G F es δ=some (.ok l))(a:(l.all λ p=>p.2 == .strong||p.2 == .fresh)=true)(b:l.length=2)(h:F C2 (l.map (·.1)++cs)=some (.v d false))(hd:d.nolam=true):evS G F fu (.dfr 5 [1,2,3,4] es) δ=some (.rt d false):=by
 show dfrS G F _ _ _ δ[5]? = _;rw[f,e,c];show(Q2 F 2 cs l).bind (λ r=>match r with
   | .ok d _=>some _)=_
 unfold Q2;rw[f8 ⟨a,b⟩,h];show((if d.nolam then some (Re.ok d .strong)else none):Ir Re).bind _=_;rw[f8 hd];rfl
structure PlF(J:Jt)(n m:Nat)(rows:List (List Int))(p:Pn):Prop where
 val:p.val J=V J (mf (rst m rows)) (2^(FI rows).length - 1) (2^(FI IS).length - 1)
 few:p.deep<=8
 ok:p.ok n m
 to:∀i j,i<n->j<m->p.rch i j=mf rows i j
theorem wG(a:Rect n m rows)(y:W9 rows)(g:0<n)(C:0<m)(A:n<=8)(B:m<=8)(q:(FI rows).length<=5)(h:(FI IS).length<=5):∃p,PlF jE n m rows p/\run G T fu (k+18) 25 [tT rows]=some (.v p.D false):=by
 have pa:=p32 q;have pb:=p32 h;have I:0<(FI rows).length:=J1 (by rw[a.1];exact g);have q1:2<=2^(FI rows).length:=i9 (by decide:2<=2^1) (J3 IL I);have q2:2<=2^(FI IS).length:=i9 (by decide:2<=2^1) (J3 IL (J1 (by rw[M2];exact C)));have l1:=cs5 (2^(FI rows).length - 1) IK;have l2:=cs5 (2^(FI IS).length - 1) IK;obtain⟨p,ok,e⟩:=nG (J:=jE) (fu:=fu) (k:=k) (.inr rfl) a y g C A B q h 10 (2^(FI rows).length - 1) (2^(FI IS).length - 1) IK IK IK IK IK;refine⟨p,⟨ok.val,by have:=ok.few;omega,ok.ok,λ i j H E=>ok.to i j H E ?_ ?_⟩,?_⟩
 ·rw[eG,A0 (T5 (by rw[a.1];exact H))]
 ·rw[eG,A0 (T5 (by rw[M2];exact E))]
 have c:=eA (m:=m) (rows:=rows);have en:=iu (J:=jE) (fu:=fu) (k:=k+10) (.inr rfl) rows n m a y g IK IK q h;have s:run G T fu (k+17) 26 [tT rows,dC (ft jE m rows),.fn "joined_ends"]=some (.v p.D false):=by
  rw[p7 (fd:=dR) rfl rfl];unfold dR
  let F:=run G T fu (k+16)
  let K:on Sv:=o9 6 [tT rows,dC (ft jE m rows),.fn "joined_ends"]
  have P:=i5 (G:=G) (F:=F) (δ:=K) (f:=8) (es:=[.var 0]) (l:=[(tT rows,.strong)]) rfl rfl (ij (fu:=fu) (k:=k+13) rows n m a g IK IK)
  let b:on Sv:=K.set 3 (.val (tT (rst m rows)))
  have M:=i5 (G:=G) (F:=F) (δ:=b) (f:=6) (es:=[.var 0]) (l:=[(tT rows,.strong)]) rfl rfl (ic (fu:=fu) (k:=k+15) rows (by rw[a.1];omega));have L:=i5 (G:=G) (F:=F) (δ:=b) (f:=7) (es:=[.var 0]) (l:=[(tT rows,.strong)]) rfl rfl (mU (fu:=fu) (k:=k+14) rows n m a g IK IK);have s1:=i5 (G:=G) (F:=F) (δ:=b) (f:=27) (f7 M j9) rfl (iB (fu:=fu) (k:=k+15) rows (by rw[a.1];exact A));have s2:=i5 (G:=G) (F:=F) (δ:=b) (f:=27) (f7 L j9) rfl (iB (fu:=fu) (k:=k+15) IS (by rw[M2];exact B));have o:=wE s1 s2 rfl rfl
  let v:on Sv:=b.set 4 (.val (own m rows))
  have O:capD v [1,2,3,4]=some (caps jE m rows):=M3 rfl (bU _) (M3 rfl rfl (M3 rfl (iC _) (M3 rfl (iE _ _) rfl)));have z:evE G F (.var 3) v=some (.ok (tT (rst m rows)) .strong):=f6 rfl;have x:=dX IK (lenT c z);have w:=dX IK (iq c I z);rw[show((2^(FI rows).length:Nat):Int) - 1=((2^(FI rows).length - 1:Nat):Int) by omega]at x;rw[show((2^(FI IS).length:Nat):Int) - 1=((2^(FI IS).length - 1:Nat):Int) by omega]at w;exact p9 (i6 (n9 P rfl) (i6 (n9 (δ:=b) o rfl) (o6 (wF (δ:=v) rfl O (f7 x (f7 w j9)) rfl rfl e (Z5 _)))))
 rw[p7 (fd:=uf) rfl rfl];have u:=i5 (G:=G) (F:=run G T fu (k+17)) (δ:=o9 1 [tT rows]) (f:=16) (es:=[.var 0]) (l:=[(tT rows,.strong)]) rfl rfl ((by rw[p7 rfl rfl];exact p9 (o6 (r6 (i5 rfl rfl en)))));have N:evE G (IY (k+17)) (.glb "joined_ends") (o9 1 [tT rows])=some (.ok (.fn "joined_ends") .strong):=rfl;have r:=r6 (fu:=fu) (i5 (f7 (f6 (n:=0) (d:=tT rows) rfl) (f7 u (f7 N j9))) rfl s);rw[show frD p.D _=false by cases p<;>rfl]at r;exact p9 (o6 r)
theorem wH(a:Rect n m rows)(y:W9 rows)(g:0<n)(C:0<m)(A:n<=8)(B:m<=8)(q:(FI rows).length<=5)(h:(FI IS).length<=5):∃p,PlF jB n m rows p/\run G T fu (k+18) 24 [tT rows]=some (.v p.D false):=by
 have pa:=p32 q;have pb:=p32 h;have I:0<(FI rows).length:=J1 (by rw[a.1];exact g);have q1:2<=2^(FI rows).length:=i9 (by decide:2<=2^1) (J3 IL I);have q2:2<=2^(FI IS).length:=i9 (by decide:2<=2^1) (J3 IL (J1 (by rw[M2];exact C)));have l1:=cs5 (2^(FI rows).length - 1) IK;have l2:=cs5 (2^(FI IS).length - 1) IK;obtain⟨p,ok,e⟩:=nG (J:=jB) (fu:=fu) (k:=k) (.inl rfl) a y g C A B q h 10 (2^(FI rows).length - 1) (2^(FI IS).length - 1) IK IK IK IK IK;refine⟨p,⟨ok.val,by have:=ok.few;omega,ok.ok,λ i j H E=>ok.to i j H E ?_ ?_⟩,?_⟩
 ·rw[eG,A0 (T5 (by rw[a.1];exact H))]
 ·rw[eG,A0 (T5 (by rw[M2];exact E))]
 have c:=eA (m:=m) (rows:=rows);have en:=iu (J:=jB) (fu:=fu) (k:=k+10) (.inl rfl) rows n m a y g IK IK q h;have s:run G T fu (k+17) 26 [tT rows,dC (ft jB m rows),.fn "joined_bits"]=some (.v p.D false):=by
  rw[p7 (fd:=dR) rfl rfl];unfold dR
  let F:=run G T fu (k+16)
  let K:on Sv:=o9 6 [tT rows,dC (ft jB m rows),.fn "joined_bits"]
  have P:=i5 (G:=G) (F:=F) (δ:=K) (f:=8) (es:=[.var 0]) (l:=[(tT rows,.strong)]) rfl rfl (ij (fu:=fu) (k:=k+13) rows n m a g IK IK)
  let b:on Sv:=K.set 3 (.val (tT (rst m rows)))
  have M:=i5 (G:=G) (F:=F) (δ:=b) (f:=6) (es:=[.var 0]) (l:=[(tT rows,.strong)]) rfl rfl (ic (fu:=fu) (k:=k+15) rows (by rw[a.1];omega));have L:=i5 (G:=G) (F:=F) (δ:=b) (f:=7) (es:=[.var 0]) (l:=[(tT rows,.strong)]) rfl rfl (mU (fu:=fu) (k:=k+14) rows n m a g IK IK);have s1:=i5 (G:=G) (F:=F) (δ:=b) (f:=27) (f7 M j9) rfl (iB (fu:=fu) (k:=k+15) rows (by rw[a.1];exact A));have s2:=i5 (G:=G) (F:=F) (δ:=b) (f:=27) (f7 L j9) rfl (iB (fu:=fu) (k:=k+15) IS (by rw[M2];exact B));have o:=wE s1 s2 rfl rfl
  let v:on Sv:=b.set 4 (.val (own m rows))
  have O:capD v [1,2,3,4]=some (caps jB m rows):=M3 rfl (bU _) (M3 rfl rfl (M3 rfl (iC _) (M3 rfl (iE _ _) rfl)));have z:evE G F (.var 3) v=some (.ok (tT (rst m rows)) .strong):=f6 rfl;have x:=dX IK (lenT c z);have w:=dX IK (iq c I z);rw[show((2^(FI rows).length:Nat):Int) - 1=((2^(FI rows).length - 1:Nat):Int) by omega]at x;rw[show((2^(FI IS).length:Nat):Int) - 1=((2^(FI IS).length - 1:Nat):Int) by omega]at w;exact p9 (i6 (n9 P rfl) (i6 (n9 (δ:=b) o rfl) (o6 (wF (δ:=v) rfl O (f7 x (f7 w j9)) rfl rfl e (Z5 _)))))
 rw[p7 (fd:=ue) rfl rfl];have u:=i5 (G:=G) (F:=run G T fu (k+17)) (δ:=o9 1 [tT rows]) (f:=15) (es:=[.var 0]) (l:=[(tT rows,.strong)]) rfl rfl ((by rw[p7 rfl rfl];exact p9 (o6 (r6 (i5 rfl rfl en)))));have N:evE G (IY (k+17)) (.glb "joined_bits") (o9 1 [tT rows])=some (.ok (.fn "joined_bits") .strong):=rfl;have r:=r6 (fu:=fu) (i5 (f7 (f6 (n:=0) (d:=tT rows) rfl) (f7 u (f7 N j9))) rfl s);rw[show frD p.D _=false by cases p<;>rfl]at r;exact p9 (o6 r)
end k23
end
noncomputable section
namespace k23
open PySem L2
theorem q_ea:cmpD .Eq (.str "end") (.str "ask")=some false:=by decide +kernel
theorem q_aa:cmpD .Eq (.str "ask") (.str "ask")=some true:=by decide +kernel
theorem q_ee:cmpD .Eq (.str "end") (.str "end")=some true:=by decide +kernel
theorem q_ae:cmpD .Eq (.str "ask") (.str "end")=some false:=by decide +kernel
theorem HK(s:Bool):cmpD .Eq (sd s) (.str "column")=some (!s):=by cases s<;>decide +kernel
theorem p0{p:Pn}(h:evE G F e δ=some (.ok p.D .strong)):evE G F (.ix e (.int 0)) δ=some (.ok (.str (match p with | .fin _=>"end" | .ask _ _ _ _=>"ask")) .strong):=q9 h i4 (by cases p<;>rfl)
theorem p1(h:evE G F e δ=some (.ok (Pn.ask s x p q).D .strong)):evE G F (.ix e (.int 1)) δ=some (.ok (sd s) .strong):=q9 h i4 rfl
theorem p2(h:evE G F e δ=some (.ok (Pn.ask s x p q).D .strong)):evE G F (.ix e (.int 2)) δ=some (.ok (.int (x:Int)) .strong):=q9 h i4 rfl
theorem p3(h:evE G F e δ=some (.ok (Pn.ask s x p q).D .strong)):evE G F (.ix e (.int 3)) δ=some (.ok p.D .strong):=q9 h i4 rfl
theorem p4(h:evE G F e δ=some (.ok (Pn.ask s x p q).D .strong)):evE G F (.ix e (.int 4)) δ=some (.ok q.D .strong):=q9 h i4 rfl
noncomputable def rB:on MS:=[.set 3 false (.var 1),.iff (.cmp .Eq (.ix (.var 0) (.int 1)) (.str "column")) [.set 3 false (.var 2)] [],.set 0 false (.ix (.var 0) (.bin .Add (.int 3) (.bin .BitAnd (.bin .RShift (.ix (.var 0) (.int 2)) (.var 3)) (.int 1))))]
theorem wI(i j:Nat):∀(p:Pn) (z:Nat) (x:Sv),p.deep<z->∃m,N2 (λ f=>tstD (evE G F (.cmp .Eq (.ix (.var 0) (.int 0)) (.str "ask")) f)) (λ f=>evSs G F fu rB f) z [.val p.D,.val (.int (i:Int)),.val (.int (j:Int)),x]=some (.nx [.val (Pn.fin (p.rch i j)).D,.val (.int (i:Int)),.val (.int (j:Int)),m])
 | p,0,x,h=>absurd h (cE _)
 | .fin w,z+1,x,_=>⟨x,zH (o7 (H9 (p0 (p:=.fin w) (f6 rfl)) F7 q_ea))⟩
 | .ask s c n y,z+1,x,h=>by
  have hd:1+max n.deep y.deep<z+1:=h;obtain⟨t,o⟩:∃t:Nat,t=(if s then i else j):=⟨_,rfl⟩
  let D (u:Sv):on Sv:=[.val (Pn.ask s c n y).D,.val (.int (i:Int)),.val (.int (j:Int)),u]
  have l:∀u,evE G F (.var 0) (D u)=some (.ok (Pn.ask s c n y).D .strong):=λ u=>f6 rfl;have a:evSs G F fu [.set 0 false (.ix (.var 0) (.bin .Add (.int 3) (.bin .BitAnd (.bin .RShift (.ix (.var 0) (.int 2)) (.var 3)) (.int 1))))] (D (IU (t:Int)))=some (.nx [.val (if c.testBit t then y else n).D,.val (.int (i:Int)),.val (.int (j:Int)),.val (.int (t:Int))]):=by
   have r:=vJ (p2 (l (IU (t:Int)))) (f6 (n:=3) (d:=.int (t:Int)) rfl) (E7 t);have A:=E5 (i4 (i:=3)) ((by have:evE G F (.bin .BitAnd (.bin .RShift (.ix (.var 0) (.int 2)) (.var 3)) (.int 1)) (D (IU (t:Int)))=some (.ok (.int (Builtin.bitAnd ((c:Int)/2^((t:Int).toNat)) 1)) .strong):=J6 r (i4) rfl;rw[uN]at this;exact this));refine i6 (n9 (q9 (cx:=.strong) (l _) A ?_) ?_) rfl
   ·cases c.testBit t<;>rfl
   ·rfl
  have k:evSs G F fu rB (D x)=some (.nx [.val (if c.testBit t then y else n).D,.val (.int (i:Int)),.val (.int (j:Int)),.val (.int (t:Int))]):=by
   have q:=o7 (H9 (p1 (l (IU (i:Int)))) (F7 (x:="column")) (HK s));refine i6 (n9 (f6 (n:=1) (d:=.int (i:Int)) rfl) rfl) ?_;cases s with
   | true=>
    have g:t=i:=o;rw[g]at a ⊢;exact x8 q a
   | false=>
    have g:t=j:=o;rw[g]at a ⊢;exact Q3 q (i6 (n9 (f6 (n:=2) (d:=.int (j:Int)) rfl) rfl) rfl) a
  obtain⟨m,v⟩:=wI i j (if c.testBit t then y else n) z (IU (t:Int)) (by split<;>omega);refine⟨m,zI (o7 (H9 (p0 (p:=.ask s c n y) (l x)) F7 q_aa)) k (v.trans ?_)⟩;have e:(if c.testBit t then y else n).rch i j=(Pn.ask s c n y).rch i j:=by show _=(if c.testBit (if s then i else j)then y.rch i j else n.rch i j);rw[o];generalize (if s then i else j)=u;cases c.testBit u<;>rfl
  rw[e]
theorem HL{p:Pn}{i j:Nat}(h:p.deep<fu):run G T fu (k+1) 34 [p.D,.int (i:Int),.int (j:Int)]=some (.v (.int (p.rch i j)) false):=by
 rw[p7 rfl rfl];obtain⟨x',e⟩:=wI i j p fu .no h;exact p9 (zJ e (o6 (r6 (q9 (f6 rfl) i4 rfl))))
theorem HM(q:Rect n m rows)(x:0<n)(n8:n<=8)(m8:m<=8){p:Pn}(h:p.deep<fu)(s:∀i j,i<n->j<m->p.rch i j=mf rows i j):run G T fu (k+2) 38 [p.D,tT rows]=some (.v (.bl true) false):=by
 rw[p7 rfl rfl];unfold uk
 let D (u v:Sv):on Sv:=[.val p.D,.val (tT rows),u,v]
 let F:=run G T fu (k+1)
 have o:∀u v,evE G F (.var 1) (D u v)=some (.ok (tT rows) .strong):=λ u v=>f6 rfl;refine p9 (zN (cl:=.fresh) (ip (lenT q (o .no .no)) IK) (.inr rfl) (gc (I:=λ a=>∃u v,a=D u v) (λ d hd a ⟨u,v,e⟩=>?_) ⟨_,_,rfl⟩) λ a ⟨u,v,e⟩=>by subst e;exact o6 rfl);subst e;obtain⟨i,g,rfl⟩:=i8.mp hd;have g:=r9.mp g;obtain⟨b,y,v',rfl⟩:=gc (I:=λ a=>∃v,a=D (IU (i:Int)) v) (tg:=.one 3) (body:=λ b=>evSs G F fu [.iff (.cmp .NotEq (.call 34 [.var 0,.var 2,.var 3]) (.ix (.ix (.var 1) (.var 2)) (.var 3))) [.ret (.bl false)] []] b) (ds:=(List.range m).map λ (j:Nat)=>DV.int (j:Int)) (λ d hd a ⟨v,e⟩=>by
  subst e;obtain⟨j,c,rfl⟩:=i8.mp hd;have c:=r9.mp c;have w:=i5 (G:=G) (F:=F) (δ:=D (IU (i:Int)) (IU (j:Int))) (f:=34) (es:=[.var 0,.var 2,.var 3]) (l:=[(p.D,.strong),(.int (i:Int),.strong),(.int (j:Int),.strong)]) rfl rfl (HL (k:=k) h);have r:=vC (F:=F) (δ:=D (IU (i:Int)) (IU (j:Int))) (vB q) (o _ _) (f6 (n:=2) (d:=.int (i:Int)) rfl) (f6 (n:=3) (d:=.int (j:Int)) rfl) g c;have ne:=b_ne w r;rw[show(p.rch i j != at2 rows i j)=false by rw[s i j g c];exact jd _]at ne;exact⟨_,D _ _,rfl,x8 (o7 ne) rfl,_,rfl⟩) ⟨v,rfl⟩
 exact⟨D (IU (i:Int)) v,_,rfl,J5 (cl:=.fresh) (ip (iq q x (o _ _)) IK) (.inr rfl) y rfl,_,_,rfl⟩
theorem HN{i j:Nat}(d:IM a cx (.int (i:Int)))(c:IM b cy (.int (j:Int))):evE G F (.bi .max [a,b]) δ=some (.ok (.int ((max i j:Nat):Int)) .strong):=by
 show Rs.thn _ _=_;rw[f7 d (f7 c j9)];show some _=_
 congr 3
 rw[Nat.max_def];split<;>split<;>omega
theorem eB:∀(p:Pn) (K:Nat),p.deep<K->run G T fu K 36 [p.D]=some (.v (.int (p.deep:Nat)) false)
 | p,0,h=>absurd h (cE _)
 | .fin w,K+1,_=>by rw[p7 rfl rfl];exact p9 (U8 (o7 (H9 (p0 (p:=.fin w) (f6 rfl)) F7 q_ee)) (o6 rfl))
 | .ask s c n y,K+1,h=>by have hd:1+max n.deep y.deep<K+1:=h;rw[p7 rfl rfl];have a:evE G (IY K) (.var 0) (o9 1 [(Pn.ask s c n y).D])=some (.ok (Pn.ask s c n y).D .strong):=f6 rfl;have e:=i5 (f7 (p3 a) j9) rfl (eB n K IK);have d:=i5 (f:=36) (f7 (p4 a) j9) rfl (eB y K IK);have b:=E5 (i4 (i:=1)) (HN e d);rw[show(1:Int)+_=_ by show _=((1+max n.deep y.deep:Nat):Int);omega]at b;exact p9 (x8 (o7 (H9 (p0 (p:=.ask s c n y) a) F7 q_ae)) (o6 (r6 b)))
theorem HP(s:Sb h C)(a:C<32)(b:j∈cs h):j∈cs C:=Z3 ((im C a h (s.lt a) s.2.2 j (tb5 (s.lt a) (J2 b))).2 (J2 b))
theorem HQ{R C:Nat}{f:Mx}(h9:∀i∈cs R,∀j∈cs C,0<=f i j/\f i j<=9){i0 j0:Nat}(hi0:i0∈cs R)(hj0:j0∈cs C):wn f R C=1↔∀i∈cs R,∀j∈cs C,f i j=f i0 j0:=by
 unfold wn;have inF:∀i∈cs R,∀j∈cs C,(f i j).toNat∈(List.range 10).filter (wp f R C):=λ i hi j hj=>by have:=h9 i hi j hj;exact B8.mpr ⟨r9.mpr IK,V8.mpr ⟨i,j,hi,hj,by omega⟩⟩
 constructor
 ·intro h i hi j hj;obtain⟨w,hw⟩:=ce.mp h;have q1:=inF i hi j hj;have q2:=inF i0 hi0 j0 hj0;rw[hw]at q1 q2;have:=u4.mp q1;have:=u4.mp q2;have:=h9 i hi j hj;have:=h9 i0 hi0 j0 hj0;omega
 ·intro h;have b0:=h9 i0 hi0 j0 hj0;have e:(List.range 10).filter (wp f R C)=(List.range 10).filter λ w=>w==(f i0 j0).toNat:=by
   apply List.filter_congr;intro w _;rw[W7,V8,g9];constructor
   ·rintro⟨i,j,hi,hj,q⟩;have:=h i hi j hj;omega
   ·rintro rfl;exact⟨i0,j0,hi0,hj0,by omega⟩
  have q:=inF i0 hi0 j0 hj0;rw[e]at q ⊢;have:=uW (f i0 j0).toNat IK;have:=bZ q;omega
theorem part(g:R<32)(q:Nat->Bool):(∀i∈cs R,q i=false)\/(∀i∈cs R,q i=true)\/∃h,Sb h R/\(∀i∈cs h,i∈cs R/\q i=true)/\∀i∈cs (R - h),i∈cs R/\q i=false:=by
 obtain⟨h,d,c⟩:=uY λ i=>q i&&R.testBit i
 by_cases z:∀i∈cs R,q i=false
 ·exact .inl z
 by_cases o:∀i∈cs R,q i=true
 ·exact .inr (.inl o)
 obtain⟨i,a,qi⟩:∃i∈cs R,q i=true:=by
  apply iL;intro w;exact z λ i a=>by
   cases e:q i with
   | false=>rfl
   | true=>exact absurd ⟨i,a,e⟩ w
 obtain⟨j,f,qj⟩:∃i∈cs R,q i=false:=by
  apply iL;intro w;exact o λ i a=>by
   cases e:q i with
   | true=>rfl
   | false=>exact absurd ⟨i,a,e⟩ w
 have n:∀{i},R.testBit i=true->i<5:=λ {i} e=>tb5 g e;have l:∀{i},h.testBit i=true->i<5:=λ {i} e=>tb5 d e;have sub:=uZ R g h d λ j f e=>by rw[c j f,f9]at e;exact e.2
 have k:h.testBit i=true:=by rw[c i (n (J2 a)),qi,J2 a];rfl
 have b:h.testBit j=false:=by rw[c j (n (J2 f)),qj];rfl
 have s:Sb h R:=⟨tb0 k,Nat.lt_of_le_of_ne sub.2 (λ e=>by rw[e,J2 f]at b;cases b),sub.1⟩;refine .inr (.inr ⟨h,s,λ i a=>⟨HP s g a,?_⟩,λ i a=>?_⟩)
 ·have e:=J2 a;rw[c i (l e),f9]at e;exact e.1
 ·obtain⟨m,p⟩:=uX s g a;refine⟨m,?_⟩;cases e:q i with
  | false=>rfl
  | true=>exact absurd (Z3 (by rw[c i (n (J2 m)),e,J2 m];rfl)) p
theorem JOk.mono(g:JOk J)(f:a<=d)(e:b<=c):J.j a b<=J.j d c:=by
 rcases g with rfl | rfl
 ·show 1+max a b<=1+max d c;omega
 ·exact jw f e
theorem JOk.le(c:JOk J)(a b:Nat):a<=J.j a b/\b<=J.j a b:=by
 rcases c with rfl | rfl
 ·show a<=1+max a b/\b<=1+max a b;omega
 ·exact⟨cu ..,Nat.le_add_left ..⟩
theorem JOk.ge(a:JOk J):∀p:Pn,J.g<=p.val J
 | .fin _=>k8 _
 | .ask _ _ n _=>i9 (a.ge n) (a.le ..).1
theorem wJ(R0:0<R)(a:wn f R C=1):V J f R C=J.g:=by
 rw[V_eq f IK];exact f8 a
theorem iF(R0:0<R)(a:wn f R C≠1)(hw:w∈wl R C):V J f R C<=J.j (V J f w.2.2.1.1 w.2.2.1.2) (V J f w.2.2.2.1 w.2.2.2.2):=by
 rw[V_eq f IK];unfold stp;rw[g8 a];exact(nu (List.ne_nil_of_mem (i8.mpr ⟨w,hw,rfl⟩))).2 _ (i8.mpr ⟨w,hw,rfl⟩)
theorem HR(d:JOk J)(a:R<32)(b:wn f R C≠1)(s:Sb h R):V J f R C<=J.j (V J f (R - h) C) (V J f h C):=by
 have c:=cM s.1 s.2.1;rcases mX R a h (s.lt a) s with q | ⟨q,e⟩
 ·exact iF c b (F2 _ (i8.mpr ⟨h,q,rfl⟩))
 ·have:=iF (J:=J) c b (F2 _ (i8.mpr ⟨R - h,q,rfl⟩));dsimp only at this;rw[e,d.comm]at this;exact this
theorem HU(d:JOk J)(c:0<R)(a:C<32)(b:wn f R C≠1)(s:Sb h C):V J f R C<=J.j (V J f R (C - h)) (V J f R h):=by
 rcases mX C a h (s.lt a) s with q | ⟨q,e⟩
 ·exact iF c b (y9 _ (i8.mpr ⟨h,q,rfl⟩))
 ·have:=iF (J:=J) c b (y9 _ (i8.mpr ⟨C - h,q,rfl⟩));dsimp only at this;rw[e,d.comm]at this;exact this
theorem V_le{φ ψ:Nat->Nat}(v:JOk J)(M:∀i j,i<a->j<b->0<=f i j/\f i j<=9)(F:a<=5)(E:b<=5):∀(p:Pn) (R C:Nat),0<R->R<2^a->0<C->C<2^b->(∀i∈cs R,∀j∈cs C,p.rch (φ i) (ψ j)=f i j)->V J f R C<=p.val J:=by
 intro p
 induction p with
 | fin w=>
  intro R C k g u l h;have I:=p32 F;have H:=p32 E;obtain⟨L,A⟩:=T6 (N8 R IK k);obtain⟨K,x⟩:=T6 (N8 C IK u);rw[wJ k ((HQ (λ i e j d=>M i j (N9 g e) (N9 l d)) A x).mpr λ i e j d=>by rw[←h i e j d,←h L A K x];rfl)];exact k8 _
 | ask s c n y o m=>
  intro R C k g u l h;have I:=p32 F;have H:=p32 E;by_cases B:wn f R C=1
  ·rw[wJ k B];exact v.ge _
  have lt:∀{q R a:Nat},Sb q R->R<2^a->q<2^a/\R - q<2^a:=λ s g=>by have:=s.2.1;omega
  have r:∀i∈cs R,∀j∈cs C,(if c.testBit (if s then φ i else ψ j)then y.rch (φ i) (ψ j)else n.rch (φ i) (ψ j))=f i j:=h;show V J f R C<=J.j _ _;have le:=v.le (n.val J) (y.val J);cases s with
  | true=>
   rcases part (R:=R) IK λ i=>c.testBit (φ i)with z | z | ⟨q,s,z1,z2⟩
   ·refine i9 (o R C k g u l λ i e j d=>?_) le.1;have:=r i e j d;rw[f8 rfl,show c.testBit (φ i)=false from z i e]at this;exact this
   ·refine i9 (m R C k g u l λ i e j d=>?_) le.2;have:=r i e j d;rw[f8 rfl,show c.testBit (φ i)=true from z i e]at this;exact this
   ·have:=s.1;have:=s.2.1;refine i9 (HR v IK B s) (v.mono (o (R - q) C IK (lt s g).2 u l λ i e j d=>?_) (m q C s.1 (lt s g).1 u l λ i e j d=>?_))
    ·have:=r i (z2 i e).1 j d;rw[f8 rfl,show c.testBit (φ i)=false from(z2 i e).2]at this;exact this
    ·have:=r i (z1 i e).1 j d;rw[f8 rfl,show c.testBit (φ i)=true from(z1 i e).2]at this;exact this
  | false=>
   rcases part (R:=C) IK λ j=>c.testBit (ψ j)with z | z | ⟨q,s,z1,z2⟩
   ·refine i9 (o R C k g u l λ i e j d=>?_) le.1;have:=r i e j d;rw[g8 B1,show c.testBit (ψ j)=false from z j d]at this;exact this
   ·refine i9 (m R C k g u l λ i e j d=>?_) le.2;have:=r i e j d;rw[g8 B1,show c.testBit (ψ j)=true from z j d]at this;exact this
   ·have:=s.1;have:=s.2.1;refine i9 (HU v k IK B s) (v.mono (o R (C - q) k g IK (lt s l).2 λ i e j d=>?_) (m R q k g s.1 (lt s l).1 λ i e j d=>?_))
    ·have:=r i e j (z2 j d).1;rw[g8 B1,show c.testBit (ψ j)=false from(z2 j d).2]at this;exact this
    ·have:=r i e j (z1 j d).1;rw[g8 B1,show c.testBit (ψ j)=true from(z1 j d).2]at this;exact this
theorem eC:∀(p:Pn) (K:Nat),p.deep<K->run G T fu K 37 [p.D]=some (.v (.int (p.val jE:Nat)) false)
 | p,0,h=>absurd h (cE _)
 | .fin w,K+1,_=>by rw[p7 rfl rfl];exact p9 (U8 (o7 (H9 (p0 (p:=.fin w) (f6 rfl)) F7 q_ee)) (o6 rfl))
 | .ask s c n y,K+1,h=>by have hd:1+max n.deep y.deep<K+1:=h;rw[p7 rfl rfl];have a:evE G (IY K) (.var 0) (o9 1 [(Pn.ask s c n y).D])=some _:=f6 rfl;have d:=i5 (f7 (p3 a) j9) rfl (eC n K IK);have b:=i5 (f7 (p4 a) j9) rfl (eC y K IK);exact p9 (x8 (o7 (H9 (p0 (p:=.ask s c n y) a) F7 q_ae)) (o6 (r6 (E5 d b))))
theorem mod_lt(z:Int)(h:0<n):∃j:Nat,j<n/\z%(n:Int)=(j:Int):=
 ⟨(z%(n:Int)).toNat,by have:=bc z (show(n:Int)≠0 by omega);have:=cr z (show(0:Int)<n by omega);omega,by have:=bc z (show(n:Int)≠0 by omega);omega⟩
theorem eD(l:on Nat):(nD l).length=l.length:=g6 ..
theorem eE(l:on Int):(iD l).length=l.length:=g6 ..
theorem nH(c:δ[i]? = some (.val (.lst (iD xs))))(d:0<xs.length)(g:IM e cx (.int z)):∃v:Int,evE G F (.ix (.var i) (.bin .Mod e (.bi .len [.var i]))) δ=some (.ok (.int v) .strong):=by
 obtain⟨j,f,h⟩:=mod_lt z d;have b:=V5 (F:=F) (f6 c);rw[eE]at b;have a:=C5 g b IK;rw[h]at a;exact⟨_,q9 (f6 c) a (mK f)⟩
theorem HV(l:on Nat)(N:Nat):DV.plain (N+1) (.lst (nD l))=true:=ib λ d hd=>by
 obtain⟨j,_,rfl⟩:=i8.mp hd;cases N<;>rfl
theorem HW(l:on Nat):cmpD .Eq (.lst (nD l)) (.lst [])=some (l.length==0):=by
 show(if DV.plain 60 _&&DV.plain 60 (.lst [])then some (deq _ _)else none)=_;rw[HV];cases l<;>rfl
theorem HX{j:Nat}(a:δ[i]? = some (.own (.lst ds)))(h:IM e cx (.int (j:Int)))(hj:j<ds.length)(h8:j<1000):evS G F fu (.pop i e) δ=some (.nx (δ.set i (.own (.lst (ds.eraseIdx j))))):=by
 show popS δ i _ δ[i]? = _;rw[a,h];have hm:(m7:Int)=1000000:=rfl;show(if(0:Int)<=j/\(j:Int)<ds.length/\(j:Int)<m7 then some (Out.nx _)else none)=_;rw[f8 ⟨by omega,by omega,by omega⟩,B7]
theorem wK:∀(l:on Nat) (j:Nat),(nD l).eraseIdx j=nD (l.eraseIdx j)
 | [],_=>rfl
 | _::_,0=>rfl
 | a::l,j+1=>by show DV.int _::(nD l).eraseIdx j=_;rw[wK l j];rfl
theorem HY(l:on Nat)(x:Nat):nD l++[DV.int (x:Int)]=nD (l++[x]):=by unfold nD;rw[C4];rfl
abbrev hS(L:on Nat)(xs:on Int)(a:Int)(K:on Nat)(z:Sv):on Sv:=[.val (.lst (nD L)),.val (.lst (iD xs)),.val (.int a),.own (.lst (nD K)),z]
theorem wL(a:Int)(S:0<xs.length)(h2:2<=L.length)(h8:L.length<=8):∃K:on Nat,K.Sublist L/\0<K.length/\K.length<L.length/\run G T fu (k+1) 39 [.lst (nD L),.lst (iD xs),.int a]=some (.v (.lst (nD K)) true):=by
 rw[p7 (fd:=ul) rfl rfl];have hm:m7=1000000:=rfl;obtain⟨p,Q,b,z,o,rfl⟩:=U9 (i:=4) (I:=λ j M=>∃K z,K.Sublist (L.take j)/\M=hS L xs a K z) (body:=λ p=>evSs G (IY k) fu [.iff (.cmp .Eq (.bin .Mod (.bin .FloorDiv (.ix (.var 1) (.bin .Mod (.bin .Add (.var 2) (.var 4)) (.bi .len [.var 1]))) (.bin .Add (.int 3) (.var 4))) (.int 2)) (.int 1)) [.app 3 (.ix (.var 0) (.var 4))] []] p) L.length 0 (δ:=hS L xs a [] .no) (λ j w M h=>by
  obtain⟨K,z,o,rfl⟩:=h;rw[show(0:Int)+(j:Int)=j by omega]
  let D:=hS L xs a K (IU (j:Int))
  obtain⟨v,A⟩:=nH (F:=run G T fu k) (δ:=D) (i:=1) rfl S (E5 (f6 (n:=2) (d:=.int a) rfl) (f6 (n:=4) (d:=.int (j:Int)) rfl));have t:=b_eq (C5 (ao A (E5 (i4 (i:=3)) (f6 (n:=4) (d:=.int (j:Int)) rfl)) ⟨by omega,by omega⟩) (i4 (i:=2)) IL) (i4 (i:=1));have N:L.take (j+1)=L.take j++[L.getD j 0]:=(by rw[List.take_add_one,k7 w,p6,k7 w];rfl);have W:=o.length_le;rw[F3]at W;cases q:(v/(3+(j:Int))%2==1)with
  | true=>
   rw[q]at t;refine⟨hS L xs a (K++[L.getD j 0]) (IU (j:Int)),Q3 (o7 t) (i6 ?_ rfl) rfl,_,_,by rw[N];exact o.append (List.Sublist.refl _),rfl⟩;have:=pV (fu:=fu) (G:=G) (F:=run G T fu k) (δ:=D) (i:=3) (ds:=nD K) rfl (q9 (cx:=.strong) (f6 (n:=0) (d:=.lst (nD L)) rfl) (f6 (n:=4) (d:=.int (j:Int)) rfl) (nE w)) rfl (by rw[eD];omega);rw[HY]at this;exact this
  | false=>
   rw[q]at t;exact⟨D,x8 (o7 t) rfl,_,_,by rw[N];exact o.trans (List.sublist_append_left _ _),rfl⟩) ⟨[],.no,List.nil_sublist _,rfl⟩
 rw[List.take_length]at o;have u:=λ K z=>by have:=V5 (F:=run G T fu k) (δ:=hS L xs a K z) (e:=.var 0) (ds:=nD L) (c:=.strong) rfl;rw[eD]at this;exact this
 have r:∀K z,∃i,i<L.length/\evE G (IY k) (.bin .Mod (.ix (.var 1) (.bin .Mod (.var 2) (.bi .len [.var 1]))) (.bi .len [.var 0])) (hS L xs a K z)=some (.ok (.int (i:Int)) .strong):=λ K z=>by obtain⟨v,A⟩:=nH (F:=run G T fu k) (δ:=hS L xs a K z) (i:=1) rfl S (f6 (n:=2) (d:=.int a) rfl);have P:=C5 A (u K z) IK;obtain⟨i,m,e⟩:=mod_lt v (show 0<L.length by omega);rw[e]at P;exact⟨i,m,P⟩
 have f:∀K,K.Sublist L->0<K.length->∃g:on Nat,g.Sublist L/\0<g.length/\g.length<L.length/\evSs G (IY k) fu [.iff (.cmp .Eq (.bi .len [.var 3]) (.bi .len [.var 0])) [.pop 3 (.bin .Mod (.ix (.var 1) (.bin .Mod (.var 2) (.bi .len [.var 1]))) (.bi .len [.var 0]))] [],.ret (.var 3)] (hS L xs a K z)=some (.rt (.lst (nD g)) true):=λ K y U=>by
  have R:=V5 (F:=run G T fu k) (δ:=hS L xs a K z) (X8 (n:=3) (d:=.lst (nD K)) rfl);rw[eD]at R;have t:=V9 R (u K z);by_cases e:K.length=L.length
  ·rw[show(K.length==L.length)=true from g9.mpr e]at t;obtain⟨i,m,B⟩:=r K z;have O:=HX (fu:=fu) (δ:=hS L xs a K z) (i:=3) (ds:=nD K) rfl B (by rw[eD,e];exact m) IK;rw[wK]at O;have el:=List.length_eraseIdx_of_lt (l:=K) (i:=i) IK;exact⟨K.eraseIdx i,(List.eraseIdx_sublist K i).trans y,by omega,by omega,Q3 (o7 t) (i6 O rfl) (o6 (r6 (cl:=.top) (X8 rfl)))⟩
  ·rw[show(K.length==L.length)=false from B5.mpr e]at t;have:=y.length_le;exact⟨K,y,U,by omega,x8 (o7 t) (o6 (r6 (cl:=.top) (X8 rfl)))⟩
 have s:=H9 (G:=G) (F:=run G T fu k) (δ:=hS L xs a b z) (X8 (n:=3) (d:=.lst (nD b)) rfl) (show evE G (IY k) (.lst []) (hS L xs a b z)=some (.ok (.lst []) .fresh)from rfl) (HW b);by_cases e:b.length=0
 ·rw[show(b.length==0)=true from g9.mpr e]at s;obtain⟨i,m,B⟩:=r b z;have x:=hZ (f7 (q9 (cx:=.strong) (f6 (n:=0) (d:=.lst (nD L)) rfl) B (nE m)) j9) (show 1<=m7 by decide) rfl;obtain⟨g,J,H,E,C⟩:=f [L.getD i 0] (by
   rw[List.singleton_sublist,p6,k7 m];exact M8 m) (Nat.zero_lt_one)
  exact⟨g,J,H,E,p9 (i6 (al rfl) (J5 (V4 (u [] .no) IK) (.inr rfl) Q (Q3 (o7 s) (i6 (al x) rfl) C)))⟩
 ·rw[show(b.length==0)=false from B5.mpr e]at s;obtain⟨g,J,H,E,C⟩:=f b o IK;exact⟨g,J,H,E,p9 (i6 (al rfl) (J5 (V4 (u [] .no) IK) (.inr rfl) Q (x8 (o7 s) C)))⟩
theorem HZ{T:Nat}(b:T<256)(a:c<8)(h:¬T.testBit c=true):Builtin.bitOr (T:Int) ((2^c:Nat):Int)=((T+2^c:Nat):Int):=by
 have e:((List.range 256).all λ T=>(List.range 8).all λ c=>T.testBit c||decide (Builtin.bitOr (T:Int) ((2^c:Nat):Int)=((T+2^c:Nat):Int)))=true:=by decide +kernel
 have q:=F4.mp (F4.mp e T (r9.mpr b)) c (r9.mpr a);rw[F0,B2]at q;exact q.resolve_left h
theorem wM(c:Nat)(K:on Nat):((nD K).any λ d=>deq d (.int (c:Int)))=K.contains c:=by
 unfold nD;rw[fD,W7,U1,G0];constructor
 ·rintro⟨x,b,e⟩
  have a:(_==_)=true:=e;rw[g9]at a;rw[←jz a];exact b
 ·intro h;exact⟨c,h,show(_==_)=true from U0 _⟩
theorem wN(l:on Nat):DV.plains 60 (nD l)=true:=ib λ d hd=>by
 obtain⟨j,_,rfl⟩:=i8.mp hd;rfl
theorem Ia(c:Nat)(K:on Nat):cmpD .In (.int (c:Int)) (.lst (nD K))=some (K.contains c):=by
 show(if DV.plain 60 _&&DV.plains 60 (nD K)then some ((nD K).any λ d=>deq d _)else none)=_;rw[wN,wM];rfl
theorem wO(c:Nat)(K:on Nat):cmpD .NotIn (.int (c:Int)) (.lst (nD K))=some (!K.contains c):=by
 show(if DV.plain 60 _&&DV.plains 60 (nD K)then some (!(nD K).any λ d=>deq d _)else none)=_;rw[wN,wM];rfl
abbrev eS(L K:on Nat)(N:Int)(s z:Sv):on Sv:=[.val (.lst (nD L)),.val (.lst (nD K)),.val (.int N),s,z]
theorem wP(L K:on Nat)(N:Int):∃c:Nat,(∀i,i<8->i∈L->c.testBit i=K.contains i)/\run G T fu (k+1) 40 [.lst (nD L),.lst (nD K),.int N]=some (.v (.int (c:Int)) false):=by
 let q:Nat->Bool:=λ c=>K.contains c||(!L.contains c&&(Builtin.bitAnd (N/2^((c:Int).toNat)) 1==1))
 refine⟨bs 8 q,λ i v w=>?_,?_⟩
 ·rw[iz,A0 v,cJ];show(K.contains i||(!L.contains i&&_))=_;rw[G0.mpr w];cases K.contains i<;>rfl
 rw[p7 (fd:=um) rfl rfl];obtain⟨a,s,z,rfl⟩:=U9 (i:=4) (I:=λ j l=>∃z,l=eS L K N (IU ((bs j q:Nat):Int)) z) (body:=λ a=>evSs G (IY k) fu [.iff (.or [.cmp .In (.var 4) (.var 1),.and [.cmp .NotIn (.var 4) (.var 0),.cmp .Eq (.bin .BitAnd (.bin .RShift (.var 2) (.var 4)) (.int 1)) (.int 1)]]) [.set 3 false (.bin .BitOr (.var 3) (.bin .LShift (.int 1) (.var 4)))] []] a) 8 0 (δ:=eS L K N (IU 0) .no) (λ j u l h=>by
  obtain⟨z,rfl⟩:=h;rw[show(0:Int)+(j:Int)=j by omega]
  let D:=eS L K N (IU ((bs j q:Nat):Int)) (IU (j:Int))
  have b:evE G (IY k) (.var 4) D=some (.ok (.int (j:Int)) .strong):=f6 rfl;have g:=H9 (op:=.In) b (f6 (n:=1) (d:=.lst (nD K)) rfl) (Ia j K);have f:=H9 (op:=.NotIn) b (f6 (n:=0) (d:=.lst (nD L)) rfl) (wO j L);have x:=b_eq (J6 (op:=.BitAnd) (vJ (f6 (n:=2) (d:=.int N) rfl) b (E7 j)) (i4 (i:=1)) rfl) (i4 (i:=1));have t:evE G (IY k) (.or [.cmp .In (.var 4) (.var 1),.and [.cmp .NotIn (.var 4) (.var 0),.cmp .Eq (.bin .BitAnd (.bin .RShift (.var 2) (.var 4)) (.int 1)) (.int 1)]]) D=some (.ok (.bl (q j)) .strong):=by
   show _=some (Re.ok (.bl (K.contains j||(!L.contains j&&(Builtin.bitAnd (N/2^((j:Int).toNat)) 1==1)))) .strong);cases p:K.contains j with
   | true=>rw[p]at g;exact kC g
   | false=>
    rw[p]at g;refine dm g ?_;cases m:L.contains j with
    | true=>rw[m]at f;exact pT (t:=true) f
    | false=>rw[m]at f;exact pU f x
  have lt:=iy q j;have p8:2^j<=2^8:=J3 IL IK;cases e:q j with
  | true=>
   rw[e]at t;have r:¬(bs j q).testBit j=true:=by rw[iz,C7 (M9 j),ju];exact B1
   have o:=J6 (op:=.BitOr) (f6 (G:=G) (F:=run G T fu k) (δ:=D) (n:=3) (d:=.int ((bs j q:Nat):Int)) rfl) (dY b IK) (show binD .BitOr (.int ((bs j q:Nat):Int)) (.int ((2^j:Nat):Int)) .strong .strong=some (.ok (.int ((bs j q+2^j:Nat):Int)) .strong)from by
    show some _=_;rw[HZ IK u r])
   refine⟨eS L K N (IU ((bs (j+1) q:Nat):Int)) (IU (j:Int)),Q3 (o7 t) (i6 ?_ rfl) rfl,_,rfl⟩;refine(n9 (δ:=D) (i:=3) o rfl).trans ?_;show some (Out.nx (eS L K N (IU ((bs j q+2^j:Nat):Int)) (IU (j:Int))))=_;rw[show bs (j+1) q=bs j q+2^j by show 2^j*(if q j then 1 else 0)+bs j q=_;rw[e];simp;omega]
  | false=>
   rw[e]at t;refine⟨D,x8 (o7 t) rfl,.val (.int (j:Int)),?_⟩;rw[show bs (j+1) q=bs j q by show 2^j*(if q j then 1 else 0)+bs j q=_;rw[e];simp]) ⟨.no,rfl⟩
 exact p9 (i6 (n9 (i4 (i:=0)) rfl) (J5 (V4 (n:=8) (i4 (i:=8)) IL) (.inr rfl) s (o6 (r6 (cl:=.strong) (f6 rfl)))))
theorem wQ:∀(r:on Int) (m:Int),(maxI m r=m\/maxI m r∈r)/\m<=maxI m r/\∀x∈r,x<=maxI m r
 | [],m=>⟨.inl rfl,fF _,λ _ h=>nomatch h⟩
 | x::r,m=>by
  show(maxI _ r=m\/_)/\_;obtain⟨c,b,a⟩:=wQ r (if m<x then x else m);by_cases q:m<x
  ·rw[f8 q]at c b a ⊢;refine⟨.inr ?_,by show m<=maxI _ r;rw[f8 q];omega,λ y d=>?_⟩
   ·show maxI _ r∈_;rw[f8 q];rcases c with h | h
    ·rw[h];exact o5
    ·exact o4 _ h
   ·show y<=maxI _ r;rw[f8 q];rcases i7.mp d with e | e
    ·rw[e];exact b
    ·exact a y e
  ·rw[g8 q]at c b a ⊢;refine⟨?_,by show m<=maxI _ r;rw[g8 q];exact b,λ y d=>?_⟩
   ·rcases c with h | h
    ·exact .inl h
    ·right;show maxI _ r∈_;rw[g8 q];exact o4 _ h
   ·show y<=maxI _ r;rw[g8 q];rcases i7.mp d with e | e
    ·rw[e];omega
    ·exact a y e
theorem wR(m:Int)(r:on Int):minI m r=maxI m r↔∀x∈m::r,∀y∈m::r,x=y:=by
 obtain⟨i,g,f⟩:=io r m;obtain⟨l,k,j⟩:=wQ r m;have b:∀x∈m::r,minI m r<=x:=λ x a=>by rcases i7.mp a with e | e;rw[e];exact g;exact f x e
 have d:∀x∈m::r,x<=maxI m r:=λ x a=>by rcases i7.mp a with e | e;rw[e];exact k;exact j x e
 constructor
 ·intro e x a y c;have:=b x a;have:=d x a;have:=b y c;have:=d y c;omega
 ·intro h;refine h _ ?_ _ ?_
  ·rcases i with e | e
   ·rw[e];exact o5
   ·exact o4 _ e
  ·rcases l with e | e
   ·rw[e];exact o5
   ·exact o4 _ e
end k23
end
noncomputable section
namespace k23
open PySem L2
variable {fu k:Nat} {F:Nat->on DV->Ir Ou} {δ:on Sv} {ds:on DV} {cl:Cl} {n m:Nat} {rows:on (on Int)}
def wds(rows:on (on Int))(A B:on Nat):on Int:=A.flatMap λ i=>B.map λ j=>mf rows i j
abbrev aS(rows:on (on Int))(A B:on Nat)(xs:on Int)(a r:Int)(w:on Int)(z n b y k o e:Sv):on Sv:=[.val (tT rows),.val (.lst (nD A)),.val (.lst (nD B)),.val (.lst (iD xs)),.val (.int a),.val (.int r),.val (.lst (iD w)),z,n,b,y,k,o,e]
noncomputable def aW:on MS:=[.set 6 false (.bin .Add (.var 6) (.comp (.ix (.ix (.var 1) (.var 2)) (.var 0)) (.one 0) (.var 2) [none,some 0,some 7]))]
theorem wS(g:Rect n m rows)(h:∀j∈B,j<m)(E:B.length<=8):∀(b:on Nat) (w:on Int) (z:Sv),(∀i∈b,i<n)->w.length+b.length*B.length<=900->∃e,B4 (.one 7) (λ c=>evSs G F fu aW c) (nD b) (aS rows A B xs a r w z .no .no .no .no .no .no)=some (.nx (aS rows A B xs a r (w++wds rows b B) e .no .no .no .no .no .no))
 | [],w,z,_,_=>⟨z,by show some (Out.nx _)=_;unfold wds;rw[List.flatMap_nil,G1]⟩
 | i::b,w,z,k,s=>by
  have hm:m7=1000000:=rfl
  let D:=aS rows A B xs a r w (IU (i:Int)) .no .no .no .no .no .no
  have C:=G4 (F:=F) (δ:=D) (l:=B) (elt:=.ix (.ix (.var 1) (.var 2)) (.var 0)) (tg:=.one 0) (it:=.var 2) (fr:=[none,some 0,some 7]) (cl:=.strong) rfl IL IK λ j u=>
   ⟨[.val (.int (j:Int)),.val (tT rows),.val (.int (i:Int))],.strong,rfl,vC (vB g) (f6 rfl) (f6 rfl) (f6 rfl) (k i (o5 ..)) (h j u),rfl⟩
  have f:evE G F (.comp (.ix (.ix (.var 1) (.var 2)) (.var 0)) (.one 0) (.var 2) [none,some 0,some 7]) D=some (.ok (.lst (iD (B.map λ j=>mf rows i j))) .fresh):=(by rw[C];unfold iD;rw[q5];rfl);rw[w6,cL]at s;have o:=aM (f6 (G:=G) (F:=F) (δ:=D) (n:=6) (d:=.lst (iD w)) rfl) f (by rw[eE,eE,g6];omega);have y:iD w++iD (B.map λ j=>mf rows i j)=iD (w++B.map λ j=>mf rows i j):=by unfold iD;rw[C4]
  rw[y]at o;obtain⟨e,p⟩:=wS g (A:=A) (xs:=xs) (a:=a) (r:=r) h E b (w++B.map λ j=>mf rows i j) _ (λ x q=>k x (o4 _ q)) (by rw[u0,g6];omega);refine⟨e,?_⟩;have v:w++wds rows (i::b) B=(w++B.map λ j=>mf rows i j)++wds rows b B:=by unfold wds;rw[List.flatMap_cons,Q9]
  rw[v,←p];exact mQ (δ1:=D) rfl (i6 (n9 o rfl) rfl)
theorem iG:x∈wds rows A B↔∃i∈A,∃j∈B,mf rows i j=x:=by
 unfold wds;rw[List.mem_flatMap];constructor
 ·rintro⟨i,b,h⟩
  obtain⟨j,a,e⟩:=i8.mp h;exact⟨i,b,j,a,e⟩
 ·rintro⟨i,b,j,a,e⟩
  exact⟨i,b,i8.mpr ⟨j,a,e⟩⟩
end k23
end
noncomputable section
namespace k23
open PySem L2
theorem Ib{j:Nat}(h:j<2):ixD (.lst [.str "row",.str "column"]) (.int (j:Int))=some (sd (j==0)):=by
 match j,h with
 | 0,_=>rfl
 | 1,_=>rfl
theorem wT(b:δ[i]? = some (.val (.lst (nD A))))(a:δ[j]? = some (.val (.lst (nD K))))(a8:A.length<=8):evE G F (.compi (.var 0) (.one 0) (.var i) (.cmp .NotIn (.var 0) (.var 1)) [none,some j]) δ=some (.ok (.lst (nD (A.filter λ x=>!K.contains x))) .fresh):=by
 have hm:m7=1000000:=rfl;refine mV (h:=λ (x:Nat)=>DV.int (x:Int)) (cl:=.strong) ?_ IL IK λ x _=>⟨[.val _,.val _],?_,o7 (H9 (f6 rfl) (f6 rfl) (wO x K)),.strong,f6 rfl,rfl⟩
 ·rw[f6 b];rfl
 ·show some _=_;unfold x9;simp[a]
theorem wU{K:on Nat}(b:A.Nodup)(s:K.Sublist A)(c:0<K.length)(kl:K.length<A.length):0<(A.filter λ x=>!K.contains x).length/\(A.filter λ x=>!K.contains x).length<A.length:=by
 constructor
 ·apply Nat.pos_of_ne_zero;intro z;have:=ee b λ x a=>by
   apply iL;intro w;have:x∈A.filter λ x=>!K.contains x:=B8.mpr ⟨a,by rw[u8];cases q:K.contains x with
    | false=>rfl
    | true=>exact absurd (G0.mp q) w⟩
   rw[(W0.mp z)]at this;cases this
  omega
 ·obtain⟨x,a⟩:=T6 c;refine List.length_filter_lt_length_iff_exists.mpr ⟨x,s.subset a,?_⟩;rw[G0.mpr a];exact B1
theorem Ic(e:wds rows A B=a::b)(h:minI a b=maxI a b):∀i∈A,∀j∈B,mf rows i j=a:=λ i d j c=>by
 have:=(wR a b).mp h _ (by rw[←e];exact iG.mpr ⟨i,d,j,c,rfl⟩) a (o5 ..);exact this
theorem wV{fu k n m:Nat}{rows:on (on Int)}(rc:Rect n m rows)(n8:n<=8)(m8:m<=8){xs:on Int}(hx:0<xs.length):∀(N:Nat) (A B:on Nat) (a:Int) (r:Nat),A.length+B.length+r<=N->0<A.length->0<B.length->A.length<=8->B.length<=8->A.Nodup->B.Nodup->(∀i∈A,i<n)->(∀j∈B,j<m) ->
  ∃p:Pn,p.deep<=N/\(∀i∈A,∀j∈B,p.rch i j=mf rows i j)/\run G T fu (k+N+2) 41 [tT rows,.lst (nD A),.lst (nD B),.lst (iD xs),.int a,.int (r:Int)]=some (.v p.D false)
 | 0,A,B,a,r,hN,a0,_,_,_,_,_,_,_=>by omega
 | N+1,A,B,a,r,hN,a0,b0,a8,b8,nA,nB,hA,hB=>by
  have ih:=wV (fu:=fu) (k:=k) rc n8 m8 (xs:=xs) hx N;have ab:A.length*B.length<=8*8:=cH a8 b8;obtain⟨z,lp⟩:=wS (F:=run G T fu (k+N+2)) (fu:=fu) rc (A:=A) (xs:=xs) (a:=a) (r:=(r:Int)) hB b8 A [] .no hA (by show 0+_<=_;omega);rw[cC]at lp
  let S (v:Int) (b y kp o e:Sv):=aS rows A B xs a (r:Int) (wds rows A B) z (IU v) b y kp o e
  obtain⟨v,ev⟩:=nH (F:=run G T fu (k+N+2)) (δ:=aS rows A B xs a (r:Int) (wds rows A B) z .no .no .no .no .no .no) (i:=3) rfl hx (f6 (n:=4) (d:=.int a) rfl);obtain⟨i0,hi0⟩:=T6 a0;obtain⟨j0,hj0⟩:=T6 b0;obtain⟨w0,wr,ew⟩:∃w0 wr,wds rows A B=w0::wr:=by
   cases h:wds rows A B with
   | nil=>have:=(iG (rows:=rows) (A:=A) (B:=B)).mpr ⟨i0,hi0,j0,hj0,rfl⟩;rw[h]at this;cases this
   | cons m r=>exact⟨m,r,rfl⟩
  let D2:=S v .no .no .no .no .no
  have v6:evE G (IY (k+N+2)) (.var 6) D2=some (.ok (.lst (iD (w0::wr))) .strong):=by rw[←ew];exact f6 rfl
  have mn:evE G (IY (k+N+2)) (.bi .min [.var 6]) D2=some (.ok (.int (minI w0 wr)) .strong):=(by rw[mL (f7 v6 j9)];show(match ints? (iD (w0::wr))with | some (n::r)=>some (Re.ok (.int (minI n r)) .strong) | _=>_)=_;rw[aL]);have mx:evE G (IY (k+N+2)) (.bi .max [.var 6]) D2=some (.ok (.int (maxI w0 wr)) .strong):=(by show Rs.thn (evEs G (IY (k+N+2)) [.var 6] D2) (λ l=>maxD l)=_;rw[f7 v6 j9];show(match ints? (iD (w0::wr))with | some (n::r)=>some (Re.ok (.int (maxI n r)) .strong) | _=>_)=_;rw[aL]);have tq:=b_eq mn mx;have w1:s9 (evE G (IY (k+N+2)) (.var 1) (aS rows A B xs a (r:Int) [] .no .no .no .no .no .no .no))=some (.ok (nD A) .strong):=rfl;have m2:Q1 2 a=true:=by unfold Q1;simp
  have at1:∀(b y kp o e:Sv) (q:Int),evE G (IY (k+N+2)) (.bin .Add (.bin .Mult (.int 2) (.var 4)) (.int q)) (S v b y kp o e)=some (.ok (.int (2*a+q)) .strong):=λ b y kp o e q=>E5 (S0 (i4 (i:=2)) (f6 (n:=4) (d:=.int a) rfl) m2) i4;have top:∀{d:DV},evSs G (IY (k+N+2)) fu (mH.body.drop 3) D2=some (.rt d false)->run G T fu (k+(N+1)+2) 41 [tT rows,.lst (nD A),.lst (nD B),.lst (iD xs),.int a,.int (r:Int)]=some (.v d false):=λ h=>by rw[show k+(N+1)+2=(k+N+2)+1 by omega,p7 (fd:=mH) rfl rfl];exact p9 (i6 (n9 (d:=.lst []) (cl:=.fresh) rfl rfl) (J5 w1 (.inl rfl) lp (i6 (n9 ev rfl) h)))
  by_cases h1:minI w0 wr=maxI w0 wr
  ·have one:=Ic ew h1;rw[show(minI w0 wr==maxI w0 wr)=true from g9.mpr h1]at tq;have g5:=b_gt (C5 (f6 (G:=G) (F:=run G T fu (k+N+2)) (δ:=D2) (n:=8) (d:=.int v) rfl) (i4 (i:=5)) IL) (i4 (i:=0));have r0:=V9 (f6 (G:=G) (F:=run G T fu (k+N+2)) (δ:=D2) (n:=5) (d:=.int (r:Int)) rfl) (i4 (i:=((0:Nat):Int)));have fin:evE G (IY (k+N+2)) (.or [.cmp .Eq (.var 5) (.int 0),.cmp .Gt (.bin .Mod (.var 8) (.int 5)) (.int 0)]) D2=some (.ok (.bl true) .strong)->∃p:Pn,p.deep<=N+1/\(∀i∈A,∀j∈B,p.rch i j=mf rows i j)/\run G T fu (k+(N+1)+2) 41 [tT rows,.lst (nD A),.lst (nD B),.lst (iD xs),.int a,.int (r:Int)]=some (.v p.D false):=λ t=>by refine⟨.fin w0,G3 _,λ i hi j hj=>(one i hi j hj).symm,top (U8 (o7 tq) (U8 (o7 t) (o6 (r6 (cl:=.strong) ?_))))⟩;exact N3 (f7 (F7 (x:="end")) (f7 (q9 (cx:=.strong) v6 (i4 (i:=((0:Nat):Int))) (mK (r:=w0::wr) (j:=0) (Nat.succ_pos _))) j9)) (show 2<=m7 by decide) rfl
   by_cases hr:r=0
   ·rw[hr]at r0;exact fin (kC r0)
   ·rw[show(r==0)=false from B5.mpr hr]at r0;by_cases hv:0<v%5
    ·rw[A0 hv]at g5;exact fin (dm r0 g5)
    ·rw[C7 hv]at g5;obtain⟨p,dp,to,ep⟩:=ih A B (2*a+1) (r - 1) IK a0 b0 a8 b8 nA nB hA hB;rw[show(((r - 1:Nat)):Int)=(r:Int) - 1 by omega]at ep;have c1:=i5 (G:=G) (F:=run G T fu (k+N+2)) (δ:=D2) (f:=41) (f7 (f6 (n:=0) (d:=tT rows) rfl) (f7 (f6 (n:=1) (d:=.lst (nD A)) rfl) (f7 (f6 (n:=2) (d:=.lst (nD B)) rfl) (f7 (f6 (n:=3) (d:=.lst (iD xs)) rfl) (f7 (at1 _ _ _ _ _ 1) (f7 (am (f6 (n:=5) (d:=.int (r:Int)) rfl) (i4 (i:=1))) j9)))))) rfl ep
     let D3:=S v (.val p.D) .no .no .no .no
     have v8:evE G (IY (k+N+2)) (.var 8) D3=some (.ok (.int v) .strong):=f6 rfl;obtain⟨j,hj,ej⟩:=mod_lt (v/5) (show 0<2 by decide);have x1:=C5 (ao v8 (i4 (i:=5)) IL) (i4 (i:=((2:Nat):Int))) IL;rw[ej]at x1;have s1:=q9 (hZ (F:=run G T fu (k+N+2)) (δ:=D3) (f7 (F7 (x:="row")) (f7 (F7 (x:="column")) j9)) (show 2<=m7 by decide) rfl) x1 (Ib hj);obtain⟨c,hc,ec⟩:=mod_lt (v/11) (show 0<255 by decide);have x2:=E5 (i4 (i:=1)) (C5 (ao v8 (i4 (i:=11)) IL) (i4 (i:=((255:Nat):Int))) IL);rw[ec,show(1:Int)+(c:Int)=((1+c:Nat):Int) by omega]at x2;refine⟨.ask (j==0) (1+c) p p,by show 1+max p.deep p.deep<=_;omega,λ i hi j' hj'=>?_,top (U8 (o7 tq) (x8 (o7 (dm r0 g5)) (i6 (n9 c1 rfl) (o6 (r6 (cl:=.strong) ?_)))))⟩
     ·show(if _ then p.rch i j' else p.rch i j')=_;rw[ite_self];exact to i hi j' hj'
     ·exact N3 (f7 (F7 (x:="ask")) (f7 s1 (f7 x2 (f7 (f6 (n:=9) (d:=p.D) rfl) (f7 (f6 (n:=9) (d:=p.D) rfl) j9))))) (show 5<=m7 by decide) rfl
  ·rw[show(minI w0 wr==maxI w0 wr)=false from B5.mpr h1]at tq;have two:¬(A.length=1/\B.length=1):=λ ⟨e1,e2⟩=>h1 ((wR w0 wr).mpr λ x hx y hy=>by
    obtain⟨i,rfl⟩:=ce.mp e1;obtain⟨j,rfl⟩:=ce.mp e2;rw[←ew]at hx hy;obtain⟨i1,q1,j1,q2,e⟩:=iG.mp hx;obtain⟨i2,q3,j2,q4,e'⟩:=iG.mp hy;rw[←e,←e',u4.mp q1,u4.mp q2,u4.mp q3,u4.mp q4])
   have lnA:=V5 (F:=run G T fu (k+N+2)) (δ:=D2) (e:=.var 1) (ds:=nD A) (c:=.strong) rfl;have lnB:=V5 (F:=run G T fu (k+N+2)) (δ:=D2) (e:=.var 2) (ds:=nD B) (c:=.strong) rfl;rw[eD]at lnA lnB;have y1:=V9 lnB (i4 (i:=((1:Nat):Int)));have y2:=b_gt lnA (i4 (i:=1));have y3:=b_eq (C5 (f6 (G:=G) (F:=run G T fu (k+N+2)) (δ:=D2) (n:=8) (d:=.int v) rfl) (i4 (i:=2)) IL) (i4 (i:=0));obtain⟨y,hy,ey⟩:∃y:Bool,(if y then 2<=A.length else 2<=B.length)/\evE G (run G T fu (k+N+2)) (.or [.cmp .Eq (.bi .len [.var 2]) (.int 1),.and [.cmp .Gt (.bi .len [.var 1]) (.int 1),.cmp .Eq (.bin .Mod (.var 8) (.int 2)) (.int 0)]]) D2=some (.ok (.bl y) .strong):=by
    by_cases e1:B.length=1
    ·rw[show(B.length==1)=true from g9.mpr e1]at y1;exact⟨true,by show 2<=A.length;omega,kC y1⟩
    ·rw[show(B.length==1)=false from B5.mpr e1]at y1;by_cases e2:(1:Int)<(A.length:Int)
     ·rw[A0 e2]at y2;exact⟨v%2==0,by split<;>omega,dm y1 (pU y2 y3)⟩
     ·rw[C7 e2]at y2;exact⟨false,by show 2<=B.length;omega,dm y1 (pT (t:=true) y2)⟩
   have vy:∀kp o e,tstD (evE G (IY (k+N+2)) (.var 10) (S v .no (.val (.bl y)) kp o e))=some (.ok y):=λ kp o e=>o7 (f6 rfl);have c7:∀b y kp o e,evE G (IY (k+N+2)) (.bin .FloorDiv (.var 8) (.int 7)) (S v b y kp o e)=some (.ok (.int (v/7)) .strong):=λ b y kp o e=>ao (f6 (n:=8) (d:=.int v) rfl) (i4 (i:=7)) IL;cases y with
   | true=>
    obtain⟨K,sb,k0,kl,ek⟩:=wL (fu:=fu) (k:=k+N+1) a hx (show 2<=A.length from hy) a8;obtain⟨l0,l1⟩:=wU nA sb k0 kl;obtain⟨pn,dn,tn,en⟩:=ih (A.filter λ x=>!K.contains x) B (2*a+1) r IK l0 b0 IK b8 (nA.filter _) nB (λ i hi=>hA i (B8.mp hi).1) hB;obtain⟨py,dy,ty,ey'⟩:=ih K B (2*a+2) r IK k0 b0 IK b8 (sb.nodup nA) nB (λ i hi=>hA i (sb.subset hi)) hB;obtain⟨c,hc,es⟩:=wP (fu:=fu) (k:=k+N+1) A K (v/7)
    let D3:=S v .no (.val (.bl true)) (.val (.lst (nD K))) .no .no
    let D4:=S v .no (.val (.bl true)) (.val (.lst (nD K))) (.val pn.D) .no
    let D5:=S v .no (.val (.bl true)) (.val (.lst (nD K))) (.val pn.D) (.val py.D)
    have s1:=i5 (G:=G) (F:=run G T fu (k+N+2)) (δ:=S v .no (.val (.bl true)) .no .no .no) (f:=39) (es:=[.var 1,.var 3,.var 4]) (l:=[(.lst (nD A),.strong),(.lst (iD xs),.strong),(.int a,.strong)]) rfl rfl ek;have s2:=i5 (G:=G) (F:=run G T fu (k+N+2)) (δ:=D3) (f:=41) (f7 (f6 (n:=0) (d:=tT rows) rfl) (f7 (wT (i:=1) (j:=11) (A:=A) (K:=K) rfl rfl a8) (f7 (f6 (n:=2) (d:=.lst (nD B)) rfl) (f7 (f6 (n:=3) (d:=.lst (iD xs)) rfl) (f7 (at1 _ _ _ _ _ 1) (f7 (f6 (n:=5) (d:=.int (r:Int)) rfl) j9)))))) rfl en;have s3:=i5 (G:=G) (F:=run G T fu (k+N+2)) (δ:=D4) (f:=41) (f7 (f6 (n:=0) (d:=tT rows) rfl) (f7 (f6 (n:=11) (d:=.lst (nD K)) rfl) (f7 (f6 (n:=2) (d:=.lst (nD B)) rfl) (f7 (f6 (n:=3) (d:=.lst (iD xs)) rfl) (f7 (at1 _ _ _ _ _ 2) (f7 (f6 (n:=5) (d:=.int (r:Int)) rfl) j9)))))) rfl ey';have s4:=i5 (G:=G) (F:=run G T fu (k+N+2)) (δ:=D5) (f:=40) (f7 (f6 (n:=1) (d:=.lst (nD A)) rfl) (f7 (f6 (n:=11) (d:=.lst (nD K)) rfl) (f7 (c7 _ _ _ _ _) j9))) rfl es;refine⟨.ask true c pn py,by show 1+max pn.deep py.deep<=_;omega,λ i hi j hj=>?_,top (x8 (o7 tq) (i6 (n9 ey rfl) (U8 (vy _ _ _) (i6 (n9 s1 rfl) (i6 (n9 s2 rfl) (i6 (n9 s3 rfl) (o6 (r6 (cl:=.strong) (N3 (f7 (F7 (x:="ask")) (f7 (F7 (x:="row")) (f7 s4 (f7 (f6 (n:=12) (d:=pn.D) rfl) (f7 (f6 (n:=13) (d:=py.D) rfl) j9))))) (show 5<=m7 by decide) rfl)))))))))⟩;show(if c.testBit i then py.rch i j else pn.rch i j)=_;rw[hc i (u6 (hA i hi) n8) hi];cases e:K.contains i with
    | true=>exact ty i (G0.mp e) j hj
    | false=>exact tn i (B8.mpr ⟨hi,by rw[e];rfl⟩) j hj
   | false=>
    obtain⟨K,sb,k0,kl,ek⟩:=wL (fu:=fu) (k:=k+N+1) a hx (show 2<=B.length from hy) b8;obtain⟨l0,l1⟩:=wU nB sb k0 kl;obtain⟨pn,dn,tn,en⟩:=ih A (B.filter λ x=>!K.contains x) (2*a+1) r IK a0 l0 a8 IK nA (nB.filter _) hA (λ i hi=>hB i (B8.mp hi).1);obtain⟨py,dy,ty,ey'⟩:=ih A K (2*a+2) r IK a0 k0 a8 IK nA (sb.nodup nB) hA (λ i hi=>hB i (sb.subset hi));obtain⟨c,hc,es⟩:=wP (fu:=fu) (k:=k+N+1) B K (v/7)
    let D3:=S v .no (.val (.bl false)) (.val (.lst (nD K))) .no .no
    let D4:=S v .no (.val (.bl false)) (.val (.lst (nD K))) (.val pn.D) .no
    let D5:=S v .no (.val (.bl false)) (.val (.lst (nD K))) (.val pn.D) (.val py.D)
    have s1:=i5 (G:=G) (F:=run G T fu (k+N+2)) (δ:=S v .no (.val (.bl false)) .no .no .no) (f:=39) (es:=[.var 2,.var 3,.var 4]) (l:=[(.lst (nD B),.strong),(.lst (iD xs),.strong),(.int a,.strong)]) rfl rfl ek;have s2:=i5 (G:=G) (F:=run G T fu (k+N+2)) (δ:=D3) (f:=41) (f7 (f6 (n:=0) (d:=tT rows) rfl) (f7 (f6 (n:=1) (d:=.lst (nD A)) rfl) (f7 (wT (i:=2) (j:=11) (A:=B) (K:=K) rfl rfl b8) (f7 (f6 (n:=3) (d:=.lst (iD xs)) rfl) (f7 (at1 _ _ _ _ _ 1) (f7 (f6 (n:=5) (d:=.int (r:Int)) rfl) j9)))))) rfl en;have s3:=i5 (G:=G) (F:=run G T fu (k+N+2)) (δ:=D4) (f:=41) (f7 (f6 (n:=0) (d:=tT rows) rfl) (f7 (f6 (n:=1) (d:=.lst (nD A)) rfl) (f7 (f6 (n:=11) (d:=.lst (nD K)) rfl) (f7 (f6 (n:=3) (d:=.lst (iD xs)) rfl) (f7 (at1 _ _ _ _ _ 2) (f7 (f6 (n:=5) (d:=.int (r:Int)) rfl) j9)))))) rfl ey';have s4:=i5 (G:=G) (F:=run G T fu (k+N+2)) (δ:=D5) (f:=40) (f7 (f6 (n:=2) (d:=.lst (nD B)) rfl) (f7 (f6 (n:=11) (d:=.lst (nD K)) rfl) (f7 (c7 _ _ _ _ _) j9))) rfl es;refine⟨.ask false c pn py,by show 1+max pn.deep py.deep<=_;omega,λ i hi j hj=>?_,top (x8 (o7 tq) (i6 (n9 ey rfl) (x8 (vy _ _ _) (i6 (n9 s1 rfl) (i6 (n9 s2 rfl) (i6 (n9 s3 rfl) (o6 (r6 (cl:=.strong) (N3 (f7 (F7 (x:="ask")) (f7 (F7 (x:="column")) (f7 s4 (f7 (f6 (n:=12) (d:=pn.D) rfl) (f7 (f6 (n:=13) (d:=py.D) rfl) j9))))) (show 5<=m7 by decide) rfl)))))))))⟩;show(if c.testBit j then py.rch i j else pn.rch i j)=_;rw[hc j (u6 (hB j hj) m8) hj];cases e:K.contains j with
    | true=>exact ty i hi j (G0.mp e)
    | false=>exact tn i hi j (B8.mpr ⟨hj,by rw[e];rfl⟩)
theorem wW{g:on Int->on Int}(h:Few L)(q:∀r∈a,∃s∈L,r=g s):Few a:=by
 obtain⟨S,e,d⟩:=h;refine⟨S.map g,by rw[g6];exact e,λ r c=>?_⟩;obtain⟨s,b,rfl⟩:=q r c;exact i8.mpr ⟨s,d s b,rfl⟩
theorem Ie(k1:i<(FI rows).length)(k2:j<(FI IS).length):mf (rst m rows) i j=mf rows (FI rows)[i] (FI IS)[j]:=by
 unfold mf rst sub;rw[p6 (i:=i),q0,k7 k1];show(List.map _ _).getD _ 0=_;rw[p6,q0,k7 k2];rfl
end k23
end
noncomputable section
namespace k23
open PySem L2
variable {fu k:Nat} {F:Nat->on DV->Ir Ou} {δ:on Sv} {n m:Nat} {rows:on (on Int)} {J:Jt}
def Vt(J:Jt)(m:Nat)(rows:on (on Int)):Nat:=V J (mf (rst m rows)) (2^(FI rows).length - 1) (2^(FI IS).length - 1)
theorem Z6(f:JOk J)(t:Tk n m rows){p:Pn}(e:∀i j,i<n->j<m->p.rch i j=mf rows i j):Vt J m rows<=p.val J:=by
 have q1:=i9 (by decide:2<=2^1) (J3 IL (J1 (by rw[t.R.1];exact t.n0)));have q2:2<=2^(FI IS).length:=i9 (by decide:2<=2^1) (J3 IL (J1 (by rw[M2];exact t.m0)));refine V_le (φ:=λ i=>(FI rows).getD i 0) (ψ:=λ j=>(FI IS).getD j 0) f (λ i j d c=>bR (eA (m:=m) (rows:=rows)) (nz t.R t.w9) d c) (G5 t.fr) (G5 t.fc) p _ _ IK IK IK IK λ i d j c=>?_;have b:i<(FI rows).length:=N9 IK d;have a:j<(FI IS).length:=N9 IK c;have h:(FI rows)[i]<n:=by have:=Z2 (M8 b);rw[t.R.1]at this;exact this
 have g:(FI IS)[j]<m:=by have:=Z2 (M8 a);rw[M2]at this;exact this
 rw[p6,k7 b,p6,k7 a];show p.rch _[i] _[j]=_;rw[e _ _ h g,Ie b a]
theorem bV:∀p:Pn,p.val jB=p.deep
 | .fin _=>rfl
 | .ask _ _ n y=>by show 1+max _ _=1+max n.deep y.deep;rw[bV n,bV y]
theorem nK:∀p:Pn,p.val jE<=2^p.deep
 | .fin _=>k8 _
 | .ask _ _ n y=>by have h1:=nK n;have h2:=nK y;have e1:2^n.deep<=2^max n.deep y.deep:=J3 IL (Nat.le_max_left ..);have e2:2^y.deep<=2^max n.deep y.deep:=J3 IL (Nat.le_max_right ..);show n.val jE+y.val jE<=2^(1+max n.deep y.deep);rw[Nat.pow_add];omega
def Pn.wo:Pn->on Int
 | .fin w=>[w]
 | .ask _ _ n y=>n.wo++y.wo
theorem nL:∀p:Pn,p.wo.length=p.val jE
 | .fin _=>rfl
 | .ask _ _ n y=>by show(n.wo++y.wo).length=n.val jE+y.val jE;rw[u0,nL n,nL y]
theorem nM:∀(p:Pn) (i j:Nat),p.rch i j∈p.wo
 | .fin w,_,_=>u4.mpr rfl
 | .ask s c n y,i,j=>by
  show(if c.testBit (if s then i else j)then y.rch i j else n.rch i j)∈n.wo++y.wo;generalize (if s then i else j)=u;split
  ·exact y9 _ (nM y i j)
  ·exact F2 _ (nM n i j)
abbrev wsN(rows:on (on Int)):Nat:=(rows.flatten.foldl dk []).length
theorem wX(b:Rect n m rows)(h:x∈rows.flatten):∃i j,i<n/\j<m/\mf rows i j=x:=by
 obtain⟨r,e,d⟩:=ff.mp h;obtain⟨i,a,rfl⟩:=List.getElem_of_mem e;obtain⟨j,c,rfl⟩:=List.getElem_of_mem d;refine⟨i,j,by rw[←b.1];exact a,by rw[←(b.2 _ (M8 a))];exact c,?_⟩;unfold mf;rw[p6 (i:=i),k7 a];show(rows[i]).getD j 0=_;rw[p6,k7 c];rfl
theorem wY(a:Rect n m rows)(d:i<n)(c:j<m):mf rows i j∈rows.flatten:=by
 have b:=K8 (by rw[a.1];exact d);exact ff.mpr ⟨_,b,nb (by rw[a.2 _ b];exact c)⟩
theorem Ig(b:Rect n m rows){p:Pn}(a:∀i j,i<n->j<m->p.rch i j=mf rows i j):wsN rows<=p.val jE:=by
 rw[←nL];refine ee (ie bf) λ x c=>?_
 rcases bO.mp c with z | z
 ·cases z
 ·obtain⟨i,j,e,d,rfl⟩:=wX b z;rw[←a i j e d];exact nM p i j
theorem Ih(t:Tk n m rows)(ok:PlF jB n m rows p):(p.deep==0)=(wsN rows==1):=by
 rw[W7,g9,g9];constructor
 ·intro z;cases p with
  | ask s c a b=>have:(Pn.ask s c a b).deep=1+max a.deep b.deep:=rfl;omega
  | fin w=>
   have all:=ee (ie bf) λ x f=>by
    rcases bO.mp f with z | z
    ·cases z
    ·obtain⟨i,j,e,d,rfl⟩:=wX t.R z;rw[←ok.to i j e d];exact u4.mpr rfl
   exact jt all (bZ (bO.mpr (.inr (wY t.R t.n0 t.m0))))
 ·intro z;obtain⟨w,g⟩:=ce.mp z;have:=Z6 (.inl rfl) t (p:=.fin w) λ i j e d=>by have:=(bO (σ:=[])).mpr (.inr (wY t.R e d));rw[g]at this;exact(u4.mp this).symm
  unfold Vt at this;rw[←bV,ok.val];exact Nat.le_zero.mp this
def ng(x:Int):Int:=9 - x
noncomputable def ngT(rows:on (on Int)):on (on Int):=rows.map λ r=>r.map ng
noncomputable def Pn.ng:Pn->Pn
 | .fin w=>.fin (k23.ng w)
 | .ask s c n y=>.ask s c n.ng y.ng
theorem nN:∀p:Pn,p.ng.val J=p.val J
 | .fin _=>rfl
 | .ask _ _ n y=>by show J.j _ _=J.j _ _;rw[nN n,nN y]
theorem iH:∀(p:Pn) (i j:Nat),p.ng.rch i j=ng (p.rch i j)
 | .fin _,_,_=>rfl
 | .ask s c n y,i,j=>by
  show(if c.testBit (if s then i else j)then y.ng.rch i j else n.ng.rch i j)=ng (if c.testBit (if s then i else j)then y.rch i j else n.rch i j);generalize (if s then i else j)=u;split
  ·exact iH y i j
  ·exact iH n i j
theorem Ii(a:Rect n m rows):Rect n m (ngT rows):=⟨by unfold ngT;rw[g6];exact a.1,λ r c=>by
 obtain⟨s,b,rfl⟩:=i8.mp c;rw[g6];exact a.2 s b⟩
theorem wZ(b:Rect n m rows)(e:i<n)(d:j<m):mf (ngT rows) i j=ng (mf rows i j):=by
 have a:i<rows.length:=by rw[b.1];exact e
 have c:j<(rows[i]).length:=by rw[b.2 _ (M8 a)];exact d
 unfold mf ngT;rw[p6 (i:=i),q0,k7 a,p6 (l:=rows),k7 a];show((rows[i]).map ng).getD j 0=ng ((rows[i]).getD j 0);rw[p6,q0,k7 c,p6,k7 c];rfl
theorem xa(t:Tk n m rows):Tk n m (ngT rows) where
 n0:=t.n0
 n8:=t.n8
 m0:=t.m0
 m8:=t.m8
 R:=Ii t.R
 fr:=wW t.fr λ r a=>by obtain⟨s,b,rfl⟩:=i8.mp a;exact⟨s,b,rfl⟩
 fc:=wW (g:=λ r=>r.map ng) t.fc λ r a=>by
  unfold flip at a;obtain⟨j,c,rfl⟩:=i8.mp a;refine⟨col rows j,i8.mpr ⟨j,c,rfl⟩,?_⟩;unfold col ngT;rw[q5,q5];refine M5 λ r a=>?_
  have d:j<r.length:=by rw[t.R.2 r a];exact r9.mp c
  show(r.map ng).getD j 0=ng (r.getD j 0);rw[p6,q0,k7 d,p6,k7 d];rfl
 w9:=λ r a x f=>by obtain⟨s,b,rfl⟩:=i8.mp a;obtain⟨y,e,rfl⟩:=i8.mp f;have:=t.w9 s b y e;unfold ng;omega
theorem xb(e:JOk J)(t:Tk n m rows)(d:PlF J n m rows p)(c:PlF J n m (ngT rows) q):Vt J m (ngT rows)=Vt J m rows:=by
 have e1:p.val J=Vt J m rows:=d.val;have e2:q.val J=Vt J m _:=c.val;have g:=Z6 e t λ i j b a=>by rw[iH,c.to i j b a,wZ t.R b a];unfold ng;omega
 have f:=Z6 e (xa t) λ i j b a=>by rw[iH,d.to i j b a,wZ t.R b a]
 rw[nN]at g f;omega
abbrev lS(ns:on Int)(rows:on (on Int))(b e:Nat)(w:on Int)(z5 z6 z7 z8 z9 x y o:Sv):on Sv:=[.val (.scr ns),.val (tT rows),.val (.int (b:Int)),.val (.int (e:Int)),.val (.lst (iD w)),z5,z6,z7,z8,z9,x,y,o]
noncomputable def fB:on MS:=[.set 4 false (.bin .Add (.var 4) (.bi .list [.var 5]))]
theorem xc:∀(R:on (on Int)) (w:on Int) (z:Sv),(∀r∈R,r.length<=8)->w.length+R.length*8<=900->∃f,B4 (.one 5) (λ a=>evSs G F fu fB a) (R.map λ r=>.tup (iD r)) (lS ns rows b e w z .no .no .no .no .no .no .no)=some (.nx (lS ns rows b e (w++R.flatten) f .no .no .no .no .no .no .no))
 | [],w,z,_,_=>⟨z,by rw[List.flatten_nil,G1];rfl⟩
 | r::R,w,z,h,k=>by
  let D:=lS ns rows b e w (.val (.tup (iD r))) .no .no .no .no .no .no .no
  have r8:=h r (o5 ..);rw[w6,cL]at k;have g:=aM (f6 (G:=G) (F:=F) (δ:=D) (n:=4) rfl) (He (c:=.strong) (f6 (n:=5) (d:=.tup (iD r)) rfl)) (by rw[eE,eE];omega);rw[show iD w++iD r=iD (w++r) by unfold iD;rw[C4]]at g;obtain⟨f,i⟩:=xc R (w++r) _ (λ x j=>h x (o4 _ j)) (by rw[u0];omega);refine⟨f,?_⟩;rw[W4,←Q9,←i];exact mQ rfl (i6 (n9 g rfl) rfl)
theorem Ij(h:evE G F e δ=some (.ok (.lst (iD w)) c))(hw:w.length<4000):evE G F (.bi .lset [e]) δ=some (.ok (.int ((w.foldl dk []).length:Nat)) .strong):=by
 show Rs.thn _ _=_;rw[f7 h j9];show(match ints? (iD w)with | some a=>if a.length<4000 then some (Re.ok _ .strong)else none | none=>none)=_;rw[aL];exact f8 hw
theorem xf(h:IM e c (.int (n:Int)))(hn:n<=1000):evE G F (.bi .lrng [e]) δ=some (.ok (.lst (nD (List.range n))) .fresh):=by
 show Rs.thn _ _=_;rw[f7 h j9];have hm:(m7:Int)=1000000:=rfl;show(if(decide _&&decide _)=true then some (Re.ok _ .fresh)else none)=_;rw[f8 (by rw[A0 IK,A0 IK];rfl),B7];unfold nD
 congr 4
 funext i
 rw[jH]
theorem Ik(hd:d∈cutD ds l h):d∈ds:=by
 unfold cutD at hd;exact eT (eR hd)
theorem Il(h:δ[i]? = some (.val (tT rows)))(h8:rows.length<=8)(a:∀r∈rows,r.length<=8):evE G F (.bi .tuple [.comp (.bi .tuple [.comp (.bin .Sub (.int 9) (.var 0)) (.one 0) (.var 0) [none]]) (.one 0) (.var i) [none]]) δ=some (.ok (tT (ngT rows)) .strong):=by
 have hm:m7=1000000:=rfl;have o:=G4 (F:=F) (δ:=δ) (l:=rows) (f:=λ r=>.tup (iD (r.map ng))) (elt:=.bi .tuple [.comp (.bin .Sub (.int 9) (.var 0)) (.one 0) (.var 0) [none]]) (tg:=.one 0) (fr:=[none]) (by rw[f6 h];rfl) IL IK λ r b=>⟨[.val (.tup (iD r))],.strong,rfl,?_,rfl⟩
 ·have e:(rows.map λ r=>DV.tup (iD (r.map ng)))=(ngT rows).map λ r=>.tup (iD r):=by unfold ngT;rw[q5];rfl
  rw[e]at o;exact aI o
 ·have:=a r b;have c:=G4 (F:=F) (δ:=[.val (.tup (iD r))]) (l:=r) (h:=DV.int) (f:=λ x=>.int (ng x)) (elt:=.bin .Sub (.int 9) (.var 0)) (tg:=.one 0) (it:=.var 0) (fr:=[none]) rfl IL IK λ x _=>⟨[.val (.int x)],.strong,rfl,am (i4 (i:=9)) (f6 rfl),rfl⟩;have e:(r.map λ x=>DV.int (ng x))=iD (r.map ng):=by unfold iD;rw[q5];rfl
  rw[e]at c;exact aI c
theorem Im(ns:on Int)(a6:ns.length<=63):run G T 100 60 42 [.scr ns]=some (.v (.bl true) false):=by
 obtain⟨n,m,g,t,e1⟩:=Hn (fu:=100) (k:=56) ns a6;have s:=xa t;have K:=t.n0;have S:=t.n8;have M:=t.m0;have N:=t.m8;obtain⟨p,ok,ep⟩:=wH (fu:=100) (k:=41) t.R t.w9 K M S N (G5 t.fr) (G5 t.fc);obtain⟨q,W,eq⟩:=wG (fu:=100) (k:=41) t.R t.w9 K M S N (G5 t.fr) (G5 t.fc);obtain⟨p',a4,_⟩:=wH (fu:=100) (k:=41) s.R s.w9 K M S N (G5 s.fr) (G5 s.fc);obtain⟨q',a3,_⟩:=wG (fu:=100) (k:=41) s.R s.w9 K M S N (G5 s.fr) (G5 s.fc);have b1:run G T 100 59 22 [tT g]=some (.v (.int (Vt jB m g:Nat)) false):=vW (fu:=100) (k:=50) g n m t.R t.w9 K IK M IK (G5 t.fr) (G5 t.fc);have b2:run G T 100 59 23 [tT g]=some (.v (.int (Vt jE m g:Nat)) false):=vV (fu:=100) (k:=50) g n m t.R t.w9 K IK M IK (G5 t.fr) (G5 t.fc);have b3:run G T 100 59 22 [tT (ngT g)]=some (.v (.int (Vt jB m (ngT g):Nat)) false):=vW (fu:=100) (k:=50) (ngT g) n m s.R s.w9 K IK M IK (G5 s.fr) (G5 s.fc);have b4:run G T 100 59 23 [tT (ngT g)]=some (.v (.int (Vt jE m (ngT g):Nat)) false):=vV (fu:=100) (k:=50) (ngT g) n m s.R s.w9 K IK M IK (G5 s.fr) (G5 s.fc);rw[xb (.inl rfl) t ok a4]at b3;rw[xb (.inr rfl) t W a3]at b4;have vp:p.deep=Vt jB m g:=by rw[←bV];exact ok.val
 have vq:q.val jE=Vt jE m g:=W.val;have l1:Vt jE m g<=2^Vt jB m g:=by rw[←vp];exact i9 (Z6 (.inr rfl) t ok.to) (nK p)
 have l2:wsN g<=Vt jE m g:=by rw[←vq];exact Ig t.R W.to
 have l3:(Vt jB m g==0)=(wsN g==1):=by rw[←vp];exact Ih t ok
 have l4:Vt jE m g<=p.val jE:=Z6 (.inr rfl) t ok.to;have l5:Vt jB m g<=q.deep:=by rw[←bV];exact Z6 (.inl rfl) t W.to
 have f1:=ok.few;have f2:=W.few;have dp:=eB (fu:=100) p 59 IK;have dq:=eB (fu:=100) q 59 IK;have np:=eC (fu:=100) p 59 IK;have nq:=eC (fu:=100) q 59 IK;rw[vp]at dp;rw[vq]at nq;have any:∀p:Pn,(∀i j,i<n->j<m->p.rch i j=mf g i j)->Vt jB m g<=p.deep/\Vt jE m g<=p.val jE:=λ p U=>⟨by rw[←bV];exact Z6 (.inl rfl) t U,Z6 (.inr rfl) t U⟩;have b8:Vt jB m g<=8:=by omega
 generalize Vt jB m g=b at *;generalize Vt jE m g=e at *;obtain⟨P,hP⟩:∃d,p.D=d:=⟨_,rfl⟩;obtain⟨Q,hQ⟩:∃d,q.D=d:=⟨_,rfl⟩;rw[hP]at ep dp np;rw[hQ]at eq dq nq;have rl:∀r∈g,r.length<=8:=λ r hr=>by rw[t.R.2 r hr];exact N
 have rn:g.length=n:=t.R.1;obtain⟨z5,fw⟩:=xc (F:=run G T 100 59) (fu:=100) (rows:=g) (ns:=ns) (b:=b) (e:=e) g [] .no rl (by rw[rn];show 0+_<=_;omega);rw[cC]at fw;have fl:g.flatten.length<=64:=by
  rw[List.length_flatten];have:∀R:on (on Int),(∀r∈R,r.length<=8)->(R.map List.length).sum<=R.length*8:=λ R=>by
   induction R with
   | nil=>intro _;exact k8 _
   | cons a R ih=>
    intro h;have h1:=h a (o5 ..);have h2:=ih λ r hr=>h r (o4 _ hr)
    rw[B3,cK,w6,cL];omega
  have:=this g rl;omega
 let L (J E C A x y o:Sv):=lS ns g b e g.flatten z5 J E C A x y o
 have s2:=i5 (G:=G) (F:=run G T 100 59) (δ:=[.val (.scr ns),.val (tT g),.no,.no,.no,.no,.no,.no,.no,.no,.no,.no,.no]) (f:=22) (es:=[.var 1]) (l:=[(tT g,.strong)]) rfl rfl b1;have s3:=i5 (G:=G) (F:=run G T 100 59) (δ:=[.val (.scr ns),.val (tT g),.val (.int (b:Int)),.no,.no,.no,.no,.no,.no,.no,.no,.no,.no]) (f:=23) (es:=[.var 1]) (l:=[(tT g,.strong)]) rfl rfl b2
 let D3:on Sv:=[.val (.scr ns),.val (tT g),.val (.int (b:Int)),.val (.int (e:Int)),.no,.no,.no,.no,.no,.no,.no,.no,.no]
 have i1:=di (i5 (G:=G) (F:=run G T 100 59) (δ:=D3) (f:=29) (es:=[.var 2]) (l:=[(.int (b:Int),.strong)]) rfl rfl (uo (fu:=100) (k:=58) (x:=(b:Int))));have i2:=di (i5 (G:=G) (F:=run G T 100 59) (δ:=D3) (f:=29) (es:=[.var 3]) (l:=[(.int (e:Int),.strong)]) rfl rfl (uo (fu:=100) (k:=58) (x:=(e:Int))));have i3:=b_gt (f6 (G:=G) (F:=run G T 100 59) (δ:=D3) (n:=3) (d:=.int (e:Int)) rfl) (dY (f6 (n:=2) (d:=.int (b:Int)) rfl) IK);rw[C7 IK]at i3;have t4:=or_f i1 (or_f i2 (or_1 i3));have ls:=Ij (F:=run G T 100 59) (δ:=L .no .no .no .no .no .no .no) (e:=.var 4) (w:=g.flatten) (c:=.strong) rfl IK;have j1:=b_lt (f6 (G:=G) (F:=run G T 100 59) (δ:=L .no .no .no .no .no .no .no) (n:=3) (d:=.int (e:Int)) rfl) ls;rw[C7 (by have:wsN g=(g.flatten.foldl dk []).length:=rfl;omega)]at j1;have j2:=H9 (V9 (f6 (G:=G) (F:=run G T 100 59) (δ:=L .no .no .no .no .no .no .no) (n:=2) (d:=.int (b:Int)) rfl) (i4 (i:=((0:Nat):Int)))) (V9 ls (i4 (i:=((1:Nat):Int)))) (show cmpD .NotEq (.bl (b==0)) (.bl ((g.flatten.foldl dk []).length==1))=some false by rw[l3];cases(wsN g==1)<;>rfl);have t7:=or_f j1 (or_1 j2);obtain⟨c0,ec⟩:=mI (fu:=100) (k:=58) ns 0;have g1:=hZ (F:=run G T 100 59) (δ:=L .no .no .no .no .no .no .no) (f7 (i5 (G:=G) (F:=run G T 100 59) (δ:=L .no .no .no .no .no .no .no) (f:=30) (es:=[.var 0,.int 0]) (l:=[(.scr ns,.strong),(.int 0,.strong)]) rfl rfl ec) j9) (show 1<=m7 by decide) rfl;have g2:evE G (run G T 100 59) (.sl (.var 0) (.int 1) (.int 21)) (L .no .no .no .no .no .no .no)=some (.ok (.lst (cutD (ns.map DV.int) (some 1) (some 21))) .fresh):=rfl;have cl:(cutD (ns.map DV.int) (some 1) (some 21)).length<=63:=(by unfold cutD;refine i9 (List.length_take_le' ..) ?_;rw[W5,g6];omega);have g3:=aM g1 g2 (by show 1+_<=_;omega);obtain⟨u,B⟩:∃l,[DV.int c0]++cutD (ns.map DV.int) (some 1) (some 21)=l:=⟨_,rfl⟩;have ci:∀d∈u,∃c,d=DV.int c:=λ d hd=>by
  rw[←B]at hd;rcases F5.mp hd with z | z
  ·exact⟨c0,u4.mp z⟩
  ·obtain⟨c,_,rfl⟩:=i8.mp (Ik z);exact⟨c,rfl⟩
 have g4:s9 (evE G (run G T 100 59) (.bin .Add (.lst [.call 30 [.var 0,.int 0]]) (.sl (.var 0) (.int 1) (.int 21))) (L .no .no .no .no .no .no .no))=some (.ok u .fresh):=by rw[g3,←B];rfl
 have X:∃H,B4 (.one 6) (λ H=>evSs G (run G T 100 59) 100 [.set 7 false (.bi .lrng [.bi .len [.var 1]]),.set 8 false (.bi .lrng [.bi .len [.ix (.var 1) (.int 0)]]),.set 9 false (.call 41 [.var 1,.var 7,.var 8,.call 31 [.var 6,.int 61],.int 0,.int 1]),.iff (.or [.not (.call 38 [.var 9,.var 1]),.cmp .Gt (.var 2) (.call 36 [.var 9]),.cmp .Gt (.var 3) (.call 37 [.var 9])]) [.ret (.bl false)] []] H) u (L .no .no .no .no .no .no .no)=some (.nx H)/\∃J E C A,H=L J E C A .no .no .no:=by
  refine gc (I:=λ δ=>∃J E C A,δ=L J E C A .no .no .no) (λ d hd δ h=>?_) ⟨_,_,_,_,rfl⟩;obtain⟨J,E,C,A,rfl⟩:=h;obtain⟨c,rfl⟩:=ci d hd;obtain⟨xs,hx,es⟩:=nh (fu:=100) (k:=58) c 61 IL;obtain⟨O,pd,pt,pe⟩:=wV (fu:=100) (k:=40) t.R S N (xs:=xs) IK 17 (List.range n) (List.range m) 0 1 (by rw[A6,A6];omega) (by rw[A6];exact K) (by rw[A6];exact M) (by rw[A6];exact S) (by rw[A6];exact N) fh fh (λ i hi=>r9.mp hi) (λ j hj=>r9.mp hj);have U:∀i j,i<n->j<m->O.rch i j=mf g i j:=λ i j hi hj=>pt i (r9.mpr hi) j (r9.mpr hj);obtain⟨a1,a2⟩:=any O U;have r1:=xf (F:=run G T 100 59) (δ:=L (IU c) E C A .no .no .no) (lenT t.R (f6 (n:=1) (d:=tT g) rfl)) IK
  let D8:=L (IU c) (.val (.lst (nD (List.range n)))) (.val (.lst (nD (List.range m)))) A .no .no .no
  have st:=i5 (G:=G) (F:=run G T 100 59) (δ:=D8) (f:=31) (es:=[.var 6,.int 61]) (l:=[(.int c,.strong),(.int 61,.strong)]) rfl rfl es;have r3:=i5 (G:=G) (F:=run G T 100 59) (δ:=D8) (f:=41) (f7 (f6 (n:=1) (d:=tT g) rfl) (f7 (f6 (n:=7) (d:=.lst (nD (List.range n))) rfl) (f7 (f6 (n:=8) (d:=.lst (nD (List.range m))) rfl) (f7 st (f7 (i4 (i:=0)) (f7 (i4 (i:=((1:Nat):Int))) j9)))))) rfl pe
  let Y:=L (IU c) (.val (.lst (nD (List.range n)))) (.val (.lst (nD (List.range m)))) (.val O.D) .no .no .no
  have v9:evE G (run G T 100 59) (.var 9) Y=some (.ok O.D .strong):=f6 rfl;have u1:=di (i5 (G:=G) (F:=run G T 100 59) (δ:=Y) (f:=38) (f7 v9 (f7 (f6 (n:=1) (d:=tT g) rfl) j9)) rfl (HM (fu:=100) (k:=57) t.R K S N (p:=O) IK U));have u2:=b_gt (f6 (G:=G) (F:=run G T 100 59) (δ:=Y) (n:=2) (d:=.int (b:Int)) rfl) (i5 (f:=36) (f7 v9 j9) rfl (eB (fu:=100) O 59 IK));rw[C7 IK]at u2;have u3:=b_gt (f6 (G:=G) (F:=run G T 100 59) (δ:=Y) (n:=3) (d:=.int (e:Int)) rfl) (i5 (f:=37) (f7 v9 j9) rfl (eC (fu:=100) O 59 IK));rw[C7 IK]at u3;exact⟨L (IU c) E C A .no .no .no,Y,rfl,i6 (n9 r1 rfl) (i6 (n9 (xf (iq t.R K (f6 rfl)) IK) rfl) (i6 (n9 r3 rfl) (x8 (o7 (or_f u1 (or_f u2 (or_1 u3)))) rfl))),_,_,_,_,rfl⟩
 obtain⟨H,lp,J,E,C,A,rfl⟩:=X;have k1:=i5 (G:=G) (F:=run G T 100 59) (δ:=L J E C A .no .no .no) (f:=24) (es:=[.var 1]) (l:=[(tT g,.strong)]) rfl rfl ep;have k2:=i5 (G:=G) (F:=run G T 100 59) (δ:=L J E C A (.val P) .no .no) (f:=25) (es:=[.var 1]) (l:=[(tT g,.strong)]) rfl rfl eq
 let v:=L J E C A (.val P) (.val Q) .no
 have vb:evE G (run G T 100 59) (.var 2) v=some (.ok (.int (b:Int)) .strong):=f6 rfl;have ve:evE G (run G T 100 59) (.var 3) v=some (.ok (.int (e:Int)) .strong):=f6 rfl;have h1:=b_ne (i5 (G:=G) (F:=run G T 100 59) (δ:=v) (f:=36) (es:=[.var 10]) (l:=[(P,.strong)]) rfl rfl dp) vb;have h2:=b_ne (i5 (G:=G) (F:=run G T 100 59) (δ:=v) (f:=37) (es:=[.var 11]) (l:=[(Q,.strong)]) rfl rfl nq) ve;rw[jd]at h1 h2;have h3:=b_lt (i5 (G:=G) (F:=run G T 100 59) (δ:=v) (f:=37) (es:=[.var 10]) (l:=[(P,.strong)]) rfl rfl np) ve;have h4:=b_lt (i5 (G:=G) (F:=run G T 100 59) (δ:=v) (f:=36) (es:=[.var 11]) (l:=[(Q,.strong)]) rfl rfl dq) vb;rw[C7 IK]at h3 h4;have a0:=or_f h1 (or_f h2 (or_f h3 (or_1 h4)));have a5:=Il (F:=run G T 100 59) (δ:=v) (i:=1) (rows:=g) rfl IK rl
 let Z:=L J E C A (.val P) (.val Q) (.val (tT (ngT g)))
 have y1:=V9 (i5 (G:=G) (F:=run G T 100 59) (δ:=Z) (f:=22) (es:=[.var 12]) (l:=[(tT (ngT g),.strong)]) rfl rfl b3) (f6 (n:=2) (d:=.int (b:Int)) rfl);have y2:=V9 (i5 (G:=G) (F:=run G T 100 59) (δ:=Z) (f:=23) (es:=[.var 12]) (l:=[(tT (ngT g),.strong)]) rfl rfl b4) (f6 (n:=3) (d:=.int (e:Int)) rfl);rw[U0]at y1 y2;have s1:=i5 (G:=G) (F:=run G T 100 59) (δ:=o9 13 [.scr ns]) (f:=33) (es:=[.var 0,.int 2]) (l:=[(.scr ns,.strong),(.int 2,.strong)]) rfl rfl e1;have w5:s9 (evE G (run G T 100 59) (.var 1) (lS ns g b e [] .no .no .no .no .no .no .no .no))=some (.ok (g.map λ r=>.tup (iD r)) .strong):=rfl;rw[p7 (fd:=hU) rfl rfl];unfold hU;exact p9 (i6 (n9 s1 rfl) (i6 (n9 s2 rfl) (i6 (n9 s3 rfl) (x8 (o7 t4) (i6 (n9 (d:=.lst []) (cl:=.fresh) rfl rfl) (J5 w5 (.inl rfl) fw (x8 (o7 t7) (J5 g4 (.inr rfl) lp (i6 (n9 k1 rfl) (i6 (n9 k2 rfl) (x8 (o7 a0) (i6 (n9 a5 rfl) (o6 (r6 (bP y1 (dW y2))))))))))))))))
end k23
end
noncomputable section
namespace k23
open PySem PySem.W L2 PySem.Spec PyProof.Rows
theorem lnS(h:b.length=n+1):∃a r,b=a::r/\r.length=n:=by cases b with | nil=>cases h | cons a r=>exact⟨a,r,rfl,Nat.succ.inj h⟩
theorem ln0(h:a.length=0):a=[]:=W0.mp h
theorem ln1{α:Type}{us:on α}(h:us.length=1):∃a0,us=[a0]:=by obtain⟨_,_,rfl,h0⟩:=lnS h;obtain rfl:=ln0 h0;exact⟨_,rfl⟩
theorem ln2{α:Type}{us:on α}(h:us.length=2):∃a0 a1,us=[a0,a1]:=by obtain⟨_,_,rfl,h0⟩:=lnS h;obtain⟨_,_,rfl,h1⟩:=lnS h0;obtain rfl:=ln0 h1;exact⟨_,_,rfl⟩
theorem ln3{α:Type}{us:on α}(h:us.length=3):∃a0 a1 a2,us=[a0,a1,a2]:=by obtain⟨_,_,rfl,h0⟩:=lnS h;obtain⟨_,_,rfl,h1⟩:=lnS h0;obtain⟨_,_,rfl,h2⟩:=lnS h1;obtain rfl:=ln0 h2;exact⟨_,_,_,rfl⟩
theorem ln6{α:Type}{us:on α}(h:us.length=6):∃a0 a1 a2 a3 a4 a5,us=[a0,a1,a2,a3,a4,a5]:=by obtain⟨_,_,rfl,h0⟩:=lnS h;obtain⟨_,_,rfl,h1⟩:=lnS h0;obtain⟨_,_,rfl,h2⟩:=lnS h1;obtain⟨_,_,rfl,h3⟩:=lnS h2;obtain⟨_,_,rfl,h4⟩:=lnS h3;obtain⟨_,_,rfl,h5⟩:=lnS h4;obtain rfl:=ln0 h5;exact⟨_,_,_,_,_,_,rfl⟩
def fn:on Str:=fnl
def bl:on Str:=bll
def cl:on Str:=cll
theorem ok17:okD fn bl cl mD ["no","yes"] ["no","yes"] (top 25)=true:=by decide +kernel
theorem ok18:okD fn bl cl ub ["no","yes"] ["no","yes"] (top 26)=true:=by decide +kernel
theorem ok42:okD fn bl cl hU ["_law_script","_law_table_here","_law_bits","_law_ends_here","_law_words","_law_row","_law_cell","_law_rows","_law_columns","_law_plan","_law_one","_law_two","_law_other"] ["_law_script"] (top 52)=true:=by decide +kernel
abbrev ck(P:Params)(x:Str)(f:Iv)(i:Nat)(dV pm:Is)(cd:Iv):Prop:=(nsIn (kK P) mainGlobals x,(kK P).lookup f,codeIn (kK P) (.ref cd) x,keepIn (kK P) (.ref f))=(some (some (.ref f)),some (fo x i dV pm cd),true,true)
theorem ck4{P:Params}{x:Str}{f:Iv}{i:Nat}{dV pm:Is}{cd:Iv}(q:ck P x f i dV pm cd):nsIn (kK P) mainGlobals x=some (some (.ref f))/\(kK P).lookup f=some (fo x i dV pm cd)/\codeIn (kK P) (.ref cd) x=true/\keepIn (kK P) (.ref f)=true:=by
 obtain⟨a,b⟩:=Prod.mk.inj q;obtain⟨b,c⟩:=Prod.mk.inj b;exact⟨a,b,Prod.mk.inj c⟩
theorem kN(P:Params):((kK P).map (·.1)).Nodup:=by rw[show(kK P).map (·.1)=kA by kernel_rfl];decide +kernel
theorem kM(P:Params):((A2 (kK P)).map (·.1)).Nodup:=by rw[show(A2 (kK P)).map (·.1)=[16,60,65,72,79,84,89,94,101,108,115,122,129,136,143,148,155,162,169,176,181,186,191,198,205,212,219,226,231,236,243,250,257,262,267,281,288,295,302,309,316,321] by kernel_rfl];decide +kernel
theorem zz(P:Params):bl.map (nsIn (kK P) mainGlobals)=bl.map λ _=>some none:=by kernel_rfl
abbrev pm0:Is:=(.str "talkleast.checks" 187)
abbrev pm1:Is:=(.str "talkleast.tables" 250)
abbrev pm2:Is:=(.str "talkleast.parts" 333)
abbrev pm3:Is:=(.str "talkleast.least" 403)
abbrev pm4:Is:=IW
theorem sk{w:Iz}{h:Iw}{mg:Str->Ir Is}{x:Str}(f:Iv)(i:Nat){d:FD}(pm:Is)(N ps:on Str)(X:(kK w.params).In h)(Ns:h.Ns mainGlobals mg)(ok:okD fn bl cl d N ps (top i)=true:=by decide +kernel)(q:ck w.params x f i .none pm (f - 1):=by kernel_rfl)(hb:∀(kV doc pm:Is) (an:Ir Iv) (cdv ct:Is) (us:on Is),us.length=ps.length->bindArgs (fnOf x x (P8 (top i)) (L5 (top i)) (A1 (top i)) .none kV doc pm an cdv ct) ⟨us,[]⟩=pure (ps.zip us):=by(intro _ _ _ _ _ _ us hl;first | (obtain⟨_,rfl⟩:=ln1 hl;rfl) | (obtain⟨_,_,rfl⟩:=ln2 hl;rfl) | (obtain⟨_,_,_,rfl⟩:=ln3 hl;rfl) | (obtain⟨_,_,_,_,_,_,rfl⟩:=ln6 hl;rfl)))(dq:dqB x (A1 (top i)).names=true:=by decide +kernel):Stands (kK w.params) mg fn bl cl d x f (fnOf x x (P8 (top i)) (L5 (top i)) (A1 (top i)) .none .none .none pm none (.ref (f - 1)) .none) ps:=by
 obtain⟨a,l,c,k⟩:=ck4 q;exact hL X Ns ok a l c k hb dq
open PySem.W
theorem all_mk{l:OpenLaw}{w:Iz}{h:Iw}{mg:Str->Ir Is}{fa:Iv}(X:(kK w.params).In h)(Ns:h.Ns mainGlobals mg)(hfa:mg "law" = some (.ref fa)):∃fd:ID,(∀(s:Iu) (v:Is),BindsTo s fd ⟨[v],[]⟩ [("_law_script",v)])/\∀base:Iw,(kK w.params).In base->base.Ns mainGlobals mg->FnOk l.prog w (kK w.params) mg base CX0 60 fa fd ["_law_script"] (spS (kK w.params)):=by
 obtain⟨a17,l17,c17,k17⟩:=ck4 (P:=w.params) (x:="joined_bits") (f:=167) (i:=25) (dV:=.none) (pm:=(.str "talkleast.parts" 333)) (cd:=166) (by kernel_rfl);have S17:=hL X Ns ok17 a17 l17 c17 k17 λ _ _ _ _ _ _ us hl=>by obtain⟨_,_,rfl⟩:=ln2 hl;rfl
 obtain⟨a18,l18,c18,k18⟩:=ck4 (P:=w.params) (x:="joined_ends") (f:=174) (i:=26) (dV:=.none) (pm:=(.str "talkleast.parts" 333)) (cd:=173) (by kernel_rfl);have S18:=hL X Ns ok18 a18 l18 c18 k18 λ _ _ _ _ _ _ us hl=>by obtain⟨_,_,rfl⟩:=ln2 hl;rfl
 obtain⟨a42,l42,c42,k42⟩:=ck4 (P:=w.params) (x:="law") (f:=324) (i:=52) (dV:=.none) (pm:=IW) (cd:=323) (by kernel_rfl);have S42:=hL X Ns ok42 a42 l42 c42 k42 λ _ _ _ _ _ _ us hl=>by obtain⟨_,rfl⟩:=ln1 hl;rfl
 have e:=hfa.symm.trans (mg_of X Ns a42);cases e;have HC:∀x d,G.con.lookup x=some d->∃u v,mg x=some u/\RelV v u/\∀H,Rep ⟨kK w.params,mg⟩ H d v:=by
  intro x d h;have g0:nsIn (kK w.params) mainGlobals "SMALL_LINES" = some (some (.int 5 252)):=by kernel_rfl
  exact my ⟨_,.int _,mg_of X Ns g0,⟨_,rfl⟩,λ H=>C3.mpr rfl⟩ (my ⟨_,.ref _,S17.mg,rfl,λ H=>lv.mpr ⟨_,rfl,S17.mg⟩⟩ (my ⟨_,.ref _,S18.mg,rfl,λ H=>lv.mpr ⟨_,rfl,S18.mg⟩⟩ (Gg))) x d h
 have HSS:HS (kK w.params) mg fn bl cl T fn:=(t6 (sk 21 1 pm0 ["thing","least","most"] ["thing","least","most"] X Ns) (t6 (sk 63 8 pm1 ["table"] ["table"] X Ns) (t6 (sk 70 9 pm1 ["table","rows","columns"] ["table","rows","columns"] X Ns) (t6 (sk 77 10 pm1 ["cards","size"] ["cards","size"] X Ns) (t6 (sk 82 11 pm1 ["cards"] ["cards"] X Ns) (t6 (sk 87 12 pm1 ["table","rows","columns"] ["table","rows","columns"] X Ns) (t6 (sk 92 13 pm1 ["table"] ["table"] X Ns) (t6 (sk 99 14 pm1 ["table"] ["table"] X Ns) (t6 (sk 106 15 pm1 ["table"] ["table"] X Ns) (t6 (sk 113 16 pm1 ["table","rest"] ["table"] X Ns) (t6 (sk 120 17 pm1 ["table"] ["table"] X Ns) (t6 (sk 127 18 pm1 ["table","words","row"] ["table"] X Ns) (t6 (sk 134 20 pm2 ["table"] ["table"] X Ns) (t6 (sk 141 21 pm2 ["table"] ["table"] X Ns) (t6 (sk 146 22 pm2 ["numbers"] ["numbers"] X Ns) (t6 (sk 153 23 pm2 ["table"] ["table"] X Ns) (t6 (sk 160 24 pm2 ["table"] ["table"] X Ns) (t6 S17 (t6 S18 (t6 (sk 179 27 pm2 ["table","ground","joined","rest","numbers","rows","columns","ways"] ["table","ground","joined"] X Ns) (t6 (sk 184 28 pm2 ["rows","columns","by_rows","by_columns"] ["rows","columns"] X Ns) (t6 (sk 189 29 pm2 ["cards"] ["cards"] X Ns) (t6 (sk 196 31 pm3 ["table"] ["table"] X Ns) (t6 (sk 203 32 pm3 ["table"] ["table"] X Ns) (t6 (sk 210 33 pm3 ["table"] ["table"] X Ns) (t6 (sk 217 34 pm3 ["table"] ["table"] X Ns) (t6 (sk 224 35 pm3 ["table","numbers","joined","rest","own","plan_of"] ["table","numbers","joined"] X Ns) (t6 (sk 229 36 pm3 ["kinds"] ["kinds"] X Ns) (t6 (sk 234 37 pm3 ["cards","sets"] ["cards","sets"] X Ns) (t6 (sk 241 39 pm4 ["_law_found"] ["_law_found"] X Ns) (t6 (sk 248 40 pm4 ["_law_script","_law_k"] ["_law_script","_law_k"] X Ns) (t6 (sk 255 41 pm4 ["_law_cell","_law_many","_law_found","_law_rest","_law_k","_law_number","_law_mixed"] ["_law_cell","_law_many"] X Ns) (t6 (sk 260 42 pm4 ["_law_script","_law_start","_law_xs","_law_most","_law_many","_law_wide","_law_top","_law_words","_law_k","_law_rows"] ["_law_script","_law_start","_law_xs"] X Ns) (t6 (sk 265 43 pm4 ["_law_script","_law_start","_law_xs","_law_rows","_law_k","_law_at","_law_there"] ["_law_script","_law_start"] X Ns) (t6 (sk 272 44 pm4 ["_law_plan","_law_row","_law_column","_law_card"] ["_law_plan","_law_row","_law_column"] X Ns) (t6 (sk 21 1 pm0 ["thing","least","most"] ["thing","least","most"] X Ns) (t6 (sk 286 46 pm4 ["_law_plan"] ["_law_plan"] X Ns) (t6 (sk 293 47 pm4 ["_law_plan"] ["_law_plan"] X Ns) (t6 (sk 300 48 pm4 ["_law_plan","_law_table_here","_law_r","_law_c"] ["_law_plan","_law_table_here"] X Ns) (t6 (sk 307 49 pm4 ["_law_cards","_law_xs","_law_at","_law_kept","_law_k"] ["_law_cards","_law_xs","_law_at"] X Ns) (t6 (sk 314 50 pm4 ["_law_cards","_law_kept","_law_number","_law_some","_law_card"] ["_law_cards","_law_kept","_law_number"] X Ns) (t6 (sk 319 51 pm4 ["_law_table_here","_law_rows","_law_columns","_law_xs","_law_at","_law_room","_law_words","_law_r","_law_number","_law_both","_law_by_rows","_law_kept","_law_no","_law_yes"] ["_law_table_here","_law_rows","_law_columns","_law_xs","_law_at","_law_room"] X Ns) (t6 S42 Ge)))))))))))))))))))))))))))))))))))))))))));refine⟨_,λ s v=>.of_eq rfl,λ base _ _=>Gh (T:=T) (G:=G) (fu:=100) rfl HSS (λ x hx=>mg_none_of X Ns (List.map_inj_left.mp (zz _) x hx)) HC (i:=42) rfl rfl S42 (λ _=>⟨⟨rfl,rfl,rfl⟩,by decide,λ i d x qual st fa fd _ _ _ F=>Gj (K:=kK w.params) (by kernel_rfl) F⟩) (by unfold T;repeat' (first | (refine List.forall_mem_cons.mpr ⟨?_,?_⟩) | exact Or.inl rfl | exact Or.inr rfl | exact λ _ h=>nomatch h)) Im⟩
end k23
open PySem PySem.W PyProof.Rows
set_option maxRecDepth 100000 in
set_option maxHeartbeats 0 in
theorem PySem.Challenge.cw_talkleast_k23_whole_no_plan_has_fewer_holds : PySem.Challenge.rw_talkleast_k23_whole_no_plan_has_fewer.Holds := by
 refine holds_law (by kernel_rfl) λ said => ?_
 refine holds_open (q := k23.kQ) (loose := k23.kL) (Xt := λ s => xlAt k23.kQ [] s && recOk (RowW.records (OpenRow.toRowW (OpenLaw.row PySem.Challenge.rw_talkleast_k23_whole_no_plan_has_fewer))) s) (XP := XL k23.kQ []) (Yf := (kHook k23.kAll k23.kB k23.kE).obs) (Ya := (kHook k23.kAll k23.kB k23.kE).val) (YP := (kHook k23.kAll k23.kB k23.kE).says) (N := 3964) k23.kLeft (kHook k23.kAll k23.kB k23.kE).of (kHook k23.kAll k23.kB k23.kE).keeps (λ s e => xl_of s (L3.mp e).1) XL.keeps (by rfl) (by rfl) (by rfl) (λ s e => recFacts_of (L3.mp e).2) (by rfl) said (by decide +kernel) ⟨rfl, rfl, rfl, rfl, rfl, by decide +kernel⟩ ?hw ?hc
 case hw => w_witness2
 exact L2.walkE (l := PySem.Challenge.rw_talkleast_k23_whole_no_plan_has_fewer) (k := 60) (p := "_law_script") rfl rfl ⟨rfl, by decide, by decide⟩ (λ w h Y => (L2.in_app (kIn_of Y) (by kernel_rfl)).1) (λ w h Y => ⟨L2.htb_of (T := k23.kT) (L2.in_app (kIn_of Y) (by kernel_rfl)).1 (L2.in_app (kIn_of Y) (by kernel_rfl)).2 (k23.kN _) (by kernel_rfl), k23.kM _⟩) λ w mg fa h KX G hmg => k23.all_mk KX G hmg
end

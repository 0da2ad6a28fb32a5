import PyProof.Rows.All
import Wide.All
import OpenK.AllK
import Wide.FinOn
import Lean
import PyProof.EqAt
import PyProof.EqKinds
import PyProof.TupleCall
import PyProof.ExcAttrAll.ValueError
import PyProof.ZipIter
import PyProof.TupleIter
import PyProof.P3In
import PyProof.Rows.SeqMore2
import PyProof.FactsAll.tuple_3
import PyProof.FactsAll.list_3
import PyProof.Rows.Range3
import KE.KRevIter
import PyProof.Rows.FactsT2
import PySem.Builtin.Int.W1All
import KE.KSortAsk
import PyProof.SetScanFacts
import PyProof.SetKind
import PyProof.DictKinds
import PyProof.DictStraight
import PyProof.Rows.SetFrom
import PyProof.CollectWalk
import PyProof.Seq
import PyProof.DictIter
import PyProof.Rows.Tup
import PyProof.FactsAll.set_1
import PyProof.FactsAll.set_2
import PyProof.Rows.SortWalk
import PyProof.ConsumeWalk
import PyProof.Rows.SumAny
import PySem.Syntax
import PySem.Eval
import KE.KLam
import PyProof.StrWalks
import PyProof.StrOps
import PyProof.StrCalls2
import PyProof.StrLawsTight
import PyProof.StrLawsFirst
import PyProof.StrLawsChain
import PyProof.StrLawsIn
import PyProof.Rows.StrJoin2
import PyProof.Rows.StrItems
import PyProof.CallStr
import KE.KIntText
import PyProof.SliceStr2
import PyProof.StrLaws
import PyProof.StrLawsIdx
import PyProof.IsRules
import PyProof.MaxThree
import PyProof.DictTable
import PyProof.EnumMake
import PyProof.DictItems
import PyProof.DictItemsLoops
import PyProof.MeetsDict
import PyProof.DictWalks
import PyProof.RulesTry
import KE.KPairComp
import PySem.Challenge.RW_talkleast_k35_whole_bounds_of_blocks
set_option compiler.extract_closed false
set_option genSizeOf false
set_option genInjectivity false
set_option bootstrap.genMatcherCode false
set_option Elab.async false
set_option linter.all false
set_option maxRecDepth 100000
set_option maxHeartbeats 4000000
set_option hygiene false
local macro_rules|`(Jy)=>`((by omega))|`(Jz)=>`((by decide))|`(JB)=>`(⟨.none,none,.fields #[],#[]⟩)|`(JC)=>`((s.heap.push {cls:=.type "list",data:=.seq ([]:ge Jg).toArray}))|`(JD)=>`((FI (flip m rows)))|`(JE)=>`((model X.prog X.w))|`(JF)=>`((flip m rows))|`(JG)=>`((model prog w))|`(JI)=>`((by intro z;cases z))|`(JN)=>`((by simp))
local macro_rules|`(JA $a $b $c)=>`(evE G F $a δ=some (.ok $c $b))|`(JH $a)=>`((.val (.int $a)))|`(JJ $a)=>`((List.range $a))|`(JK $a)=>`((run G T fu $a))|`(JM $a)=>`(Inv X $a σ H s)
set_option hygiene true
section
open PySem PySem.Spec PyProof.Rows
abbrev ge:=@List
abbrev on:=@Option
abbrev Jg:=@Value
abbrev Jh:=@Shared
abbrev Ji:=@Addr
abbrev Jj:=@Heap
abbrev Jk:=@Expr
abbrev Jl:=@Array
abbrev Jn:=@World
abbrev Jo:=@Program
abbrev Jp:=@Around
abbrev Jq:=@Stmt
abbrev Jr:=@FuncData
abbrev Js:=@PySem.W.Frag
abbrev Ju:=@Scope
abbrev Jv:=@Arguments
abbrev Jw:=@SetTable
abbrev Jx:=@String
abbrev d4:=@wpAny_bind
abbrev d6:=@Bool.and_eq_true
abbrev d7:=@List.length_map
abbrev g9:=@Heap.get?_push_of_some
abbrev j6:=@List.getElem?_eq_getElem
abbrev d9:=@wpAny_pure
abbrev i7:=@List.mem_cons_of_mem
abbrev e9:=@Nat.le_trans
abbrev i5:=@List.mem_cons_self
abbrev g5:=@List.mem_cons
abbrev f7:=@beq_iff_eq
abbrev f9:=@List.mem_map
abbrev p5:=@List.getD_eq_getElem?_getD
abbrev f8:=@Nat.le_refl
abbrev j2:=@List.mem_filter
abbrev i6:=@List.mem_range
abbrev d8:=@if_pos
abbrev p6:=@Option.bind_eq_some_iff
abbrev p9:=@Option.map_eq_some_iff
abbrev o4:=@Heap.get?_push_size
abbrev p7:=@List.getElem?_set_ne
abbrev o5:=@List.length_append
abbrev e8:=@if_neg
abbrev n7:=@List.length_cons
abbrev j7:=@Heap.lt_size
abbrev o8:=@List.getElem?_map
abbrev o9:=@List.length_range
abbrev q9:=@Nat.lt_of_lt_of_le
abbrev q0:=@Bool.not_eq_true'
abbrev r9:=@List.mem_singleton
abbrev k6:=@List.map_map
abbrev r3:=@List.size_toArray
abbrev x8:=@List.getElem?_eq_some_iff
abbrev v4:=@List.mem_append_right
abbrev t7:=@List.all_eq_true
abbrev o6:=@Nat.ne_of_lt
abbrev t5:=@List.map_append
abbrev w6:=@Array.length_toList
abbrev x9:=@Nat.pow_le_pow_right
abbrev v5:=@Int.toNat_natCast
abbrev x0:=@Bool.false_ne_true
abbrev t8:=@decide_eq_true
abbrev t9:=@List.map_cons
abbrev A4:=@beq_eq_false_iff_ne
abbrev z9:=@Int.natCast_nonneg
abbrev B6:=@List.mem_append_left
abbrev C4:=@List.length_filter_le
abbrev x4:=@decide_eq_false
abbrev C5:=@Bool.and_eq_true_iff
abbrev C6:=@decide_eq_true_iff
abbrev D1:=@PySem.mem_of_lookup
abbrev B7:=@wpAny_newObj_type
abbrev D2:=@List.map_congr_left
abbrev A5:=@List.mem_append
abbrev A6:=@List.append_nil
abbrev F6:=@Array.getElem?_toList
abbrev D3:=@List.pairwise_cons
abbrev A9:=@Option.some.inj
abbrev B0:=@List.length_set
abbrev K3:=@Array.getElem?_eq_getElem
abbrev D4:=@decide_eq_true_eq
abbrev v9:=@Nat.zero_le
abbrev J4:=@List.contains_iff_mem
abbrev D5:=@wpAny_call_entry
abbrev D6:=@List.lookup_cons
abbrev G4:=@Heap.SameBut.update
abbrev K4:=@List.getElem?_set_self
abbrev K5:=@Array.getElem?_eq_none
abbrev E6:=@List.length_take
abbrev D7:=@Option.map_some
abbrev M3:=@wpAny_callSpecial?_slot
abbrev E7:=@Bool.or_eq_true
abbrev C7:=@wpAny_holding
abbrev J5:=@wpAny_setField_rec
abbrev P6:=@List.getElem?_append_left
abbrev G5:=@Option.bind_some
abbrev R8:=@Array.getD_eq_getD_getElem?
abbrev K6:=@Bool.false_eq_true
abbrev K7:=@Nat.lt_of_le_of_lt
abbrev N8:=@List.length_singleton
abbrev S0:=@List.getElem?_append_right
abbrev J6:=@List.any_eq_true
abbrev K8:=@Nat.lt_succ_of_lt
abbrev V2:=@List.exists_mem_of_length_pos
abbrev B1:=@wpAny_mono
abbrev G6:=@Heap.size_push
abbrev J7:=@Bool.eq_iff_iff
abbrev K9:=@Option.getD_some
abbrev D8:=@wpAny_field
abbrev S2:=@List.length_eq_zero_iff
abbrev G7:=@List.any_cons
abbrev L0:=@List.nodup_cons
abbrev N9:=@List.append_assoc
abbrev V3:=@Option.isSome_iff_exists
abbrev S4:=@List.getElem?_eq_none
abbrev P7:=@List.ne_nil_of_mem
abbrev S5:=@List.mem_of_getElem?
abbrev O0:=@beq_self_eq_true
abbrev S6:=@Bool.or_eq_false_iff
abbrev L3:=@Bool.true_and
abbrev G8:=@sizeLine_eq
abbrev V4:=@List.length_pos_of_mem
abbrev S8:=@List.replicate_succ
abbrev V5:=@Heap.get?_update_self
abbrev P8:=@Nat.lt_succ_self
abbrev Z1:=@List.filter_cons_of_neg
abbrev Z2:=@List.filter_cons_of_pos
abbrev S9:=@List.length_drop
abbrev T0:=@List.getElem_mem
abbrev Z3:=@List.mem_iff_getElem?
abbrev aY:=@List.exists_mem_of_ne_nil
abbrev Z4:=@Heap.get?_none_of_le
abbrev aZ:=@List.getElem?_take_of_lt
abbrev T1:=@PySem.W.kia_one
abbrev V6:=@List.flatten_cons
abbrev P9:=@Nat.lt_irrefl
abbrev Q0:=@wpAny_attempt
abbrev T2:=@wpAny_setField
abbrev V7:=@Nat.le_add_right
abbrev V8:=@List.not_mem_nil
abbrev ba:=@Calls.callWith_builtin
abbrev bc:=@Nat.testBit_lt_two_pow
abbrev Q1:=@Nat.ne_of_gt
abbrev db:=@PyProof.Rows.callWith_type1
abbrev Q2:=@codeAny_mono
abbrev Z5:=@Obj.data_mapFields
abbrev Q3:=@Nat.lt_or_ge
abbrev Z6:=@Nat.pos_of_ne_zero
abbrev V9:=@wpAny_passesOwn
abbrev be:=@wpAny_loadPart'
abbrev de:=@F.slot_tuple_iterator_next
abbrev T3:=@List.map_take
abbrev T4:=@List.sum_cons
abbrev Z7:=@wpAny_truthy_bool
abbrev Z8:=@wpAny_setState_of
abbrev Z9:=@of_decide_eq_true
abbrev bf:=@Around.under_plainId
abbrev M4:=@eq_of_beq
abbrev Q4:=@Nat.le_succ
abbrev aa:=@wpAny_askSetting
abbrev T5:=@Nat.zero_add
abbrev ab:=@wpAny_isInstance
abbrev T6:=@List.any_map
abbrev ae:=@List.filter_cons
abbrev bg:=@wpAny_setEntries_of
abbrev dg:=@List.getElem?_replicate
abbrev bh:=@List.mem_filterMap
abbrev bj:=@wpAny_Call_Name_kw
abbrev bo:=@List.getElem?_drop
abbrev af:=@codeAny_builtin
abbrev ag:=@List.find?_cons
abbrev gJ:=@wpAny_typeNameOfWhole_itemiter
abbrev dh:=@PySem.W.cellsFrom_some
abbrev di:=@Heap.get?_update_other
abbrev dm:=@List.pairwise_lt_range
abbrev dt:=@List.take_of_length_le
abbrev gK:=@wpAny_typeNameOfWhole_keyiter
abbrev bp:=@List.filter_congr
abbrev W0:=@Nat.le_of_lt
abbrev ah:=@wpAny_fieldsOf
abbrev L4:=@Iff.rfl
abbrev du:=@F.slot_enumerate_next
abbrev ai:=@Nat.mul_le_mul
abbrev dv:=@List.mem_of_mem_take
abbrev dw:=@List.mem_of_mem_drop
abbrev dz:=@List.filterMap_cons
abbrev dB:=@List.getElem?_range
abbrev dF:=@List.getElem_of_mem
abbrev gL:=@List.getElem?_eq_none_iff
abbrev bq:=@List.nil_append
abbrev gM:=@List.drop_eq_getElem_cons
abbrev gO:=@List.getElem?_zip_eq_some
abbrev br:=@Nat.min_eq_left
abbrev gP:=@Nat.ge_two_pow_of_testBit
abbrev dG:=@wpAny_pyIter_tuple
abbrev dH:=@Nat.eq_zero_or_pos
abbrev dJ:=@Nat.lt_or_eq_of_le
abbrev dL:=@tupleKind_room_in1
abbrev gQ:=@List.length_erase_of_mem
abbrev aj:=@Int.le_trans
abbrev dM:=@Int.emod_lt_of_pos
abbrev bt:=@isSubtype_stop
abbrev bu:=@List.nodup_nil
abbrev gR:=@F.plain_set_update_loop
abbrev gS:=@PySem.F.plainAttrs_list
abbrev dN:=@wpAny_pyIter_list
abbrev dO:=@Nat.lt_trichotomy
abbrev dP:=@wpAny_pyIter_slot
abbrev dQ:=@wpAny_dictEntries
abbrev dR:=@List.map_inj_left
abbrev ak:=@wpAny_of_eq
abbrev gU:=@wpAny_isOneOf_itemiter
abbrev am:=@Nat.add_mul
abbrev ao:=@Nat.one_mul
abbrev aq:=@Nat.pow_pos
abbrev bv:=@wpAny_standAt
abbrev bw:=@plainId_quiet
abbrev bx:=@listUpdate_at
abbrev dU:=@decide_eq_decide
abbrev dW:=@List.mem_flatMap
abbrev gW:=@List.length_replicate
abbrev gX:=@Obj.isFreed_of_fields
abbrev mS:=@PyProof.Rows.slot_tuple_getitem
abbrev dX:=@List.of_mem_zip
abbrev gY:=@Calls.evalArgs_plain
abbrev dY:=@List.foldl_cons
abbrev bz:=@List.map_nil
abbrev au:=@wpAny_rule
abbrev dZ:=@List.range_succ
abbrev ee:=@List.length_nil
abbrev eg:=@wpAny_dictEpoch
abbrev gZ:=@List.mem_erase_of_ne
abbrev eu:=@Int.emod_nonneg
abbrev mT:=@F.slot_dict_itemiterator_next
abbrev hE:=@Array.toList_append
abbrev hL:=@List.map_eq_nil_iff
abbrev mU:=@F.args_tuple_iterator_next_1
abbrev eA:=@wpAny_seqItems
abbrev eB:=@List.drop_zero
abbrev W1:=@or_false
abbrev mV:=@F.slot_dict_keyiterator_next
abbrev bA:=@Nat.log2_lt
abbrev hU:=@Calls.spliced_cons
abbrev mW:=@F.entry_tuple_iterator_next
abbrev hV:=@Int.lt_of_le_of_lt
abbrev mX:=@List.idxOf_lt_length_of_mem
abbrev hW:=@List.getElem_idxOf
abbrev hY:=@List.filter_append
abbrev eC:=@Paired.length
abbrev mY:=@Calls.Name_function_global
abbrev mZ:=@Int.fdiv_eq_ediv_of_nonneg
abbrev eD:=@List.cons.inj
abbrev nb:=@Array.perm_iff_toList_perm
abbrev eF:=@List.map_drop
abbrev hZ:=@Calls.spliced_nil
abbrev ic:=@List.take_sublist
abbrev ie:=@Obj.cls_mapFields
abbrev ig:=@Nat.le_of_lt_succ
abbrev ii:=@fits_of_scanBound
abbrev ij:=@List.ext_getElem?
abbrev bB:=@wpAny_load
abbrev nc:=@List.pairwise_iff_getElem
abbrev ng:=@Option.isNone_iff_eq_none
abbrev nh:=@List.isEmpty_eq_false_iff
abbrev ni:=@PySem.F.args_tuple_add_2
abbrev eG:=@wpAny_typeOf
abbrev eK:=@Nat.succ_mul
abbrev ik:=@Nat.le_of_not_lt
abbrev nj:=@wpAny_comprehension_free
abbrev nr:=@PySem.F.slot_tuple_index
abbrev eL:=@Nat.lt_trans
abbrev im:=@Nat.succ_le_succ
abbrev eM:=@listItems_at
abbrev io:=@List.drop_length
abbrev ip:=@List.cons_ne_nil
abbrev iq:=@Nat.min_eq_right
abbrev nt:=@PySem.F.entry_tuple_add
abbrev nu:=@wpAny_Call_method0_late
abbrev nv:=@PySem.F.slot_list_index
abbrev nw:=@F.entry_set_update_loop
abbrev ny:=@F.args_enumerate_next_1
abbrev nz:=@List.getElem?_cons_succ
abbrev nA:=@PySem.F.slot_dict_items
abbrev nB:=@decide_eq_false_iff_not
abbrev nC:=@Nat.testBit_div_two_pow
abbrev ir:=@wpAny_execs_nil
abbrev iu:=@pushCells_keeps
abbrev iw:=@wpAny_specialOf
abbrev iy:=@wpAny_ite_split
abbrev iz:=@Nat.two_pow_pos
abbrev iA:=@List.filter_nil
abbrev nE:=@wpAny_pyNext_list_item
abbrev nF:=@PySem.F.slot_tuple_add
abbrev nG:=@subscriptTail_builtinR
abbrev nH:=@wpAny_Call_method_late
abbrev nJ:=@List.range_succ_eq_map
abbrev nK:=@List.drop_of_length_le
abbrev nL:=@F.entry_enumerate_next
abbrev nM:=@F.slot_dict_items_iter
abbrev nN:=@List.filter_eq_nil_iff
abbrev nO:=@wpAny_isTrue_Compare1
abbrev iB:=@Bool.false_and
abbrev nP:=@wpAny_pyNext_list_end
abbrev nQ:=@builtinLookup_eq_fast
abbrev iC:=@isSubtype_type
abbrev iE:=@wpAny_newTuple
abbrev nR:=@wpAny_notOrdered_dict
abbrev nS:=@wpAny_isOneOf_keyiter
abbrev iF:=@Nat.add_le_add
abbrev eN:=@size_push'
abbrev eO:=@bne_iff_ne
abbrev iG:=@wpAny_handled
abbrev iH:=@wpAny_newList
abbrev iI:=@seqIndex_neg
abbrev iJ:=@Nat.add_comm
abbrev iK:=@Bool.or_true
abbrev iL:=@Bool.true_or
abbrev iM:=@Nat.pow_succ
end
noncomputable section
noncomputable section
namespace L2
open PySem
noncomputable def M5(s:Jq):Jv:=match s with
 | .FunctionDef _ a _ _ _ _ _ _ _ _=>a
 | _=>{posonlyargs:=[],args:=[],vararg:=none,kwonlyargs:=[],kw_defaults:=[],kwarg:=none,defaults:=[]}
noncomputable def G9(s:Jq):ge Jq:=match s with
 | .FunctionDef _ _ b _ _ _ _ _ _ _=>b
 | _=>[]
noncomputable def x2(s:Jq):Ju:=match s with
 | .FunctionDef _ _ _ _ _ _ sc _ _ _=>sc
 | _=>{kind:=.function,names:=[],isGenerator:=false,isCoroutine:=false}
end L2
namespace k35
open PySem PySem.W L2 PySem.Spec PyProof.Rows
noncomputable def top(i:Nat):Jq:=PySem.Challenge.pw_talkleast_k35_whole_bounds_of_blocks.main.body.getD i (.Pass ⟨0,0,0,0⟩)
def fo(n:Str)(i:Nat)(dV pm:Jg)(cd:Ji):Obj:=⟨.type "function",none,.func (fnOf n n (M5 (top i)) (G9 (top i)) (x2 (top i)) dV .none .none pm none (.ref cd) .none),#[]⟩
noncomputable def en(P:Params)(s:Str)(t:Nat)(v:Jg):DictEntry:=⟨PyData.keyHash P s,.str s t,v⟩
noncomputable def co(n:Str)(t:Nat)(ln na fl:Int)(a b c d e:Jg)(q:Int)(r:Nat):Obj:=⟨.type "code",none,.fields #[.str n t,.str n (t+1),.str "/claim/cut.py" (t+2),.int ln 0,.int na 0,.int 0 0,.int 0 0,.int fl 0,a,.bool true,.int 181 0,b,.none,c,d,e,.int q 0,.int ln 0,.str "/claim/cut.py" r],#[]⟩
def kK(P:Params):Frag:=[(3,⟨.type "dict",none,.dict #[en P "__name__" 165 (.str "law_talkleast_k35_whole_bounds_of_blocks" 528),en P "__doc__" 166 .none,en P "__package__" 167 .none,en P "__loader__" 168 (.builtin "__main__.__loader__#opaque"),en P "__spec__" 169 .none,en P "__annotations__" 170 (.ref 6),en P "__builtins__" 171 (.ref 4),en P "__file__" 173 (.str "/claim/cut.py" 172),en P "__cached__" 174 .none,en P "is_int" 197 (.ref 21),en P "TalkError" 217 (.ref 31),en P "NoCard" 233 (.ref 44),en P "TooGreat" 249 (.ref 56),en P "SMALL_LINES" 253 (.int 5 252),en P "flipped" 259 (.ref 63),en P "cut" 268 (.ref 70),en P "check_cards" 276 (.ref 77),en P "cards_in" 282 (.ref 82),en P "crossing" 288 (.ref 87),en P "row_kinds" 294 (.ref 92),en P "column_kinds" 301 (.ref 99),en P "trimmed" 308 (.ref 106),en P "is_small" 316 (.ref 113),en P "check_small" 323 (.ref 120),en P "words_in" 332 (.ref 127),en P "is_block" 343 (.ref 134),en P "widest" 354 (.ref 141),en P "columns_with" 360 (.ref 146),en P "rows_with" 366 (.ref 151),en P "fewest_cover" 380 (.ref 158),en P "entries_by_choice" 386 (.ref 163),en P "blocks_with" 392 (.ref 168),en P "contains" 400 (.ref 175),en P "left_bare" 406 (.ref 180),en P "cover_within" 417 (.ref 187),en P "apart" 425 (.ref 192),en P "most_apart" 431 (.ref 197),en P "keep_apart" 441 (.ref 204),en P "bits_paper" 450 (.ref 211),en P "ends_paper" 457 (.ref 218),en P "paper" 463 (.ref 223),en P "bits_numbers" 470 (.ref 230),en P "ends_numbers" 477 (.ref 237),en P "joined_bits" 485 (.ref 244),en P "joined_ends" 493 (.ref 251),en P "least_numbers" 499 (.ref 256),en P "splits" 505 (.ref 261),en P "halves" 511 (.ref 266),en P "least_bits" 520 (.ref 273),en P "fewest_ends" 527 (.ref 280),en P "_law_int" 536 (.ref 287),en P "_law_cell_at" 544 (.ref 294),en P "_law_stream" 557 (.ref 301),en P "_law_core" 563 (.ref 306),en P "_law_table" 569 (.ref 311),en P "_law_trimmed" 575 (.ref 316),en P "_law_bits" 584 (.ref 323),en P "_law_drawn" 590 (.ref 328),en P "_law_block" 596 (.ref 333),en P "law" 602 (.ref 338)] 60,#[]⟩),
 (20,co "is_int" 189 2 3 3 (.ref 15) (.ref 16) (.ref 17) (.ref 18) (.ref 19) 195 196),
 (21,fo "is_int" 1 .none (.str "talkleast.checks" 187) 20),
 (62,co "flipped" 254 13 1 3 (.ref 59) (.ref 60) .none .none (.ref 61) 257 258),
 (63,fo "flipped" 8 .none (.str "talkleast.tables" 250) 62),
 (69,co "cut" 260 15 3 3 (.ref 64) (.ref 65) (.ref 66) (.ref 67) (.ref 68) 266 267),
 (70,fo "cut" 9 .none (.str "talkleast.tables" 250) 69),
 (76,co "check_cards" 269 19 2 3 (.ref 71) (.ref 72) (.ref 73) (.ref 74) (.ref 75) 274 275),
 (77,fo "check_cards" 10 .none (.str "talkleast.tables" 250) 76),
 (81,co "cards_in" 277 22 1 3 (.ref 78) (.ref 79) .none .none (.ref 80) 280 281),
 (82,fo "cards_in" 11 .none (.str "talkleast.tables" 250) 81),
 (86,co "crossing" 283 24 3 3 (.ref 83) (.ref 84) .none .none (.ref 85) 286 287),
 (87,fo "crossing" 12 .none (.str "talkleast.tables" 250) 86),
 (91,co "row_kinds" 289 26 1 3 (.ref 88) (.ref 89) .none .none (.ref 90) 292 293),
 (92,fo "row_kinds" 13 .none (.str "talkleast.tables" 250) 91),
 (98,co "column_kinds" 295 28 1 3 (.ref 93) (.ref 94) (.ref 95) (.ref 96) (.ref 97) 299 300),
 (99,fo "column_kinds" 14 .none (.str "talkleast.tables" 250) 98),
 (105,co "trimmed" 302 30 1 3 (.ref 100) (.ref 101) (.ref 102) (.ref 103) (.ref 104) 306 307),
 (106,fo "trimmed" 15 .none (.str "talkleast.tables" 250) 105),
 (112,co "is_small" 309 32 1 3 (.ref 107) (.ref 108) (.ref 109) (.ref 110) (.ref 111) 314 315),
 (113,fo "is_small" 16 .none (.str "talkleast.tables" 250) 112),
 (119,co "check_small" 317 35 1 3 (.ref 114) (.ref 115) (.ref 116) (.ref 117) (.ref 118) 321 322),
 (120,fo "check_small" 17 .none (.str "talkleast.tables" 250) 119),
 (126,co "words_in" 324 38 1 3 (.ref 121) (.ref 122) (.ref 123) (.ref 124) (.ref 125) 330 331),
 (127,fo "words_in" 18 .none (.str "talkleast.tables" 250) 126),
 (133,co "is_block" 335 44 3 3 (.ref 128) (.ref 129) (.ref 130) (.ref 131) (.ref 132) 341 342),
 (134,fo "is_block" 20 .none (.str "talkleast.blocks" 333) 133),
 (140,co "widest" 344 46 2 3 (.ref 135) (.ref 136) (.ref 137) (.ref 138) (.ref 139) 352 353),
 (141,fo "widest" 21 .none (.str "talkleast.blocks" 333) 140),
 (145,co "columns_with" 355 53 3 3 (.ref 142) (.ref 143) .none .none (.ref 144) 358 359),
 (146,fo "columns_with" 22 .none (.str "talkleast.blocks" 333) 145),
 (150,co "rows_with" 361 56 3 3 (.ref 147) (.ref 148) .none .none (.ref 149) 364 365),
 (151,fo "rows_with" 23 .none (.str "talkleast.blocks" 333) 150),
 (157,co "fewest_cover" 369 60 2 3 (.ref 152) (.ref 153) (.ref 154) (.ref 155) (.ref 156) 378 379),
 (158,fo "fewest_cover" 25 .none (.str "talkleast.covers" 367) 157),
 (162,co "entries_by_choice" 381 70 3 3 (.ref 159) (.ref 160) .none .none (.ref 161) 384 385),
 (163,fo "entries_by_choice" 26 .none (.str "talkleast.covers" 367) 162),
 (167,co "blocks_with" 387 75 2 3 (.ref 164) (.ref 165) .none .none (.ref 166) 390 391),
 (168,fo "blocks_with" 27 .none (.str "talkleast.covers" 367) 167),
 (174,co "contains" 393 77 2 3 (.ref 169) (.ref 170) (.ref 171) (.ref 172) (.ref 173) 398 399),
 (175,fo "contains" 28 .none (.str "talkleast.covers" 367) 174),
 (179,co "left_bare" 401 79 2 3 (.ref 176) (.ref 177) .none .none (.ref 178) 404 405),
 (180,fo "left_bare" 29 .none (.str "talkleast.covers" 367) 179),
 (186,co "cover_within" 407 81 3 3 (.ref 181) (.ref 182) (.ref 183) (.ref 184) (.ref 185) 415 416),
 (187,fo "cover_within" 30 .none (.str "talkleast.covers" 367) 186),
 (191,co "apart" 420 92 2 3 (.ref 188) (.ref 189) .none .none (.ref 190) 423 424),
 (192,fo "apart" 32 .none (.str "talkleast.apart" 418) 191),
 (196,co "most_apart" 426 99 2 3 (.ref 193) (.ref 194) .none .none (.ref 195) 429 430),
 (197,fo "most_apart" 33 .none (.str "talkleast.apart" 418) 196),
 (203,co "keep_apart" 432 107 3 3 (.ref 198) (.ref 199) (.ref 200) (.ref 201) (.ref 202) 439 440),
 (204,fo "keep_apart" 34 .none (.str "talkleast.apart" 418) 203),
 (210,co "bits_paper" 444 113 1 3 (.ref 205) (.ref 206) (.ref 207) (.ref 208) (.ref 209) 448 449),
 (211,fo "bits_paper" 36 .none (.str "talkleast.parts" 442) 210),
 (217,co "ends_paper" 451 115 1 3 (.ref 212) (.ref 213) (.ref 214) (.ref 215) (.ref 216) 455 456),
 (218,fo "ends_paper" 37 .none (.str "talkleast.parts" 442) 217),
 (222,co "paper" 458 117 1 3 (.ref 219) (.ref 220) .none .none (.ref 221) 461 462),
 (223,fo "paper" 38 .none (.str "talkleast.parts" 442) 222),
 (229,co "bits_numbers" 464 119 1 3 (.ref 224) (.ref 225) (.ref 226) (.ref 227) (.ref 228) 468 469),
 (230,fo "bits_numbers" 39 .none (.str "talkleast.parts" 442) 229),
 (236,co "ends_numbers" 471 121 1 3 (.ref 231) (.ref 232) (.ref 233) (.ref 234) (.ref 235) 475 476),
 (237,fo "ends_numbers" 40 .none (.str "talkleast.parts" 442) 236),
 (243,co "joined_bits" 478 123 2 3 (.ref 238) (.ref 239) (.ref 240) (.ref 241) (.ref 242) 483 484),
 (244,fo "joined_bits" 41 .none (.str "talkleast.parts" 442) 243),
 (250,co "joined_ends" 486 125 2 3 (.ref 245) (.ref 246) (.ref 247) (.ref 248) (.ref 249) 491 492),
 (251,fo "joined_ends" 42 .none (.str "talkleast.parts" 442) 250),
 (255,co "least_numbers" 494 127 3 3 (.ref 252) (.ref 253) .none .none (.ref 254) 497 498),
 (256,fo "least_numbers" 43 .none (.str "talkleast.parts" 442) 255),
 (260,co "splits" 500 139 2 3 (.ref 257) (.ref 258) .none .none (.ref 259) 503 504),
 (261,fo "splits" 44 .none (.str "talkleast.parts" 442) 260),
 (265,co "halves" 506 143 1 3 (.ref 262) (.ref 263) .none .none (.ref 264) 509 510),
 (266,fo "halves" 45 .none (.str "talkleast.parts" 442) 265),
 (272,co "least_bits" 514 146 1 3 (.ref 267) (.ref 268) (.ref 269) (.ref 270) (.ref 271) 518 519),
 (273,fo "least_bits" 47 .none (.str "talkleast.least" 512) 272),
 (279,co "fewest_ends" 521 148 1 3 (.ref 274) (.ref 275) (.ref 276) (.ref 277) (.ref 278) 525 526),
 (280,fo "fewest_ends" 48 .none (.str "talkleast.least" 512) 279),
 (293,co "_law_cell_at" 537 153 2 3 (.ref 288) (.ref 289) (.ref 290) (.ref 291) (.ref 292) 542 543),
 (294,fo "_law_cell_at" 51 .none (.str "law_talkleast_k35_whole_bounds_of_blocks" 528) 293),
 (300,co "_law_stream" 545 157 2 3 (.ref 295) (.ref 296) (.ref 297) (.ref 298) (.ref 299) 555 556),
 (301,fo "_law_stream" 52 .none (.str "law_talkleast_k35_whole_bounds_of_blocks" 528) 300),
 (305,co "_law_core" 558 171 3 3 (.ref 302) (.ref 303) .none .none (.ref 304) 561 562),
 (306,fo "_law_core" 53 .none (.str "law_talkleast_k35_whole_bounds_of_blocks" 528) 305),
 (310,co "_law_table" 564 187 2 3 (.ref 307) (.ref 308) .none .none (.ref 309) 567 568),
 (311,fo "_law_table" 54 .none (.str "law_talkleast_k35_whole_bounds_of_blocks" 528) 310),
 (315,co "_law_trimmed" 570 199 1 3 (.ref 312) (.ref 313) .none .none (.ref 314) 573 574),
 (316,fo "_law_trimmed" 55 .none (.str "law_talkleast_k35_whole_bounds_of_blocks" 528) 315),
 (322,co "_law_bits" 576 204 1 3 (.ref 317) (.ref 318) (.ref 319) (.ref 320) (.ref 321) 582 583),
 (323,fo "_law_bits" 56 .none (.str "law_talkleast_k35_whole_bounds_of_blocks" 528) 322),
 (327,co "_law_drawn" 585 209 2 3 (.ref 324) (.ref 325) .none .none (.ref 326) 588 589),
 (328,fo "_law_drawn" 57 .none (.str "law_talkleast_k35_whole_bounds_of_blocks" 528) 327),
 (332,co "_law_block" 591 218 4 3 (.ref 329) (.ref 330) .none .none (.ref 331) 594 595),
 (333,fo "_law_block" 58 .none (.str "law_talkleast_k35_whole_bounds_of_blocks" 528) 332),
 (337,co "law" 597 226 1 3 (.ref 334) (.ref 335) .none .none (.ref 336) 600 601),
 (338,fo "law" 59 .none (.str "law_talkleast_k35_whole_bounds_of_blocks" 528) 337)]
noncomputable def kA:ge Ji:=[3,20,21,62,63,69,70,76,77,81,82,86,87,91,92,98,99,105,106,112,113,119,120,126,127,133,134,140,141,145,146,150,151,157,158,162,163,167,168,174,175,179,180,186,187,191,192,196,197,203,204,210,211,217,218,222,223,229,230,236,237,243,244,250,251,255,256,260,261,265,266,272,273,279,280,293,294,300,301,305,306,310,311,315,316,322,323,327,328,332,333,337,338]
noncomputable def kT:Frag:=[(16,JB),(60,JB),(65,JB),(72,JB),(79,JB),(84,JB),(89,JB),(94,JB),(101,JB),(108,JB),(115,JB),(122,JB),(129,JB),(136,JB),(143,JB),(148,JB),(153,JB),(160,JB),(165,JB),(170,JB),(177,JB),(182,JB),(189,JB),(194,JB),(199,JB),(206,JB),(213,JB),(220,JB),(225,JB),(232,JB),(239,JB),(246,JB),(253,JB),(258,JB),(263,JB),(268,JB),(275,JB),(289,JB),(296,JB),(303,JB),(308,JB),(313,JB),(318,JB),(325,JB),(330,JB),(335,JB)]
def kAll(P:Params):Frag:=kT++kK P
noncomputable def kB:ge Ji:=[16,60,65,72,79,84,89,94,101,108,115,122,129,136,143,148,153,160,165,170,177,182,189,194,199,206,213,220,225,232,239,246,253,258,263,268,275,289,296,303,308,313,318,325,330,335,3,20,21,62,63,69,70,76,77,81,82,86,87,91,92,98,99,105,106,112,113,119,120,126,127,133,134,140,141,145,146,150,151,157,158,162,163,167,168,174,175,179,180,186,187,191,192,196,197,203,204,210,211,217,218,222,223,229,230,236,237,243,244,250,251,255,256,260,261,265,266,272,273,279,280,293,294,300,301,305,306,310,311,315,316,322,323,327,328,332,333,337,338]
theorem kE:∀P,kB=(kAll P).map (·.1):=λ _=>by kernel_rfl
noncomputable def kQ:Jo:=view PySem.Challenge.pw_talkleast_k35_whole_bounds_of_blocks [1,3,4,5,7,8,9,10,11,12,13,14,15,16,17,18,20,21,22,23,25,26,27,28,29,30,32,33,34,36,37,38,39,40,41,42,43,44,45,47,48,50,51,52,53,54,55,56,57,58,59]
def kL:ge Str:=[]
set_option maxHeartbeats 0 in
theorem kLeft:LeftO PySem.Challenge.pw_talkleast_k35_whole_bounds_of_blocks kQ kL (λ s=>xlAt kQ [] s&&recOk (RowW.records (OpenRow.toRowW (OpenLaw.row PySem.Challenge.rw_talkleast_k35_whole_bounds_of_blocks))) s) (kHook kAll kB kE).obs (kHook kAll kB kE).val 4206:=by
 intro w
 kernel_rfl
end k35
end
noncomputable section
namespace L2
open PySem PySem.Spec PyProof.Rows
abbrev Key:=Sum Int Str
noncomputable def W3:Key->Jg->Bool
 | .inl k,v=>Value.isInt k v
 | .inr x,v=>Value.isStrOf x v
noncomputable def keyH(w:Jn):Key->Int
 | .inl k=>hashInt k
 | .inr x=>hashStr w x
theorem O1:∀{k:Key} {v:Jg},W3 k v=true->(∃i t,k=Sum.inl i/\v=Value.int i t)\/(∃x t,k=Sum.inr x/\v=Value.str x t)
 | .inl i,v,h=>by obtain⟨t,e⟩:=Value.isInt_shape h;exact .inl ⟨i,t,rfl,e⟩
 | .inr x,v,h=>by obtain⟨t,e⟩:=Value.isStrOf_shape h;exact .inr ⟨x,t,rfl,e⟩
theorem wH(i:Int)(t:Tok):W3 (.inl i) (.int i t)=true:=by simp[W3,Value.isInt]
theorem wI(x:Str)(t:Tok):W3 (.inr x) (.str x t)=true:=by simp[W3,Value.isStrOf]
theorem wJ(a b:Int):decide ((Sum.inl a:Key)=Sum.inl b)=(a==b):=by
 by_cases e:a=b
 ·subst e;simp
 ·have h:¬(Sum.inl a:Key)=Sum.inl b:=λ q=>e (Sum.inl.inj q);rw[x4 h];exact(A4.mpr e).symm
theorem wK(a b:Str):decide ((Sum.inr a:Key)=Sum.inr b)=decide (a=b):=by
 by_cases e:a=b
 ·subst e;simp
 ·have h:¬(Sum.inr a:Key)=Sum.inr b:=λ q=>e (Sum.inr.inj q);rw[x4 h,x4 e]
theorem wL(a:Int)(b:Str):decide ((Sum.inl a:Key)=Sum.inr b)=false:=x4 (λ q=>nomatch q)
theorem wM(a:Str)(b:Int):decide ((Sum.inr a:Key)=Sum.inl b)=false:=x4 (λ q=>nomatch q)
def D9(prog:Jo)(w:Jn):PySem.KeyKind prog w Key where
 is:=W3
 hash:=keyH w
 inj:=λ v a b ha hb=>by
  rcases O1 ha with⟨i,t,rfl,rfl⟩ | ⟨x,t,rfl,rfl⟩
  ·rcases O1 hb with⟨j,u,rfl,e⟩ | ⟨y,u,rfl,e⟩
   ·injection e with e1 _;rw[e1]
   ·exact nomatch e
  ·rcases O1 hb with⟨j,u,rfl,e⟩ | ⟨y,u,rfl,e⟩
   ·exact nomatch e
   ·injection e with e1 _;rw[e1]
 byValue:=λ k v h=>by rcases O1 h with⟨i,t,rfl,rfl⟩ | ⟨x,t,rfl,rfl⟩<;>rfl
 pyHash:=λ hv h=>by
  rcases O1 hv with⟨i,t,rfl,rfl⟩ | ⟨x,t,rfl,rfl⟩
  ·exact wpAny_pyHash_int h
  ·exact wpAny_pyHash_str h
 eqBool:=λ hu hv h=>by
  rcases O1 hu with⟨i,t,rfl,rfl⟩ | ⟨x,t,rfl,rfl⟩
  ·rcases O1 hv with⟨j,u,rfl,rfl⟩ | ⟨y,u,rfl,rfl⟩
   ·rw[wJ]at h;exact wpAny_eqBool_int h
   ·rw[wL]at h;exact SeqAt.EqAt.int_str i t y u _ _ _ _ h
  ·rcases O1 hv with⟨j,u,rfl,rfl⟩ | ⟨y,u,rfl,rfl⟩
   ·rw[wM]at h;exact SeqAt.EqAt.str_int x t j u _ _ _ _ h
   ·rw[wK]at h;exact wpAny_eqBool_str h
 «strs»:=λ k x t v h=>by
  rcases O1 h with⟨i,u,rfl,e⟩ | ⟨y,u,rfl,e⟩
  ·exact nomatch e
  ·injection e with e1 _
   subst e1;cases v<;>rfl
theorem wO(prog:Jo)(w:Jn)(i:Int)(t:Tok):(D9 prog w).is (.inl i) (.int i t)=true:=wH i t
theorem wP(prog:Jo)(w:Jn)(x:Str)(t:Tok):(D9 prog w).is (.inr x) (.str x t)=true:=wI x t
end L2
namespace L2
open PySem PySem.Spec PyProof.Rows
inductive V where
 | non | bl (b:Bool) | int (i:Int) | str (x:Str) | byt (b:Array UInt8) | flt (b:UInt64) | ref (a:Addr) | ty (n:String)
 deriving DecidableEq
noncomputable def RelV:V->Jg->Prop
 | .non,u=>u=Value.none
 | .bl b,u=>u=Value.bool b
 | .int i,u=>∃t,u=Value.int i t
 | .str x,u=>∃t,u=Value.str x t
 | .byt b,u=>∃t,u=Value.bytes b t
 | .flt b,u=>∃t,u=Value.float b t
 | .ref a,u=>u=Value.ref a
 | .ty n,u=>u=Value.type n
abbrev Vals:ge V->ge Jg->Prop:=Paired RelV
theorem Vals.length(r:Vals xs a):xs.length=a.length:=eC r
theorem Vals.get:∀{xs:ge V} {us:ge Jg} {i:Nat} {x:V},Vals xs us->xs[i]? = some x->∃u,us[i]? = some u/\RelV x u
 | _,_,_,_,.nil,e=>by simp at e
 | _,_,0,_,.cons r _,e=>by simp at e;subst e;exact⟨_,rfl,r⟩
 | _,_,i+1,x,.cons _ t,e=>by obtain⟨u,b,a⟩:=Vals.get t (by simpa using e);exact⟨u,by simpa using b,a⟩
theorem Vals.set(r:RelV x u):∀{xs:ge V} {us:ge Jg} (i:Nat),Vals xs us->Vals (xs.set i x) (us.set i u)
 | _,_,_,.nil=>.nil
 | _,_,0,.cons _ t=>.cons r t
 | _,_,i+1,.cons q t=>.cons q (Vals.set r i t)
theorem Vals.append:∀{xs a:ge V} {us ws:ge Jg},Vals xs us->Vals a ws->Vals (xs++a) (us++ws)
 | _,_,_,_,.nil,s=>s
 | _,_,_,_,.cons r t,s=>.cons r (Vals.append t s)
theorem Vals.take:∀{xs:ge V} {us:ge Jg} (n:Nat),Vals xs us->Vals (xs.take n) (us.take n)
 | _,_,0,_=>.nil
 | _,_,_+1,.nil=>.nil
 | _,_,n+1,.cons r t=>.cons r (Vals.take n t)
theorem Vals.drop:∀{xs:ge V} {us:ge Jg} (n:Nat),Vals xs us->Vals (xs.drop n) (us.drop n)
 | _,_,0,r=>r
 | _,_,_+1,.nil=>.nil
 | _,_,n+1,.cons _ t=>Vals.drop n t
theorem Vals.none_of:∀{xs:ge V} {a:ge Jg} {i:Nat},Vals xs a->xs[i]? = none->a[i]? = none:=λ {xs a i} r e=>by
 have h1:=r.length;have h2:=gL.mp e;exact gL.mpr Jy
def RelO:on V->on Jg->Prop
 | some v,some u=>RelV v u
 | none,none=>True
 | _,_=>False
def KV{κ:Type}:ge (κ×V)->ge (κ×Jg)->Prop:=Paired λ (p:κ×V) (q:κ×Jg)=>p.1=q.1/\RelV p.2 q.2
noncomputable def kV:Key->V
 | .inl i=>.int i
 | .inr x=>.str x
inductive HO where
 | lst (xs:List V)
 | tup (xs:List V)
 | dK (kvs:List (Key×V)) | dT (kvs:List (List Key×V))
 | set (S:Int->Bool) (n:Nat)
 | ins (C dx:Addr) (fs:List (Str×V))
 | own (x:Addr)
 | xd (fs:List (Str×V))
 | met (f x:Addr)
 | rng (lo hi:Int)
 | frz (o:Obj) (u:HO)
 | tbl (q:Str)
 | ext (φ:Heap->Prop)
abbrev Hp:=Ji->on HO
noncomputable def upd(H:Hp)(a:Ji)(o:HO):Hp:=λ b=>if b=a then some o else H b
theorem v6:upd H a o a=some o:=by unfold upd;rw[d8 rfl]
theorem j3(h:b≠a):upd H a o b=H b:=by unfold upd;rw[e8 h]
theorem wQ{H:Hp}(h:H a=some o)(c:H b=some u)(d:o≠u):a≠b:=by
 intro e;subst e;rw[h]at c;exact d (A9 c)
theorem A0{H:Hp}(h:H a=some o)(c:H b=none):a≠b:=by
 intro e;subst e;rw[h]at c;cases c
def O3(h:Jj)(a:Ji)(items:Jl Jg):Prop:=∃o,h.get? a=some o/\(o.cls=.type "tuple" /\ o.dict=none)/\∃n,o.data=.seq items n
theorem O3.tup(x:O3 h a items):IsTup h a items:=let ⟨o,ho,hc,r⟩:=x;⟨o,ho,hc.1,r⟩
theorem O3.lt(x:O3 h a items):a<h.objs.size:=let ⟨_,ho,_⟩:=x;j7 ho
theorem O3.new(h:Jj)(items:Jl Jg):O3 (h.push {cls:=.type "tuple",data:=.seq items}) h.objs.size items:=⟨_,o4 _ rfl,⟨rfl,rfl⟩,_,rfl⟩
section
variable (P:Jo) (w:Jn)
noncomputable def av(q:Str):Bool:=q == "plan_by.<locals>.plan_of" || q == "best_right.<locals>.plan_of"
def p4(H:Hp)(h:Jj)(a:Ji):HO->Prop
 | .lst xs=>xs.length<=sizeLine/\∃(its:ge Jg) (n:Nat),Vals xs its/\h.get? a=some {cls:=.type "list",data:=.seq its.toArray n}
 | .tup xs=>xs.length<=sizeLine/\∃its:ge Jg,Vals xs its/\O3 h a its.toArray
 | .dK kvs=>kvs.length<=sizeLine/\(a==sysModules)=false/\∃vs,KV kvs vs/\h.DictOf (D9 P w) a vs
 | .dT kvs=>kvs.length<=sizeLine/\(a==sysModules)=false/\∃xs:ge (ge Key×Ji×Jg),
   Paired (λ (p:ge Key×V) (q:ge Key×Ji×Jg)=>p.1=q.1/\H q.2.1=some (.tup (p.1.map kV))/\RelV p.2 q.2.2) kvs xs /\
   ∃o es ep,h.get? a=some o/\o.ExactDict/\o.data=.dict es ep/\es.toList=xs.map (entryOfKey (tupleKind (D9 P w)))/\(xs.map (·.1)).Nodup
 | .set S n=>h.SetOf (intKind P w) a S n
 | .ins C dx fs=>H dx=some (.own a)/\fs.length<=1000/\dx≠a/\h.get? a=some (PySem.W.instObj C dx) /\
   ∃mA,h.Ns1 dx mA/\(∀f,RelO (fs.lookup f) (mA f))/\PySem.Within mA (fs.map (·.1))
 | .own _=>∃o,h.get? a=some o
 | .xd fs=>∃mA,h.Ns1 a mA/\∀f,RelO (fs.lookup f) (mA f)
 | .rng lo hi=>∃t u v,h.get? a=some {cls:=.type "range",data:=.fields #[.int lo t,.int hi u,.int 1 v]}
 | .frz o u=>h.get? a=some o/\p4 H h a u
 | .tbl q=>∃ps:Jl Jg,h.get? a=some {cls:=.none,data:=.fields ps} /\ TriplesOk ps.toList/\∀pos cv,codeAmong pos ps.toList=some cv->∃c oc u vs t,cv=.ref c/\H c=some (.frz oc u)/\oc.data=.fields vs/\vs[1]? = some (.str q t)/\(av q=true->oc.cls=.type "code" /\ ∃(T:Ji) (file:Str) (tf:Tok) (flags:Int) (tg:Tok) (inF:Bool) (text:Int) (tt:Tok),vs[11]? = some (.ref T)/\vs.getD 11 .none=.ref T/\vs.getD 18 .none=.str file tf/\vs.getD 7 .none=.int flags tg/\vs.getD 9 .none=.bool inF/\vs.getD 10 .none=.int text tt/\c≠T/\H T=some (.tbl (q ++ ".<locals>." ++ "<lambda>")))
 | .met f x=>h.get? a=some (PySem.W.methodObj (.ref f) (.ref x))
 | .ext φ=>φ h/\(∃o,h.get? a=some o)/\∀h1 h2:Jj,φ h1->(∀o,h1.get? a=some o->h2.get? a=some o)->φ h2
def HOk(H:Hp)(h:Jj):Prop:=∀a o,H a=some o->p4 P w H h a o
end
theorem p4.lt(x:p4 P w H h a o):a<h.objs.size:=by
 cases o with
 | lst c=>obtain⟨_,_,_,_,e⟩:=x;exact j7 e
 | tup c=>obtain⟨_,_,_,p⟩:=x;exact p.lt
 | dK b=>obtain⟨_,_,_,_,o,_,_,e,_⟩:=x;exact j7 e
 | dT b=>obtain⟨_,_,_,_,o,_,_,e,_⟩:=x;exact j7 e
 | set S n=>obtain⟨o,_,_,_,e,_⟩:=x;exact j7 e
 | ins C dx fs=>obtain⟨_,_,_,e,_⟩:=x;exact j7 e
 | own y=>obtain⟨_,e⟩:=x;exact j7 e
 | xd fs=>obtain⟨_,⟨_,_,_,e,_⟩,_⟩:=x;exact j7 e
 | rng lo hi=>obtain⟨_,_,_,e⟩:=x;exact j7 e
 | frz ob u=>obtain⟨e,_⟩:=x;exact j7 e
 | tbl q=>obtain⟨_,e,_⟩:=x;exact j7 e
 | met f y=>exact j7 (x)
 | ext φ=>obtain⟨_,⟨_,e⟩,_⟩:=x;exact j7 e
theorem Paired.mapP:∀{c:ge e} {l₂:ge d},Paired F c l₂->(∀a b,F a b->G a b)->Paired G c l₂
 | _,_,.nil,_=>.nil
 | _,_,.cons r t,f=>.cons (f _ _ r) (Paired.mapP t f)
theorem p4.stay(x:p4 P w H h a o)(k:∀b u,(b=a\/H b=some (.own a))->h.get? b=some u->J.get? b=some u)
  (ho:∀b,H b=some (.own a)->H' b=some (.own a)) (ht:∀b xs,H b=some (.tup xs)->H' b=some (.tup xs)) (hy:∀b q,H b=some (.tbl q)->H' b=some (.tbl q)) (hz:∀b o u vs,o.data=.fields vs->H b=some (.frz o u)->H' b=some (.frz o u)):p4 P w H' J a o:=by
 induction o with
 | lst xs=>obtain⟨z,l,n,r,e⟩:=x;exact⟨z,l,n,r,k _ _ (.inl rfl) e⟩
 | tup xs=>obtain⟨z,l,r,g,e,c⟩:=x;exact⟨z,l,r,g,k _ _ (.inl rfl) e,c⟩
 | dK F=>obtain⟨z,y,vs,r,g,i,j,e,c⟩:=x;exact⟨z,y,vs,r,g,i,j,k _ _ (.inl rfl) e,c⟩
 | dT F=>
  obtain⟨z,y,xs,r,g,i,j,e,c⟩:=x;exact⟨z,y,xs,Paired.mapP r λ p q z=>⟨z.1,ht _ _ z.2.1,z.2.2⟩,g,i,j,k _ _ (.inl rfl) e,c⟩
 | set S n=>obtain⟨g,i,j,t,e,c⟩:=x;exact⟨g,i,j,t,k _ _ (.inl rfl) e,c⟩
 | ins C dx fs=>
  obtain⟨d,z,ne,e,mA,⟨E,i,j,K,c⟩,r⟩:=x;exact⟨ho _ d,z,ne,k _ _ (.inl rfl) e,mA,⟨E,i,j,k _ _ (.inr d) K,c⟩,r⟩
 | own y=>obtain⟨g,e⟩:=x;exact⟨g,k _ _ (.inl rfl) e⟩
 | xd fs=>obtain⟨mA,⟨E,i,j,e,c⟩,r⟩:=x;exact⟨mA,⟨E,i,j,k _ _ (.inl rfl) e,c⟩,r⟩
 | rng lo hi=>obtain⟨t,u,v,e⟩:=x;exact⟨t,u,v,k _ _ (.inl rfl) e⟩
 | frz g u ih=>obtain⟨e,q⟩:=x;exact⟨k _ _ (.inl rfl) e,ih q⟩
 | tbl q=>
  obtain⟨ps,e,t,f⟩:=x;refine⟨ps,k a _ (.inl rfl) e,t,λ B cv z=>?_⟩;obtain⟨c,oc,u,vs,t',e1,K,M,e4,e5⟩:=f B cv z;refine⟨c,oc,u,vs,t',e1,hz _ _ _ _ M K,M,e4,λ y=>?_⟩;obtain⟨Z,T,A,tf,m,tg,I,s,tt,Y,X,W,U,R,Q,O,N⟩:=e5 y;exact⟨Z,T,A,tf,m,tg,I,s,tt,Y,X,W,U,R,Q,O,hy _ _ N⟩
 | met f y=>
  have e:=x;show J.get? a=some _;exact k a _ (.inl rfl) e
 | ext φ=>obtain⟨p,⟨o,e⟩,L⟩:=x;exact⟨L _ _ p λ o q=>k _ _ (.inl rfl) q,⟨o,k _ _ (.inl rfl) e⟩,L⟩
theorem HOk.lt(x:HOk P w H h)(e:H a=some o):a<h.objs.size:=(x a o e).lt
theorem HOk.fresh(x:HOk P w H h)(e:h.objs.size<=a):H a=none:=by
 cases q:H a with
 | none=>rfl
 | some u=>exact absurd (q9 (x.lt q) e) (P9 _)
theorem HOk.kept(x:HOk P w H h)(k:∀b u,h.get? b=some u->c.get? b=some u):HOk P w H c:=λ a o e=>
 (x a o e).stay (λ b u _ q=>k b u q) (λ _ q=>q) (λ _ _ q=>q) (λ _ _ q=>q) λ _ _ _ _ _ q=>q
theorem HOk.laid(x:HOk P w H h)(k:∀b u,h.get? b=some u->f.get? b=some u)(j:h.objs.size<=a)(new:p4 P w (upd H a o) f a o):HOk P w (upd H a o) f:=λ b u e=>by
 have d:=x.fresh j;by_cases g:b=a
 ·subst g;rw[v6]at e;cases e;exact new
 ·rw[j3 g]at e;exact(x b u e).stay (λ c v _ q=>k c v q) (λ c q=>by rw[j3 (A0 q d)];exact q) (λ c i q=>by rw[j3 (A0 q d)];exact q) (λ c i q=>by rw[j3 (A0 q d)];exact q) λ c _ _ _ _ q=>by rw[j3 (A0 q d)];exact q
def Rd(H:Hp)(a:Ji)(u:HO):Prop:=H a=some u\/∃o,H a=some (.frz o u)
theorem Rd.ok(r:Rd H a u)(x:HOk P w H h):p4 P w H h a u:=by
 rcases r with r | ⟨o,r⟩
 ·exact x a u r
 ·obtain⟨_,q⟩:=x a _ r;exact q
noncomputable def Mut:on HO->Prop
 | some (.lst _)=>True
 | some (.dK _)=>True
 | some (.dT _)=>True
 | some (.set _ _)=>True
 | some (.ins _ _ _)=>True
 | some (.ext _)=>True
 | _=>False
theorem HOk.write(ok:HOk P w H h)(f:Mut (H x))(A:e=x\/H e=some (.own x))(k:∀b u,b≠e->h.get? b=some u->m.get? b=some u)(p:∃u,m.get? e=some u)
  (new:p4 P w (upd H x n) m x n):HOk P w (upd H x n) m:=λ b u q=>by
 have d:∀c y,H c=some (.own y)->c≠x:=λ c y r z=>by subst z;rw[r]at f;exact f
 have i:∀c g,H c=some (.tup g)->c≠x:=λ c g r z=>by subst z;rw[r]at f;exact f
 by_cases l:b=x
 ·subst l;rw[v6]at q;cases q;exact new
 ·rw[j3 l]at q;by_cases a:b=e
  ·have s:H b=some (.own x):=by
    rcases A with z | z
    ·exact absurd (a.trans z) l
    ·rw[a];exact z
   rw[q]at s;cases s;obtain⟨v,hv⟩:=p;exact⟨v,by rw[a];exact hv⟩
  ·refine(ok b u q).stay (λ c v j r=>k c v ?_ r) (λ c r=>by rw[j3 (d c b r)];exact r) (λ c g r=>by rw[j3 (i c g r)];exact r) (λ c g r=>by rw[j3 λ z=>by subst z;rw[r]at f;exact f];exact r) λ c o v _ _ r=>by rw[j3 λ z=>by subst z;rw[r]at f;exact f];exact r
   rcases j with rfl | j
   ·exact a
   ·rintro rfl
    rcases A with z | z
    ·exact d c b j z
    ·rw[j]at z;cases z;exact l rfl
structure Un(fs ex:List Addr)(H H':Hp)(h h':Heap):Prop where
 keep:∀b o,h.get? b=some o->H b=none->b∉fs->b∉ex->h'.get? b=some o
 slot:∀b o,h.get? b=some o->H b=none->b∈fs->b∉ex->∃sl,h'.get? b=some {o with slots:=sl}
 free:∀b o,h.get? b=some o->H b=none->b∉ex->H' b=none
 there:∀b o,h.get? b=some o->b∉ex->∃o',h'.get? b=some o'
 tups:∀b xs,H b=some (.tup xs)->H' b=some (.tup xs)
 frzs:∀b o u,H b=some (.frz o u)->H' b=some (.frz o u)
 tbls:∀b q,H b=some (.tbl q)->H' b=some (.tbl q)
theorem Un.any(u:Un fs ex H g h e)(q:h.get? b=some a)(n:H b=none)(c:b∉ex):∃f,e.get? b=some {a with slots:=f}:=by
 by_cases d:b∈fs
 ·exact u.slot b a q n d c
 ·exact⟨a.slots,u.keep b a q n d c⟩
theorem Un.kept(k:∀b u,h.get? b=some u->c.get? b=some u):Un fs ex H H h c:=
 ⟨λ b a q _ _ _=>k b a q,λ b a q _ _ _=>⟨a.slots,k b a q⟩,λ _ _ _ n _=>n,λ b a q _=>⟨a,k b a q⟩,λ _ _ q=>q,λ _ _ _ q=>q,λ _ _ q=>q⟩
theorem Un.refl:Un fs ex H H h h:=Un.kept λ _ _ q=>q
theorem Un.laid(k:∀b u,h.get? b=some u->d.get? b=some u)(f:h.objs.size<=a)(c:H a=none):Un fs ex H (upd H a o) h d where
 keep:=λ b u q _ _ _=>k b u q
 slot:=λ b u q _ _ _=>⟨u.slots,k b u q⟩
 free:=λ b u q n _=>by rw[j3 (o6 (q9 (j7 q) f))];exact n
 there:=λ b u q _=>⟨u,k b u q⟩
 tups:=λ b e q=>by rw[j3 (A0 q c)];exact q
 frzs:=λ b u e q=>by rw[j3 (A0 q c)];exact q
 tbls:=λ b ps q=>by rw[j3 (A0 q c)];exact q
theorem Un.write(c:Mut (H x))(p:e=x\/H e=some (.own x))(k:∀b u,b≠e->h.get? b=some u->g.get? b=some u)(f:∃u,g.get? e=some u):Un fs ex H (upd H x o) h g:=by
 have i:∀b,H b=none->b≠x:=λ b n z=>by subst z;rw[n]at c;exact c
 have j:∀b,H b=none->b≠e:=λ b n z=>by
  subst z;rcases p with r | r
  ·exact i b n r
  ·rw[n]at r;cases r
 have d:∀b u,H b=some u->¬Mut (some u)->b≠x:=λ b u q m z=>by subst z;rw[q]at c;exact m c
 refine⟨λ b u q n _ _=>k b u (j b n) q,λ b u q n _ _=>⟨u.slots,k b u (j b n) q⟩,λ b u q n _=>by rw[j3 (i b n)];exact n,λ b u q _=>?_,
  λ b l q=>by rw[j3 (d b _ q λ z=>z)];exact q,λ b u l q=>by rw[j3 (d b _ q λ z=>z)];exact q,λ b ps q=>by rw[j3 (d b _ q λ z=>z)];exact q⟩
 by_cases a:b=e
 ·subst a;exact f
 ·exact⟨u,k b u a q⟩
noncomputable def trk(h:Jj)(H:Hp):ge Ji:=(JJ h.objs.size).filter λ a=>(H a).isSome
def hidT(h:Jj)(H:Hp):Jj:=PySem.W.hideAll h (trk h H)
theorem wR(h:Jj)(H:Hp):(hidT h H).objs.size=h.objs.size:=PySem.W.hideAll_size _ _
theorem wS(e:h.get? b=some o)(n:H b=none):(hidT h H).get? b=some o:=
 PySem.W.hideAll_get _ e λ a=>by have q:=(j2.mp a).2;rw[n]at q;simp at q
theorem wT(e:(hidT h H).get? b=some o):h.get? b=some o/\H b=none:=by
 have a:=PySem.W.of_hideAll _ e;refine⟨a,?_⟩;cases q:H b with
 | none=>rfl
 | some x=>
  have z:(hidT h H).get? b=none:=PySem.W.hideAll_none _ (j2.mpr ⟨i6.mpr (j7 a),by simp[q]⟩);rw[z]at e;cases e
noncomputable def wU(g h:Jj)(L:Ji):ge (Ji×Obj):=(JJ h.objs.size).filterMap λ a=>if a=L\/(g.get? a).isSome=true then none else(h.get? a).map λ o=>(a,o)
def rest(g h:Jj)(L d:Ji):ge (Ji×Obj):=(wU g h L).filter λ p=>decide (p.1≠d)
end L2
namespace L2
open PySem PySem.Spec PyProof.Rows
structure Mod(K:PySem.W.Frag)(mg:Str->Option Value)(base:Heap):Prop where
 kin:K.In base
 glob:base.Ns mainGlobals mg
 blt:∃mb,base.Ns builtinsNs mb/\∀x:Str,x ≠ "__name__" -> mb x=bootBuiltins x
 nolimit:base.NoLimit
 bmod:∃bm ob,mg "__builtins__" = some (.ref bm)/\bm≠builtinsNs/\base.get? bm=some ob/\ob.cls=.type "module" /\ ob.dict=some builtinsNs/\ob.data=.plain
set_option genInjectivity true in
structure Cx where
 prog:Program
 w:World
 K:PySem.W.Frag
 mg:Str->Option Value
 base:Heap
 A:Around
 N:List Str
 s₀:Shared
 H₀:Hp
 env:Env
 outer:List Env
 stack:List Env
 ex:List Addr
 fn:Str->Bool
 calm:Bool
 pn:List (Addr×Obj)
 xe:Value->Shared->Prop
def tagQ(q:Str):Str:=if av (q ++ ".<locals>." ++ "plan_of")then q ++ ".<locals>." ++ "plan_of" else q ++ ".<locals>." ++ "<lambda>"
def v3(K:Js):ge (Ji×Str):=K.filterMap λ p=>match p.2.cls,p.2.data with
 | .type "code",.fields vs=>(match(vs[11]?:on Jg),(vs[1]?:on Jg)with
  | some (.ref P),some (.str q _)=>if(K.lookup P).isNone then some (P,tagQ q)else none
  | _,_=>none)
 | _,_=>none
def bC(K:Js)(H:Hp):Prop:=∀p∈v3 K,H p.1=some (.tbl p.2)
noncomputable def frs(l:ge Env):ge Ji:=l.filterMap (·.frame)
abbrev Cx.fs(X:Cx):ge Ji:=frs X.outer
def Vis(sc:Ju)(x:Str):Prop:=sc.names.lookup x=some .local\/sc.names.lookup x=some .cell\/sc.names.lookup x=some .free
def Loc(sc:Ju)(x:Str):Prop:=sc.names.lookup x=some .local\/sc.names.lookup x=some .cell
def Look(env:Env)(h:Jj)(m:Str->on Jg)(x:Str)(u:Jg):Prop:=
 (env.kindOf x=some .local/\m x=some u)\/((env.kindOf x=some .cell\/env.kindOf x=some .free)/\∃c,env.cells.lookup x=some c/\h.IsCell c (some u))
structure Cx.Ok(X:Cx):Prop where
 mod:Mod X.K X.mg X.base
 kind:X.env.scope.kind=.function
 glob:X.env.globals=mainGlobals
 blt:X.env.builtins=builtinsNs
 above:X.s₀.heap.objs.size<=X.env.locals
 inj:∀x y c,X.env.cells.lookup x=some c->X.env.cells.lookup y=some c->x=y
 has:∀x,(X.env.kindOf x=some .cell\/X.env.kindOf x=some .free)->∃c,X.env.cells.lookup x=some c
 cab:∀x c,X.fn x=true->X.env.cells.lookup x=some c->X.s₀.heap.objs.size<=c
 hd:X.calm=true->X.A.handled=none
 frames:X.A.frames=some X.stack
 stk:X.stack=X.outer\/(X.stack=X.env::X.outer/\X.env.frame=some X.env.locals)
 exf:∀b∈X.ex,b≠X.env.locals/\∀x c,X.env.cells.lookup x=some c->c≠b
 bs:∀b o,X.base.get? b=some o->X.s₀.heap.get? b=some o/\X.H₀ b=none
 bsz:X.base.objs.size<=X.s₀.heap.objs.size
 noex:∀b o,X.base.get? b=some o->b∉X.ex
 exfs:∀b∈X.ex,b∉X.fs
 funs:X.s₀.heap.FunFrames X.base X.outer
 frf:(∀b∈X.fs,X.H₀ b=none)/\bC X.K X.H₀
structure Inv(X:Cx)(pins:List (Addr×Obj))(σ:List (Option V))(H:Hp)(s:Shared):Prop where
 ok:X.Ok
 os:s.os=X.s₀.os
 bare:AllBare s.gens
 base:Un X.fs X.ex X.H₀ H X.s₀.heap s.heap
 loc:∃m,s.heap.Ns X.env.locals m/\∀(i:Nat) (x:Str) (v:V),X.N[i]? = some x->σ[i]? = some (some v)->Vis X.env.scope x->∃u,RelV v u/\Look X.env s.heap m x u
 cell:∀x c,X.env.cells.lookup x=some c->∃v,s.heap.IsCell c v
 free:H X.env.locals=none
 freeC:∀x c,X.env.cells.lookup x=some c->H c=none
 pin:∀p∈X.pn++pins,s.heap.get? p.1=some p.2/\H p.1=none/\p.1≠X.env.locals/\p.1∉X.fs/\∀v,p.2.data ≠ .cell v
 hok:HOk X.prog X.w H s.heap
 len:σ.length=X.N.length
theorem Cx.Ok.nofr{X:Cx}(ok:X.Ok)(e:X.base.get? b=some o):b∉X.fs:=λ a=>by
 have:=(ok.funs.mem a).1;rw[e]at this;cases this
theorem Inv.bs(I:JM a):∀b o,X.base.get? b=some o->s.heap.get? b=some o/\H b=none:=λ b o e=>
 ⟨I.base.keep b o (I.ok.bs b o e).1 (I.ok.bs b o e).2 (I.ok.nofr e) (I.ok.noex b o e),I.base.free b o (I.ok.bs b o e).1 (I.ok.bs b o e).2 (I.ok.noex b o e)⟩
theorem Inv.bk(I:JM a):∀b o,X.base.get? b=some o->s.heap.get? b=some o:=λ b o e=>(I.bs b o e).1
theorem Inv.mod(I:JM a):Mod X.K X.mg X.base:=I.ok.mod
theorem Inv.tabs(I:JM a):bC X.K H:=λ p b=>I.base.tbls p.1 p.2 (I.ok.frf.2 p b)
theorem Inv.kIn(I:JM a):X.K.In s.heap:=I.ok.mod.kin.keeps I.bk
theorem Inv.lt(I:JM a):X.env.locals<s.heap.objs.size:=let ⟨_,hn,_⟩:=I.loc;hn.lt
theorem Inv.sz(I:JM a):X.s₀.heap.objs.size<=s.heap.objs.size:=e9 I.ok.above (W0 I.lt)
theorem Inv.nofs(I:JM b)(h:s.heap.objs.size<=a):a∉X.fs:=λ d=>by
 obtain⟨_,o,c,_⟩:=I.ok.funs.mem d
 exact absurd (q9 (j7 c) (e9 I.sz h)) (P9 _)
theorem Inv.cne(I:JM a):∀x c,X.env.cells.lookup x=some c->c≠X.env.locals:=λ x c e z=>by
 obtain⟨v,o,f,hd⟩:=I.cell x c e;obtain⟨m,⟨o',es,ep,b,d,_⟩,_⟩:=I.loc;rw[z,b]at f;cases f;rw[d]at hd;cases hd
theorem Inv.funs(I:JM a):s.heap.FunFrames X.base X.outer:=by
 have all:∀(l:ge Env),(∀b∈frs l,b∈X.fs)->X.s₀.heap.FunFrames X.base l->s.heap.FunFrames X.base l:=by
  intro l
  induction l with
  | nil=>intro _ _;trivial
  | cons p r g=>
   intro hs m;obtain⟨n,⟨L,o,c,j,i,hd⟩,h⟩:=m;have f:=hs L (by unfold frs;rw[dz,c];exact i5);obtain⟨sl,e⟩:=I.base.slot L o i (I.ok.frf.1 L f) f λ z=>I.ok.exfs L z f
   exact⟨n,⟨L,_,c,j,e,hd⟩,g (λ b d=>hs b (by unfold frs;rw[dz,c];exact i7 _ d)) h⟩
 exact all X.outer (λ _ d=>d) I.ok.funs
theorem Inv.stack(I:JM a):s.heap.FunFrames X.base X.stack:=by
 rcases I.ok.stk with e | ⟨e,hf⟩
 ·rw[e];exact I.funs
 ·rw[e];obtain⟨m,b,_⟩:=I.loc;refine .cons (by rw[I.ok.kind];decide) hf b ?_ I.funs
  exact Z4 (e9 I.ok.bsz I.ok.above)
theorem Inv.stkSub(I:JM c):∀b∈frs X.stack,b∈X.env.locals::X.fs:=λ b a=>by
 rcases I.ok.stk with e | ⟨e,hf⟩
 ·rw[e]at a;exact i7 _ a
 ·rw[e]at a;unfold frs at a;rw[dz,hf]at a;exact a
theorem Inv.stkFree(I:JM a):∀b∈frs X.stack,H b=none:=λ b c=>by
 rcases g5.mp (I.stkSub b c)with e | c
 ·rw[e];exact I.free
 ·obtain⟨_,o,d,_⟩:=I.ok.funs.mem c
  exact I.base.free b o d (I.ok.frf.1 b c) λ z=>I.ok.exfs b z c
theorem Inv.step{ch:ge Ji}(I:JM f)
  (j:∀b∈ch,(b∈X.ex\/X.s₀.heap.objs.size<=b)/\b≠X.env.locals/\(∀x c,X.env.cells.lookup x=some c->c≠b)/\∀p∈X.pn++f,p.1≠b)
  (h:∀b o,b≠X.env.locals->b∉X.fs->b∉ch->s.heap.get? b=some o->H b=none->C.get? b=some o)
  (slot:∀b o,b≠X.env.locals->b∈X.fs->b∉ch->s.heap.get? b=some o->H b=none->∃P,C.get? b=some {o with slots:=P}) (free:∀b o,b∉ch->s.heap.get? b=some o->H b=none->H' b=none)
  (A:∀b o,b∉ch->s.heap.get? b=some o->∃L,C.get? b=some L)
  (J:∀b xs,H b=some (.tup xs)->H' b=some (.tup xs)) (N:∀b o u,H b=some (.frz o u)->H' b=some (.frz o u)) (K:∀b q,H b=some (.tbl q)->H' b=some (.tbl q))
  (ns:∀m,s.heap.Ns X.env.locals m->C.Ns X.env.locals m) (Q:HOk X.prog X.w H' C) (hg:AllBare Y) :
  Inv X f σ H' {s with heap:=C,gens:=Y,drawn:=d',toks:=t'}:=by
 have M:∀b o,X.s₀.heap.get? b=some o->b≠X.env.locals:=λ b o e=>o6 (q9 (j7 e) I.ok.above);have y:∀b o,X.s₀.heap.get? b=some o->b∉X.ex->b∉ch:=λ b o e a B=>by
  rcases(j b B).1 with z | z
  ·exact a z
  ·exact absurd (q9 (j7 e) z) (P9 _)
 have w:∀x c,X.env.cells.lookup x=some c->∀v,s.heap.IsCell c v->C.IsCell c v:=λ x c e v ⟨o,F,hd⟩=>by
  have g:c∉ch:=λ z=>(j c z).2.2.1 x c e rfl;by_cases W:c∈X.fs
  ·obtain⟨P,q⟩:=slot c o (I.cne x c e) W g F (I.freeC x c e);exact⟨_,q,hd⟩
  ·exact⟨o,h c o (I.cne x c e) W g F (I.freeC x c e),hd⟩
 refine⟨I.ok,I.os,hg,⟨λ b o e n B a=>?_,λ b o e n B a=>?_,λ b o e n a=>?_,λ b o e a=>?_,λ b xs e=>J b xs (I.base.tups b xs e),λ b o xs e=>N b o xs (I.base.frzs b o xs e),λ b ps e=>?_⟩,?_,λ x c e=>?_,?_,λ x c e=>?_,λ p U=>?_,Q,I.len⟩
 ·exact h b o (M b o e) B (y b o e a) (I.base.keep b o e n B a) (I.base.free b o e n a)
 ·obtain⟨P,E⟩:=I.base.slot b o e n B a;obtain⟨O,R⟩:=slot b _ (M b o e) B (y b o e a) E (I.base.free b o e n a);exact⟨O,R⟩
 ·obtain⟨L,E⟩:=I.base.there b o e a;exact free b L (y b o e a) E (I.base.free b o e n a)
 ·obtain⟨L,E⟩:=I.base.there b o e a;exact A b L (y b o e a) E
 ·exact K b ps (I.base.tbls b ps e)
 ·obtain⟨m,Z,hl⟩:=I.loc;refine⟨m,ns m Z,λ i x v E R e3=>?_⟩;obtain⟨u,r,l⟩:=hl i x v E R e3;refine⟨u,r,?_⟩;rcases l with l | ⟨k,c,e,z⟩
  ·exact .inl l
  ·exact .inr ⟨k,c,e,w x c e _ z⟩
 ·obtain⟨v,z⟩:=I.cell x c e;exact⟨v,w x c e v z⟩
 ·obtain⟨m,⟨o,_,_,F,_⟩,_⟩:=I.loc;exact free _ o (λ z=>(j _ z).2.1 rfl) F I.free
 ·obtain⟨v,o,F,hd⟩:=I.cell x c e;exact free c o (λ z=>(j c z).2.2.1 x c e rfl) F (I.freeC x c e)
 ·obtain⟨e,n,ne,S,d⟩:=I.pin p U;have g:p.1∉ch:=λ z=>(j p.1 z).2.2.2 p U rfl
  exact⟨h p.1 p.2 ne S g e n,free p.1 p.2 g e n,ne,S,d⟩
theorem Inv.un(I:JM a)(u:Un X.fs [] H H' s.heap g)(d:HOk X.prog X.w H' g):Inv X a σ H' {s with heap:=g,toks:=t'}:=by
 obtain⟨m,⟨o,es,ep,j,r⟩,_⟩:=id I.loc;obtain⟨sl,q⟩:=u.any j I.free JN;exact I.step (ch:=[]) (λ _ z=>nomatch z) (λ b o _ f _ e n=>u.keep b o e n f JN) (λ b o _ f _ e n=>u.slot b o e n f JN) (λ b o _ e n=>u.free b o e n JN) (λ b o _ e=>u.there b o e JN) u.tups u.frzs u.tbls (λ m' p=>by
  obtain⟨o',h,i,c,l⟩:=p;rw[j]at c;cases c;exact⟨_,h,i,q,l⟩) d I.bare
theorem Inv.call(I:JM a)(u:Un (frs X.stack) ch H H' s.heap j)(h:HOk X.prog X.w H' j)(B:AllBare w)
  (g:∀b∈ch,(b∈X.ex\/X.s₀.heap.objs.size<=b)/\b≠X.env.locals/\(∀x c,X.env.cells.lookup x=some c->c≠b)/\∀p∈X.pn++a,p.1≠b) :
  Inv X a σ H' {s with heap:=j,gens:=w,drawn:=E,toks:=t'}:=by
 obtain⟨m,⟨o,es,ep,v,r⟩,_⟩:=id I.loc;obtain⟨sl,i⟩:=u.any v I.free λ z=>(g _ z).2.1 rfl
 exact I.step g (λ b o i C d e n=>u.keep b o e n (λ z=>(g5.mp (I.stkSub b z)).elim i C) d) (λ b o _ _ d e n=>u.any e n d) (λ b o d e n=>u.free b o e n d) (λ b o d e=>u.there b o e d) u.tups u.frzs u.tbls (λ m' A=>by
  obtain⟨o',l,q,f,y⟩:=A;rw[v]at f;cases f;exact⟨_,l,q,i,y⟩) h B
theorem Inv.turned(I:JM a)(k:∀b o,b≠it->s.heap.get? b=some o->h.get? b=some o)(j:H it=none)(g:it≠X.env.locals)
  (B:it∈X.ex\/X.s₀.heap.objs.size<=it) (A:∀x c,X.env.cells.lookup x=some c->c≠it) (y:∀p∈X.pn++a,p.1≠it):Inv X a σ H {s with heap:=h,toks:=t'}:=by
 have f:∀b u,H b=some u->b≠it:=λ b u e z=>by rw[z,j]at e;cases e
 refine I.step (ch:=[it]) (λ b w=>?_) (λ b o _ _ d e _=>k b o (λ z=>d (by simp[z])) e) (λ b o _ _ d e _=>⟨o.slots,k b o (λ z=>d (by simp[z])) e⟩) (λ _ _ _ _ n=>n)
  (λ b o d e=>⟨o,k b o (λ z=>d (by simp[z])) e⟩) (λ _ _ e=>e) (λ _ _ _ e=>e) (λ _ _ e=>e) (λ m l=>?_) (λ b u e=>?_) I.bare
 ·have e:b=it:=by simpa using w
  subst e;exact⟨B,g,A,y⟩
 ·obtain⟨o,C,E,i,r⟩:=l;exact⟨o,C,E,k _ o (Ne.symm g) i,r⟩
 ·refine(I.hok b u e).stay (λ c v d q=>k c v ?_ q) (λ _ q=>q) (λ _ _ q=>q) (λ _ _ q=>q) λ _ _ _ _ _ q=>q;rcases d with z | z
  ·rw[z];exact f b u e
  ·exact f c _ z
theorem Inv.tok(I:JM a)(t:Nat):Inv X a σ H {s with toks:=t}:=I.un Un.refl I.hok
theorem Inv.kept(I:JM a)(k:∀b u,s.heap.get? b=some u->c.get? b=some u):Inv X a σ H {s with heap:=c,toks:=t'}:=I.un (Un.kept k) (I.hok.kept k)
theorem Inv.laid(I:JM c)(k:∀b u,s.heap.get? b=some u->e.get? b=some u)(d:s.heap.objs.size<=a)(new:p4 X.prog X.w (upd H a o) e a o) :
  Inv X c σ (upd H a o) {s with heap:=e,toks:=t'}:=I.un (Un.laid k d (I.hok.fresh d)) (I.hok.laid k d new)
theorem Inv.write(I:JM a)(f:Mut (H x))(g:e=x\/H e=some (.own x))(k:∀b u,b≠e->s.heap.get? b=some u->d.get? b=some u)(c:∃u,d.get? e=some u)
  (new:p4 X.prog X.w (upd H x o) d x o):Inv X a σ (upd H x o) {s with heap:=d,toks:=t'}:=I.un (Un.write f g k c) (I.hok.write f g k c new)
theorem Inv.pins_of(I:JM b)(h:∀p∈a,s.heap.get? p.1=some p.2/\H p.1=none/\p.1≠X.env.locals/\p.1∉X.fs/\∀v,p.2.data ≠ .cell v):Inv X a σ H s:=
 ⟨I.ok,I.os,I.bare,I.base,I.loc,I.cell,I.free,I.freeC,λ p c=>(A5.mp c).elim (λ z=>I.pin p (B6 _ z)) (h p),I.hok,I.len⟩
theorem iN{N:ge Str}(c:N.Nodup){j:Nat}(a:N[i]? = some x)(b:N[j]? = some x):i=j:=by
 obtain⟨h1,e⟩:=x8.mp a;obtain⟨h2,d⟩:=x8.mp b;exact(List.getElem_inj c).mp (e.trans d.symm)
theorem nT(I:JM F)(hN:X.N.Nodup)(U:X.N[i]? = some x)(w:Loc X.env.scope x)(r:RelV v u)
  (h:∀s',Inv X F (σ.set i (some v)) H s'->(∃a,Heap.SameBut a s.heap s'.heap/\(a=X.env.locals\/X.env.cells.lookup x=some a))->Q () s') (hf:X.fn x=true\/X.env.scope.names.lookup x=some .local:=by first | exact .inl rfl | exact .inr rfl | assumption):wpAny M A (storeName X.env x u) Q E s:=by
 obtain⟨m,hn,hl⟩:=id I.loc;have W:(X.env.scope.kind == .class||(X.env.scope.kind == .module&&X.env.locals != X.env.globals))=false:=by rw[I.ok.kind];rfl
 have K:i<σ.length:=by rw[I.len];exact(x8.mp U).1
 have cne:=I.cne;have f:∀{a:Ji} {P:Jj},(∃o,s.heap.get? a=some o/\H a=none)->Heap.SameBut a s.heap P->HOk X.prog X.w H P:=λ {a P} ha hs b ob e=>by
  obtain⟨_,_,B⟩:=ha;refine(I.hok b ob e).stay (λ c w' l q=>(hs.2 c ?_).trans q) (λ _ q=>q) (λ _ _ q=>q) (λ _ _ q=>q) λ _ _ _ _ _ q=>q
  rintro rfl
  rcases l with rfl | l
  ·rw[B]at e;cases e
  ·rw[B]at l;cases l
 rcases w with J | J
 ·refine wpAny_storeName_local J hn (λ P a1 hs=>?_) W;obtain⟨oL,_,_,a0,_⟩:=id hn;refine h _ ⟨I.ok,I.os,I.bare,⟨λ b o e n O w=>?_,λ b o e n O w=>?_,I.base.free,λ b o e w=>?_,I.base.tups,I.base.frzs,I.base.tbls⟩,⟨_,a1,λ j y v' g C e3=>?_⟩,λ y c e=>?_,I.free,I.freeC,λ p hp=>?_,f ⟨oL,a0,I.free⟩ hs,by simpa using I.len⟩ ⟨_,hs,.inl rfl⟩
  ·exact(hs.2 b (o6 (q9 (j7 e) I.ok.above))).trans (I.base.keep b o e n O w)
  ·obtain⟨sl,g⟩:=I.base.slot b o e n O w;exact⟨sl,(hs.2 b (o6 (q9 (j7 e) I.ok.above))).trans g⟩
  ·obtain⟨o',g⟩:=I.base.there b o e w;exact⟨o',(hs.2 b (o6 (q9 (j7 e) I.ok.above))).trans g⟩
  ·by_cases L:j=i
   ·subst L;rw[U]at g;cases g;rw[K4 K]at C;cases C;exact⟨u,r,.inl ⟨J,by simp⟩⟩
   ·rw[p7 (Ne.symm L)]at C;obtain⟨u',r',q⟩:=hl j y v' g C e3;refine⟨u',r',?_⟩;rcases q with⟨k,e⟩ | ⟨k,c,e,z⟩
    ·refine .inl ⟨k,?_⟩;have:y≠x:=λ e=>L (iN hN g (e▸U));simp[this,e]
    ·exact .inr ⟨k,c,e,z.sameBut hs (cne y c e)⟩
  ·obtain⟨w',z⟩:=I.cell y c e;exact⟨w',z.sameBut hs (cne y c e)⟩
  ·obtain⟨e,n,ne,nf,d⟩:=I.pin p hp;exact⟨(hs.2 p.1 ne).trans e,n,ne,nf,d⟩
 ·have N:X.fn x=true:=by
   rcases hf with z | z
   ·exact z
   ·rw[z]at J;cases J
  obtain⟨c,l⟩:=I.ok.has x (.inl J);obtain⟨w',z⟩:=I.cell x c l;refine wpAny_storeName_cell I.ok.kind J l z (λ P Z hs=>?_);obtain⟨oc,S,R⟩:=id z;refine h {s with heap:=P} ⟨I.ok,I.os,I.bare,⟨λ b o e n O w=>?_,λ b o e n O w=>?_,I.base.free,λ b o e w=>?_,I.base.tups,I.base.frzs,I.base.tbls⟩,⟨m,hn.sameBut hs (Ne.symm (cne x c l)),λ j y v' g C e3=>?_⟩,λ y c' e=>?_,I.free,I.freeC,λ p hp=>?_,f ⟨oc,S,I.freeC x c l⟩ hs,by simpa using I.len⟩ ⟨c,hs,.inr l⟩
  ·exact(hs.2 b (o6 (q9 (j7 e) (I.ok.cab x c N l)))).trans (I.base.keep b o e n O w)
  ·obtain⟨sl,g⟩:=I.base.slot b o e n O w;exact⟨sl,(hs.2 b (o6 (q9 (j7 e) (I.ok.cab x c N l)))).trans g⟩
  ·obtain⟨o',g⟩:=I.base.there b o e w;exact⟨o',(hs.2 b (o6 (q9 (j7 e) (I.ok.cab x c N l)))).trans g⟩
  ·by_cases L:j=i
   ·subst L;rw[U]at g;cases g;rw[K4 K]at C;cases C;exact⟨u,r,.inr ⟨.inl J,c,l,Z⟩⟩
   ·rw[p7 (Ne.symm L)]at C;obtain⟨u',r',q⟩:=hl j y v' g C e3;refine⟨u',r',?_⟩;rcases q with q | ⟨k,c',e,z'⟩
    ·exact .inl q
    ·refine .inr ⟨k,c',e,z'.sameBut hs ?_⟩
     rintro rfl
     exact L (iN hN g (I.ok.inj _ _ _ e l▸U))
  ·by_cases Y:c'=c
   ·subst Y;exact⟨_,Z⟩
   ·obtain⟨w2,z2⟩:=I.cell y c' e;exact⟨w2,z2.sameBut hs Y⟩
  ·obtain⟨e,n,ne,nf,d⟩:=I.pin p hp;refine⟨(hs.2 p.1 ?_).trans e,n,ne,nf,d⟩;intro q;rw[q,S]at e;exact d w' (by rw[←(A9 e)];exact R)
theorem iO(I:JM a)(f:X.N.Nodup)(d:X.N[i]? = some x)(c:Loc X.env.scope x)(r:RelV v u)
  (h:∀b,Inv X a (σ.set i (some v)) H b->Q () b) (e:X.fn x=true\/X.env.scope.names.lookup x=some .local:=by first | exact .inl rfl | exact .inr rfl | assumption):wpAny M A (storeName X.env x u) Q E s:=
 nT I f d c r (λ b g _=>h b g) e
theorem Inv.call'(I:JM a)(h:d.os=s.os)(u:Un (frs X.stack) ch H H' s.heap d.heap)(f:HOk X.prog X.w H' d.heap)(i:AllBare d.gens)
  (g:∀b∈ch,(b∈X.ex\/X.s₀.heap.objs.size<=b)/\b≠X.env.locals/\(∀x c,X.env.cells.lookup x=some c->c≠b)/\∀p∈X.pn++a,p.1≠b):Inv X a σ H' d:=by
 obtain⟨h',g',d',t',o'⟩:=d;have e:=h;subst e;exact I.call u f i g
abbrev XK:=Jg->on Ji->Hp->Prop
abbrev St:=ge (on V)
abbrev VK:=V->Hp->Prop
abbrev TE:=St->Hp->VK->Prop
abbrev TT:=St->Hp->(Bool->Hp->Prop)->Prop
abbrev TA:=St->Hp->(ge V->Hp->Prop)->Prop
structure Ends where
 nx:St->Hp->Prop
 rt:VK
 bk:St->Hp->Prop:=λ _ _=>False
 ct:St->Hp->Prop:=λ _ _=>False
abbrev TS:=Ends->St->Hp->Prop
def EP(X:Cx)(pins:ge (Ji×Obj))(σ:St)(Q:VK)(u:Jg)(s':Jh):Prop:=∃v H',Inv X pins σ H' s'/\RelV v u/\Q v H'
def TP(X:Cx)(pins:ge (Ji×Obj))(σ:St)(Q:Bool->Hp->Prop)(b:Bool)(s':Jh):Prop:=∃H',Inv X pins σ H' s'/\Q b H'
def AP(X:Cx)(pins:ge (Ji×Obj))(σ:St)(Q:ge V->Hp->Prop)(us:ge Jg)(s':Jh):Prop:=∃vs H',Inv X pins σ H' s'/\Vals vs us/\Q vs H'
def SP(X:Cx)(pins:ge (Ji×Obj))(D:Ends)(f:Flow)(s':Jh):Prop:=
 match f with
 | .next=>∃σ' H',Inv X pins σ' H' s'/\D.nx σ' H'
 | .brk=>∃σ' H',Inv X pins σ' H' s'/\D.bk σ' H'
 | .cont=>∃σ' H',Inv X pins σ' H' s'/\D.ct σ' H'
 | .ret u=>∃v σ' H',Inv X pins σ' H' s'/\RelV v u/\D.rt v H'
def PE(X:Cx)(e:Jk)(t:TE):Prop:=
 ∀(pins:ge (Ji×Obj)) (s:Jh) (σ:St) (H:Hp) (Q:VK),Inv X pins σ H s->t σ H Q->wpAny JE X.A (eval e X.env) (EP X pins σ Q) X.xe s
def PT(X:Cx)(e:Jk)(t:TT):Prop:=
 ∀(pins:ge (Ji×Obj)) (s:Jh) (σ:St) (H:Hp) (Q:Bool->Hp->Prop),Inv X pins σ H s->t σ H Q->wpAny JE X.A (isTrue e X.env (eval e X.env)) (TP X pins σ Q) X.xe s
def PW(X:Cx)(e:Jk)(t:TT):Prop:=
 ∀(whole:Sem Jg) (pins:ge (Ji×Obj)) (s:Jh) (σ:St) (H:Hp) (Q:Bool->Hp->Prop),Inv X pins σ H s->t σ H Q->wpAny JE X.A (isTrue e X.env whole) (TP X pins σ Q) X.xe s
theorem PW.pt(h:PW X e t):PT X e t:=h _
def PA(X:Cx)(es:ge Jk)(t:TA):Prop:=
 ∀(pos:Pos) (pins:ge (Ji×Obj)) (s:Jh) (σ:St) (H:Hp) (Q:ge V->Hp->Prop),Inv X pins σ H s->t σ H Q->wpAny JE X.A (spliced (backTo pos (starEach es X.env))) (AP X pins σ Q) X.xe s
def PS(X:Cx)(st:Jq)(t:TS):Prop:=
 ∀(pins:ge (Ji×Obj)) (s:Jh) (σ:St) (H:Hp) (D:Ends),Inv X pins σ H s->t D σ H->wpAny JE X.A (exec st X.env) (SP X pins D) X.xe s
def PSs(X:Cx)(st:ge Jq)(t:TS):Prop:=
 ∀(pins:ge (Ji×Obj)) (s:Jh) (σ:St) (H:Hp) (D:Ends),Inv X pins σ H s->t D σ H->wpAny JE X.A (execs st X.env) (SP X pins D) X.xe s
theorem thn(h:wpAny M A t Q E s)(c:∀a s,Q a s->Q' a s):wpAny M A t Q' E s:=B1 h c λ _ _ x=>x
end L2
namespace L2
open PySem PySem.Spec PyProof.Rows
section
variable {X:Cx}
theorem bin(w:PE X a m)(r:PE X b l){R:V->V->Hp->Prop}(I:JM c)(h:m σ H λ x i=>l σ i λ y d=>R x y d)
     {Q:j->Jh->Prop} {f:Jg->Jg->Sem j}
    (q:∀v u s2 x y d,Inv X c σ d s2->RelV x v->RelV y u->R x y d->wpAny JE X.A (f v u) Q X.xe s2) :
    wpAny JE X.A (eval a X.env) (λ v g=>wpAny JE X.A (eval b X.env) (λ u e=>wpAny JE X.A (f v u) Q X.xe e) X.xe g) X.xe s:=by
  refine thn (w c s σ H _ I h) λ v s1 t0=>?_;obtain⟨x,i,A,r1,p⟩:=t0;refine thn (r c s1 σ i _ A p) λ u s2 t0=>?_;obtain⟨y,d,z,n,o⟩:=t0;exact q v u s2 x y d z r1 n o
noncomputable def tVar(i:Nat):TE:=λ σ H Q=>∃v,σ[i]? = some (some v)/\Q v H
noncomputable def tC(v:V):TE:=λ _ H Q=>Q v H
theorem M6(p:X.N[i]? = some x)(hv:Vis X.env.scope x)(hd:(x==("__debug__" : Str))=false:=by decide)(f:(x==("__classdict__" : Str))=false:=by decide):PE X (.Name x pos) (tVar i):=by
 intro d s g H Q I h;obtain⟨v,e,h⟩:=h;obtain⟨m,j,o⟩:=I.loc;obtain⟨u,r,l⟩:=o i x v p e hv;have b:EP X d g Q u s:=⟨v,H,I,r,h⟩;rcases l with⟨a,n⟩ | ⟨a,c,hc,hcell⟩
 ·exact wpAny_Name (wpAny_loadName_local I.ok.kind a j n b) hd
 ·rcases a with a | a
  ·exact wpAny_Name (wpAny_loadName_cell I.ok.kind a hc hcell b) hd
  ·exact wpAny_Name (wpAny_loadName_free I.ok.kind a hc hcell b f) hd
theorem wV:PE X (.Constant (.int i) j pos) (tC (.int i)):=λ _ _ _ H _ I h=>wpAny_Constant_int ⟨.int i,H,I.tok _,⟨_,rfl⟩,h⟩
theorem wW:PE X (.Constant (.bool b) j pos) (tC (.bl b)):=λ _ _ _ H _ I h=>Constant_bool ⟨.bl b,H,I,rfl,h⟩
theorem wX:PE X (.Constant .none j pos) (tC .non):=λ _ _ _ H _ I h=>Constant_none ⟨.non,H,I,rfl,h⟩
theorem wY:PE X (.Constant (.str x) j pos) (tC (.str x)):=λ _ _ _ H _ I h=>Calls.Constant_str ⟨.str x,H,I.tok _,⟨_,rfl⟩,h⟩
def Gl(X:Cx)(x:Str):Prop:=X.env.kindOf x=some .globalImplicit
theorem nU(I:JM a)(c:Gl X x)(b:X.mg x=some u)(h:Q u s)
  (hd:(x==("__debug__" : Str))=false:=by decide):wpAny JE X.A (eval (.Name x pos) X.env) Q E s:=
 mY I.ok.kind c (Calls.loadGlobal_global (by rw[I.ok.glob];exact I.mod.glob.keeps I.bk) b h) hd
theorem W4(I:JM a)(d:Gl X x)(c:X.mg x=none)(hv:bootBuiltins x=some u)(h:Q u s)
  (b:x ≠ "__name__":=by decide) (hd:(x==("__debug__" : Str))=false:=by decide):wpAny JE X.A (eval (.Name x pos) X.env) Q E s:=by
 obtain⟨mb,f,e⟩:=I.mod.blt;exact mY I.ok.kind d (Calls.loadGlobal_builtin (by rw[I.ok.glob];exact I.mod.glob.keeps I.bk) c (by rw[I.ok.blt];exact f.keeps I.bk) ((e x b).trans hv) h) hd
theorem wZ(b:Gl X x)(a:X.mg x=some u)(r:RelV v u)(hd:(x==("__debug__" : Str))=false:=by decide):PE X (.Name x pos) (tC v):=
 λ _ _ _ H _ I h=>nU I b a ⟨v,H,I,r,h⟩ hd
theorem xa(c:Gl X x)(b:X.mg x=none)(hv:bootBuiltins x=some u)(r:RelV v u)(a:x ≠ "__name__":=by decide)(hd:(x==("__debug__" : Str))=false:=by decide):PE X (.Name x pos) (tC v):=
 λ _ _ _ H _ I h=>W4 I c b hv ⟨v,H,I,r,h⟩ a hd
variable {a b:Jk} {ta tb:TE} {pos:Pos}
def PC(X:Cx)(op:CmpOp)(a b:Jk)(t:TE):Prop:=
 ∀(pins:ge (Ji×Obj)) (s:Jh) (σ:St) (H:Hp) (Q:VK),Inv X pins σ H s->t σ H Q ->
  wpAny JE X.A (eval a X.env) (λ v s₁=>wpAny JE X.A (eval b X.env) (λ u s₂=>wpAny JE X.A (compareOp op v u) (EP X pins σ Q) X.xe s₂) X.xe s₁) X.xe s
theorem nV(b:Jk)(h:op ≠ .In)(a:op ≠ .NotIn):behindInMarks op b=false:=by
 have d:(op==CmpOp.In)=false:=by cases op<;>first | rfl | exact absurd rfl h
 have c:(op==CmpOp.NotIn)=false:=by cases op<;>first | rfl | exact absurd rfl a
 cases b<;>simp[behindInMarks,d,c]
noncomputable def tB(t:TE):TT:=λ σ H Q=>t σ H λ x H1=>∃c,x=.bl c/\Q c H1
theorem xb(h:PC X op a b t)(f:behindInMarks op b=false:=by first | exact nV _ (by decide) Jz | rfl):PE X (.Compare a [op] [b] pos) t:=λ c s d H Q I e=>wpAny_Compare1 (h c s d H Q I e) f
theorem xc(h:PC X op a b t)(f:behindInMarks op b=false:=by first | exact nV _ (by decide) Jz | rfl):PT X (.Compare a [op] [b] pos) (tB t):=by
 intro e s g H Q I j;refine nO (thn (h e s g H _ I j) λ v s1 f=>thn f λ u s2 l=>thn l λ c s3 ⟨x,n,m,r1,i⟩=>?_) f;obtain⟨d,rfl,q⟩:=i;cases r1;exact Z7 ⟨n,m,q⟩
noncomputable def tAnd(t u:TT):TT:=λ σ H Q=>t σ H λ c H1=>if c=true then u σ H1 Q else Q false H1
noncomputable def tOr(t u:TT):TT:=λ σ H Q=>t σ H λ c H1=>if c=true then Q true H1 else u σ H1 Q
noncomputable def tNot(t:TT):TT:=λ σ H Q=>t σ H λ c H1=>Q (!c) H1
theorem xf(g:PT X a d):PW X (.BoolOp .And [a] pos) d:=by
 intro wh b s f H Q I h;refine isTrue_and (thn (g b s f H Q I h) λ c s1 e=>?_);cases c with
 | true=>exact isTrue_and_nil e
 | false=>exact e
theorem xg(g:PT X a d):PW X (.BoolOp .Or [a] pos) d:=by
 intro wh b s f H Q I h;refine isTrue_or (thn (g b s f H Q I h) λ c s1 e=>?_);cases c with
 | false=>exact isTrue_or_nil e
 | true=>exact e
theorem nW{rest:ge Jk}(o:PT X a g)(n:PW X (.BoolOp .And (b::rest) pos) e):PW X (.BoolOp .And (a::b::rest) pos) (tAnd g e):=by
 intro m d s f H Q I h;refine isTrue_and (thn (o d s f H _ I h) λ c s1 t0=>?_);obtain⟨l,j,i⟩:=t0;cases c with
 | true=>exact n m d s1 f l Q j i
 | false=>exact⟨l,j,i⟩
theorem nX{rest:ge Jk}(o:PT X a g)(n:PW X (.BoolOp .Or (b::rest) pos) e):PW X (.BoolOp .Or (a::b::rest) pos) (tOr g e):=by
 intro m d s f H Q I h;refine isTrue_or (thn (o d s f H _ I h) λ c s1 t0=>?_);obtain⟨l,j,i⟩:=t0;cases c with
 | true=>exact⟨l,j,i⟩
 | false=>exact n m d s1 f l Q j i
theorem xh(e:PT X a c):PT X (.UnaryOp .Not a pos) (tNot c):=by
 intro b s d H Q I h;exact isTrue_not (e b s d H _ I h)
theorem nY(h:PE X a t):PE X (.BoolOp op [a] pos) t:=λ b s c H Q I d=>BoolOp_one (h b s c H Q I d)
noncomputable def tIf(t:TT)(ta tb:TE):TE:=λ σ H Q=>t σ H λ c H1=>if c=true then ta σ H1 Q else tb σ H1 Q
theorem nZ(m:PT X c g)(o:PE X a ta)(n:PE X b tb):PE X (.IfExp c a b pos) (tIf g ta tb):=by
 intro e s f H Q I h;refine wpAny_IfExp (thn (m e s f H _ I h) λ d s1 t0=>?_);obtain⟨l,j,i⟩:=t0;cases d with
 | true=>exact o e s1 f l Q j i
 | false=>exact n e s1 f l Q j i
end
end L2
namespace L2
open PySem PySem.Spec PyProof.Rows
def SqL(K:Js)(H:Hp)(a:Ji)(xs:ge V):Prop:=
 Rd H a (.lst xs) \/
  ∃(o:Obj) (its:Jl Jg) (n:Nat),K.lookup a=some o/\o.cls=.type "list" /\ o.dict=none/\o.data=.seq its n/\its.size<=sizeLine/\Vals xs its.toList
def SqT(K:Js)(H:Hp)(a:Ji)(xs:ge V):Prop:=
 Rd H a (.tup xs) \/
  ∃(o:Obj) (its:Jl Jg) (n:Nat),K.lookup a=some o/\(o.cls=.type "tuple" /\ o.dict=none)/\o.data=.seq its n/\its.size<=sizeLine/\Vals xs its.toList
noncomputable def absV:Jg->on V
 | .none=>some .non
 | .bool b=>some (.bl b)
 | .int i _=>some (.int i)
 | .str x _=>some (.str x)
 | .bytes b _=>some (.byt b)
 | .float b _=>some (.flt b)
 | .ref a=>some (.ref a)
 | .type n=>some (.ty n)
 | _=>none
theorem RelV.abs(r:RelV x u):absV u=some x:=by
 cases x with
 | non=>cases r;rfl
 | bl _=>cases r;rfl
 | int _=>obtain⟨t,rfl⟩:=r;rfl
 | str _=>obtain⟨t,rfl⟩:=r;rfl
 | byt _=>obtain⟨t,rfl⟩:=r;rfl
 | flt _=>obtain⟨t,rfl⟩:=r;rfl
 | ref _=>cases r;rfl
 | ty _=>cases r;rfl
theorem RelV.inj(r:RelV x u)(q:RelV y u):x=y:=A9 (r.abs.symm.trans q.abs)
theorem Vals.inj(h:Vals xs b):Vals a b->xs=a:=by
 induction h generalizing a with
 | nil=>intro t;cases t;rfl
 | cons r _ e=>intro t;cases t with | cons d c=>rw[r.inj d,e c]
theorem SqL.of{K:Js}(h:H a=some (.lst xs)):SqL K H a xs:=.inl (.inl h)
theorem SqT.of{K:Js}(h:H a=some (.tup xs)):SqT K H a xs:=.inl (.inl h)
theorem Inv.list(I:JM c)(h:SqL X.K H a xs):∃b:ge Jg,Vals xs b/\PlainL s.heap a b.toArray/\xs.length<=sizeLine:=by
 rcases h with h | ⟨o,b,n,hk,hc,hd,hs,hz,r⟩
 ·obtain⟨z,b,n,r,e⟩:=h.ok I.hok;exact⟨b,r,⟨_,n,e,rfl,rfl,rfl⟩,z⟩
 ·refine⟨b.toList,r,⟨o,n,I.kIn a o hk,hc,hd,by simpa using hs⟩,?_⟩;have e:=r.length;simp only[w6]at e;omega
theorem Inv.tuple(I:JM c)(h:SqT X.K H a xs):∃b:ge Jg,Vals xs b/\IsTup s.heap a b.toArray/\xs.length<=sizeLine:=by
 rcases h with h | ⟨o,b,n,hk,hc,hs,hz,r⟩
 ·obtain⟨z,b,r,p⟩:=h.ok I.hok;exact⟨b,r,p.tup,z⟩
 ·refine⟨b.toList,r,⟨o,I.kIn a o hk,hc.1,n,by simpa using hs⟩,?_⟩;have e:=r.length;simp only[w6]at e;omega
theorem Inv.tupleN(I:JM b)(h:SqT X.K H a xs):∃o,s.heap.get? a=some o/\o.cls=.type "tuple" /\ o.dict=none:=by
 rcases h with h | ⟨o,d,n,hk,hc,hs,hz,r⟩
 ·obtain⟨z,d,r,o,e,c,_⟩:=h.ok I.hok;exact⟨o,e,c.1,c.2⟩
 ·exact⟨o,I.kIn a o hk,hc.1,hc.2⟩
theorem Inv.list_inj(I:JM b)(h:SqL X.K H a xs)(m:SqL X.K H a g):xs=g:=by
 obtain⟨f,r,⟨o,n,e,_,_,d⟩,_⟩:=I.list h;obtain⟨c,l,⟨o',n',i,_,_,j⟩,_⟩:=I.list m;rw[e]at i;cases i;rw[d]at j;injection j with d1 _
 have:f=c:=by simpa using congrArg Array.toList d1
 subst this;exact r.inj l
theorem Inv.tuple_inj(I:JM b)(h:SqT X.K H a xs)(m:SqT X.K H a g):xs=g:=by
 obtain⟨f,r,⟨o,e,_,n,d⟩,_⟩:=I.tuple h;obtain⟨c,l,⟨o',i,_,n',j⟩,_⟩:=I.tuple m;rw[e]at i;cases i;rw[d]at j;injection j with d1 _
 have:f=c:=by simpa using congrArg Array.toList d1
 subst this;exact r.inj l
section
variable {X:Cx} {st:Jq} {rest:ge Jq} {t u:TS} {e:Jk} {te:TE} {pos:Pos}
noncomputable def xi:TS:=λ D σ H=>D.nx σ H
noncomputable def tSeq(t u:TS):TS:=λ D σ H=>t {D with nx:=u D} σ H
theorem xj:PSs X [] xi:=λ _ _ a H _ I h=>ir ⟨a,H,I,h⟩
theorem oa(e:PS X st t)(d:PSs X rest u):PSs X (st::rest) (tSeq t u):=by
 intro a s c H D I h;refine wpAny_execs_cons (thn (e a s c H {D with nx:=u D} I h) λ f s1 q=>?_);cases f with
 | next=>
  obtain⟨b,i,g,q⟩:=q;exact d a s1 b i D g q
 | ret v=>exact q
 | brk=>exact q
 | cont=>exact q
theorem Inv.quiet(I:JM a):interactive X.env=false:=by simp[interactive,I.ok.kind]
noncomputable def xk(te:TE):TS:=λ D σ H=>te σ H λ _ H1=>D.nx σ H1
theorem iP(d:PE X e te)(hs:swapsWith e none pos.line X.env=pure false:=by rfl):PS X (.Expr e pos) (xk te):=by
 intro a s b H D I h;exact wpAny_Expr_any (thn (d a s b H _ I h) λ v s1 ⟨x,g,f,r1,c⟩=>⟨b,g,f,c⟩) I.quiet hs
noncomputable def tRet(te:TE):TS:=λ D σ H=>te σ H D.rt
theorem oe(d:PE X e te):PS X (.Return (some e) pos) (tRet te):=by
 intro a s b H D I h;exact wpAny_Return_some (thn (d a s b H _ I h) λ v s1 ⟨x,g,f,r1,c⟩=>⟨x,b,g,f,r1,c⟩)
noncomputable def tIfS(c:TT)(t u:TS):TS:=λ D σ H=>c σ H λ b H1=>if b=true then t D σ H1 else u D σ H1
theorem og(m:PT X c g)(o:PSs X a t)(n:PSs X b u):PS X (.If c a b pos) (tIfS g t u):=by
 intro e s f H D I h;refine wpAny_If (thn (m e s f H _ I h) λ d s1 t0=>?_);obtain⟨l,j,i⟩:=t0;cases d with
 | true=>exact o e s1 f l D j i
 | false=>exact n e s1 f l D j i
noncomputable def xl:TS:=λ _ _ _=>False
theorem iQ:PSs X a xl:=λ _ _ _ _ _ _ h=>h.elim
end
abbrev TG:=V->St->Hp->(St->Hp->Prop)->Prop
abbrev TGs:=ge V->St->Hp->(St->Hp->Prop)->Prop
def PG(X:Cx)(target:Jk)(t:TG):Prop:=
 ∀(pins:ge (Ji×Obj)) (s:Jh) (σ:St) (H:Hp) (v:V) (u:Jg) (Q:St->Hp->Prop),Inv X pins σ H s->RelV v u->t v σ H Q ->
  wpAny JE X.A (assign target X.env u) (λ _ s'=>∃σ' H',Inv X pins σ' H' s'/\Q σ' H') X.xe s
def PGs(X:Cx)(ts:ge Jk)(t:TGs):Prop:=
 ∀(pins:ge (Ji×Obj)) (s:Jh) (σ:St) (H:Hp) (vs:ge V) (us:ge Jg) (Q:St->Hp->Prop),Inv X pins σ H s->Vals vs us->t vs σ H Q ->
  wpAny JE X.A (assignInOrder ((assignEach ts X.env).map (·.2)) us) (λ _ s'=>∃σ' H',Inv X pins σ' H' s'/\Q σ' H') X.xe s
abbrev TSet:=V->V->V->Hp->(Hp->Prop)->Prop
def PSet(X:Cx)(t:TSet):Prop:=
 ∀(pins:ge (Ji×Obj)) (s:Jh) (σ:St) (H:Hp) (o i v:V) (ov iv u:Jg) (Q:Hp->Prop),Inv X pins σ H s->RelV o ov->RelV i iv->RelV v u->t o i v H Q ->
  wpAny JE X.A (setItem ov iv u) (λ _ s'=>∃H',Inv X pins σ H' s'/\Q H') X.xe s
abbrev TIp:=V->V->Hp->VK->Prop
def PIp(X:Cx)(op:Operator)(t:TIp):Prop:=
 ∀(pins:ge (Ji×Obj)) (s:Jh) (σ:St) (H:Hp) (x y:V) (v u:Jg) (Q:VK),Inv X pins σ H s->RelV x v->RelV y u->t x y H Q ->
  wpAny JE X.A (inplaceOp op v u) (EP X pins σ Q) X.xe s
noncomputable def bD(i:Nat):TG:=λ v σ H Q=>Q (σ.set i (some v)) H
theorem oh(e:X.N.Nodup)(c:X.N[i]? = some x)(b:Loc X.env.scope x)(d:X.fn x=true\/X.env.scope.names.lookup x=some .local:=by first | exact .inl rfl | exact .inr rfl | assumption):PG X (.Name x pos) (bD i):=by
 intro a s σ H v u Q I r h;exact wpAny_assign_Name (iO I e c b r (λ s' f=>⟨_,H,f,h⟩) d)
noncomputable def gNil:TGs:=λ vs σ H Q=>vs=[]/\Q σ H
noncomputable def oi(t:TG)(u:TGs):TGs:=λ vs σ H Q=>∃v r,vs=v::r/\t v σ H λ σ' H'=>u r σ' H' Q
theorem xm:PGs X [] gNil:=by
 intro a s b H vs us Q I r h;obtain⟨e,h⟩:=h;subst e;cases r;exact assignInOrder_nil ⟨b,H,I,h⟩
theorem xn(i:PG X e t)(g:PGs X es u)
  (hs:(assignEach (e::es) X.env).map (·.2)=assign e X.env::(assignEach es X.env).map (·.2):=by rfl):PGs X (e::es) (oi t u):=by
 intro a s c H vs us Q I r h;obtain⟨v,vr,j,h⟩:=h;subst j;cases r with
 | cons r d=>
  rw[hs];refine assignInOrder_cons (thn (i a s c H _ _ _ I r h) λ _ s1 t0=>?_);obtain⟨b,m,l,f⟩:=t0;exact g a s1 b m _ _ Q l d f
noncomputable def gTup(K:Js)(n:Nat)(t:TGs):TG:=λ v σ H Q=>∃a xs,v=.ref a/\SqT K H a xs/\xs.length=n/\t xs σ H Q
theorem oj(y:X.calm=true)(h:PGs X es t)
  (w:(assignEach es X.env).length=n:=by rfl) (f:(assignEach es X.env).findIdx? (·.1)=none:=by rfl):PG X (.Tuple es k pos) (gTup X.K n t):=by
 intro c s i H v u Q I r d;obtain⟨a,j,z,q,x,d⟩:=d;subst z;cases r;obtain⟨l,g,p,hz⟩:=I.tuple q;refine assign_Tuple_tuple (I.ok.hd y) p (by simp[w,←x,g.length]) f λ h' m=>?_
 exact h c _ i H j _ Q (I.kept λ b o e=>m b o (o6 (j7 e)) e) (by simpa using g) d
noncomputable def gSub(to ti:TE)(t:TSet):TG:=λ v σ H Q=>to σ H λ o H1=>ti σ H1 λ i H2=>t o i v H2 λ H3=>Q σ H3
theorem xo(m:PE X o d)(n:PE X i e)(hs:PSet X t)
  (p:∀v,assign (.Subscript o i pos) X.env v=(do
   let ov ←holding [v] (eval o X.env)
   let b ←holding [v,ov] (eval i X.env)
   standAt pos
   holding [v,ov,b] (setItem ov b v)
   release [v,ov,b] []):=by intro _;rfl):PG X (.Subscript o i pos) (gSub d e t):=by
 intro a s c H v u Q I r h;rw[p];refine d4 (C7 (thn (m a s c H _ I h) λ ov s1 t0=>?_));obtain⟨x,C,z,r1,l⟩:=t0;refine d4 (C7 (thn (n a s1 c C _ z l) λ b s2 t0=>?_));obtain⟨y,B,w,f,j⟩:=t0;refine d4 (bv (d4 (C7 (thn (hs a s2 c B x y v ov b u _ w r1 f r j) λ _ s3 t0=>?_))));obtain⟨A,q,g⟩:=t0;exact wpAny_release ⟨c,A,q,g⟩
noncomputable def tAsg(te:TE)(g:TG):TS:=λ D σ H=>te σ H λ x H1=>g x σ H1 D.nx
theorem ol(i:PE X e c)(f:PG X tg g)(hs:swapsWithSole [tg] e pos.line X.env=pure false:=by rfl)(hw:swappedStores [tg] e X.env=pure none:=by rfl)
  (j:(assignEach [tg] X.env).map (·.2)=[assign tg X.env]:=by rfl):PS X (.Assign [tg] e pos) (tAsg c g):=by
 intro a s b H D I h;refine wpAny_Assign_stores (thn (i a s b H _ I h) λ v s1 ⟨x,m,l,r1,d⟩=>?_) hs hw;rw[j];exact thn (f a s1 b m x v _ l r1 d) λ _ s2 q=>q
theorem iR(m:X.N.Nodup)(g:X.N[i]? = some x)(f:Loc X.env.scope x)(l:PE X e b)(hs:swapsWith e (some (.Name x pos')) pos.line X.env=pure false:=by rfl)(j:X.fn x=true\/X.env.scope.names.lookup x=some .local:=by first | exact .inl rfl | exact .inr rfl | assumption) :
  PS X (.Assign [.Name x pos'] e pos) (tAsg b (bD i)):=by
 intro a s c H D I h;refine wpAny_Assign_Name (thn (l a s c H _ I h) λ v s1 ⟨y,p,o,r1,d⟩=>?_) hs;exact iO o m g f r1 (λ s2 n=>⟨_,p,n,d⟩) j
noncomputable def tAug(i:Nat)(te:TE)(ti:TIp):TS:=λ D σ H=>∃x,σ[i]? = some (some x)/\te σ H λ y H1=>ti x y H1 λ z H2=>D.nx (σ.set i (some z)) H2
theorem xp(O:X.N.Nodup)(q:X.N[i]? = some x)(j:Loc X.env.scope x)(N:PE X e p)(F:PIp X op o)(M:X.fn x=true\/X.env.scope.names.lookup x=some .local:=by first | exact .inl rfl | exact .inr rfl | assumption) :
  PS X (.AugAssign (.Name x pos') op e pos) (tAug i p o):=by
 intro a s n H D I h;obtain⟨v,P,h⟩:=h;obtain⟨m,J,L⟩:=I.loc;have g:Vis X.env.scope x:=by rcases j with k | k;exact .inl k;exact .inr (.inl k)
 obtain⟨u,r,l⟩:=L i x v q P g;refine wpAny_AugAssign_Name ?_;have A:wpAny JE X.A (eval e X.env) (λ w f=>wpAny JE X.A (inplaceOp op u w) (λ r d=>wpAny JE X.A (storeName X.env x r) (λ _=>SP X a D .next) X.xe d) X.xe f) X.xe s:=by refine thn (N a s n H _ I h) λ w s1 t0=>?_;obtain⟨y,W,S,r1,E⟩:=t0;refine thn (F a s1 n W v y u w _ S r r1 E) λ z s2 t0=>?_;obtain⟨zv,U,R,B,C⟩:=t0;exact iO R O q j B (λ s3 Q=>⟨_,U,Q,C⟩) M
 rcases l with⟨b,K⟩ | ⟨b,c,hc,hcell⟩
 ·exact wpAny_loadName_local I.ok.kind b J K A
 ·rcases b with b | b
  ·exact wpAny_loadName_cell I.ok.kind b hc hcell A
  ·rcases j with k | k
   ·have:X.env.scope.names.lookup x=some .free:=b;rw[k]at this;cases this
   ·have:X.env.scope.names.lookup x=some .free:=b;rw[k]at this;cases this
noncomputable def ipI(f:Int->Int->Int):TIp:=λ x y H Q=>∃i j,x=.int i/\y=.int j/\Q (.int (f i j)) H
theorem xq:PIp X .Add (ipI λ i j=>i+j):=by
 intro a s σ H x y v u Q I r1 b h;obtain⟨i,j,d,c,q⟩:=h;subst d;subst c;obtain⟨t,rfl⟩:=r1;obtain⟨t',rfl⟩:=b;exact iadd_int ⟨.int _,H,I.tok _,⟨_,rfl⟩,q⟩
noncomputable def xr(c:TT)(tb:TS):TS:=λ D σ H=>∃W:Nat->St->Hp->Prop,(∃m,W m σ H)/\∀m σ H,W m σ H ->
 c σ H λ b H1=>if b=true then ∃N:St->Hp->Prop,(∀σ' H',N σ' H'->∃m',m'<m/\W m' σ' H')/\tb {D with nx:=N,ct:=N,bk:=D.nx} σ H1 else D.nx σ H1
theorem xt(x:PassesOwn JE X.A X.env X.xe)(K:PT X c u)(L:PSs X body w):PS X (.While c body [] pos) (xr u w):=by
 intro d s C H D I h;obtain⟨W,⟨J,E⟩,g⟩:=h;refine wpAny_While (codeAny_whileLoop (λ n F=>∃e B,Inv X d e B F/\W n e B) ?_ J ⟨C,H,I,E⟩)
 rintro n s1 ⟨σ1,H1,I1,w1⟩
 refine V9 x (thn (K d s1 σ1 H1 _ I1 (g n σ1 H1 w1)) λ b s2 t0=>?_);obtain⟨A,z,l⟩:=t0;cases b with
 | true=>
  obtain⟨N,y,l⟩:=l;rw[d8 rfl];refine V9 x (thn (L d s2 σ1 A _ z l) λ f s3 j=>?_);cases f with
  | next=>
   obtain⟨a,i,r,o⟩:=j;obtain⟨p,q,m⟩:=y a i o;exact⟨p,q,a,i,r,m⟩
  | cont=>
   obtain⟨a,i,r,o⟩:=j;obtain⟨p,q,m⟩:=y a i o;exact⟨p,q,a,i,r,m⟩
  | brk=>exact j
  | ret v=>exact j
 | false=>
  rw[e8 x0];exact ir ⟨σ1,A,z,l⟩
structure It where
 go:Nat->Hp->Prop
 yld:Nat->Hp->V->Hp->Prop
 stop:Nat->Hp->Prop
def FpOk(X:Cx)(pins:ge (Ji×Obj))(H:Hp)(b:Ji):Prop:=
 H b=none/\b≠X.env.locals/\b∉X.fs/\(b∈X.ex\/X.s₀.heap.objs.size<=b)/\(∀x c,X.env.cells.lookup x=some c->c≠b)/\∀p∈X.pn++pins,p.1≠b
theorem Inv.fpOk(I:JM a)(d:s.heap.objs.size<=b)(g:H' b=none):FpOk X a H' b:=by
 refine⟨g,Q1 (q9 I.lt d),I.nofs d,.inr (e9 I.sz d),λ x c e z=>?_,λ p f z=>?_⟩
 ·obtain⟨v,q⟩:=I.cell x c e;exact absurd (q9 q.lt (by rw[z];exact d)) (P9 _)
 ·exact absurd (q9 (j7 (I.pin p f).1) (by rw[z];exact d)) (P9 _)
structure Turn(P:Program)(w:World)(K:PySem.W.Frag)(tg:Expr)(J:It)(fp:List Addr)(it:Addr)(tn:Nat->Heap->Prop):Prop where
 mem:it∈fp
 obj:∀i h,tn i h->∀b∈fp,∃o,h.get? b=some o/\∀v,o.data ≠ .cell v
 keep:∀i h h',tn i h->(∀b∈fp,∀o,h.get? b=some o->h'.get? b=some o)->tn i h'
 item:∀(X:Cx),X.prog=P->X.w=w->X.K=K->X.calm=true->∀(i:Nat) (pins:List (Addr×Obj)) (s:Shared) (σ:St) (H:Hp) (E:Value->Shared->Prop),Inv X pins σ H s->(∀b∈fp,FpOk X pins H b)->tn i s.heap->J.go i H ->
  wpAny (model P w) X.A (pyNext (.ref it)) (λ r s1=>∃u,r=some u /\
   wpAny (model P w) X.A (letOwnedTupleGo tg (.ref it) u) (λ _ s2=>∃x H',Inv X pins σ H' s2/\RelV x u/\J.yld i H x H'/\tn (i+1) s2.heap/\∀b∈fp,H' b=none) E s1) E s
 done:∀(X:Cx),X.prog=P->X.w=w->X.K=K->X.calm=true->∀(i:Nat) (pins:List (Addr×Obj)) (s:Shared) (σ:St) (H:Hp) (E:Value->Shared->Prop),Inv X pins σ H s->(∀b∈fp,FpOk X pins H b)->tn i s.heap->J.stop i H ->
  wpAny (model P w) X.A (pyNext (.ref it)) (λ r s1=>r=none/\Inv X pins σ H s1) E s
 self:∀(A:Around) (i:Nat) (s:Shared) (Q:Value->Shared->Prop) (E:Value->Shared->Prop),tn i s.heap->Q (.ref it) s->wpAny (model P w) A (pyIter (.ref it)) Q E s
abbrev TI:=St->Hp->(It->Hp->Prop)->Prop
def PIE(X:Cx)(pins:ge (Ji×Obj))(σ:St)(tg:Jk)(R:It->Hp->Prop)(itv:Jg)(s2:Jh):Prop:=
 ∃(it:Ji) (fp:ge Ji) (tn:Nat->Jj->Prop) (J:It) (H':Hp),itv=.ref it/\Inv X pins σ H' s2/\Turn X.prog X.w X.K tg J fp it tn/\tn 0 s2.heap/\(∀b∈fp,FpOk X pins H' b)/\R J H'
def PI(X:Cx)(tg iter:Jk)(wi:TI):Prop:=
 ∀(pins:ge (Ji×Obj)) (s:Jh) (σ:St) (H:Hp) (R:It->Hp->Prop),Inv X pins σ H s->wi σ H R ->
  wpAny JE X.A (eval iter X.env) (λ v s1=>wpAny JE X.A (pyIter v) (PIE X pins σ tg R) X.xe s1) X.xe s
theorem eP(b:s.heap.get? it=some o)(d:o.cls=.type n)(hd:o.data=.fields vs)
    (c : ["enumerate","zip","dict_itemiterator","dict_reverseitemiterator","odict_iterator","itertools.zip_longest","itertools.pairwise"].contains n=false) (a:Q () s):wpAny M A (letOwnedTupleGo tg (.ref it) u) Q E s:=by
  unfold letOwnedTupleGo;cases tg<;>first
    | exact d9 a
    | (cases u<;>first
        | exact d9 a
        | (refine d4 (bB b ?_)
           rw[d,hd];show wpAny M A (if(["enumerate","zip","dict_itemiterator","dict_reverseitemiterator","odict_iterator","itertools.zip_longest","itertools.pairwise"].contains n&&vs[0]? == some _)=true then _ else _) Q E s;rw[e8 (by intro h;rw[c,iB]at h;cases h)];exact d9 a))
noncomputable def Itl(K:Js)(a:Ji):It:=
 ⟨λ i H=>∃xs x,SqL K H a xs/\xs[i]? = some x,λ i H x H'=>H'=H/\∀xs,SqL K H a xs->xs[i]? = some x,λ i H=>∃xs,SqL K H a xs/\xs.length<=i⟩
noncomputable def Itt(K:Js)(a:Ji):It:=
 ⟨λ i H=>∃xs x,SqT K H a xs/\xs[i]? = some x,λ i H x H'=>H'=H/\∀xs,SqT K H a xs->xs[i]? = some x,λ i H=>∃xs,SqT K H a xs/\xs.length<=i⟩
noncomputable def Itr(lo:Int)(n:Nat):It:=⟨λ i _=>i<n,λ i H x H'=>H'=H/\x=.int (lo+i),λ i _=>n<=i⟩
theorem xu{K:Js}(a it:Ji):Turn P w K tg (Itl K a) [it] it (λ i h=>h.IsListIter it a i) where
 mem:=by simp
 obj:=λ i h f b g=>by
  have e:b=it:=by simpa using g
  subst e;obtain⟨o,e,c,d⟩:=f;exact⟨o,e,λ v z=>by rw[d]at z;cases z⟩
 keep:=λ i h R f k=>f.at λ o e=>k it JN o e
 item:=by
  intro X C A F Q i l s S H E I n f B;subst C A F;obtain⟨U,x,m,y⟩:=B;obtain⟨r,q,p,Z⟩:=I.list m;obtain⟨u,hu,Y⟩:=q.get y;obtain⟨O,N,f2,M,L,J⟩:=n it JN;refine nE f p.isList (by simpa using hu) λ R j W=>?_
  obtain⟨o,e,c,d⟩:=id j;exact⟨u,rfl,eP e c d Jz ⟨x,H,(I.turned (λ b o g e=>(W.2 b g).trans e) O N M L J),Y,⟨rfl,λ ys hy=>by rw[I.list_inj hy m];exact y⟩,j,λ b g=>(n b g).1⟩⟩
 done:=by
  intro X C A F Q i l s S H E I n f B;subst C A F;obtain⟨U,m,y⟩:=B;obtain⟨r,q,p,Z⟩:=I.list m;obtain⟨O,N,f2,M,L,J⟩:=n it JN;have hl:=q.length;exact nP (I.ok.hd Q) f p.isList (by simp;omega) λ R eb=>⟨rfl,I.turned (λ b o g e=>eb b o g e) O N M L J⟩
 self:=λ _ _ _ _ _ f h=>wpAny_pyIter_listiter f h
theorem xv{K:Js}(a it:Ji):Turn P w K tg (Itt K a) [it] it (λ i h=>h.IsTupleIter it a i) where
 mem:=by simp
 obj:=λ i h f b g=>by
  have e:b=it:=by simpa using g
  subst e;obtain⟨o,e,c,d⟩:=f;exact⟨o,e,λ v z=>by rw[d]at z;cases z⟩
 keep:=λ i h R f k=>f.at λ o e=>k it JN o e
 item:=by
  intro X C A F Q i l s S H E I n f B;subst C A F;obtain⟨U,x,m,y⟩:=B;obtain⟨r,q,p,Z⟩:=I.tuple m;obtain⟨u,hu,Y⟩:=q.get y;obtain⟨O,N,f2,M,L,J⟩:=n it JN;refine wpAny_pyNext_tuple_item f (p) (by simpa using hu) λ R j W=>?_
  obtain⟨o,e,c,d⟩:=id j;exact⟨u,rfl,eP e c d Jz ⟨x,H,(I.turned (λ b o g e=>(W.2 b g).trans e) O N M L J),Y,⟨rfl,λ ys hy=>by rw[I.tuple_inj hy m];exact y⟩,j,λ b g=>(n b g).1⟩⟩
 done:=by
  intro X C A F Q i l s S H E I n f B;subst C A F;obtain⟨U,m,y⟩:=B;obtain⟨r,q,p,Z⟩:=I.tuple m;obtain⟨O,N,f2,M,L,J⟩:=n it JN;have hl:=q.length;exact wpAny_pyNext_tuple_end (I.ok.hd Q) f (p) (by simp;omega) λ R eb=>⟨rfl,I.turned (λ b o g e=>eb b o g e) O N M L J⟩
 self:=λ _ _ _ _ _ f h=>wpAny_pyIter_tupleiter f h
theorem xw{K:Js}(it:Ji)(g:Int)(n:Nat):Turn P w K tg (Itr g n) [it] it (λ i h=>IsRangeIter h it (g+(i:Nat)*1) ((n:Int) - (i:Nat)) 1) where
 mem:=by simp
 obj:=λ i h a b c=>by
  have e:b=it:=by simpa using c
  subst e;exact⟨_,a,λ v z=>by
   have J:=z;cases J⟩
 keep:=λ i h C a k=>k it JN _ a
 item:=by
  intro X q l r p i f s F H E I j a m;subst q l r;obtain⟨B,A,L,y,x,u⟩:=j it JN;refine (Walks.range (I.ok.hd p) it g 1 n).item i s _ _ m a λ v C tk hv d kk=>?_
  obtain⟨t,rfl⟩:=hv;refine⟨_,rfl,eP d rfl rfl Jz ⟨.int (g+i),H,(I.turned (λ b o c e=>kk b o (by simpa using c) e) B A y x u),⟨t,?_⟩,⟨rfl,rfl⟩,d,λ b c=>(j b c).1⟩⟩;rw[Int.mul_one]
 done:=by
  intro X q l r p i f s F H E I j a m;subst q l r;obtain⟨B,A,L,y,x,u⟩:=j it JN;exact wpAny_pyNext_range_end (I.ok.hd p) a (by have:n<=i:=m;omega) λ C M=>⟨rfl,I.turned (λ b o c e=>M b o c e) B A y x u⟩
 self:=λ _ _ _ _ _ a h=>wpAny_pyIter_rangeiter a h
end L2
namespace L2
open PySem PySem.Spec PyProof.Rows
def xx(K:Js)(tl:TE):TI:=λ σ H R=>tl σ H λ x H1=>∃a,x=.ref a/\(∃xs,SqL K H1 a xs)/\R (Itl K a) H1
def iTup(K:Js)(tl:TE):TI:=λ σ H R=>tl σ H λ x H1=>∃a,x=.ref a/\(∃xs,SqT K H1 a xs)/\R (Itt K a) H1
theorem ow(n:PE X l f):PI X tg l (xx X.K f):=by
 intro c s g H R I h;refine thn (n c s g H _ I h) λ v s1 t0=>?_;obtain⟨x,u,d,r1,i⟩:=t0
 obtain⟨a,e,⟨xs,m⟩,q⟩:=i;subst e;cases r1;obtain⟨j,rv,p,hz⟩:=d.list m;refine dN p.isList ?_;refine⟨s1.heap.objs.size,[s1.heap.objs.size],_,_,u,rfl,d.kept λ b o e=>g9 _ e,xu a _,⟨_,o4 _ rfl,rfl,rfl⟩,λ b r=>?_,q⟩;have e:b=s1.heap.objs.size:=by simpa using r
 subst e;exact d.fpOk (f8 _) (d.hok.fresh (f8 _))
theorem xy(n:PE X l f):PI X tg l (iTup X.K f):=by
 intro c s g H R I h;refine thn (n c s g H _ I h) λ v s1 t0=>?_;obtain⟨x,u,d,r1,i⟩:=t0
 obtain⟨a,e,⟨xs,m⟩,q⟩:=i;subst e;cases r1;obtain⟨j,rv,p,hz⟩:=d.tuple m;refine dG (p) ?_;refine⟨s1.heap.objs.size,[s1.heap.objs.size],_,_,u,rfl,d.kept λ b o e=>g9 _ e,xv a _,⟨_,o4 _ rfl,rfl,rfl⟩,λ b r=>?_,q⟩;have e:b=s1.heap.objs.size:=by simpa using r
 subst e;exact d.fpOk (f8 _) (d.hok.fresh (f8 _))
theorem ox(I:JM c)(l : -(2^62)<=a)(j:a<2^62)(i : -(2^62)<=d)(h:d<2^62)
  (q:R (Itr a (d - a).toNat) H):wpAny JE X.A (pyIter (.ref s.heap.objs.size)) (PIE X c σ tg R) E {s with heap:=s.heap.push {cls:=.type "range",data:=.fields #[.int a t,.int d u,.int 1 v]},toks:=tk}:=by
 refine wpAny_pyIter_range (IsRange.new ..) (small_one l j i h) ?_;have f:Inv X c σ H {s with heap:=s.heap.push {cls:=.type "range",data:=.fields #[.int a t,.int d u,.int 1 v]},toks:=tk}:=I.kept λ b o e=>g9 _ e;refine⟨(s.heap.push {cls:=.type "range",data:=.fields #[.int a t,.int d u,.int 1 v]}).objs.size,[(s.heap.push {cls:=.type "range",data:=.fields #[.int a t,.int d u,.int 1 v]}).objs.size],_,_,H,rfl,
  f.kept λ b o e=>g9 _ e,xw _ a (d - a).toNat,?_,λ b g=>?_,q⟩
 ·have n:a+((0:Nat):Int)*1=a:=by simp
  have m:(((d - a).toNat:Nat):Int) - ((0:Nat):Int)=Builtin.Range.rangeSize a d 1:=by rw[rangeSize_one];split<;>omega
  show IsRangeIter _ _ _ _ 1;rw[n,m];exact o4 _ rfl
 ·have e:b=(s.heap.push {cls:=.type "range",data:=.fields #[.int a t,.int d u,.int 1 v]}).objs.size:=by simpa using g
  subst e;exact f.fpOk (f8 _) (f.hok.fresh (f8 _))
def xz(ta:TA):TI:=λ σ H R=>ta σ H λ vs H1=>∃j:Int,vs=[.int j] /\ -(2^62)<=j/\j<2^62/\R (Itr 0 j.toNat) H1
def xA(ta:TA):TI:=λ σ H R=>ta σ H λ vs H1=>∃i j:Int,vs=[.int i,.int j]/\(-(2^62)<=i/\i<2^62 /\ -(2^62)<=j/\j<2^62)/\R (Itr i (j - i).toNat) H1
theorem xC(m:Gl X "range")(l:X.mg "range" = none)(n:PA X [a] d)(hs:starEach [a] X.env=[(false,eval a X.env)]:=by rfl):PI X tg (.Call (.Name "range" p) [a] [] pos) (xz d):=by
 intro b s f H R I h;refine Call_ (W4 I m l boot_range (db (thn (n pos b s f H _ I h) λ us s1 ⟨vs,H1,o,r1,c⟩=>?_) hs rfl));obtain⟨j,e,c,i,q⟩:=c;subst e;cases r1 with
 | cons r g=>
  cases g;obtain⟨t,rfl⟩:=r;exact call_range_1 (ox o Jy Jy c i (by simpa using q))
theorem xD(x:Gl X "range")(w:X.mg "range" = none)(y:PA X [a,b] l)(hs:starEach [a,b] X.env=[(false,eval a X.env),(false,eval b X.env)]:=by rfl)(d:starEach [b] X.env=[(false,eval b X.env)]:=by rfl) :
  PI X tg (.Call (.Name "range" p) [a,b] [] pos) (xA l):=by
 intro c s m H R I h;refine Call_ (W4 I x w boot_range (db (thn (y pos c s m H _ I h) λ us s1 ⟨vs,H1,z,r1,g⟩=>?_) (by rw[hs,d]) (by rw[d];rfl)));obtain⟨i,j,e,⟨g,v,u,o⟩,q⟩:=g;subst e;cases r1 with
 | cons r f=>
  cases f with
  | cons n f=>
   cases f;obtain⟨t,rfl⟩:=r;obtain⟨t',rfl⟩:=n;exact call_range_2 (ox z g v u o q)
noncomputable def tFor(wi:TI)(g:TG)(tb:TS):TS:=λ D σ H=>wi σ H λ J H1=>∃W:Nat->Nat->St->Hp->Prop,(∃m,W 0 m σ H1)/\∀i m σ H,W i m σ H ->
 (J.stop i H/\D.nx σ H)\/(J.go i H/\∃N:St->Hp->Prop,(∀σ' H',N σ' H'->∃m',m'<m/\W (i+1) m' σ' H')/\∀x H',J.yld i H x H'->g x σ H' λ σ2 H2=>tb {D with nx:=N,ct:=N,bk:=D.nx} σ2 H2)
noncomputable def eQ(fp:ge Ji)(h:Jj):ge (Ji×Obj):=fp.filterMap λ b=>(h.get? b).map λ o=>(b,o)
theorem aw(a:b∈fp)(e:h.get? b=some o):(b,o)∈eQ fp h:=bh.mpr ⟨b,a,by rw[e];rfl⟩
theorem xE(a:p∈eQ fp h):p.1∈fp/\h.get? p.1=some p.2:=by
 obtain⟨b,c,e⟩:=bh.mp a;cases q:h.get? b with
 | none=>rw[q]at e;cases e
 | some o=>
  rw[q]at e;have d:=A9 e;subst d;exact⟨c,q⟩
theorem Inv.pinned(I:JM a)(i:∀b∈fp,FpOk X a H b)(h:∀b∈fp,∃o,s.heap.get? b=some o/\∀v,o.data ≠ .cell v):Inv X (a++eQ fp s.heap) σ H s:=
 I.pins_of λ p g=>(A5.mp g).elim (λ z=>I.pin p (v4 _ z)) λ z=>by obtain⟨c,e⟩:=xE z;obtain⟨m,l,j,_⟩:=i p.1 c;obtain⟨o,f,d⟩:=h p.1 c;rw[e]at f;cases f;exact⟨e,m,l,j,d⟩
theorem Inv.unpinned(I:JM (a++b)):Inv X a σ H s:=I.pins_of λ p c=>I.pin p (v4 _ (B6 _ c))
theorem xF(L:PassesOwn JE X.A X.env X.xe)(hc:X.calm=true)(hi:PI X tg p wi)(hg:PG X tg g)(q:PSs X body tb)
  (hs:∀x,foldedSetIterable p X.env x=pure x:=by intro _;rfl):PS X (.For tg p body [] pos) (tFor wi g tb):=by
 intro c s Y H D I h;refine wpAny_For (thn (hi c s Y H _ I h) λ v s1 h1=>thn h1 λ itv s2 h2=>?_) hs;obtain⟨it,M,Z,J,H2,e,I2,T,P,f2,W,⟨m0,w0⟩,E⟩:=h2;subst e;have l:∀{A:Hp},(∀b∈M,A b=none)->∀b∈M,FpOk X c A b:=λ hn b q=>⟨hn b q,(f2 b q).2⟩
 refine codeAny_forLoop_any (λ n s'=>∃i j A,Inv X c j A s'/\Z i s'.heap/\(∀b∈M,A b=none)/\W i n j A) ?_ m0 ⟨0,Y,H2,I2,P,λ b q=>(f2 b q).1,w0⟩
 rintro n s3 ⟨i,σ3,H3,I3,st3,fr3,w3⟩
 rcases E i n σ3 H3 w3 with⟨F,qn⟩ | ⟨go,N,hN,step⟩
 ·refine V9 L (thn (T.done X rfl rfl rfl hc i c s3 σ3 H3 X.xe I3 (l fr3) st3 F) λ r s4 t0=>?_);obtain⟨R,I4⟩:=t0;subst R;exact ir ⟨σ3,H3,I4,qn⟩
 ·refine V9 L (thn (T.item X rfl rfl rfl hc i c s3 σ3 H3 X.xe I3 (l fr3) st3 go) λ r s4 t0=>?_);obtain⟨u,R,h4⟩:=t0;subst R;refine V9 L (thn h4 λ _ s5 t0=>?_);obtain⟨x,H5,I5,r5,y5,C,S⟩:=t0;have U:=I5.pinned (l S) (T.obj _ _ C);refine V9 L (thn (hg _ s5 σ3 H5 x u _ U r5 (step x H5 y5)) λ _ s6 t0=>?_);obtain⟨O,H6,I6,q6⟩:=t0;refine V9 L (thn (q _ s6 O H6 _ I6 q6) λ f Q B=>?_);have w:∀{a:St} {z:Hp},Inv X _ a z Q->N a z->∃m,m<n/\∃i j A,Inv X c j A Q/\Z i Q.heap/\(∀b∈M,A b=none)/\W i m j A:=λ {a z} y K=>by obtain⟨m',hm,w7⟩:=hN a z K;refine⟨m',hm,i+1,a,z,y.unpinned,T.keep _ _ _ C λ b q o e=>(y.pin (b,o) (v4 _ (v4 _ (aw q e)))).1,λ b q=>?_,w7⟩;obtain⟨o,e,d⟩:=T.obj _ _ C b q;exact(y.pin (b,o) (v4 _ (v4 _ (aw q e)))).2.1
  cases f with
  | next=>obtain⟨a,z,y,K⟩:=B;exact w y K
  | cont=>obtain⟨a,z,y,K⟩:=B;exact w y K
  | brk=>obtain⟨a,z,y,B⟩:=B;exact⟨a,z,y.unpinned,B⟩
  | ret v=>obtain⟨x7,a,z,y,r7,B⟩:=B;exact⟨x7,a,z,y.unpinned,r7,B⟩
end L2
namespace L2
open PySem PySem.Spec PyProof.Rows
abbrev R2:=V->V->Hp->VK->Prop
def OpR(X:Cx)(f:Jg->Jg->Sem Jg)(r:R2):Prop:=
 ∀(pins:ge (Ji×Obj)) (s:Jh) (σ:St) (H:Hp) (x y:V) (v u:Jg) (Q:VK),Inv X pins σ H s->RelV x v->RelV y u->r x y H Q ->
  wpAny JE X.A (f v u) (EP X pins σ Q) X.xe s
def UnR(X:Cx)(f:Jg->Sem Jg)(r:V->Hp->VK->Prop):Prop:=
 ∀(pins:ge (Ji×Obj)) (s:Jh) (σ:St) (H:Hp) (x:V) (v:Jg) (Q:VK),Inv X pins σ H s->RelV x v->r x H Q ->
  wpAny JE X.A (f v) (EP X pins σ Q) X.xe s
def x5(X:Cx)(f:Jg)(r:ge V->Hp->VK->Prop):Prop:=
 ∀(pins:ge (Ji×Obj)) (s:Jh) (σ:St) (H:Hp) (xs:ge V) (us:ge Jg) (Q:VK),Inv X pins σ H s->Vals xs us->r xs H Q ->
  wpAny JE X.A (call f us) (EP X pins σ Q) X.xe s
def TruR(X:Cx)(r:V->Hp->(Bool->Hp->Prop)->Prop):Prop:=
 ∀(pins:ge (Ji×Obj)) (s:Jh) (σ:St) (H:Hp) (x:V) (v:Jg) (Q:Bool->Hp->Prop),Inv X pins σ H s->RelV x v->r x H Q ->
  wpAny JE X.A (truthy v) (TP X pins σ Q) X.xe s
noncomputable def tOp(r:R2)(ta tb:TE):TE:=λ σ H Q=>ta σ H λ x H1=>tb σ H1 λ y H2=>r x y H2 Q
noncomputable def tUn(r:V->Hp->VK->Prop)(ta:TE):TE:=λ σ H Q=>ta σ H λ x H1=>r x H1 Q
noncomputable def rI(C:Int->Int->Prop)(g:Int->Int->V):R2:=λ x y H Q=>∃i j,x=.int i/\y=.int j/\C i j/\Q (g i j) H
noncomputable def rI0(g:Int->Int->V):R2:=λ x y H Q=>∃i j,x=.int i/\y=.int j/\Q (g i j) H
noncomputable def rU(g:Int->V):V->Hp->VK->Prop:=λ x H Q=>∃i,x=.int i/\Q (g i) H
theorem binT(r:PE X a l)(q:PE X b j){R:V->V->Hp->Prop}(I:JM c)
  (h:l σ H λ x i=>j σ i λ y d=>R x y d)  {f:Jg->Jg->Sem Jg}
  (p:∀v u s2 x y d,Inv X c σ d s2->RelV x v->RelV y u->R x y d->wpAny JE X.A (f v u) Q X.xe s2) :
  wpAny JE X.A (eval a X.env) (λ v g=>wpAny JE X.A (eval b X.env) (λ u e=>wpAny JE X.A (f v u) Q X.xe e) X.xe g) X.xe s:=by
 refine thn (r c s σ H _ I h) λ v s1 t0=>?_;obtain⟨x,i,z,r1,o⟩:=t0;refine thn (q c s1 σ i _ z o) λ u s2 t0=>?_;obtain⟨y,d,w,m,n⟩:=t0;exact p v u s2 x y d w r1 m n
theorem xG(j:OpR X (binaryOp op) r)(m:PE X a e)(l:PE X b d):PE X (.BinOp a op b pos) (tOp r e d):=by
 intro c s f H Q I h;exact wpAny_BinOp (binT m l I h λ v u s2 x y o n i g q=>j c s2 f o x y v u Q n i g q)
theorem xH(f:UnR X (unaryOp op) r)(g:PE X a d):PE X (.UnaryOp op a pos) (tUn r d):=by
 intro b s c H Q I h;exact UnaryOp_ (thn (g b s c H _ I h) λ v s1 ⟨x,j,i,r1,e⟩=>f b s1 c j x v Q i r1 e)
theorem opI{g:Int->Int->Int}
  (a:∀(i j:Int) (t u:Tok) (s:Jh) (Q:Jg->Jh->Prop) (E:Jg->Jh->Prop),C i j->Q (.int (g i j) s.toks) {s with toks:=s.toks+1} -> wpAny JE X.A (f (.int i t) (.int j u)) Q E s) :
  OpR X f (rI C λ i j=>.int (g i j)):=by
 intro b s σ H x y v u Q I e d h;obtain⟨i,j,rfl,rfl,l,q⟩:=h;obtain⟨t,rfl⟩:=e;obtain⟨c,rfl⟩:=d;exact a i j t c s _ _ l ⟨.int _,H,I.tok _,⟨_,rfl⟩,q⟩
theorem opI0{g:Int->Int->Int}
  (a:∀(i j:Int) (t u:Tok) (s:Jh) (Q:Jg->Jh->Prop) (E:Jg->Jh->Prop),Q (.int (g i j) s.toks) {s with toks:=s.toks+1} -> wpAny JE X.A (f (.int i t) (.int j u)) Q E s) :
  OpR X f (rI0 λ i j=>.int (g i j)):=by
 intro b s σ H x y v u Q I e d h;obtain⟨i,j,rfl,rfl,q⟩:=h;obtain⟨t,rfl⟩:=e;obtain⟨c,rfl⟩:=d;exact a i j t c s _ _ ⟨.int _,H,I.tok _,⟨_,rfl⟩,q⟩
theorem opB0{g:Int->Int->Bool}
  (a:∀(i j:Int) (t u:Tok) (s:Jh) (Q:Jg->Jh->Prop) (E:Jg->Jh->Prop),Q (.bool (g i j)) s->wpAny JE X.A (f (.int i t) (.int j u)) Q E s) :
  OpR X f (rI0 λ i j=>.bl (g i j)):=by
 intro b s σ H x y v u Q I e d h;obtain⟨i,j,rfl,rfl,q⟩:=h;obtain⟨t,rfl⟩:=e;obtain⟨c,rfl⟩:=d;exact a i j t c s _ _ ⟨.bl _,H,I,rfl,q⟩
def CPow(i j:Int):Prop:=0<=j/\j<=1000000/\i.natAbs<2^64
def CMul(i j:Int):Prop:=(-(2^64)<i/\i<2^64)\/(-(2^64)<j/\j<2^64)
theorem CMul.ok(h:CMul i j):IntMulOk i j:=by
 rcases h with⟨b,a⟩ | ⟨b,a⟩
 ·exact .of_left (intBits_le_64 b a)
 ·exact .of_right (intBits_le_64 b a)
theorem xI(k:Nat):(0:Int)<=2^k:=by
 rw[two_pow_cast];exact z9 _
theorem xJ:OpR X (binaryOp .Add) (rI0 λ i j=>.int (i+j)):=opI0 λ _ _ _ _ _ _ _ q=>add_int q
theorem xK:OpR X (binaryOp .Sub) (rI0 λ i j=>.int (i - j)):=opI0 λ _ _ _ _ _ _ _ q=>sub_int q
theorem xL:OpR X (binaryOp .Mod) (rI (λ _ j=>0<j) λ i j=>.int (i%j)):=opI λ i j _ _ _ _ _ a q=>by
 have h1:=a;exact mod_int' Jy (by rw[Int.fmod_eq_emod_of_nonneg i Jy];exact q)
theorem xM:OpR X (binaryOp .Mod) (rI (λ _ j=>j≠0) λ i j=>.int (i.fmod j)):=opI λ _ _ _ _ _ _ _ a q=>mod_int' a q
theorem xN:OpR X (binaryOp .LShift) (rI CPow λ i j=>.int (i*2^j.toNat)):=opI λ _ _ _ _ _ _ _ a q=>lshift_int_small a.1 a.2.1 a.2.2 q
theorem xO:OpR X (binaryOp .RShift) (rI (λ _ j=>0<=j) λ i j=>.int (i/2^j.toNat)):=opI λ i j _ _ _ _ _ a q=>
 rshift_int a (by rw[mZ i (xI _)];exact q)
theorem xP:OpR X (binaryOp .BitAnd) (rI0 λ i j=>.int (Builtin.bitAnd i j)):=opI0 λ _ _ _ _ _ _ _ q=>and_int q
theorem xQ:OpR X (binaryOp .BitOr) (rI0 λ i j=>.int (Builtin.bitOr i j)):=opI0 λ _ _ _ _ _ _ _ q=>or_int q
theorem unI{g:Int->Int}
  (a:∀(i:Int) (t:Tok) (s:Jh) (Q:Jg->Jh->Prop) (E:Jg->Jh->Prop),Q (.int (g i) s.toks) {s with toks:=s.toks+1} -> wpAny JE X.A (f (.int i t)) Q E s) :
  UnR X f (rU λ i=>.int (g i)):=by
 intro b s σ H x v Q I c h;obtain⟨i,rfl,q⟩:=h;obtain⟨t,rfl⟩:=c;exact a i t s _ _ ⟨.int (g i),H,I.tok _,⟨_,rfl⟩,q⟩
theorem xR:UnR X (unaryOp .USub) (rU λ i=>.int (-i)):=unI λ _ _ _ _ _ q=>neg_int q
section
variable {X:Cx} {a b c:Jk} {ta tb tc:TE} {pos:Pos}
theorem oy{a:ge (Ji×Obj)}{b:Bool}(I:JM a)(q:Q (.bl k) H)(e:k=b):EP X a σ Q (.bool b) s:=by
 subst e;exact⟨.bl k,H,I,rfl,q⟩
theorem xS:OpR X (compareOp .Lt) (rI0 λ i j=>.bl (decide (i<j))):=opB0 λ _ _ _ _ _ _ _ q=>lt_int q
theorem xT:OpR X (compareOp .LtE) (rI0 λ i j=>.bl (decide (i<=j))):=opB0 λ _ _ _ _ _ _ _ q=>le_int q
theorem xU:OpR X (compareOp .Gt) (rI0 λ i j=>.bl (decide (j<i))):=opB0 λ _ _ _ _ _ _ _ q=>gt_int q
theorem xV:OpR X (compareOp .GtE) (rI0 λ i j=>.bl (decide (j<=i))):=opB0 λ _ _ _ _ _ _ _ q=>ge_int q
theorem xW:OpR X (compareOp .Is) (λ x y H Q=>y=.non/\Q (.bl (decide (x=.non))) H):=by
 intro b s σ H x y v u Q I a c h;obtain⟨rfl,q⟩:=h;cases c;refine is_none_gen (oy I q ?_);cases x<;>first
  | (cases a;rfl)
  | (obtain⟨t,rfl⟩:=a;rfl)
theorem xX:OpR X (compareOp .IsNot) (λ x y H Q=>y=.non/\Q (.bl (!decide (x=.non))) H):=by
 intro b s σ H x y v u Q I a c h;obtain⟨rfl,q⟩:=h;cases c;refine isnot_none_gen (oy I q ?_);cases x<;>first
  | (cases a;rfl)
  | (obtain⟨t,rfl⟩:=a;rfl)
theorem OpR.or(h:OpR X f r)(g:OpR X f e):OpR X f (λ x y H Q=>r x y H Q\/e x y H Q):=by
 intro a s b H x y v u Q I d c q;rcases q with q | q
 ·exact h a s b H x y v u Q I d c q
 ·exact g a s b H x y v u Q I d c q
theorem Je(b:Jk)(h:op ≠ .In:=by decide)(a:op ≠ .NotIn:=by decide):behindInMarks op b=false:=by
 have d:(op==CmpOp.In)=false:=by cases op<;>first | rfl | exact absurd rfl h
 have c:(op==CmpOp.NotIn)=false:=by cases op<;>first | rfl | exact absurd rfl a
 cases b<;>simp[behindInMarks,d,c]
theorem xY(g:OpR X (compareOp op) r)(l:PE X a ta)(j:PE X b tb)(i:behindInMarks op b=false):PE X (.Compare a [op] [b] pos) (tOp r ta tb):=by
 intro c s d H Q I h;exact wpAny_Compare1 (binT l j I h λ v u s2 x y n m f e q=>g c s2 d n x y v u Q m f e q) i
noncomputable def oz(t:TE):TT:=λ σ H Q=>t σ H λ x H'=>∃k,x=.bl k/\Q k H'
theorem xZ(n:OpR X (compareOp op) r)(q:PE X a ta)(p:PE X b tb)(o:behindInMarks op b=false):PT X (.Compare a [op] [b] pos) (oz (tOp r ta tb)):=by
 intro d s f H Q I h;refine nO (thn (q d s f H _ I h) λ v s1 ⟨x,F,B,r1,m⟩=>thn (p d s1 f F _ B m) λ u s2 ⟨y,E,A,i,l⟩=>
  thn (n d s2 f E x y v u _ A r1 i l) λ c s3 ⟨z,C,w,g,k,e,j⟩=>?_) o
 subst e;cases g;exact Z7 ⟨C,w,j⟩
noncomputable def iS(r r':R2)(ta tb tc:TE):TE:=λ σ H Q=>ta σ H λ x H1=>tb σ H1 λ y H2=>r x y H2 λ z H3=>∃k,z=.bl k /\
 (if k=true then tc σ H3 λ w' H4=>r' y w' H4 Q else Q (.bl false) H3)
theorem ya(L:OpR X (compareOp op) r)(j:OpR X (compareOp g) m)(P:PE X a ta)(O:PE X b tb)(N:PE X c tc)
  (M:lastMarks [op,g] [b,c]=false:=by with_unfolding_all rfl):PE X (.Compare a [op,g] [b,c] pos) (iS r m ta tb tc):=by
 intro f s i H Q I h;refine Compare_chain (thn (P f s i H _ I h) λ v s1 ⟨x,Z,U,r1,K⟩=>chain_link (thn (O f s1 i Z _ U K) λ u s2 ⟨y,Y,S,l,J⟩=>
  thn (L f s2 i Y x y v u _ S r1 l J) λ d B ⟨z,p,o,E,k,e,n⟩=>?_)) M
 subst e;cases E;refine Z7 ?_;cases k with
 | false=>exact ite_ff ⟨.bl false,p,o,rfl,n⟩
 | true=>exact ite_tt (chain_last (thn (N f B i p _ o n) λ w A ⟨q,W,R,C,F⟩=>j f A i W y q u w Q R l C F))
theorem yb(O:OpR X (compareOp op) r)(j:OpR X (compareOp g) m)(U:PE X a ta)(S:PE X b tb)(R:PE X c tc)
  (P:lastMarks [op,g] [b,c]=false:=by with_unfolding_all rfl):PT X (.Compare a [op,g] [b,c] pos) (oz (iS r m ta tb tc)):=by
 intro f s i H Q I h;refine isTrue_chain (thn (U f s i H _ I h) λ v s1 ⟨x,H1,I1,r1,M⟩=>test_link (thn (S f s1 i H1 _ I1 M) λ u s2 ⟨y,H2,I2,l,L⟩=>
  thn (O f s2 i H2 x y v u _ I2 r1 l L) λ d B ⟨z,p,o,F,k,e,n⟩=>?_)) P
 subst e;cases F;refine Z7 ?_;cases k with
 | false=>
  obtain⟨k',Y,N⟩:=n;cases Y;exact ite_ff ⟨p,o,N⟩
 | true=>
  refine ite_tt (test_last (thn (R f B i p _ o n) λ w A ⟨q,H4,I4,E,K⟩=>thn (j f A i H4 y q u w _ I4 l E K) λ d' s5 t0=>?_));obtain⟨z2,H5,Z,C,k2,W,J⟩:=t0;subst W;cases C;exact Z7 ⟨H5,Z,J⟩
def TruV(K:Js)(x:V)(H:Hp)(k:Bool):Prop:=
 match x with
 | .non=>k=false
 | .bl b=>k=b
 | .int i=>k=(i != 0)
 | .str y=>y.length<=sizeLine/\k=((y.length:Int) != 0)
 | .byt y=>y.size<=sizeLine/\k=((y.size:Int) != 0)
 | .ref p=>(∃xs,SqL K H p xs/\k = !xs.isEmpty)\/(∃xs,SqT K H p xs/\k = !xs.isEmpty)\/∃kvs,H p=some (.dK kvs)/\k = !kvs.isEmpty
 | _=>False
theorem yc{b:Type}{a:ge (b×V)}{vs:ge (b×Jg)}(r:KV a vs):(!vs.isEmpty) = !a.isEmpty:=by
 cases r<;>rfl
theorem oA{a:ge Jg}(r:Vals xs a):(!a.toArray.isEmpty) = !xs.isEmpty:=by
 cases r<;>simp
theorem ax:(sizeLine:Nat)<2^63:=by rw[G8];decide
theorem eR:TruR X (λ x H Q=>∃k,TruV X.K x H k/\Q k H):=by
 intro A s σ H x v Q I j h;obtain⟨k,e,q⟩:=h;have hl:=ax;have hs:=G8;cases x with
 | non=>
  cases j;have c:=e;subst c;exact truthy_none ⟨H,I,q⟩
 | bl b=>
  cases j;have c:=e;subst c;exact Z7 ⟨H,I,q⟩
 | int i=>
  obtain⟨t,rfl⟩:=j;have c:=e;subst c;exact PySem.P.truthy_int ⟨H,I,q⟩
 | str y=>
  obtain⟨t,rfl⟩:=j;obtain⟨E,c⟩:y.length<=sizeLine/\k=_:=e;subst c;exact PySem.P.truthy_str Jy ⟨H,I.tok _,q⟩
 | byt y=>
  obtain⟨t,rfl⟩:=j;obtain⟨E,c⟩:y.size<=sizeLine/\k=_:=e;subst c;exact PySem.W.truthy_bytes Jy ⟨H,I.tok _,q⟩
 | ref p=>
  cases j;have c:=e;rcases c with⟨C,n,c⟩ | ⟨C,n,c⟩ | ⟨l,n,c⟩
  ·subst c;obtain⟨z,r,w,B⟩:=I.list n;have g:=r.length;exact wpAny_truthy_list w.isList (by simp only[r3];omega) ⟨H,I.tok _,by rw[oA r];exact q⟩
  ·subst c;obtain⟨z,r,w,B⟩:=I.tuple n;have g:=r.length;exact truthy_tuple w (by simp only[r3];omega) ⟨H,I.tok _,by rw[oA r];exact q⟩
  ·subst c;obtain⟨B,F,u,r,m⟩:l.length<=sizeLine/\_=false/\∃u,KV l u/\s.heap.DictOf _ p u:=I.hok p _ n;have g:=eC r;exact wpAny_truthy_dict F m Jy ⟨H,I.tok _,by rw[yc r];exact q⟩
 | _=>exact(e).elim
theorem yd(i:PE X a ta)(g:∀b,isTrue a X.env b=(do let v ←b;standAt a.pos;holding [v] (truthy v))) :
  PT X a (λ d H Q=>ta d H λ x e=>∃k,TruV X.K x e k/\Q k e):=by
 intro c s d H Q I h;exact isTrue_plain (thn (i c s d H _ I h) λ v s1 ⟨x,l,j,r1,f⟩=>eR c s1 d l x v Q j r1 f) (g _)
theorem L5{a:ge Jg}(r:Vals [x] a):∃u,a=[u]/\RelV x u:=by
 cases r with
 | cons r1 b=>cases b;exact⟨_,rfl,r1⟩
theorem eS{b:ge Jg}(r:Vals [x,y] b):∃u a,b=[u,a]/\RelV x u/\RelV y a:=by
 cases r with
 | cons r1 e=>
  cases e with
  | cons d c=>cases c;exact⟨_,_,rfl,r1,d⟩
theorem ye(d:X.calm=true):x5 X (.builtin "max") (λ b H Q=>∃i j,b=[.int i,.int j]/\Q (.int (if j>i then j else i)) H):=by
 intro c s σ H b us Q I r h;obtain⟨i,j,rfl,q⟩:=h;obtain⟨u,w',rfl,⟨t,rfl⟩,⟨t',rfl⟩⟩:=eS r;refine max_two_ints (I.ok.hd d) λ h' tk k=>⟨_,H,I.kept k,?_,q⟩
 by_cases a:j>i
 ·rw[d8 a,d8 a];exact⟨_,rfl⟩
 ·rw[e8 a,e8 a];exact⟨_,rfl⟩
theorem yf(d:X.calm=true):x5 X (.builtin "min") (λ b H Q=>∃i j,b=[.int i,.int j]/\Q (.int (if j<i then j else i)) H):=by
 intro c s σ H b us Q I r h;obtain⟨i,j,rfl,q⟩:=h;obtain⟨u,w',rfl,⟨t,rfl⟩,⟨t',rfl⟩⟩:=eS r;refine min_two_ints (I.ok.hd d) λ h' tk k=>⟨_,H,I.kept k,?_,q⟩
 by_cases a:j<i
 ·rw[d8 a,d8 a];exact⟨_,rfl⟩
 ·rw[e8 a,e8 a];exact⟨_,rfl⟩
theorem oB:x5 X (.type "int") (λ a H Q=>(∃i,a=[.int i]/\Q (.int i) H)\/∃k,a=[.bl k]/\Q (.int (if k then 1 else 0)) H):=by
 intro b s σ H a us Q I r h;rcases h with⟨i,rfl,q⟩ | ⟨k,rfl,q⟩
 ·obtain⟨u,rfl,t,rfl⟩:=L5 r;exact call_int_int ⟨.int i,H,I,⟨_,rfl⟩,q⟩
 ·obtain⟨u,rfl,r1⟩:=L5 r;cases r1;exact call_int_bool ⟨.int _,H,I.tok _,⟨_,rfl⟩,q⟩
end
end L2
namespace L2
open PySem PySem.Spec PyProof.Rows
structure ObjM(h:Heap)(x dx C:Addr)(mA:Str->Option Value):Prop where
 obj:h.get? x=some (PySem.W.instObj C dx)
 ns:h.Ns1 dx mA
 ne:dx≠x
theorem RelO.some_of(r:RelO (some v) o):∃u,o=some u/\RelV v u:=by
 cases o with
 | none=>exact(r).elim
 | some u=>exact⟨u,rfl,r⟩
theorem oC(c:HOk P w H h)(e:H a=some (.ins C b fs)):∃mA,ObjM h a b C mA/\(∀f,RelO (fs.lookup f) (mA f))/\PySem.Within mA (fs.map (·.1))/\fs.length<=1000/\H b=some (.own a):=by
 obtain⟨d,z,ne,g,mA,n,r,q⟩:=(show p4 P w H h a (.ins C b fs)from c a _ e);exact⟨mA,⟨g,n,ne⟩,r,q,z,d⟩
structure Cls(K:PySem.W.Frag)(C:Addr):Prop where
 pg:PySem.W.plainGet K C Str.empty=true
 hd:PySem.W.hasDictIn K C=true
 po:PySem.W.plainOver K C=true
 sa:PySem.W.findIn K (.ref C) "__setattr__" = some (some (.builtin "object.__setattr__"))
structure Con(K:PySem.W.Frag)(C:Addr)(f:Str)(v:V)(u:Value):Prop where
 at_:PySem.W.findIn K (.ref C) f=some (some u)
 rel:RelV v u
 get:PySem.W.specialIn K u "__get__" = some none
 cp:PySem.W.copiedNames.contains f=false
structure Meth(K:PySem.W.Frag)(C:Addr)(m:Str)(f:Addr):Prop where
 at_:PySem.W.findIn K (.ref C) m=some (some (.ref f))
 fn:PySem.W.isFn K (.ref f)=true
 kp:PySem.W.keepIn K (.ref f)=true
section
variable {X:Cx} {pins:ge (Ji×Obj)} {σ:St} {H:Hp} {s:Jh} {A:Jp} {E:Jg->Jh->Prop} {Q:Jg->Jh->Prop} {c:Jg} {b:Bool}
inductive TyOf (K:PySem.W.Frag) (H:Hp):V->Value->Prop where
 | non:TyOf K H .non (.type "NoneType")
 | bl (x:Bool):TyOf K H (.bl x) (.type "bool")
 | int (i:Int):TyOf K H (.int i) (.type "int")
 | str (x:Str):TyOf K H (.str x) (.type "str")
 | flt (x:UInt64):TyOf K H (.flt x) (.type "float")
 | lst {a:Addr} {xs:List V} (e:H a=some (.lst xs)):TyOf K H (.ref a) (.type "list")
 | frz {a:Addr} {o:Obj} {xs:List V} (e:H a=some (.frz o (.lst xs))):TyOf K H (.ref a) (.type "list")
 | tup {a:Addr} {xs:List V} (e:H a=some (.tup xs)):TyOf K H (.ref a) (.type "tuple")
 | dK {a:Addr} {kvs:List (Key×V)} (e:H a=some (.dK kvs)):TyOf K H (.ref a) (.type "dict")
 | dT {a:Addr} {kvs:List (List Key×V)} (e:H a=some (.dT kvs)):TyOf K H (.ref a) (.type "dict")
 | ins {a C dx:Addr} {fs:List (Str×V)} (e:H a=some (.ins C dx fs)) (cl:Cls K C) (ha:PySem.W.findIn K (.ref C) "__class__" = some (some (.builtin "object.__class__")))
   (hn:PySem.W.specialIn K (.builtin "object.__class__") "__get__" = some (some (.builtin "getset_descriptor.__get__"))) (htk:PySem.W.takesIn K (.builtin "object.__class__")=some true)
   (hm:PySem.W.mroIn K C (.type "object")=some true):TyOf K H (.ref a) (.ref C)
end
end L2
namespace L2
open PySem PySem.Spec PyProof.Rows
structure Room(k:Nat)(A:Around):Prop where
 hd:A.handled=none
 dp:A.depth+3*k+5<recursionLimit
 un:A.units+16*k+200<cLine
theorem Room.deeper(r:Room (k+1) A)(env:Env):Room k (A.deeper env):=
 ⟨r.hd,by have:=r.dp;show A.depth+1+3*k+5<_;omega,by have:=r.un;show A.units+3+16*k+200<_;omega⟩
theorem Room.depth(r:Room k A):A.depth<recursionLimit:=by have:=r.dp;omega
theorem Room.units(r:Room k A):A.units+64<cLine:=by have:=r.un;omega
noncomputable def tNil:TA:=λ _ H Q=>Q [] H
noncomputable def iT(ta:TE)(tr:TA):TA:=λ σ H Q=>ta σ H λ x H1=>tr σ H1 λ xs H2=>Q (x::xs) H2
section
variable {X:Cx} {e:Jk} {es:ge Jk} {te:TE} {t:TA} {pos:Pos}
theorem W5:PA X [] tNil:=λ _ _ _ _ H Q I h=>hZ ⟨[],H,I,.nil,h⟩
theorem T7(l:PE X e te)(j:PA X es t)(hs:starEach (e::es) X.env=(false,eval e X.env)::starEach es X.env:=by rfl):PA X (e::es) (iT te t):=by
 intro b a s c H Q I h;rw[hs];show wpAny _ _ _ _ _ s;refine hU (thn (l a s c H _ I h) λ u s1 t0=>?_);obtain⟨x,p,n,r1,i⟩:=t0;exact thn (j b a s1 c p _ n i) λ us s2 ⟨d,o,m,f,g⟩=>⟨x::d,o,m,.cons r1 f,g⟩
def tTup(t:TA):TE:=λ σ H Q=>t σ H λ xs H1=>xs.length<=sizeLine/\∀p,H1 p=none->Q (.ref p) (upd H1 p (.tup xs))
def tLst(t:TA):TE:=λ σ H Q=>t σ H λ xs H1=>xs.length<=sizeLine/\∀p,H1 p=none->Q (.ref p) (upd H1 p (.lst xs))
theorem oE(h:PA X es t):PE X (.Tuple es x1 pos) (tTup t):=by
 intro a s d H Q I g;refine wpAny_Tuple_spliced (thn (h pos a s d H _ I g) λ f s1 ⟨xs,i,c,r,z,q⟩=>⟨by rw[←r.length];exact z,?_⟩);refine⟨.ref s1.heap.objs.size,upd i s1.heap.objs.size _,c.laid (λ b u e=>g9 _ e) (f8 _) ?_,rfl,q _ (c.hok.fresh (f8 _))⟩;exact⟨z,f,r,⟨_,o4 _ rfl,⟨rfl,rfl⟩,_,rfl⟩⟩
theorem yg(h:PA X es t):PE X (.List es pos) (tLst t):=by
 intro a s d H Q I g;refine wpAny_List_spliced (thn (h pos a s d H _ I g) λ f s1 ⟨xs,i,c,r,z,q⟩=>⟨by rw[←r.length];exact z,?_⟩);refine⟨.ref s1.heap.objs.size,upd i s1.heap.objs.size _,c.laid (λ b u e=>g9 _ e) (f8 _) ?_,rfl,q _ (c.hok.fresh (f8 _))⟩;exact⟨z,f,0,r,o4 _ rfl⟩
end
abbrev Sp:=ge V->Hp->VK->XK->Prop
abbrev CXT:=ge Env->Hp->Jh->XK->Jg->Jh->Prop
structure Env0(P:Program)(w:World)(K:PySem.W.Frag)(mg:Str->Option Value)(base:Heap)(A:Around)(outer:List Env)(s:Shared)(H:Hp):Prop where
 frames:A.frames=some outer
 mod:Mod K mg base
 bs:∀b o,base.get? b=some o->s.heap.get? b=some o/\H b=none
 bsz:base.objs.size<=s.heap.objs.size
 funs:s.heap.FunFrames base outer
 frf:(∀b∈frs outer,H b=none)/\bC K H
 hok:HOk P w H s.heap
 bare:AllBare s.gens
def CE(outer:ge Env)(P:Jo)(w:Jn)(H:Hp)(s:Jh)(Q:VK)(u:Jg)(s':Jh):Prop:=
 ∃v H',s'.os=s.os/\AllBare s'.gens/\Un (frs outer) [] H H' s.heap s'.heap/\HOk P w H' s'.heap/\RelV v u/\Q v H'
def CR(CX:CXT)(outer:ge Env)(P:Jo)(w:Jn)(H:Hp)(s:Jh)(Q:VK)(E:XK)(r:Result)(s':Jh):Prop:=
 match r with
 | .ok (.ret u)=>CE outer P w H s Q u s'
 | .ok _=>False
 | .error e=>CX outer H s E e s'
structure FnOk(P:Program)(w:World)(K:PySem.W.Frag)(mg:Str->Option Value)(base:Heap)(CX:CXT)(k:Nat)(f:Addr)(fd:FuncData)(ps:List Str)(sp:Sp):Prop where
 len:∀vs H Q E,sp vs H Q E->vs.length=ps.length
 run:∀(A:Around) (outer:List Env) (s:Shared) (H:Hp) (args:Args) (us:List Value) (vs:List V) (Q:VK) (E:XK),Room k A->Env0 P w K mg base A outer s H->BindsTo s fd args (ps.zip us)->Vals vs us->sp vs H Q E ->
  codeAny (model P w) A (.call (.ref f) args) (CR CX outer P w H s Q E) s
theorem Inv.env0(I:JM a):Env0 X.prog X.w X.K X.mg X.base X.A X.stack s H:=
 ⟨I.ok.frames,I.ok.mod,I.bs,e9 I.ok.bsz I.sz,I.stack,⟨I.stkFree,I.tabs⟩,I.hok,I.bare⟩
theorem Inv.after(I:JM a)(h:CE X.stack X.prog X.w H s Q u e):EP X a σ Q u e:=by
 obtain⟨v,l,j,c,un,i,r,q⟩:=h;obtain⟨hh,g,d,t,f⟩:=e;obtain rfl:f=s.os:=j;exact⟨v,l,I.call un i c (λ b z=>absurd z JN),r,q⟩
noncomputable def iU(sp:Sp)(dvs:ge V)(E:XK)(t:TA):TE:=λ σ H Q=>t σ H λ vs H1=>sp (vs++dvs) H1 Q E
def M7(K:Js)(fd:Jr)(ps:ge Str)(ds:ge Jg):Prop:=
 ∀(s:Jh) (us:ge Jg),K.In s.heap->(us++ds).length=ps.length->BindsTo s fd ⟨us,[]⟩ (ps.zip (us++ds))
theorem M7.all{K:Js}(h:∀a:ge Jg,a.length=ps.length->bindArgs fd ⟨a,[]⟩=pure (ps.zip a)):M7 K fd ps []:=λ s a _ b=>by
 rw[A6]at b ⊢;exact .of_eq (h a b)
def iV(CX:CXT)(X:Cx)(E:XK):Prop:=∀(pins:ge (Ji×Obj)) (σ:St) (H:Hp) (s:Jh) (e:Jg) (s':Jh),Inv X pins σ H s->CX X.stack H s E e s'->X.xe e s'
section
variable {X:Cx} {CX:CXT} {k:Nat} {f C:Ji} {fd:Jr} {ps:ge Str} {sp:Sp} {dvs:ge V} {ds:ge Jg} {E:XK} {x m:Str} {p pos apos:Pos} {e o:Jk} {es:ge Jk} {ta:TE} {t:TA}
theorem oF(F:FnOk X.prog X.w X.K X.mg X.base CX k f fd ps sp)(j:Room k X.A)(m:M7 X.K fd ps ds)(hd:Vals dvs ds)(i:iV CX X E)
  (I:JM a) (r:Vals vs b) (h:sp (vs++dvs) H Q E):wpAny JE X.A (call (.ref f) b) (EP X a σ Q) X.xe s:=by
 have d:=r.append hd;have l:(b++ds).length=ps.length:=by rw[←d.length];exact F.len _ _ _ _ h
 refine wpAny_call (Q2 (F.run X.A X.stack s H ⟨b,[]⟩ _ _ Q E j I.env0 (m s b I.kIn l) d h) λ r g c=>?_);cases r with
 | error e=>exact i a σ H s e g I c
 | ok n=>
  cases n with
  | ret u=>exact I.after c
  | next=>exact False.elim c
  | brk=>exact False.elim c
  | cont=>exact False.elim c
theorem yh(F:FnOk X.prog X.w X.K X.mg X.base CX k f fd ps sp)(j:Room k X.A)(n:Gl X x)(l:X.mg x=some (.ref f))(m:PySem.W.keepIn X.K (.ref f)=true)(u:M7 X.K fd ps ds)(hd:Vals dvs ds)(i:iV CX X E)
  (v:PA X (e::es) t) (c:(x==("__debug__" : Str))=false:=by decide) (o:starEach (e::es) X.env=(false,eval e X.env)::starEach es X.env:=by rfl) (b:(backTo pos (starEach es X.env)).any (·.1)=false:=by rfl) :
  PE X (.Call (.Name x p) (e::es) [] pos) (iU sp dvs E t):=by
 intro a s g H Q I h;refine bj (nU I n l ?_ c);refine PySem.W.callWith_K I.ok.mod.kin m (thn (v pos a s g H _ I h) λ us s1 ⟨vs,H1,d,r,q⟩=>⟨d.kIn,?_⟩) o b;exact oF F j u hd i d r q
structure Mk(K:PySem.W.Frag)(C f:Addr):Prop where
 makes:PySem.W.makesIn K C=true
 init:PySem.W.findIn K (.ref C) "__init__" = some (some (.ref f))
 fn:PySem.W.isFn K (.ref f)=true
 kp:PySem.W.keepIn K (.ref C)=true
end
def PK(X:Cx)(kws:ge Keyword)(t:TA):Prop:=
 ∀(pos:Pos) (pins:ge (Ji×Obj)) (s:Jh) (σ:St) (H:Hp) (Q:ge V->Hp->Prop),Inv X pins σ H s->t σ H Q->wpAny JE X.A (evalAll ((backToKw pos (keywordEach kws X.env)).map (·.2))) (AP X pins σ Q) X.xe s
section
variable {X:Cx} {CX:CXT} {k:Nat} {f C:Ji} {fd:Jr} {ps ks:ge Str} {sp:Sp} {E:XK} {x m:Str} {p pos apos kpos:Pos} {e o:Jk} {es:ge Jk} {kws:ge Keyword} {te ta:TE} {t tk:TA} {nm:on Str}
theorem yi:PK X [] tNil:=λ _ _ _ _ H Q I h=>wpAny_evalAll_nil ⟨[],H,I,.nil,h⟩
theorem yj(l:PE X e te)(j:PK X kws t):PK X (⟨nm,e,kpos⟩::kws) (iT te t):=by
 intro b a s c H Q I h;show wpAny _ _ _ _ _ s;refine wpAny_evalAll_cons (d4 (thn (l a s c H _ I h) λ u s1 ⟨x,p,n,r1,i⟩=>d4 (bv (d9 ?_))));exact thn (j b a s1 c p _ n i) λ us s2 ⟨d,o,m,f,g⟩=>⟨x::d,o,m,.cons r1 f,g⟩
structure KBinds(K:PySem.W.Frag)(fd:FuncData)(ps ks:List Str)(g:List Value->List Value->List Value)(gV:List V->List V->List V):Prop where
 to:∀(s:Shared) (us ws:List Value),K.In s.heap->(g us ws).length=ps.length->BindsTo s fd ⟨us,ks.zip ws⟩ (ps.zip (g us ws))
 rel:∀{vs:List V} {us:List Value} {zs:List V} {ws:List Value},Vals vs us->Vals zs ws->Vals (gV vs zs) (g us ws)
end
structure FnScope(N P:List Str)(sc:Scope):Prop where
 kind:sc.kind=.function
 co:sc.isCoroutine=false
 gen:sc.isGenerator=false
 nd:N.Nodup
 pre:N.take P.length=P
 par:∀x∈P,sc.names.lookup x=some .local\/sc.names.lookup x=some .cell
 nofree:∀y∈sc.names,y.2 ≠ .free
theorem oG:∀{a:ge (Str×Jg)} {m:Str->on Jg},(∀v,(x,v)∉a)->bindL b a m x=m x
 | [],_,_=>rfl
 | (n,v)::r,m,h=>by
  unfold bindL;rw[oG λ w c=>h w (i7 _ c)];split
  ·have:x≠n:=by rintro rfl;exact h v i5
   simp[this]
  ·rfl
theorem oH:∀{a:ge (Str×Jg)} {m:Str->on Jg},(∀v,(x,v)∉a)->bindC b a m x=m x
 | [],_,_=>rfl
 | (n,v)::r,m,h=>by
  unfold bindC;rw[oH λ w c=>h w (i7 _ c)];split
  ·rfl
  ·have:x≠n:=by rintro rfl;exact h v i5
   simp[this]
theorem oI:∀{P:ge Str} {b:ge Jg} {i:Nat} {m:Str->on Jg},P.Nodup->P[i]? = some x->b[i]? = some v->a x=some .local ->
  bindL a (P.zip b) m x=some v
 | [],_,_,_,_,h,_,_=>by simp at h
 | _::_,[],_,_,_,_,h,_=>by simp at h
 | p::P,w::b,0,m,e,d,c,f=>by simp at d c;subst d;subst c;show bindL a ((p,w)::P.zip b) m p=_;unfold bindL;rw[oG λ v hv=>(L0.mp e).1 (dX hv).1,d8 f];simp
 | p::P,w::b,i+1,m,e,d,c,f=>by show bindL a _ m x=_;unfold bindL;exact oI (L0.mp e).2 (by simpa using d) (by simpa using c) f
theorem oJ:∀{P:ge Str} {b:ge Jg} {i:Nat} {m:Str->on Jg},P.Nodup->P[i]? = some x->b[i]? = some v->a x≠some .local ->
  bindC a (P.zip b) m x=some v
 | [],_,_,_,_,h,_,_=>by simp at h
 | _::_,[],_,_,_,_,h,_=>by simp at h
 | p::P,w::b,0,m,e,d,c,f=>by simp at d c;subst d;subst c;show bindC a ((p,w)::P.zip b) m p=_;unfold bindC;rw[oH λ v hv=>(L0.mp e).1 (dX hv).1,e8 f];simp
 | p::P,w::b,i+1,m,e,d,c,f=>by show bindC a _ m x=_;unfold bindC;exact oJ (L0.mp e).2 (by simpa using d) (by simpa using c) f
noncomputable def start(N:ge Str)(vs:ge V):St:=vs.map some++List.replicate (N.length - vs.length) none
noncomputable def cxOf(CX:CXT)(P:Jo)(w:Jn)(K:Js)(mg:Str->on Jg)(base:Jj)(N:ge Str)(qual:Str)(scope:Ju)(f:Ji)(cd:Jg)(A:Jp)(outer:ge Env)(s:Jh)(H:Hp)(E:XK):Cx where
 prog:=P
 w:=w
 K:=K
 mg:=mg
 base:=base
 A:=A.deeper (envOfC qual scope s.heap.objs.size f cd)
 N:=N
 s₀:=s
 H₀:=H
 env:=envOfC qual scope s.heap.objs.size f cd
 outer:=outer
 stack:=envOfC qual scope s.heap.objs.size f cd::outer
 ex:=[]
 calm:=true
 fn:=λ _=>true
 pn:=[]
 xe:=λ e s'=>wpAny (model P w) (A.deeper (envOfC qual scope s.heap.objs.size f cd)) (leaving (envOfC qual scope s.heap.objs.size f cd) e) (λ _ s''=>CX outer H s E e s'') (λ e' s''=>CX outer H s E e' s'') s'
theorem oK{sc:Ju}(h:sc.names.lookup x=some .cell):∃c,(cellsFrom n sc.names []).lookup x=some c:=by
 exact V3.mp (dh sc.names n [] (.inl h))
theorem yk{K:Js}
  (S:FnScope N ps scope) (hd:A.handled=none) (m:Env0 P w K mg l A d s H) (hl:vs.length=ps.length) (r:Vals vs J)
  (x:InCallC s s.heap.objs.size (bindL (envOfC g scope s.heap.objs.size f cd).kindOf (ps.zip J) λ _=>none) (cellsFrom (s.heap.objs.size+1) scope.names []) (bindC (envOfC g scope s.heap.objs.size f cd).kindOf (ps.zip J) λ _=>none) s1) :
  Inv (cxOf O P w K mg l N g scope f cd A d s H E) [] (start N vs) H s1:=by
 have R:ps.length<=N.length:=by have:=congrArg List.length S.pre;rw[E6]at this;omega
 obtain⟨I,tk,rfl,M⟩:=x.done;have n:∀b:Ji,b∉(cxOf O P w K mg l N g scope f cd A d s H E).ex:=λ b z=>absurd (show b∈([]:ge Ji)from z) JN
 refine⟨⟨m.mod,S.kind,rfl,rfl,f8 _,λ y z c I j=>?_,λ y o=>?_,λ y c _ h=>?_,λ _=>hd,Around.frames_deeper m.frames,.inr ⟨rfl,rfl⟩,λ b z=>absurd z (n b),m.bs,m.bsz,λ b _ _=>n b,λ b z=>absurd z (n b),m.funs,m.frf⟩,
  rfl,m.bare,Un.kept M,⟨_,x.toInCall.ns,λ i y v I j h3=>?_⟩,λ y c h=>⟨_,x.cell y c h⟩,m.hok.fresh (f8 _),λ y c h=>?_,λ p C=>absurd (show p∈([]:ge _)from C) JN,m.hok.kept M,?_⟩
 ·exact name_of_addr x.apart (D1 I) (D1 j)
 ·have o:=o;rcases o with o | o
  ·exact oK o
  ·exact absurd rfl (S.nofree _ (D1 o))
 ·exact W0 (x.above y c (D1 h))
 ·have F:i<vs.length:=by
   unfold start at j;by_cases F:i<vs.length
   ·exact F
   ·rw[S0 (by simpa using F)]at j;rw[dg]at j;split at j<;>cases j
  have U:vs[i]? = some v:=by
   unfold start at j;rw[P6 (by simpa using F),o8]at j;cases e:vs[i]? with
   | none=>rw[e]at j;cases j
   | some a=>rw[e]at j;cases j;rfl
  obtain⟨u,L,Q⟩:=r.get U;have C:ps[i]? = some y:=(by rw[←S.pre,aZ Jy];exact I);have B:ps.Nodup:=by rw[←S.pre];exact S.nd.sublist (ic _ _)
  refine⟨u,Q,?_⟩;rcases S.par y (S5 C)with k | k
  ·exact .inl ⟨k,oI B C L k⟩
  ·obtain⟨c,e⟩:=oK k;refine .inr ⟨.inl k,c,e,?_⟩;have q:=x.cell y c e;rw[oJ B C L (by show scope.names.lookup y≠_;rw[k];decide)]at q;exact q
 ·exact m.hok.fresh (W0 (x.above y c (D1 h)))
 ·unfold start;show _=N.length;rw[o5,d7,gW];omega
theorem yl{K:Js}{kV Y:Jg}
       (lk:K.lookup f=some ⟨oc,od,.func (PySem.W.fnOf j c d body scope dV kV I pm an g Y),R⟩) (W:PySem.W.codeIn K g c=true) (S:FnScope N ps scope)
    (z:∀vs H Q E,L vs H Q E->vs.length=ps.length)
    (p:∀(A:Jp) (a:ge Env) (s:Jh) (H:Hp) (vs:ge V) (Q:VK) (E:XK),Room k (A.deeper (envOfC c scope s.heap.objs.size f g))->L vs H Q E ->
      ∃t,PSs (cxOf X P w K mg h N c scope f g A a s H E) body t/\t {nx:=λ _ l=>Q .non l,rt:=Q} (start N vs) H) :
    FnOk P w K mg h X (k+1) f (PySem.W.fnOf j c d body scope dV kV I pm an g Y) ps L:=by
  refine⟨z,λ A a s H Z us vs Q E U F hb r B=>?_⟩;have hl:=z _ _ _ _ B;have KX:=F.mod.kin.keeps λ b o e=>(F.bs b o e).1;have m:∀y∈ps.zip us,scope.names.lookup y.1=some .local\/(scope.names.lookup y.1=some .cell/\((cellsFrom (s.heap.objs.size+1) scope.names []).lookup y.1).isSome=true):=λ ⟨n,v⟩ hy=>by
    rcases S.par n (dX hy).1 with q | q
    · exact .inl q
    · exact .inr ⟨q,dh _ _ _ (.inl q)⟩
  refine codeAny_call_function U.depth (KX _ _ lk) rfl S.co S.gen rfl (PySem.W.codeRec_of KX W) (hb _ _ _ _ ?_)
  refine wpAny_newFunctionEnv_cells S.kind m λ env he s1 x=>?_;subst he;refine⟨(F.mod.nolimit.keeps λ b o e=>(F.bs b o e).1).keeps x.toInCall.keep,codeAny_func ?_⟩;obtain⟨t,ht,hq⟩:=p A a s H vs Q E (U.deeper _) B;refine B1 (ht [] s1 _ H _ (yk S U.hd F hl r x) hq) (λ fl M hs=>?_) λ e M hs=>hs;have C:∀{i:St} {l:Hp} {v:V} {u:Jg},Inv (cxOf X P w K mg h N c scope f g A a s H E) [] i l M->RelV v u->Q v l->CE a P w H s Q u M:=
    λ {i l v u} J O q=>⟨v,l,J.os,J.bare,J.base,J.hok,O,q⟩
  cases fl with
  | ret u=>
    obtain⟨v,i,l,J,O,q⟩:=hs;exact C J O q
  | next=>
    obtain⟨i,l,J,q⟩:=hs;exact C (v:=V.non) J rfl q
  | brk=>
    obtain⟨_,_,_,q⟩:=hs;exact False.elim q
  | cont=>
    obtain⟨_,_,_,q⟩:=hs;exact False.elim q
end L2
namespace L2
open PySem PySem.Spec PyProof.Rows
section
variable {X:Cx} {x:Str} {p pos:Pos} {e:Jk} {es:ge Jk} {t:TA} {id T:Jx} {r:ge V->Hp->VK->Prop}
noncomputable def tCB(r:ge V->Hp->VK->Prop)(t:TA):TE:=λ σ H Q=>t σ H λ vs H1=>r vs H1 Q
theorem iW(o:x5 X (.builtin id) r)(m:Gl X x)(l:X.mg x=none)(hv:bootBuiltins x=some (.builtin id))(q:PA X (e::es) t)(j:x ≠ "__name__":=by decide)(c:(x==("__debug__" : Str))=false:=by decide)
  (n:starEach (e::es) X.env=(false,eval e X.env)::starEach es X.env:=by rfl) (b:(backTo pos (starEach es X.env)).any (·.1)=false:=by rfl):PE X (.Call (.Name x p) (e::es) [] pos) (tCB r t):=by
 intro a s d H Q I h;refine bj (W4 I m l hv ?_ j c);exact PyProof.Rows.callWith_builtin1 (thn (q pos a s d H _ I h) λ g s1 ⟨f,v,u,r1,i⟩=>o a s1 d v f g Q u r1 i) n b
theorem oM(o:x5 X (.type T) r)(m:Gl X x)(l:X.mg x=none)(hv:bootBuiltins x=some (.type T))(q:PA X (e::es) t)(j:x ≠ "__name__":=by decide)(c:(x==("__debug__" : Str))=false:=by decide)
  (n:starEach (e::es) X.env=(false,eval e X.env)::starEach es X.env:=by rfl) (b:(backTo pos (starEach es X.env)).any (·.1)=false:=by rfl):PE X (.Call (.Name x p) (e::es) [] pos) (tCB r t):=by
 intro a s d H Q I h;refine bj (W4 I m l hv ?_ j c);exact db (thn (q pos a s d H _ I h) λ g s1 ⟨f,v,u,r1,i⟩=>o a s1 d v f g Q u r1 i) n b
end
end L2
namespace HT
open PySem PyProof.Rows
theorem cat_tup(v:IsTup s.heap t vs.toArray)(x:IsTup s.heap b ws.toArray)(hv:vs≠[])
  (z:ws=[]->Q (.ref t) s) (y:ws≠[]->Q (.ref s.heap.objs.size) {s with heap:=s.heap.push {cls:=.type "tuple",data:=.seq (vs++ws).toArray}})
  (j:vs.length+ws.length<=sizeLine):wpAny JG A (binaryOp .Add (.ref t) (.ref b)) Q E s:=by
 obtain⟨⟨B,q,r,m⟩,i,p,n,hd⟩:=id v;obtain⟨⟨u,g,l,c⟩,a,f,o,d⟩:=id x;simp only at p hd f d;subst p hd f d;have e:vs.toArray++ws.toArray=(vs++ws).toArray:=by simp
 by_cases h:ws=[]
 ·exact concat_meets ⟨_,i,rfl⟩ ⟨_,a,rfl⟩ noFill_tuple_add seq_tuple_add nF nt (ni _ _)
   (tuple_addW1 t b vs.toArray ws.toArray n o q g m c (by simpa using hv) (by simp[h])) ⟨i,a,z h⟩
 ·refine concat_meets ⟨_,i,rfl⟩ ⟨_,a,rfl⟩ noFill_tuple_add seq_tuple_add nF nt (ni _ _)
   (tuple_addW2 t b vs.toArray ws.toArray n o q g m c (by simpa using hv) (by simpa using h) (by rw[r3,r3];exact j)) ⟨i,a,?_⟩
  rw[e];exact y h
noncomputable def sIx(n d:Nat):on Int->Nat
 | none=>d
 | some v=>if v<0 then(v+(n:Int)).toNat else min v.toNat n
theorem ym(n d:Nat)(hd:d<=n)(o:on Int):sIx n d o<=n:=by
 cases o with
 | none=>exact hd
 | some v=>
  show(if v<0 then(v+_).toNat else min v.toNat n)<=n;by_cases hv:v<0
  ·rw[d8 hv];omega
  ·rw[e8 hv];exact Nat.min_le_right _ _
theorem oN(v:Int)(n d:Nat):(if v<0 then max (v+(n:Int)) 0 else min v (n:Int))=((sIx n d (some v):Nat):Int):=by
 show(if v<0 then max _ 0 else min v _)=(((if v<0 then(v+_).toNat else min v.toNat n):Nat):Int);by_cases hv:v<0
 ·simp only[d8 hv];omega
 ·simp only[e8 hv];omega
theorem yn(a b:on Int)(n:Nat):Builtin.Slice.sliceAdjust a b 1 (n:Int)=(((sIx n 0 a:Nat):Int),((sIx n n b:Nat):Int)):=by
 have c:¬((1:Int)<0):=by omega
 unfold Builtin.Slice.sliceAdjust;simp only[c,if_false];refine Prod.ext ?_ ?_
 ·cases a with
  | none=>rfl
  | some v=>exact oN v n 0
 ·cases b with
  | none=>rfl
  | some v=>exact oN v n n
theorem yp(i j:Nat):Builtin.Slice.slicePlaces (i:Int) (j:Int) 1=j - i:=by
 unfold Builtin.Slice.slicePlaces;have a:(1:Int)>0:=by omega
 simp only[a,if_true,Int.ediv_one];split<;>omega
theorem oO(p:IsPart v o)(h:Q o s):wpAny JG A (Builtin.Slice.slicePartIndex v) Q E s:=by
 cases p with
 | none=>exact slicePart_none h
 | int i t=>exact slicePart_int h
theorem yq{n:Nat}(hs:s.heap.IsSliceOf g f e .none)(j:IsPart f a)(i:IsPart e d)
  (h:Q (((sIx n 0 a:Nat):Int),1,sIx n n d - sIx n 0 a) s):wpAny JG A (Builtin.Slice.sliceApplied (.ref g) (pure (n:Int))) Q E s:=by
 obtain⟨os,b,l,c⟩:=id hs;unfold Builtin.Slice.sliceApplied Builtin.Slice.sliceFields;refine d4 (d4 (D8 b c rfl (d4 (D8 b c rfl (d4 (D8 b c rfl (d9 ?_)))))));refine d4 (slicePart_none ?_);show wpAny _ _ _ _ _ s;rw[e8 Jz];refine d4 (oO j (d4 (oO i (d4 (d9 ?_)))));show wpAny _ _ (match Builtin.Slice.sliceAdjust a d 1 (n:Int)with | (a,d)=>pure (a,_,Builtin.Slice.slicePlaces a d 1)) _ _ s;rw[yn a d n];show wpAny _ _ (pure _) _ _ s;rw[yp];exact d9 h
theorem yt(xs:Jl Jg)(i k:Nat):((JJ k).filterMap λ (m:Nat)=>xs[((i:Int)+(m:Int)*1).toNat]?).toArray=((xs.toList.drop i).take k).toArray:=by
 have e:(λ (m:Nat)=>xs[((i:Int)+(m:Int)*1).toNat]?)=λ m=>xs[i+m]?:=by
  funext m
  have:((i:Int)+(m:Int)*1).toNat=i+m:=by omega
  rw[this]
 rw[e];have:=pick_run xs i k;rw[List.filterMap_map]at this;have a:(_ ∘ λ x=>i+x)=λ m=>xs[i+m]?:=rfl
 rw[a]at this;rw[this]
theorem getItem_tuple_cut(d:IsTup s.heap t items)(hs:s.heap.IsSliceOf l j i .none)(n:IsPart j a)(m:IsPart i b)
  (hw:¬(sIx items.size 0 a=0/\sIx items.size items.size b=items.size))
  (h:Q (.ref s.heap.objs.size) {s with heap:=s.heap.push {cls:=.type "tuple",data:=.seq ((items.toList.drop (sIx items.size 0 a)).take (sIx items.size items.size b - sIx items.size 0 a)).toArray}})
  (p:items.size<=sizeLine):wpAny JG A (getItem (.ref t) (.ref l)) Q E s:=by
 have c:=(by show((items.toList.drop (sIx items.size 0 a)).take (sIx items.size items.size b - sIx items.size 0 a)).toArray.size<=sizeLine;rw[r3,E6,S9,w6];omega);have hj:sIx items.size items.size b<=items.size:=ym _ _ (f8 _) b;obtain⟨o,e,g,r⟩:=id hs;unfold getItem
 try with_reducible refine C7 ?_
 first | refine d4 (d9 ?_) | skip
 refine d4 (wpAny_sequenceKey d.typeIs Jz ?_);refine d4 (M3 d.typeIs mS
  (D5 mS d.typeIs entry_tuple_getitem ?_ (args_tuple_getitem _ _)))
 show wpAny _ _ (Builtin.Tuple.tupleItemsOf _ >>= _) _ _ s;refine d4 (tupleItemsOf_ d ?_);refine d4 (eG (⟨o,e,g⟩) ?_);rw[d8 Jz];refine d4 (yq hs n m ?_);have f:¬((((sIx items.size 0 a:Nat):Int)==0&&(1:Int)==1&&(sIx items.size items.size b - sIx items.size 0 a)==items.size)=true):=by intro q;rw[d6,d6]at q;have q1:=M4 q.1.1;have q2:=M4 q.2;exact hw ⟨by omega,by omega⟩
 show wpAny _ _ (if(((sIx items.size 0 a:Nat):Int)==0&&(1:Int)==1&&(sIx items.size items.size b - sIx items.size 0 a)==items.size)=true then _ else _) _ _ s;rw[e8 f,yt]
 first
  | exact d4 (B7 (d9 ⟨_,rfl,d9 h⟩) c)
  | exact d4 _
  | exact d4 _
  | exact d4 _
end HT
namespace L2
open PySem PySem.Spec PyProof.Rows
abbrev TO:=St->Hp->(on Int->Hp->Prop)->Prop
def PO(X:Cx)(e:on Jk)(t:TO):Prop:=
 ∀(pins:ge (Ji×Obj)) (s:Jh) (σ:St) (H:Hp) (Q:on Int->Hp->Prop),Inv X pins σ H s->t σ H Q ->
  wpAny JE X.A (evalPart e X.env) (λ u s'=>∃o H',Inv X pins σ H' s'/\IsPart u o/\Q o H') X.xe s
noncomputable def yu:TO:=λ _ H Q=>Q none H
noncomputable def yv(t:TE):TO:=λ σ H Q=>t σ H λ x H1=>∃i,x=.int i/\Q (some i) H1
section
variable {X:Cx} {e:Jk} {te:TE} {lo hi:on Jk} {tl th:TO} {pos p2:Pos}
theorem oP:PO X none yu:=by
 intro a s σ H Q I h;rw[evalPart_none];exact d9 ⟨none,H,I,.none,h⟩
theorem yw(h:PE X e te):PO X (some e) (yv te):=by
 intro a s b H Q I d;rw[evalPart_some];refine thn (h a s b H _ I d) λ u s1 t0=>?_;obtain⟨x,g,f,r1,c⟩:=t0
 obtain⟨i,rfl,q⟩:=c;obtain⟨t,rfl⟩:=r1;exact⟨some i,g,f,.int i t,q⟩
def SlR(X:Cx)(r:V->on Int->on Int->Hp->VK->Prop):Prop:=
 ∀(pins:ge (Ji×Obj)) (s:Jh) (σ:St) (H:Hp) (x:V) (v vl vu:Jg) (lo hi:on Int) (sl:Ji) (Q:VK),Inv X pins σ H s->RelV x v->s.heap.IsSliceOf sl vl vu .none->IsPart vl lo->IsPart vu hi->r x lo hi H Q ->
  ∃T id,typeLookup (.type T) "__getitem__" = pure (some (.builtin id))/\s.TypeIs v T/\wpAny JE X.A (getItem v (.ref sl)) (EP X pins σ Q) X.xe s
theorem SlR.or(h:SlR X r)(n:SlR X j):SlR X (λ x b c H Q=>r x b c H Q\/j x b c H Q):=by
 intro a s d H x v f e b c g Q I i hs m l q;rcases q with q | q
 ·exact h a s d H x v f e b c g Q I i hs m l q
 ·exact n a s d H x v f e b c g Q I i hs m l q
noncomputable def tSl(r:V->on Int->on Int->Hp->VK->Prop)(te:TE)(tl th:TO):TE:=λ σ H Q=>te σ H λ x H1=>tl σ H1 λ l H2=>th σ H2 λ u H3=>r x l u H3 Q
theorem iX(y:SlR X r)(B:PE X e te)(z:PO X lo tl)(p:PO X hi th):PE X (.Subscript e (.Slice lo hi none p2) pos) (tSl r te tl th):=by
 intro a s d H Q I h;refine Subscript_ (thn (B a s d H _ I h) λ v s1 t0=>?_);obtain⟨x,M,J,r1,m⟩:=t0;refine wpAny_Slice (thn (z a s1 d M _ J m) λ g s2 ⟨l,L,F,o,j⟩=>thn (p a s2 d L _ F j) λ f c t0=>?_);obtain⟨u,K,E,n,i⟩:=t0;rw[evalPart_none];refine d9 ?_;obtain⟨T,id,C,w,A⟩:=y a {c with heap:=c.heap.push {cls:=.type "slice",data:=.fields #[g,f,.none]}} d K x v g f l u c.heap.objs.size Q (E.kept λ b ob q=>g9 _ q) r1 (Heap.IsSliceOf.new ..) o n i;show wpAny _ X.A _ _ X.xe {c with heap:=c.heap.push {cls:=.type "slice",data:=.fields #[g,f,.none]}};exact tail_any w C A (by with_unfolding_all rfl)
def cutV(xs:ge V)(lo hi:on Int):ge V:=(xs.drop (HT.sIx xs.length 0 lo)).take (HT.sIx xs.length xs.length hi - HT.sIx xs.length 0 lo)
theorem oQ(xs:ge V)(a b:on Int):(cutV xs a b).length<=xs.length:=by
 unfold cutV;rw[E6,S9];omega
def rSlT(K:Js):V->on Int->on Int->Hp->VK->Prop:=λ x lo hi H Q=>∃a xs,x=.ref a/\SqT K H a xs /\
 ¬(HT.sIx xs.length 0 lo=0/\HT.sIx xs.length xs.length hi=xs.length)/\∀p,H p=none->Q (.ref p) (upd H p (.tup (cutV xs lo hi)))
theorem yx:SlR X (rSlT X.K):=by
 intro f s σ H x v vl vu n u sl Q I j hs m l h;obtain⟨a,e,rfl,o,p,q⟩:=h;cases j;obtain⟨d,r,i,g⟩:=I.tuple o;have c:d.toArray.size=e.length:=by rw[r3];exact r.length.symm
 refine⟨"tuple",_,PyProof.Rows.slot_tuple_getitem.lookup,i.typeIs,?_⟩;refine HT.getItem_tuple_cut i hs m l (by rw[c];exact p) ?_ (by rw[c];exact g);rw[c];refine⟨.ref s.heap.objs.size,_,I.laid (λ b ob q=>g9 _ q) (f8 _) ?_,rfl,q _ (I.hok.fresh (f8 _))⟩;exact⟨e9 (oQ e n u) g,_,(r.drop _).take _,O3.new _ _⟩
def oR(K:Js):R2:=λ x y H Q=>∃a b xs ys,x=.ref a/\y=.ref b/\SqT K H a xs/\SqT K H b ys/\xs≠[]/\xs.length+ys.length<=sizeLine /\
 (ys=[]->Q (.ref a) H)/\(ys≠[]->∀p,H p=none->Q (.ref p) (upd H p (.tup (xs++ys))))
theorem Vals.nil_iff(r:Vals xs a):a=[]↔xs=[]:=by
 cases r with
 | nil=>simp
 | cons _ _=>simp
theorem yy:OpR X (binaryOp .Add) (oR X.K):=by
 intro d s σ H x y v u Q I i g h;obtain⟨a,b,xs,ys,rfl,rfl,A,r,p,f,l,j⟩:=h;cases i;cases g;obtain⟨o,r1,n,_⟩:=I.tuple A;obtain⟨e,c,m,_⟩:=I.tuple r;refine HT.cat_tup n m (λ z=>p (r1.nil_iff.mp z)) (λ z=>⟨.ref a,H,I,rfl,l (c.nil_iff.mp z)⟩) (λ z=>?_) (by rw[←r1.length,←c.length];exact f);refine⟨.ref s.heap.objs.size,_,I.laid (λ b ob q=>g9 _ q) (f8 _) ?_,rfl,j (λ w=>z (c.nil_iff.mpr w)) _ (I.hok.fresh (f8 _))⟩;exact⟨by rw[o5];exact f,_,r1.append c,O3.new _ _⟩
end
end L2
namespace L2
open PySem PySem.Spec PyProof.Rows
noncomputable def ixN(n:Nat)(i:Int):on Nat:=if 0<=i then(if i<n then some i.toNat else none)else if -(n:Int)<=i then some (i+n).toNat else none
def atI{α:Type}(xs:ge α)(i:Int):on α:=(ixN xs.length i).bind λ j=>xs[j]?
theorem oS(h:ixN n i=some j):seqIndex? i n=some j/\j<n /\ -(n:Int)<=i/\i<n:=by
 unfold ixN at h;by_cases b:0<=i
 ·rw[d8 b]at h;by_cases a:i<n
  ·rw[d8 a]at h;have e:=A9 h;exact⟨by rw[seqIndex_of b a,e],by omega,by omega,a⟩
  ·rw[e8 a]at h;cases h
 ·rw[e8 b]at h;by_cases a : -(n:Int)<=i
  ·rw[d8 a]at h;have e:=A9 h;exact⟨by rw[iI Jy a,e],by omega,a,by omega⟩
  ·rw[e8 a]at h;cases h
theorem iY(h:atI xs i=some v):∃j,seqIndex? i xs.length=some j/\xs[j]? = some v/\j<xs.length /\ -(xs.length:Int)<=i/\i<xs.length:=by
 unfold atI at h;cases e:ixN xs.length i with
 | none=>rw[e]at h;cases h
 | some j=>
  rw[e]at h;obtain⟨f,d,c,b⟩:=oS e;exact⟨j,f,h,d,c,b⟩
def yz(b:Jk):Prop:=∀o i,subscripted b false o i=operate [o,i] (getItem o i)
def IxR(X:Cx)(r:R2):Prop:=
 ∀(value slice:Jk) (pins:ge (Ji×Obj)) (s:Jh) (σ:St) (H:Hp) (x y:V) (v u:Jg) (Q:VK),Inv X pins σ H s->RelV x v->RelV y u->r x y H Q ->
  subscripted slice false v u=operate [v,u] (getItem v u)->wpAny JE X.A (subscriptTail value slice v u) (EP X pins σ Q) X.xe s
def MtR(X:Cx)(id:Jx)(r:V->ge V->Hp->VK->Prop):Prop:=
 ∀(pins:ge (Ji×Obj)) (s:Jh) (σ:St) (H:Hp) (x:V) (xs:ge V) (v:Jg) (us:ge Jg) (Q:VK),Inv X pins σ H s->RelV x v->Vals xs us->r x xs H Q ->
  wpAny JE X.A (call (.builtin id) (v::us)) (EP X pins σ Q) X.xe s
section
variable {X:Cx} {a b:Jk} {ta tb:TE} {pos:Pos}
theorem IxR.or(h:IxR X r)(i:IxR X g):IxR X (λ x y H Q=>r x y H Q\/g x y H Q):=by
 intro a b c s d H x y v u Q I f e q hs;rcases q with q | q
 ·exact h a b c s d H x y v u Q I f e q hs
 ·exact i a b c s d H x y v u Q I f e q hs
theorem yA(g:IxR X r)(j:PE X a ta)(i:PE X b tb)(hs:yz b):PE X (.Subscript a b pos) (tOp r ta tb):=by
 intro c s d H Q I h;exact Subscript_ (binT j i I h λ v u s2 x y m l f e q=>g a b c s2 d m x y v u Q l f e q (hs _ _))
def rIxL(K:Js):R2:=λ x y H Q=>∃p xs i v,x=.ref p/\y=.int i/\SqL K H p xs/\atI xs i=some v/\Q v H
def rIxT(K:Js):R2:=λ x y H Q=>∃p xs i v,x=.ref p/\y=.int i/\SqT K H p xs/\atI xs i=some v/\Q v H
def rIxS:R2:=λ x y H Q=>∃z i c,x=.str z/\y=.int i/\z.length<=sizeLine/\atI z.cps.toList i=some c/\Q (.str ⟨#[c]⟩) H
theorem yB:IxR X (rIxL X.K):=by
 intro d e a s A H x y v u Q I C B h hs;obtain⟨p,xs,i,z,rfl,rfl,E,J,q⟩:=h;cases C;obtain⟨t,rfl⟩:=B;obtain⟨l,r,g,hz⟩:=I.list E;obtain⟨j,c,M,h3,L,K⟩:=iY J;obtain⟨w,o,f⟩:=r.get M;have F:=r.length;have hn:=ax;have b:EP X a A Q w s:=⟨z,H,I,f,q⟩;by_cases n:0<=i
 ·have m:i.toNat=j:=by
   rw[seqIndex_of n K]at c;exact A9 c
  exact item_listR g.isList n Jy (by rw[m];simpa using o) b hs
 ·have m:(i+(l.toArray.size:Int)).toNat=j:=by
   rw[iI Jy L]at c;rw[r3,←F];exact A9 c
  exact nG g.isList.typeIs slot_list_getitem.lookup
   (wpAny_getItem_list_neg g.isList Jy (by rw[r3]<;>omega) Jy (by rw[m];simpa using o) ⟨rfl,b⟩) hs
theorem yC:IxR X (rIxT X.K):=by
 intro a b e s σ H x y v u Q I g f h hs;obtain⟨p,xs,i,z,rfl,rfl,m,n,q⟩:=h;cases g;obtain⟨t,rfl⟩:=f;obtain⟨l,r,d,hz⟩:=I.tuple m;obtain⟨j,A,o,h3,h4,h5⟩:=iY n;obtain⟨w,B,c⟩:=r.get o;have hn:=ax;exact nG d.typeIs slot_tuple_getitem.lookup
  (getItem_tuple d Jy Jy (by rw[r3,←r.length];exact A) (by simpa using B) ⟨rfl,(⟨z,H,I,c,q⟩)⟩) hs
theorem yD:IxR X rIxS:=by
 intro a b d s σ H x y v u Q I g f h hs;obtain⟨z,i,c,rfl,rfl,hz,m,q⟩:=h;obtain⟨t,rfl⟩:=g;obtain⟨t',rfl⟩:=f;obtain⟨j,e,p,h3,o,n⟩:=iY m;have l:z.cps.toList.length=z.length:=by simp[Str.length]
 rw[l]at e o n;have hn:=ax;exact tail_any (typeIs_str s z t) slot_str_getitem.lookup (getItem_str (by
  rw[(x4 Jy),(x4 Jy),Bool.or_false]) (by rw[e];simpa using p) ⟨.str ⟨#[c]⟩,H,I.tok _,⟨_,rfl⟩,q⟩) hs
def rIx(K:Js):R2:=λ x y H Q=>rIxL K x y H Q\/rIxT K x y H Q\/rIxS x y H Q
theorem yE:IxR X (rIx X.K):=yB.or (yC.or yD)
theorem yF(a:ge Jg)(n j:Nat)(u:Jg):Obj.mapSeq (·.setIfInBounds j u) {cls:=.type "list",data:=.seq a.toArray n} = {cls:=.type "list",data:=.seq (a.set j u).toArray n}:=by
 simp[Obj.mapSeq]
theorem Inv.lst{b:ge (Ji×Obj)}(I:JM b)(h:H p=some (.lst xs)) :
  ∃(a:ge Jg) (n:Nat),Vals xs a/\s.heap.get? p=some {cls:=.type "list",data:=.seq a.toArray n} /\ xs.length<=sizeLine:=by
 obtain⟨z,a,n,r,e⟩:=I.hok p _ h;exact⟨a,n,r,e,z⟩
theorem Inv.lstUpd{d a:ge Jg}(I:JM c)(h:H p=some (.lst xs))
  (m:s.heap.get? p=some {cls:=.type "list",data:=.seq d.toArray n}) (j:f {cls:=.type "list",data:=.seq d.toArray n} = {cls:=.type "list",data:=.seq a.toArray i}) (r:Vals g a) (l:g.length<=sizeLine) (t:Nat) :
  Inv X c σ (upd H p (.lst g)) {s with heap:=s.heap.update p f,toks:=t}:=by
 have e:(s.heap.update p f).get? p=some {cls:=.type "list",data:=.seq a.toArray i}:=(by rw[V5 f m (by rw[j]<;>rfl),j]);refine I.write (by rw[h];trivial) (.inl rfl) (λ b u o q=>(di _ _ (Ne.symm o)).trans q) ⟨_,e⟩ ?_;exact⟨l,a,i,r,e⟩
def yG:V->V->V->Hp->(Hp->Prop)->Prop:=λ o i v H Q=>∃p xs k j,o=.ref p/\i=.int k/\H p=some (.lst xs)/\ixN xs.length k=some j/\Q (upd H p (.lst (xs.set j v)))
theorem yH:PSet X yG:=by
 intro f s σ H o i v ov iv u Q I z A y h;obtain⟨p,xs,k,j,rfl,rfl,g,C,q⟩:=h;cases z;obtain⟨t,rfl⟩:=A;obtain⟨a,n,r,c,B⟩:=I.lst g;obtain⟨b,h2,m,l⟩:=oS C;have d:=r.length;have hn:=ax;have x:=
  I.lstUpd g c (yF a n j u) (r.set y j) (by rw[B0];exact B) s.toks
 by_cases w:0<=k
 ·have e:k.toNat=j:=by
   rw[seqIndex_of w l]at b;exact A9 b
  exact PySem.W.ki_setAt c w Jy (by rw[r3,←d];exact l) (by rw[e];exact⟨_,x,q⟩)
 ·have e:(k+(a.toArray.size:Int)).toNat=j:=by
   rw[iI Jy m]at b;rw[r3,←d];exact A9 b
  exact PySem.W.ki_setBack c Jy (by rw[r3,←d];exact m) Jy (by rw[e];exact⟨_,x,q⟩)
theorem yI(a b:on Int)(n:Nat):(sliceBounds a b none n).1=((HT.sIx n 0 a:Nat):Int)/\(sliceBounds a b none n).2.1=((HT.sIx n n b:Nat):Int)/\(sliceBounds a b none n).2.2=1:=by
 refine⟨?_,?_,rfl⟩
 ·cases a with
  | none=>simp[sliceBounds,HT.sIx]
  | some i=>
   simp only[sliceBounds,HT.sIx,Option.getD_none,show(1:Int)>0 by decide,if_true];by_cases h:i<0
   ·simp only[h,if_true]<;>omega
   ·simp only[h,if_false]<;>omega
 ·cases b with
  | none=>simp[sliceBounds,HT.sIx]
  | some i=>
   simp only[sliceBounds,HT.sIx,Option.getD_none,show(1:Int)>0 by decide,if_true];by_cases h:i<0
   ·simp only[h,if_true]<;>omega
   ·simp only[h,if_false]<;>omega
theorem yJ(a:ge Jg)(b c:on Int):slicePick a.toArray b c none=((a.drop (HT.sIx a.length 0 b)).take (HT.sIx a.length a.length c - HT.sIx a.length 0 b)).toArray:=by
 obtain⟨f,e,d⟩:=yI b c a.toArray.size;unfold slicePick;rw[f,e,d];simp only[sliceRange_one,pick_run,r3]<;>rfl
def rSlL(K:Js):V->on Int->on Int->Hp->VK->Prop:=λ x lo hi H Q=>∃a xs,x=.ref a/\SqL K H a xs/\∀p,H p=none->Q (.ref p) (upd H p (.lst (cutV xs lo hi)))
theorem yK:SlR X (rSlL X.K):=by
 intro d s σ H x v vl vu l p sl Q I g hs j i h;obtain⟨a,f,rfl,o,q⟩:=h;cases g;obtain⟨m,r,e,n⟩:=I.list o;have c:=r.length;refine⟨"list",_,slot_list_getitem.lookup,e.isList.typeIs,?_⟩;refine wpAny_getItem_list_slice e.isList hs j i .none JN ?_ (by rw[r3]<;>omega);rw[yJ,←c];refine⟨.ref s.heap.objs.size,_,I.laid (λ b ob q=>g9 _ q) (f8 _) ?_,rfl,q _ (I.hok.fresh (f8 _))⟩;exact⟨e9 (oQ f l p) n,_,0,(r.drop _).take _,o4 _ rfl⟩
theorem iZ:x5 X (.builtin "len") (λ g H Q=>∃p b,g=[.ref p]/\(SqL X.K H p b\/SqT X.K H p b)/\Q (.int b.length) H):=by
 intro i s σ H g us Q I r h;obtain⟨p,b,rfl,c,q⟩:=h;obtain⟨u,rfl,j⟩:=L5 r;cases j;have hn:=ax;rcases c with c | c
 ·obtain⟨f,d,e,l⟩:=I.list c;have a:=d.length;exact Calls.call_len_list e.isList (by simp only[r3]<;>omega) ⟨.int b.length,H,I.tok _,⟨s.toks+1,by rw[r3,a]⟩,q⟩
 ·obtain⟨f,d,e,l⟩:=I.tuple c;have a:=d.length;exact len_tuple e (by simp only[r3]<;>omega) ⟨.int b.length,H,I.tok _,⟨s.toks+1,by rw[r3,a]⟩,q⟩
theorem ja:x5 X (.type "list") (λ z H Q=>∃p c,z=[.ref p]/\(SqL X.K H p c\/SqT X.K H p c)/\∀l,H l=none->Q (.ref l) (upd H l (.lst c))):=by
 intro g s A H z us Q I r h;obtain⟨p,c,rfl,j,q⟩:=h;obtain⟨u,rfl,B⟩:=L5 r;cases B;have v:∀(a:ge Jg),Vals c a->c.length<=sizeLine->∀(b:Jj) (f:Nat),_ ->
   b.get? s.heap.objs.size=some {cls:=.type "list",dict:=none,data:=.seq a.toArray f,slots:=#[]} -> EP X g A Q _ {s with heap:=b}:=λ a d i b f kp e=>
  ⟨.ref s.heap.objs.size,_,I.laid kp (f8 _) (show p4 X.prog X.w _ b _ (.lst c)from⟨i,a,f,d,e⟩),rfl,q _ (I.hok.fresh (f8 _))⟩
 rcases j with j | j
 ·obtain⟨a,d,w,i⟩:=I.list j;have m:=d.length;obtain⟨o,x,y,n,hd⟩:=w.isList;exact call_list_seq p (.inl rfl) x y hd (λ b f kp e=>v a d i b f kp e) (by simp only[r3]<;>omega)
 ·obtain⟨a,d,w,i⟩:=I.tuple j;have m:=d.length;obtain⟨o,x,y,n,hd⟩:=w;exact call_list_seq p (.inr rfl) x y hd (λ b f kp e=>v a d i b f kp e) (by simp only[r3]<;>omega)
theorem oT:x5 X (.type "tuple") (λ i H Q=>∃p a,i=[.ref p]/\((SqL X.K H p a/\∀l,H l=none->Q (.ref l) (upd H l (.tup a)))\/(SqT X.K H p a/\Q (.ref p) H))):=by
 intro j s σ H i us Q I r h;obtain⟨p,a,rfl,h⟩:=h;obtain⟨u,rfl,w⟩:=L5 r;cases w;rcases h with⟨g,q⟩ | ⟨g,q⟩
 ·obtain⟨c,d,f,m⟩:=I.list g;have n:=d.length;refine call_tuple_list f.isList (λ x kp=>?_) (by simp only[r3]<;>omega);have v:=I.kept (t':=s.toks) kp;have y:=
   v.laid (t':=s.toks) (λ b o e=>g9 _ e) (f8 _) (show p4 X.prog X.w _ _ _ (.tup a)from⟨m,c,d,O3.new _ _⟩)
  exact⟨.ref x.objs.size,_,y,rfl,q _ (v.hok.fresh (f8 _))⟩
 ·obtain⟨c,d,f,m⟩:=I.tuple g;exact call_tuple_same f ⟨.ref p,H,I,rfl,q⟩
def tyV(K:Js)(T:Jx)(x:V)(H:Hp):Prop:=match x with
 | .str _=>T = "str"
 | .int _=>T = "int"
 | .ref p=>(T = "list" /\ ∃xs,SqL K H p xs)\/(T = "tuple" /\ ∃o,K.lookup p=some o/\o.cls=.type "tuple" /\ o.dict=none) \/
   (T = "dict" /\ ((∃kvs,H p=some (.dK kvs))\/∃kvs,H p=some (.dT kvs)))\/(T = "set" /\ ∃S n,H p=some (.set S n))
 | _=>False
theorem oU(I:JM d)(r:RelV x v)(f:tyV X.K T x H) :
  s.TypeIs v T/\∀a,v=.ref a->∃l,s.heap.get? a=some l/\l.dict=none:=by
 cases x with
 | str z=>
  obtain⟨t,rfl⟩:=r;cases(f);exact⟨typeIs_str s z t,λ _ e=>nomatch e⟩
 | int i=>
  obtain⟨t,rfl⟩:=r;cases(f);exact⟨typeIs_int s i t,λ _ e=>nomatch e⟩
 | ref p=>
  cases r;rcases f with⟨rfl,xs,q⟩ | ⟨rfl,o,b,hc,hd⟩ | ⟨rfl,b⟩ | ⟨rfl,S,n,b⟩
  ·obtain⟨m,_,j,_⟩:=I.list q;refine⟨j.isList.typeIs,λ a e=>?_⟩;cases e;obtain⟨o,n,e,c,hd,_⟩:=j;exact⟨o,e,hd⟩
  ·refine⟨⟨o,I.kIn p o b,hc⟩,λ a e=>?_⟩;cases e;exact⟨o,I.kIn _ o b,hd⟩
  ·have z:∃o,s.heap.get? p=some o/\o.ExactDict:=by
    rcases b with⟨g,b⟩ | ⟨g,b⟩
    ·obtain⟨_,_,_,_,o,_,_,e,ex,_⟩:=I.hok p _ b;exact⟨o,e,ex⟩
    ·obtain⟨_,_,_,_,o,_,_,e,ex,_⟩:=I.hok p _ b;exact⟨o,e,ex⟩
   obtain⟨o,e,ex⟩:=z;refine⟨⟨o,e,ex.1⟩,λ a h=>?_⟩;cases h;exact⟨o,e,ex.2.1⟩
  ·obtain⟨o,_,_,_,e,ex,_⟩:=I.hok p _ b;refine⟨⟨o,e,ex.1⟩,λ a h=>?_⟩;cases h;exact⟨o,e,ex.2.1⟩
 | _=>exact False.elim f
noncomputable def tBM0(K:Js)(T:Jx)(r:V->ge V->Hp->VK->Prop)(to:TE):TE:=λ σ H Q=>to σ H λ x H1=>tyV K T x H1/\r x [] H1 Q
noncomputable def tBM(K:Js)(T:Jx)(r:V->ge V->Hp->VK->Prop)(to:TE)(t:TA):TE:=λ σ H Q=>to σ H λ x H1=>tyV K T x H1/\t σ H1 λ xs H2=>r x xs H2 Q
theorem yL{a:Str}(q:PlainAttrs T)(slot:Slot T a g)(i:typeOf (.builtin g)=pure (.type "method_descriptor"))(w:MtR X g r)(u:PE X o l)
  (f:attributeBase o a X.env (eval o X.env)=eval o X.env:=by rfl) (e:(d.endLine==c.line)=true:=by rfl):PE X (.Call (.Attribute o a d) [] [] c) (tBM0 X.K T r l):=by
 intro b s j H Q I h;refine nu f e (thn (u b s j H _ I h) λ v s1 t0=>?_);obtain⟨x,A,m,r1,n,p⟩:=t0;obtain⟨z,y⟩:=oU m r1 n;exact⟨T,g,q,slot,i,z,y,ba rfl (PySem.evalArgs_none (w b s1 j A x [] v [] Q m r1 .nil p))⟩
theorem oV{a:Pos}(J:PlainAttrs T)(slot:Slot T d n)(q:typeOf (.builtin n)=pure (.type "method_descriptor"))(L:MtR X n r)(K:PE X o u)(M:PA X (e::es) t)
  (j:attributeBase o d X.env (eval o X.env)=eval o X.env:=by rfl)
  (m:((backTo a (starEach (e::es) X.env)).all (λ x=>!x.1)&&(backToKw a (keywordEach [] X.env)).all (λ x=>x.1.isSome)
   && decide ((e::es).length+([]:ge Keyword).length+(if([]:ge Keyword).isEmpty then 0 else 1)<30))=true:=by rfl)
  (i:(g.endLine==a.line)=true:=by rfl) (hs:starEach (e::es) X.env=(false,eval e X.env)::starEach es X.env:=by rfl) (f:(backTo a (starEach es X.env)).any (·.1)=false:=by rfl) :
  PE X (.Call (.Attribute o d g) (e::es) [] a) (tBM X.K T r u t):=by
 intro c s p H Q I h;refine nH j m i rfl (thn (K c s p H _ I h) λ v s1 t0=>?_);obtain⟨x,S,y,r1,B,F⟩:=t0;obtain⟨O,N⟩:=oU y r1 B;refine⟨T,n,J,slot,q,O,N,?_⟩;have w:=M a c s1 p S _ y F;rw[hs]at w ⊢;refine ba (by show(false||(backTo a _).any (·.1))=false;rw[f]<;>rfl) (gY ?_);exact thn w λ A s2 ⟨z,R,P,C,E⟩=>L c s2 p R x z v A Q P r1 C E
end
end L2
namespace L2
open PySem PySem.Spec PyProof.Rows
def MtM(X:Cx)(id:Jx)(r:V->ge V->Hp->VK->Prop):Prop:=
 ∀(pins:ge (Ji×Obj)) (s:Jh) (σ:St) (H:Hp) (x:V) (xs:ge V) (v:Jg) (us:ge Jg) (Q:VK),Inv X pins σ H s->RelV x v->Vals xs us->r x xs H Q ->
  wpAny JE X.A (call (.builtin id) (v::us)) (EP X pins σ Q) X.xe s
theorem Vals.unc(h:Vals (x::xs) b):∃u a,b=u::a/\RelV x u/\Vals xs a:=by
 cases h with
 | cons r t=>exact⟨_,_,rfl,r,t⟩
theorem Vals.nl(h:Vals [] a):a=[]:=by cases h;rfl
theorem Vals.one{x:V}{us:ge Jg}(h:Vals [x] us):∃u,us=[u]/\RelV x u:=by
 obtain⟨u,ws,rfl,r,t⟩:=h.unc;cases t.nl;exact⟨_,rfl,r⟩
theorem Vals.two{x y:V}{us:ge Jg}(h:Vals [x,y] us):∃u v,us=[u,v]/\RelV x u/\RelV y v:=by
 obtain⟨u,ws,rfl,r,t⟩:=h.unc;obtain⟨v,rfl,q⟩:=t.one;exact⟨_,_,rfl,r,q⟩
theorem Vals.rep(h:Vals xs a):∀k:Nat,Vals (List.replicate k xs).flatten (List.replicate k a).flatten
 | 0=>.nil
 | k+1=>by rw[S8,S8,V6,V6];exact Vals.append h (Vals.rep h k)
theorem oW(a:ge Jg):∀(k:Nat) (b:ge Jg),
  List.foldl (λ d c=>d++c) b.toArray (List.replicate k a.toArray)=(b++(List.replicate k a).flatten).toArray
 | 0,b=>by simp
 | k+1,b=>by
  have e:b.toArray++a.toArray=(b++a).toArray:=by simp
  have f:_++(List.replicate k a).flatten=b++(List.replicate (k+1) a).flatten:=(by rw[S8,V6,N9]);rw[←f,←oW a k _,←e,S8,dY]
theorem Inv.lset{c:ge Jg}(I:JM b)(m:H l=some (.lst xs))
  (e:s.heap.get? l=some {cls:=.type "list",data:=.seq c.toArray n}) (i:f c.toArray=a.toArray) (hv:Vals d a) (g:d.length<=sizeLine) :
  Inv X b σ (upd H l (.lst d)) {s with heap:=s.heap.update l (Obj.mapSeq f),toks:=t'}:=by
 have q:=PySem.IsL.update e f;rw[i]at q;refine I.write (by rw[m];exact trivial) (.inl rfl) (λ b' u j h=>(di s.heap _ (Ne.symm j)).trans h) ⟨_,q⟩ ?_;exact⟨g,a,_,hv,q⟩
theorem Inv.lnew(I:JM a)(hv:Vals c b)(d:c.length<=sizeLine) :
  Inv X a σ (upd H s.heap.objs.size (.lst c)) {s with heap:=s.heap.push {cls:=.type "list",data:=.seq b.toArray},toks:=t'}:=
 I.laid (λ _ _ q=>g9 _ q) (f8 _) ⟨d,b,0,hv,o4 _ rfl⟩
theorem Inv.fresh(I:JM a):H s.heap.objs.size=none:=I.hok.fresh (f8 _)
theorem Inv.lstM(I:JM b)(c:H l=some (.lst xs)):xs.length<=sizeLine/\∃(a:ge Jg) (n:Nat),Vals xs a/\xs.length=a.length/\s.heap.get? l=some {cls:=.type "list",data:=.seq a.toArray n}:=by
 obtain⟨z,a,n,r,e⟩:=I.hok l _ c;exact⟨z,a,n,r,r.length,e⟩
theorem oX(h:n<=sizeLine):Builtin.List.listTooLong n=false:=by
 unfold Builtin.List.listTooLong;exact x4 Jy
def yM:V->ge V->Hp->VK->Prop:=λ x vs H Q=>∃l xs y,x=.ref l/\vs=[y]/\H l=some (.lst xs)/\xs.length<sizeLine/\Q .non (upd H l (.lst (xs++[y])))
theorem yN:MtM X "list.append" yM:=by
 intro b s σ H x vs v us Q I d f h;obtain⟨l,xs,y,rfl,rfl,c,hz,q⟩:=h;cases d;obtain⟨u,rfl,g⟩:=f.one;obtain⟨z,a,n,r,hl,e⟩:=I.lstM c;refine call_meets F.slot_list_append ⟨_,e,rfl⟩ F.entry_list_append (F.args_list_append_2 _ _) (PySem.list_append l a.toArray n u (by rw[r3];omega)) ⟨e,?_⟩;refine⟨.non,_,I.lset c e JN (r.append (.cons g .nil)) ?_,rfl,q⟩;rw[o5,N8];omega
def rCat:R2:=λ x y H Q=>∃l b xs zs,x=.ref l/\y=.ref b/\H l=some (.lst xs)/\H b=some (.lst zs)/\xs.length+zs.length<=sizeLine/\∀p,H p=none->Q (.ref p) (upd H p (.lst (xs++zs)))
theorem yO:OpR X (binaryOp .Add) rCat:=by
 intro d s σ H x y v u Q I g f h;obtain⟨l,b,xs,zs,rfl,rfl,m,o,hz,q⟩:=h;cases g;cases f;obtain⟨z,c,n,r,hl,e⟩:=I.lstM m;obtain⟨z2,a,n2,i,j,w⟩:=I.lstM o;refine PySem.P.add_list e w ?_ (by rw[r3,r3];omega);have p:c.toArray++a.toArray=(c++a).toArray:=by simp
 rw[p];exact⟨.ref _,_,I.lnew (r.append i) (by rw[o5];omega),rfl,q _ I.fresh⟩
def rRep:R2:=λ x y H Q=>∃l k xs,x=.ref l/\y=.int k/\H l=some (.lst xs) /\ -(2^63)<=k/\k<2^63/\xs.length*k.toNat<=sizeLine /\
 ∀p,H p=none->Q (.ref p) (upd H p (.lst (List.replicate k.toNat xs).flatten))
theorem yP(xs:ge a)(k:Nat):(List.replicate k xs).flatten.length=k*xs.length:=by
 induction k with
 | zero=>simp
 | succ k b=>rw[S8,V6,o5,b,eK,iJ]
theorem yQ:OpR X (binaryOp .Mult) rRep:=by
 intro g s σ H x y v u Q I A w h;obtain⟨l,k,xs,rfl,rfl,C,J,E,i,q⟩:=h;cases A;obtain⟨t,rfl⟩:=w;obtain⟨z,b,n,r,B,e⟩:=I.lstM C;have d:b.toArray.size*k.toNat<=sizeLine:=by rw[r3,←B];exact i
 have f:¬b.toArray.size*k.toNat>(2^63 - 1)/8:=by
  have:(sizeLine:Nat)<=(2^63 - 1)/8:=by decide
  omega
 have c:List.foldl (λ o j=>o++j) #[] (List.replicate (if b.toArray.isEmpty=true then 0 else k.toNat) b.toArray)=(List.replicate k.toNat b).flatten.toArray:=by
  have K:=λ m=>by have:=oW b m [];rw[bq]at this;exact this
  rw[K];cases b with
  | nil=>simp
  | cons a r'=>rw[e8 JN]
 refine wpAny_binaryOp_repeat_ref Jz ⟨_,e,rfl⟩ (λ p=>typeIs_int p k t) noFill_list_mul F.fills_int_mul F.slot_int_rmul repeat_list F.slot_int_index.lookup
  (call_meets F.slot_int_rmul (typeIs_int s k t) F.entry_int_rmul (F.args_int_rmul_2 _ _) (int___rmul___int_list k t l b.toArray n)
   ⟨e,rfl,⟨_,e,rfl⟩,call_meets F.slot_list_mul ⟨_,e,rfl⟩ F.entry_list_mul (F.args_list_mul_2 _ _) (AutoListH.list___mul___list_int_3 l b.toArray n k t ((by rw[fitsIndex_both J E];exact x0)) f ((by rw[oX d];exact x0))) ⟨e,?_⟩⟩)
 rw[c];exact⟨.ref _,_,I.lnew (r.rep k.toNat) (by rw[yP,Nat.mul_comm];exact i),rfl,q _ I.fresh⟩
end L2
namespace Att
open PySem PySem.W PySem.Calls PyProof.Rows
theorem yR:∀(ns:ge Int) (vs:ge Jg),WellAll P h vs (ns.map WData.int)->IntsAre vs ns:=by
 intro ns
 induction ns with
 | nil=>
  intro vs w;rw[bz]at w;cases w;exact .nil
 | cons n ns c=>
  intro vs w;rw[t9]at w;cases w with
  | cons a b=>
   cases a;exact .cons _ _ (c _ b)
theorem yS{l:OpenLaw}(u:l.most=some n)
  (c:l.row.toRowW.claim.pre args=true) (j:WellAll P h b args) :
  ∃a vs ns,b=[Value.ref a]/\args=[WData.list (ns.map WData.int)]/\h.get? a=some {cls:=.type "list",data:=.seq vs.toArray} /\ IntsAre vs ns/\ns.length<=n:=by
 have m:l.pre.holds [] {args:=args} = true:=(pre_splitW c).2;obtain⟨d,r,rfl,x,w⟩:=hasAllW_cons ((pre_splitW c).1);obtain rfl:=hasAllW_nil w;obtain⟨xs,rfl,v⟩:=hasW_list x;obtain⟨ns,rfl⟩:=items_int v;have e:ns.length<=n:=by
  unfold OpenLaw.pre at m;have i:(WTm.not (.lt (.lit (.int (n:Int))) (.len (.arg 0)))).holds [] {args:=[.list (ns.map .int)]} = true:=by have i:=(holds_andW m).1;rw[u]at i;exact i
  have g:=condW_of i (w_not (w_lt w_lit (w_len_list (w_arg rfl))));rw[d7]at g;refine ik λ q=>?_
  first
   | (rw[t8 (by omega)]at g;exact absurd g Jz)
   | (simp at g;omega)
 cases j with
 | cons p o=>
  cases o;cases p with
  | list s f=>exact⟨_,_,ns,rfl,rfl,s,yR ns _ f,e⟩
theorem yT(l:OpenLaw)(args:ge WData):l.row.toRowW.claim.post args (.bool true) args=true:=
 postW_of
  (by first | rfl | decide | simp[WShape.has,WShape.arms,WShape.armsAll])
  (show(WTm.eq .res _).value [] {args:=args,res:=some _,after:=args} = some (.bool _)from w_eq_bool (w_res rfl) w_lit) rfl
theorem attach_call{l:OpenLaw}
  (I:l.most=some n) (x:d.params.defaults=[])
  (call:∀(w:Jn) (c b:Jh) (mg s:Str->on Jg) (m:Ji) (o:Obj) (pm cd g:Jg) (a:Ji) (vs:ge Jg) (ns:ge Int),
   Ground q loose [] XP w c mg s b.heap->YP w b.heap ->
   b.heap.get? m=some o->o.data=.func (docDef d.name d.params d.body d.scope pm cd g)->b.heap.CodeRec cd d.name->mg d.name=some (.ref m) ->
   b.heap.get? a=some {cls:=.type "list",data:=.seq vs.toArray} -> IntsAre vs ns->ns.length<=n->b.gens = #[] ->
   codeAny (model l.prog w) callerA (.call (.ref m) ⟨[.ref a],[]⟩) (λ r p=>r=.ok (.ret (.bool true))/\OldK b.heap p.heap/\p.os=b.os/\AllBare p.gens) b) :
  WalkO q loose XP YP l.row.toRowW d [] (λ f vs=>PySem.call f vs):=by
 intro w c b mg s G Y m o pm cd g P kV H hd y B v L C z as h A E u K;obtain rfl:P=.none:=Dflts.none B x;obtain rfl:kV=.none:=Dflts.noKw B;obtain⟨a,vs,ns,rfl,rfl,i,e,j⟩:=yS I h u;refine enter_call (Q2 (call w c b mg s m o pm cd g a vs ns G Y H (fd_plain hd) y v i e j L) λ r p F=>?_);obtain⟨rfl,O,N,M⟩:=F;exact⟨.inl ⟨.bool true,.bool true,[],rfl,λ _=>rfl,.bool true,yT l _,λ _=>⟨List.Pairwise.nil,λ _ J=>(nomatch J)⟩⟩,O,N,M⟩
noncomputable def Jf(h:Jj)(L d:Ji):ge (Ji×Obj):=(JJ h.objs.size).filterMap λ a=>if a=L\/a=d then none else(h.get? a).map λ o=>(a,o)
end Att
namespace L2
open PySem PySem.Spec PyProof.Rows
theorem oY:∀{vs:ge Jg} {ns:ge Int},IntsAre vs ns->Vals (ns.map V.int) vs
 | _,_,.nil=>.nil
 | _,_,.cons n t h=>.cons ⟨t,rfl⟩ (oY h)
def Only(H:Hp):Prop:=∀b,H b=none\/(∃o xs,H b=some (.frz o (.lst xs)))\/∃q,H b=some (.tbl q)
theorem bE{a:Type}:∀{l:ge (Ji×a)} {c:a},l.lookup x=some c->(x,c)∈l
 | (y,v)::l,c,h=>by
  rw[D6]at h;split at h
  ·rename_i e;cases h;rw[f7.mp e];exact i5
  ·exact i7 _ (bE h)
theorem oZ{a:Type}:∀{l:ge (Ji×a)} {c:a},l.lookup x=none->(x,c)∉l
 | (y,v)::l,c,h,m=>by
  rw[D6]at h;split at h
  ·cases h
  ·rename_i e;rcases g5.mp m with z | z
   ·cases z;simp at e
   ·exact oZ h z
theorem yU{l:ge (e×d)}(f:(l.map (·.1)).Nodup)(g:(p.1,q)∈l)(i:p∈l):q=p.2:=by
 induction l with
 | nil=>cases g
 | cons y l h=>
  rw[t9]at f;have a:=L0.mp f;rcases g5.mp g with c | c<;>rcases g5.mp i with b | b
  ·rw[b,←c]
  ·exact absurd (f9.mpr ⟨p,b,by rw[←c]⟩) a.1
  ·exact absurd (f9.mpr ⟨_,c,by rw[b]⟩) a.1
  ·exact h a.2 c b
theorem yV{K:Js}
  (KX:K.In c.heap) (R:c.heap.Ns mainGlobals mg) (j:c.heap.Ns builtinsNs mb) (a5:∀x:Str,x ≠ "__name__" -> mb x=bootBuiltins x) (U:c.heap.NoLimit) (hg:c.gens = #[])
  (O:c.heap.get? a=some {cls:=.type "list",data:=.seq vs.toArray}) (hi:IntsAre vs ns) (hl:ns.length<=sizeLine) (hr:Room k callerA)
  (F:∀y:Jj,K.In y->y.Ns mainGlobals mg->FnOk P w K mg y CX k fa fd [x] sp) (N:∀(s:Jh) (u:Jg),BindsTo s fd ⟨[u],[]⟩ [(x,u)])
  (a3:∀H:Hp,Only H->SqL K H a (ns.map V.int)->sp [.ref a] H (λ v _=>v=.bl true) λ _ _ _=>False)
  (i:∀p∈v3 K,K.lookup p.1=none/\c.heap.get? p.1=some {cls:=.none,data:=.fields #[]} /\ isCodeTable c.heap p.1) (a2:((v3 K).map (·.1)).Nodup)
  (a4:∃L E,mg "__builtins__" = some (.ref L)/\L≠builtinsNs/\c.heap.get? L=some E/\E.cls=.type "module" /\ E.dict=some builtinsNs/\E.data=.plain)
  (a7:∀H e l,CX [] H c (λ _ _ _=>False) e l->False) :
  codeAny (model P w) callerA (.call (.ref fa) ⟨[.ref a],[]⟩) (λ r l=>r=.ok (.ret (.bool true))/\OldK c.heap l.heap/\l.os=c.os/\AllBare l.gens) c:=by
 have rv:=oY hi;have Q:=hi.length;have J:∀H:Hp,Only H->SqL K H a (ns.map V.int)->HOk P w H c.heap->(∀b,H b≠none->b=a\/((∃q,(b,q)∈v3 K)/\∃q,H b=some (.tbl q)))->(H a≠none->K.lookup a=none)->bC K H ->
   codeAny (model P w) callerA (.call (.ref fa) ⟨[.ref a],[]⟩) (λ r l=>r=.ok (.ret (.bool true))/\OldK c.heap l.heap/\l.os=c.os/\AllBare l.gens) c:=by
  intro H hO hS M hA hK hT;have g:∀{b:Ji} {o:Obj},c.heap.get? b=some o->H b=none->(hidT c.heap H).get? b=some o:=λ e n=>wS e n
  have a1:∀{b:Ji} {o:Obj} {es:Jl DictEntry} {ep:Nat},c.heap.get? b=some o->o.data=.dict es ep->H b=none:=λ {b o es ep} e d=>by
   cases q:H b with
   | none=>rfl
   | some u=>
    rcases hA b (by rw[q];simp)with e' | ⟨⟨qq,e'⟩,_⟩
    ·subst e';rw[O]at e;cases e;have d':=d;cases d'
    ·rw[(i _ e').2.1]at e;cases e;have d':=d;cases d'
  have A:∀{b:Ji} {m:Str->on Jg},c.heap.Ns b m->(hidT c.heap H).Ns b m:=λ {b m} ⟨o,es,ep,e,d,r⟩=>⟨o,es,ep,g e (a1 e d),d,r⟩;have W:=λ b o e=>g (KX b o e) (by
   cases q:H b with
   | none=>rfl
   | some u=>
    rcases hA b (by rw[q];simp)with e' | ⟨⟨qq,e'⟩,_⟩
    ·subst e';rw[hK (by rw[q];simp)]at e;cases e
    ·rw[(i _ e').1]at e;cases e)
  have hM:Mod K mg (hidT c.heap H):=by
   refine⟨W,A R,⟨mb,A j,a5⟩,let ⟨mc,X,h2⟩:=U;⟨mc,A X,h2⟩,?L⟩;obtain⟨L,E,b1,b2,b3,b4,b5,b6⟩:=a4;refine⟨L,E,b1,b2,g b3 ?_,b4,b5,b6⟩;cases q:H L with
   | none=>rfl
   | some u=>
    rcases hA L (by rw[q];simp)with e' | ⟨⟨qq,e'⟩,_⟩
    ·subst e';rw[O]at b3;cases b3;exact absurd (Value.type.inj (show Value.type "list" = Value.type "module" from b4)) Jz
    ·rw[(i _ e').2.1]at b3;cases b3;cases b4
  have e0:Env0 P w K mg (hidT c.heap H) callerA [] c H:=⟨rfl,hM,λ b o e=>wT e,Nat.le_of_eq (wR _ _),trivial,⟨λ b j=>absurd (show b∈([]:ge Ji)from j) JN,hT⟩,M,.of_eq hg⟩;refine Q2 ((F _ W (A R)).run callerA [] c H ⟨[.ref a],[]⟩ [.ref a] [.ref a] _ _ hr e0 (N c (.ref a)) (.cons rfl .nil) (a3 H hO hS)) λ r l h=>?_;cases r with
  | error e=>exact(a7 H e l h).elim
  | ok fl=>
   cases fl with
   | next=>exact False.elim h
   | brk=>exact False.elim h
   | cont=>exact False.elim h
   | ret u=>
    obtain⟨v,H',os,Z,un,I,r',q⟩:=h;have q':v=.bl true:=q;subst q';obtain rfl:u=Value.bool true:=r';refine⟨rfl,⟨λ b o e=>?_,λ b o e=>un.there b o e JN⟩,os,Z⟩;cases q:H b with
    | none=>exact .inl (un.keep b o e q (by intro z;exact absurd (show b∈([]:ge Ji)from z) JN) JN)
    | some u=>
     rcases hO b with z | ⟨E,xs,z⟩ | ⟨qq,z⟩
     ·rw[q]at z;cases z
     ·have z2:=un.frzs b E _ z;obtain⟨Y,_⟩:=M b _ z;obtain⟨e2,_⟩:=I b _ z2;rw[e]at Y;cases Y;exact .inl e2
     ·rcases hA b (by rw[q];simp)with e' | ⟨⟨q2,e'⟩,_⟩
      ·subst e';obtain⟨ps,Y,_⟩:=M b _ z;rw[O]at Y;have:=congrArg Obj.data (A9 Y);cases this
      ·have t:=i _ e';rw[t.2.1]at e;cases e;obtain⟨ps,e2,_⟩:=I b _ (un.tbls b _ z);exact .inr (.inl ⟨t.2.2,rfl,#[],ps,rfl,by simpa using e2⟩)
 have C:∀f:Hp,(∀p∈v3 K,f p.1=none)->∃H:Hp,(∀b,(∃q,(b,q)∈v3 K/\H b=some (.tbl q))\/((∀q,(b,q)∉v3 K)/\H b=f b)):=λ f hf=>by
  refine⟨λ b=>match(v3 K).lookup b with | some q=>some (.tbl q) | none=>f b,λ b=>?_⟩;cases z:(v3 K).lookup b with
  | some q=>exact .inl ⟨q,bE z,by simp only[z]⟩
  | none=>exact .inr ⟨λ q hq=>oZ z hq,by simp only[z]⟩
 have B:∀{H:Hp} {f:Hp},(∀b,(∃q,(b,q)∈v3 K/\H b=some (.tbl q))\/((∀q,(b,q)∉v3 K)/\H b=f b))->bC K H:=λ {H f} h p hp=>by
  rcases h p.1 with⟨q,X,h2⟩ | ⟨X,_⟩
  ·rw[h2,yU a2 X hp]
  ·exact absurd hp (X p.2)
 cases hk:K.lookup a with
 | some o=>
  have e:=KX a o hk;rw[O]at e;cases e;obtain⟨H,h⟩:=C (λ _=>none) λ _ _=>rfl;refine J H (λ b=>?_) (.inr ⟨_,vs.toArray,_,hk,rfl,rfl,rfl,by rw[r3,Q];exact hl,by simpa using rv⟩) (λ b u z=>?_) (λ b z=>?_) (λ z=>?_) (B h)
  ·rcases h b with⟨q,_,e⟩ | ⟨_,e⟩
   ·exact .inr (.inr ⟨q,e⟩)
   ·exact .inl e
  ·rcases h b with⟨q,m,e⟩ | ⟨_,e⟩
   ·rw[e]at z;cases z;exact⟨#[],(i _ m).2.1,trivial,λ a0 cv z=>by cases z⟩
   ·rw[e]at z;cases z
  ·rcases h b with⟨q,m,e⟩ | ⟨_,e⟩
   ·exact .inr ⟨⟨q,m⟩,q,e⟩
   ·exact absurd e z
  ·rcases h a with⟨q,m,e⟩ | ⟨_,e⟩
   ·have:=(i _ m).1;rw[hk]at this;cases this
   ·exact absurd e z
 | none=>
  have S:∀q,(a,q)∉v3 K:=λ q m=>by have:=(i _ m).2.1;rw[O]at this;have:=congrArg Obj.data (A9 this);cases this
  obtain⟨H,h⟩:=C (λ b=>if b=a then some (.frz {cls:=.type "list",data:=.seq vs.toArray} (.lst (ns.map V.int)))else none) λ p hp=>e8 λ z=>S p.2 (by rw[←z];exact hp)
  have a6:H a=some (.frz {cls:=.type "list",data:=.seq vs.toArray} (.lst (ns.map V.int))):=by
   rcases h a with⟨q,m,_⟩ | ⟨_,e⟩
   ·exact absurd m (S q)
   ·rw[e];exact d8 rfl
  refine J H (λ b=>?_) (.inl (.inr ⟨{cls:=.type "list",data:=.seq vs.toArray},a6⟩)) (λ b u z=>?_) (λ b z=>?_) (λ _=>hk) (B h)
  ·rcases h b with⟨q,_,e⟩ | ⟨_,e⟩
   ·exact .inr (.inr ⟨q,e⟩)
   ·by_cases j:b=a
    ·exact .inr (.inl ⟨_,_,e.trans (d8 j)⟩)
    ·exact .inl (e.trans (e8 j))
  ·rcases h b with⟨q,m,e⟩ | ⟨_,e⟩
   ·rw[e]at z;cases z;exact⟨#[],(i _ m).2.1,trivial,λ a0 cv z=>by cases z⟩
   ·rw[e]at z;by_cases j:b=a
    ·have z':=(d8 j).symm.trans z;cases z';subst j;exact⟨O,by rw[d7];exact hl,vs,_,rv,O⟩
    ·have z':=(e8 j).symm.trans z;cases z'
  ·rcases h b with⟨q,m,e⟩ | ⟨_,e⟩
   ·exact .inr ⟨⟨q,m⟩,q,e⟩
   ·by_cases j:b=a
    ·exact .inl j
    ·exact absurd (e.trans (e8 j)) z
end L2
namespace L2
open PySem PySem.Spec PyProof.Rows
abbrev KOf{K:Js}{h:Jj}(_:K.In h):Js:=K
theorem walk_of{l:PySem.W.OpenLaw}{K:Params->Js}{N:Jn->CXT}{L:Jn->Sp}
  (P:l.most=some n) (A:n<=sizeLine) (C:d.params.defaults=[]) (O:Room k callerA)
  (U:∀(w:Jn) (h:Jj),YP w h->(K w.params).In h) (j:∀(w:Jn) (h:Jj),YP w h->(∀p∈v3 (K w.params),(K w.params).lookup p.1=none/\h.get? p.1=some {cls:=.none,data:=.fields #[]} /\ isCodeTable h p.1)/\((v3 (K w.params)).map (·.1)).Nodup)
  (F:∀(w:Jn) (mg:Str->on Jg) (r:Ji) (h:Jj),(K w.params).In h->h.Ns mainGlobals mg->mg d.name=some (.ref r) ->
   ∃fd:Jr,(∀(s:Jh) (u:Jg),BindsTo s fd ⟨[u],[]⟩ [(x,u)]) /\
    ∀b:Jj,(K w.params).In b->b.Ns mainGlobals mg->FnOk l.prog w (K w.params) mg b (N w) k r fd [x] (L w))
  (z:∀(w:Jn) (H:Hp) (a:Ji) (ns:ge Int),ns.length<=n->Only H->SqL (K w.params) H a (ns.map V.int)->L w [.ref a] H (λ v _=>v=.bl true) λ _ _ _=>False)
  (E:∀(w:Jn) (H:Hp) (s:Jh) (e:Jg) (y:Jh),N w [] H s (λ _ _ _=>False) e y->False) :
  PySem.W.WalkO q loose XP YP l.row.toRowW d [] (λ f I=>PySem.call f I):=by
 refine Att.attach_call P C λ w J i mg mb r o pm cd doc a I ns G Y ho hd R B m g c Q=>?_;have M:=U w _ Y;obtain⟨fd,S,Z⟩:=F w mg r _ M G.T.g B;exact yV M G.T.g G.T.b G.T.builtins G.T.nolimit Q m g (e9 c A) O Z S (λ H X W=>z w H a ns c X W) (j w _ Y).1 (j w _ Y).2 G.T.bmain λ H e y=>E w H i e y
end L2
namespace L2
open PySem PySem.Spec PyProof.Rows
abbrev CX0:CXT:=λ _ _ _ _ _ _=>False
abbrev E0:XK:=λ _ _ _=>False
theorem pc:iV CX0 X E0:=λ _ _ _ _ _ _ _ h=>h.elim
structure Fun(K:PySem.W.Frag)(x qual:Str)(st:Stmt)(f:Addr)(fd:FuncData):Prop where
 ex:∃(oc:Value) (od:Option Addr) (kV doc pm:Value) (an:Option Addr) (cdv ct:Value) (osl:Array (Option Value)),
  fd=PySem.W.fnOf x qual (M5 st) (G9 st) (x2 st) .none kV doc pm an cdv ct/\K.lookup f=some ⟨oc,od,.func fd,osl⟩/\PySem.W.codeIn K cdv qual=true
 kp:PySem.W.keepIn K (.ref f)=true
theorem iteF{B:Prop}(h:B):if false=true then A else B:=by
 rw[e8 x0];exact h
theorem iteT{B:Prop}(h:A):if true=true then A else B:=by
 rw[d8 rfl];exact h
def Same(H H':Hp):Prop:=∀b o,H b=some o->H' b=some o
theorem Same.refl(H:Hp):Same H H:=λ _ _ h=>h
theorem Same.trans(a:Same H e)(b:Same e d):Same H d:=λ c o h=>b c o (a c o h)
theorem Same.free(e:Same H H')(h:H' l=Option.none):H l=Option.none:=by
 cases q:H l with
 | none=>rfl
 | some o=>
  rw[e l o q]at h;cases h
theorem Same.seq{K:Js}(e:Same H H')(h:SqL K H a xs):SqL K H' a xs:=by
 rcases h with(h | ⟨o,h⟩) | h
 ·exact .inl (.inl (e _ _ h))
 ·exact .inl (.inr ⟨o,e _ _ h⟩)
 ·exact .inr h
end L2
end
noncomputable section
namespace L2
open PySem PySem.Spec PyProof.Rows
noncomputable def n9(cells:ge (Str×Ji)):ge (Str×NameKind)->ge (Str×Ji)->ge (Str×Ji)
 | [],acc=>acc
 | (n,k)::r,acc=>if(k==NameKind.free)=true then n9 cells r ((n,(cells.lookup n).getD 0)::acc)else n9 cells r acc
theorem jb:∀(d:ge (Str×NameKind)) (b:ge (Str×Ji)),(∀y∈d,y.2=NameKind.free->∃c,env.cells.lookup y.1=some c) ->
  (forIn d b (λ (x:Str×NameKind) (cs:ge (Str×Ji))=>(match x with | (e,f)=>if(f==NameKind.free)=true then(do let a ←cellOf env e;pure (ForInStep.yield ((e,a)::cs)))else pure (ForInStep.yield cs):Sem (ForInStep (ge (Str×Ji))))):Sem (ge (Str×Ji)))=pure (n9 env.cells d b)
 | [],b,_=>rfl
 | (n,k)::r,b,h=>by
  have j:=λ y m=>h y (i7 _ m);rw[List.forIn_cons];by_cases g:(k==NameKind.free)=true
  ·obtain⟨c,l⟩:=h (n,k) i5 (f7.mp g);have o:cellOf env n=pure c:=by unfold cellOf;rw[l]
   have i:n9 env.cells ((n,k)::r) b=n9 env.cells r ((n,c)::b):=(by show(if(k==NameKind.free)=true then n9 env.cells r (_::b)else n9 env.cells r b)=_;rw[d8 g,l];rfl);rw[i,←jb r _ j];simp only[g,if_true,o];rfl
  ·have i:n9 env.cells ((n,k)::r) b=n9 env.cells r b:=by
    show(if(k==NameKind.free)=true then n9 env.cells r (_::b)else n9 env.cells r b)=_;rw[e8 g]
   rw[i,←jb r b j];simp only[g,if_false];rfl
theorem jc(h:∀y∈scope.names,y.2=NameKind.free->∃c,env.cells.lookup y.1=some c):closureFor scope env=pure (n9 env.cells scope.names []):=by
 unfold closureFor
 first
  | exact _.trans rfl
  | (simp only[(jb scope.names [] h)];rfl)
theorem bF:∀{a:ge (Str×NameKind)} {d:ge (Str×Ji)} {x:Str} {c:Ji},(∀y∈a,y.2=NameKind.free->∃c,b.lookup y.1=some c) ->
  (x,c)∈n9 b a d->(x,c)∈d\/(b.lookup x=some c/\(x,NameKind.free)∈a)
 | [],d,x,c,_,h=>.inl h
 | (n,k)::r,d,x,c,g,h=>by
  have f:=λ y i=>g y (i7 _ i);unfold n9 at h;by_cases e:(k==NameKind.free)=true
  ·rw[d8 e]at h;obtain⟨c',j⟩:=g (n,k) i5 (f7.mp e);rcases bF f h with z | ⟨z1,z2⟩
   ·rcases g5.mp z with z | z
    ·cases z;exact .inr ⟨by rw[j];rfl,by rw[←f7.mp e];exact i5⟩
    ·exact .inl z
   ·exact .inr ⟨z1,i7 _ z2⟩
  ·rw[e8 e]at h;rcases bF f h with z | ⟨z1,z2⟩
   ·exact .inl z
   ·exact .inr ⟨z1,i7 _ z2⟩
theorem jd:∀{a:ge (Str×NameKind)} {c:ge (Str×Ji)} {y:Str×Ji},y∈c->y∈n9 b a c
 | [],_,_,h=>h
 | (n,k)::r,c,y,h=>by
  unfold n9;split
  ·exact jd (i7 _ h)
  ·exact jd h
theorem eT:∀{a:ge (Str×NameKind)} {d:ge (Str×Ji)} {x:Str} {c:Ji},(x,NameKind.free)∈a->b.lookup x=some c->(x,c)∈n9 b a d
 | (n,k)::r,d,x,c,h,e=>by
  unfold n9;rcases g5.mp h with z | z
  ·cases z;rw[d8 (show(NameKind.free==NameKind.free)=true from rfl),e];exact jd i5
  ·split
   ·exact eT z e
   ·exact eT z e
theorem bG:∀(a:ge (Str×NameKind)) (n:Nat) (b:ge (Str×Ji)),cellsFrom n a b=cellsFrom n a []++b
 | [],_,_=>rfl
 | (x,k)::r,n,b=>by
  unfold cellsFrom;split
  ·rw[bG r _ _,bG r _ [(x,n)],N9];rfl
  ·exact bG r n b
theorem je:∀{a:ge (Str×NameKind)} {n:Nat} {x:Str} {c:Ji},(x,c)∈cellsFrom n a []->(x,NameKind.cell)∈a
 | [],_,_,_,h=>nomatch h
 | (y,k)::r,n,x,c,h=>by
  unfold cellsFrom at h;by_cases b:(k==NameKind.cell)=true
  ·rw[d8 b,bG]at h;rcases A5.mp h with z | z
   ·exact i7 _ (je z)
   ·have d:(x,c)=(y,n):=by simpa using z
    cases d;rw[f7.mp b];exact i5
  ·rw[e8 b]at h;exact i7 _ (je h)
theorem bH{a:Type}:∀{l r:ge (Str×a)},(l++r).lookup x=(l.lookup x).or (r.lookup x)
 | [],r=>by simp
 | (y,v)::l,r=>by
  rw[List.cons_append,D6,D6];cases hb:x==y with
  | true=>rfl
  | false=>exact bH
theorem pd{a:Type}:∀{l:ge (Str×a)},(∀c,(x,c)∉l)->l.lookup x=none
 | [],_=>rfl
 | (y,v)::l,h=>by
  rw[D6];cases hb:x==y with
  | true=>exact absurd (by grind) (h v)
  | false=>exact pd λ c b=>h c (i7 _ b)
theorem jf{a:Type}:∀{l:ge (Str×a)} {c:a},(x,c)∈l->∃d,l.lookup x=some d
 | (y,v)::l,c,h=>by
  rw[D6];cases b:x==y with
  | true=>exact⟨v,rfl⟩
  | false=>
   rcases g5.mp h with z | z
   ·cases z;rw[O0]at b;cases b
   ·exact jf z
theorem W6{b:Type}:∀{l:ge (Str×b)} {c:b},(l.map (·.1)).Nodup->(x,c)∈l->l.lookup x=some c
 | (y,v)::l,c,d,h=>by
  rw[D6];rw[t9]at d;have a:=L0.mp d;rcases g5.mp h with z | z
  ·cases z;rw[O0]
  ·have:x≠y:=λ e=>a.1 (by rw[←e];exact f9.mpr ⟨_,z,rfl⟩);rw[A4.mpr this];exact W6 a.2 z
theorem jg:(relabel scope env).names.lookup x=(scope.names.lookup x).map λ k=>if(k==NameKind.free&&env.scope.kind == .function&&env.kindOf x==some .cell)=true then NameKind.cell else k:=by
 unfold relabel;show(scope.names.map _).lookup x=_;generalize scope.names=l
 induction l with
 | nil=>rfl
 | cons y r a=>
  obtain⟨n,k⟩:=y;rw[t9];show List.lookup x ((if _=true then _ else(n,k))::_)=_;have e:(if(k==NameKind.free&&env.scope.kind == .function&&env.kindOf n==some .cell)=true then(n,NameKind.cell)else(n,k))=(n,if(k==NameKind.free&&env.scope.kind == .function&&env.kindOf n==some .cell)=true then NameKind.cell else k):=by split<;>rfl
  rw[e,D6,D6];cases b:x==n with
  | true=>rw[f7.mp b];rfl
  | false=>exact a
theorem yW
  (e:Q (newEnv scope s.heap.objs.size g (cellsFrom (s.heap.objs.size+1) scope.names cl) q none .none (some env) builtinsNs) {s with heap:=pushCells (s.heap.push {cls:=.type "dict",data:=.dict #[]}) scope.names}) :
  wpAny M A (newFunctionEnv scope g cl [] q none .none (some env)) Q E s:=by
 simp only[newFunctionEnv,Option.isSome_some,if_true];refine d4 (wpAny_alloc ?_);refine d4 (wpAny_layCells _ (λ d a c=>by cases b:a==NameKind.cell<;>simp[b]) _ _ _ _ ?_);rw[show({s with heap:=s.heap.push {cls:=.type "dict",data:=.dict #[]}}:Jh).heap.objs.size=s.heap.objs.size+1 from G6 ..];exact d4 (d9 (d9 e))
theorem yX(I:Nat->Jh->Prop)
  (turn:∀n s,I n s->wpAny JG A (pyNext it) (λ r f=>match r with
   | none=>R (.ok .next) f
   | some v=>wpAny JG A (letOwnedTupleGo a it v) (λ _ d=>wpAny JG A (assign a env v) (λ _ l=>
     wpAny JG A (forIn y true λ c r=>if r=true then do let ok ←isTrue c env (eval c env);pure (ForInStep.yield ok)else pure (ForInStep.yield r)) (λ ok b=>
      if ok=true then wpAny JG A (eval elt env) (λ x k=>
       wpAny JG A (call (.builtin "list.append") [E,x]) (λ _ j=>∃m,m<n/\I m j) (notedBy JG A env λ e g=>R (.error e) g) k) (notedBy JG A env λ e g=>R (.error e) g) b
      else ∃m,m<n/\I m b) (notedBy JG A env λ e g=>R (.error e) g) l) (notedBy JG A env λ e g=>R (.error e) g) d) (notedBy JG A env λ e g=>R (.error e) g) f) (notedBy JG A env λ e g=>R (.error e) g) s)
  (n:Nat) (h:I n s) :
  codeAny JG A (.compLoop (.ListComp elt [⟨a,u,y,0⟩] scope pos) 0 it E env) R s:=by
 refine codeAny_loop rfl I (λ n s F=>?_) n h;show wpAny _ A _ _ _ s;refine wpAny_noted ?_;rw[compTurn_list];refine d4 (bv (d4 (B1 (turn n s F) (λ r f p=>?_) λ _ _ i=>i)));cases r with
 | none=>exact d9 p
 | some v=>
  refine d4 (B1 p (λ _ d q=>?_) λ _ _ i=>i);refine d4 (B1 q (λ _ l C=>d4 (B1 C (λ ok b o=>?_) λ _ _ i=>i)) λ _ _ i=>i);cases ok with
  | false=>exact d9 ⟨rfl,o⟩
  | true=>
   exact d4 (d4 (B1 o (λ x k B=>d4 (B1 B (λ _ j z=>d9 (d9 ⟨rfl,z⟩)) λ _ _ i=>i)) λ _ _ i=>i))
theorem HOk.track(x:HOk P w H h)(d:H a=none)(new:p4 P w (upd H a o) h a o):HOk P w (upd H a o) h:=λ b u e=>by
 by_cases f:b=a
 ·subst f;rw[v6]at e;cases e;exact new
 ·rw[j3 f]at e;exact(x b u e).stay (λ c v _ q=>q) (λ c q=>by rw[j3 (A0 q d)];exact q) (λ c g q=>by rw[j3 (A0 q d)];exact q) (λ c g q=>by rw[j3 (A0 q d)];exact q) λ c _ _ _ _ q=>by rw[j3 (A0 q d)];exact q
theorem Un.track{fs ex:ge Ji}{H H':Hp}{h h':Jj}{a:Ji}{o:HO}(u:Un fs ex H H' h h')(hn:H' a=none)(hh:h.get? a=none):Un fs ex H (upd H' a o) h h' where
 keep:=u.keep
 slot:=u.slot
 free:=λ b ob q n hx=>by
  have:b≠a:=λ z=>by rw[z,hh]at q;cases q
  rw[j3 this];exact u.free b ob q n hx
 there:=u.there
 tups:=λ b xs q=>by have z:=u.tups b xs q;rw[j3 (A0 z hn)];exact z
 frzs:=λ b ob xs q=>by have z:=u.frzs b ob xs q;rw[j3 (A0 z hn)];exact z
 tbls:=λ b ps q=>by have z:=u.tbls b ps q;rw[j3 (A0 z hn)];exact z
structure CompScope(N N':List Str)(sc osc:Scope)(fr:List (Option Nat)):Prop where
 kind:sc.kind=.function
 nd:N'.Nodup
 snd:(sc.names.map (·.1)).Nodup
 len:fr.length=N'.length
 fre:∀(j i:Nat),fr[j]? = some (some i)->∃x,N'[j]? = some x/\N[i]? = some x/\(x,NameKind.free)∈sc.names
 out:∀y∈sc.names,y.2=NameKind.free->osc.names.lookup y.1=some .cell\/osc.names.lookup y.1=some .free
noncomputable def inner(fr:ge (on Nat))(σ:St):St:=fr.map λ o=>o.bind λ i=>(σ[i]?).join
noncomputable def p8(X:Cx)(scope:Ju)(N':ge Str)(C:Ji)(cells:ge (Str×Ji))(s₂:Jh)(H₂:Hp)(fp:ge Ji):Cx:=
 {X with N:=N',s₀:=s₂,H₀:=H₂,env:=compEnvC scope cells C X.env,outer:=X.stack,stack:=X.stack,ex:=fp,fn:=λ x=>scope.names.lookup x==some .cell,pn:=[],xe:=λ _ _=>False}
abbrev M8:Obj:={cls:=.type "list",dict:=none,data:=.seq ([]:ge Jg).toArray}
abbrev bI:Obj:={cls:=.type "dict",data:=.dict #[]}
theorem yY(S:CompScope X.N N' scope X.env.scope fr)(I:Inv X O σ H d)(f:∀b∈fp,FpOk X O H b)(ho:∀b∈fp,@LT.lt Nat _ b d.heap.objs.size)(hC:C=d.heap.objs.size+1)(M:U=pushCells ((d.heap.push M8).push bI) scope.names) :
  Inv (p8 X scope N' C (cellsFrom (C+1) scope.names (n9 X.env.cells scope.names [])) d H fp) [] (inner fr σ) H {d with heap:=U} /\ U.get? d.heap.objs.size=some M8/\(∀b o,d.heap.get? b=some o->U.get? b=some o):=by
 have Q:(d.heap.push M8).objs.size=d.heap.objs.size+1:=G6 ..;have P:((d.heap.push M8).push bI).objs.size=C+1:=by rw[G6,Q,hC]
 have h:∀b o,d.heap.get? b=some o->U.get? b=some o:=λ b o e=>by rw[M];exact iu _ _ b o (g9 _ (g9 _ e))
 have hD:U.get? d.heap.objs.size=some M8:=by rw[M];exact iu _ _ _ _ (g9 _ (o4 _ rfl))
 have a4:U.Ns C λ _=>none:=by have q:=(Heap.Ns.new (d.heap.push M8) (.type "dict")).keeps (iu scope.names _);rw[Q,←hC]at q;rw[M];exact q
 have ok:=cellsFrom_ok scope.names ((d.heap.push M8).push bI) (C+1) [] ⟨λ _ _ A=>(nomatch A),List.Pairwise.nil⟩ (by rw[P];exact f8 _);rw[P,←M]at ok;have J:∀y∈scope.names,y.2=NameKind.free->∃c,X.env.cells.lookup y.1=some c:=λ y hy hk=>I.ok.has y.1 (S.out y hy hk);generalize Z:n9 X.env.cells scope.names []=cl;have F:∀{x:Str} {c:Ji},(x,c)∈cl->X.env.cells.lookup x=some c/\(x,NameKind.free)∈scope.names:=λ {x c} A=>by
  rw[←Z]at A;rcases bF J A with z | z
  ·exact nomatch z
  ·exact z
 generalize s:cellsFrom (C+1) scope.names []=own at ok;have a6:cellsFrom (C+1) scope.names cl=own++cl:=by rw[bG,s]
 rw[a6];have L:∀{x:Str} {c:Ji},(x,c)∈own->(x,NameKind.cell)∈scope.names:=λ {x c} A=>by rw[←s]at A;exact je A
 have L1:∀x c,(own++cl).lookup x=some c->((x,c)∈own)\/(X.env.cells.lookup x=some c/\(x,NameKind.free)∈scope.names/\own.lookup x=none):=λ x c e=>by
  rw[bH]at e;cases q:own.lookup x with
  | some c'=>rw[q]at e;cases e;exact .inl (D1 q)
  | none=>rw[q]at e;have z:=F (D1 (show cl.lookup x=some c from e));exact .inr ⟨z.1,z.2,rfl⟩
 have g:=λ {x c} A=>(ok.empty x c A).2;have n:∀{x:Str} {c:Nat},X.env.cells.lookup x=some c->@LT.lt Nat _ c d.heap.objs.size:=λ {x c} e=>by obtain⟨v,z⟩:=I.cell x c e;exact z.lt
 have K:∀{x:Str},(x,NameKind.free)∈scope.names->own.lookup x=none:=λ {x} A=>by refine pd λ c Y=>?_;have a:=W6 S.snd A;have b:=W6 S.snd (L Y);rw[a]at b;cases b
 have B:∀{x:Str} {c:Ji},(x,NameKind.free)∈scope.names->X.env.cells.lookup x=some c->(own++cl).lookup x=some c:=λ {x c} A Y=>by rw[bH,K A];obtain⟨c',e⟩:=jf (l:=cl) (by rw[←Z];exact eT A Y);have z:=(F (D1 e)).1;rw[Y]at z;cases z;exact e
 have hX:(p8 X scope N' C (own++cl) d H fp).Ok:=by
  refine⟨I.ok.mod,S.kind,I.ok.glob,I.ok.blt,?_,λ x y c h1 h2=>?_,λ x hx=>?_,λ x c hf Y=>?_,I.ok.hd,I.ok.frames,.inl rfl,λ b R=>⟨?_,λ x c e=>?_⟩,I.bs,e9 I.ok.bsz I.sz,λ b o e R=>?_,λ b R hs=>?_,I.stack,⟨I.stkFree,I.tabs⟩⟩
  ·show d.heap.objs.size<=C;rw[hC];exact Q4 _
  ·have h1:(own++cl).lookup x=some c:=h1;have h2:(own++cl).lookup y=some c:=h2;rcases L1 x c h1 with a | ⟨a,_⟩<;>rcases L1 y c h2 with b | ⟨b,_⟩
   ·exact name_of_addr ok.apart a b
   ·exfalso;have q1:=g a;have q2:=n b;omega
   ·exfalso;have q1:=g b;have q2:=n a;omega
   ·exact I.ok.inj x y c a b
  ·have E:(relabel scope X.env).names.lookup x=some .cell\/(relabel scope X.env).names.lookup x=some .free:=hx;show ∃c,(own++cl).lookup x=some c;rw[jg]at E;cases q:scope.names.lookup x with
   | none=>rw[q]at E;rcases E with z | z<;>cases z
   | some k=>
    have km:=D1 q;by_cases k1:k=.cell
    ·subst k1;have z:=dh scope.names (C+1) [] (.inl q);rw[s]at z;obtain⟨c,z⟩:=V3.mp z;exact⟨c,by rw[bH,z];rfl⟩
    ·by_cases k2:k=.free
     ·subst k2;obtain⟨c,e⟩:=J _ km rfl;exact⟨c,B km e⟩
     ·exfalso;rw[q]at E;have e0:(k==NameKind.free)=false:=A4.mpr k2;simp only[D7,e0,iB]at E;rcases E with z | z
      ·exact k1 (by simpa using z)
      ·exact k2 (by simpa using z)
  ·have a5:(scope.names.lookup x==some .cell)=true:=hf;have q:scope.names.lookup x=some .cell:=by simpa using a5
   have z:=dh scope.names (C+1) [] (.inl q);rw[s]at z;obtain⟨c',z⟩:=V3.mp z;have a0:(own++cl).lookup x=some c:=Y;rw[bH,z]at a0;have e:c'=c:=A9 a0;subst e;have:=g (D1 z);show @LE.le Nat _ d.heap.objs.size c';omega
  ·have:=ho b R;show @Ne Nat b C;omega
  ·rcases L1 x c e with a | ⟨a,_⟩
   ·have:=g a;have:=ho b R;show @Ne Nat c b;omega
   ·exact(f b R).2.2.2.2.1 x c a
  ·rcases(f b R).2.2.2.1 with z | z
   ·exact I.ok.noex b o e z
   ·exact absurd (q9 (j7 e) (e9 I.ok.bsz z)) (P9 _)
  ·rcases g5.mp (I.stkSub b hs)with z | z
   ·exact(f b R).2.1 z
   ·exact(f b R).2.2.1 z
 refine⟨⟨hX,rfl,I.bare,Un.kept h,⟨_,a4,λ i x v e1 W e3=>?_⟩,λ x c e=>?_,I.hok.fresh (by show @LE.le Nat _ d.heap.objs.size C;omega),λ x c e=>?_,λ p hp=>absurd (show p∈([]:ge (Ji×Obj))from hp) JN,I.hok.kept h,?_⟩,hD,h⟩
 ·have e1:N'[i]? = some x:=e1;unfold inner at W;rw[o8]at W;cases q:fr[i]? with
  | none=>rw[q]at W;cases W
  | some o=>
   rw[q]at W;cases o with
   | none=>cases W
   | some j=>
    have N:(σ[j]?).join=some v:=A9 W;have hv:σ[j]? = some (some v):=by
     cases z:σ[j]? with
     | none=>rw[z]at N;cases N
     | some o=>rw[z]at N;rw[show o=some v from N]
    obtain⟨x',a1,a2,a3⟩:=S.fre i j q;rw[e1]at a1;cases a1;obtain⟨m,hn,hl⟩:=I.loc;have ko:=S.out _ a3 rfl;obtain⟨u,r,l⟩:=hl j x v a2 hv (ko.elim (λ z=>.inr (.inl z)) λ z=>.inr (.inr z));rcases l with⟨k,_⟩ | ⟨k,c,e,z⟩
    ·have k':X.env.scope.names.lookup x=some .local:=k;rcases ko with w | w<;>(rw[show X.env.scope.names.lookup x=_ from w]at k';cases k')
    ·refine⟨u,r,.inr ⟨?_,c,B a3 e,z.keeps h⟩⟩;show(relabel scope X.env).names.lookup x=some .cell\/(relabel scope X.env).names.lookup x=some .free;rw[jg,W6 S.snd a3];simp only[D7];split
     ·exact .inl rfl
     ·exact .inr rfl
 ·rcases L1 x c e with a | ⟨a,_⟩
  ·exact⟨none,(ok.empty x c a).1⟩
  ·obtain⟨v,z⟩:=I.cell x c a;exact⟨v,z.keeps h⟩
 ·rcases L1 x c e with a | ⟨a,_⟩
  ·exact I.hok.fresh (by have:=g a;show @LE.le Nat _ d.heap.objs.size c;omega)
  ·exact I.freeC x c a
 ·show(inner fr σ).length=N'.length;unfold inner;rw[d7,S.len]
def PTs(X:Cx)(ifs:ge Jk)(t:TT):Prop:=
 ∀(pins:ge (Ji×Obj)) (s:Jh) (σ:St) (H:Hp) (Q:Bool->Hp->Prop),Inv X pins σ H s->t σ H Q ->
  wpAny JE X.A (forIn ifs true λ c r=>if r=true then do let ok ←isTrue c X.env (eval c X.env);pure (ForInStep.yield ok)else pure (ForInStep.yield r)) (TP X pins σ Q) X.xe s
noncomputable def tYes:TT:=λ _ H Q=>Q true H
theorem yZ:PTs X [] tYes:=λ _ _ _ H _ I h=>wpAny_tests_nil ⟨H,I,h⟩
theorem za(h:PT X c t):PTs X [c] t:=λ a s b H Q I d=>wpAny_tests_one (h a s b H Q I d)
def jh(J:It)(g:TG)(tc:TT)(te:TE)(Fin:ge V->Hp->Prop)(σ:St)(H:Hp):Prop:=
 ∃W:Nat->Nat->ge V->St->Hp->Prop,(∃m,W 0 m [] σ H)/\∀i m ys σ H,W i m ys σ H ->
  (J.stop i H/\Fin ys H)\/(J.go i H/\ys.length<sizeLine/\∀x H',J.yld i H x H'->g x σ H' λ σ2 H2=>tc σ2 H2 λ b H3=>
   if b=true then te σ2 H3 λ y H4=>∃m',m'<m/\W (i+1) m' (ys++[y]) σ2 H4 else ∃m',m'<m/\W (i+1) m' ys σ2 H3)
theorem Vals.snoc(r:Vals xs a)(q:RelV x u):Vals (xs++[x]) (a++[u]):=r.append (.cons q .nil)
theorem pf{K:ge (Ji×Obj)}
   {RR:Jg->Ji->Result->Jh->Prop}
  (S:CompScope X.N L scope X.env.scope fr) (hc:X.calm=true)
  (hg:∀C j a B fp,PG (p8 X scope L C j a B fp) tg g) (ht:∀C j a B fp,PTs (p8 X scope L C j a B fp) a3 tc) (he:∀C j a B fp,PE (p8 X scope L C j a B fp) elt te)
  (I:Inv X K σ H a) (T:Turn X.prog X.w X.K tg J fp it tn) (st:tn 0 a.heap) (f:∀b∈fp,FpOk X K H b) (h:jh J g tc te c0 (inner fr σ) H)
  (c4:∀D C A P m O,Inv X K σ (upd A D (.lst O)) P->A D=none->P.heap.Ns C m->upd A D (.lst O) C=none->C≠X.env.locals->X.s₀.heap.objs.size<=C->(∀x c,X.env.cells.lookup x=some c->c≠C)->(∀p∈X.pn++K,p.1≠C)->c0 O A->RR (.ref D) C (.ok .next) P) :
  wpAny JE X.A (newList []) (λ b8 a8=>wpAny JE X.A (newFunctionEnv scope X.env.globals (n9 X.env.cells scope.names []) [] X.env.qual none .none (some X.env)) (λ a1 a7=>
   codeAny JE X.A (.compStart (.ListComp elt [⟨tg,a0,a3,0⟩] scope pos) 0 (.ref it) b8 {a1 with scope:=relabel scope X.env}) (RR b8 a1.locals) a7) E a8) E a:=by
 have ho:∀b∈fp,b<a.heap.objs.size:=λ b s=>by obtain⟨o,e,_⟩:=T.obj _ _ st b s;exact j7 e
 refine B7 (yW ?_);have b0:(a.heap.push M8).objs.size=a.heap.objs.size+1:=G6 ..;obtain⟨I4,b6,Z⟩:=yY (C:=a.heap.objs.size+1) S I f ho rfl rfl;show codeAny _ _ _ (RR (.ref a.heap.objs.size) (a.heap.push M8).objs.size) {a with heap:=pushCells ((a.heap.push M8).push bI) scope.names};rw[b0];generalize b4:a.heap.objs.size=D at *;generalize cellsFrom (D+1+1) scope.names (n9 X.env.cells scope.names [])=j at *;generalize pushCells ((a.heap.push M8).push bI) scope.names=h4 at *;have a4:∀{w:ge (Ji×Obj)} {A:Hp},(∀b∈fp,A b=none)->(∀p∈w,p.1=D)->∀b∈fp,FpOk (p8 X scope L (D+1) j a H fp) w A b:=λ {w A} hn N b s=>
  ⟨hn b s,(I4.ok.exf b s).1,I4.ok.exfs b s,.inl s,(I4.ok.exf b s).2,λ p R z=>by
   have R:p∈([]:ge (Ji×Obj))++w:=R;rw[bq]at R;have:=ho b s;rw[←z,N p R]at this;exact P9 _ this⟩
 obtain⟨W,⟨m0,w0⟩,a6⟩:=h;have b5:D≠(p8 X scope L (D+1) j a H fp).env.locals:=by show D≠D+1;omega
 have U:∀x c,(p8 X scope L (D+1) j a H fp).env.cells.lookup x=some c->c≠D:=λ x c e z=>by
  obtain⟨v,o,c1,hd⟩:=I4.cell x c e;have q:h4.get? D=some o:=by rw[←z];exact c1
  rw[b6]at q;cases q;cases hd
 have b3:D∉(p8 X scope L (D+1) j a H fp).fs:=λ z=>by
  obtain⟨_,o,c2,_⟩:=I4.ok.funs.mem z
  have:=j7 c2;have e:a.heap.objs.size=D:=b4;exact absurd this (by show ¬D<a.heap.objs.size;omega)
 have Y:codeAny JE X.A (.compLoop (.ListComp elt [⟨tg,a0,a3,0⟩] scope pos) 0 (.ref it) (.ref D) (compEnvC scope j (D+1) X.env)) (RR (.ref D) (D+1)) {a with heap:=h4}:=by
  refine yX (λ n P=>∃i O l k a5 A,Inv (p8 X scope L (D+1) j a H fp) [] a5 A P/\tn i P.heap/\(∀b∈fp,A b=none)/\A D=none /\
   P.heap.get? D=some {cls:=.type "list",data:=.seq (l:ge Jg).toArray k} /\ Vals O l/\O.length<=sizeLine/\W i n O a5 A) ?_ m0
   ⟨0,[],[],_,_,H,I4,T.keep _ _ _ st λ b _ o e=>Z b o e,λ b s=>(f b s).1,I.hok.fresh Jy,b6,.nil,v9 _,w0⟩
  rintro n s3 ⟨i,O,l,k,σ3,H3,I3,st3,fr3,hD3,oD3,rv,hl,w3⟩
  have b9:Inv (p8 X scope L (D+1) j a H fp) [(D,{cls:=.type "list",data:=.seq l.toArray k})] σ3 H3 s3:=I3.pins_of λ p N=>by
   have e:p=(D,{cls:=.type "list",data:=.seq l.toArray k}):=by simpa using N
   subst e;exact⟨oD3,hD3,b5,b3,λ v z=>by cases z⟩
  have Q:∀p∈[((D:Ji),({cls:=.type "list",data:=.seq l.toArray k}:Obj))],p.1=D:=λ p N=>by
   have e:p=(D,{cls:=.type "list",data:=.seq l.toArray k}):=by simpa using N
   subst e;rfl
  rcases a6 i n O σ3 H3 w3 with⟨a9,c8⟩ | ⟨go,hlt,step⟩
  ·refine thn (T.done (p8 X scope L (D+1) j a H fp) rfl rfl rfl hc i _ s3 σ3 H3 _ b9 (a4 fr3 Q) st3 a9) λ r s4 t0=>?_;obtain⟨hr,F⟩:=t0;subst hr;have oD:=(F.pin (D,_) (v4 _ i5)).1;have un:Un (frs X.stack) fp H H3 a.heap s4.heap:=F.base;have hn:a.heap.get? D=none:=Z4 (by rw[b4];exact f8 _);obtain⟨mC,c3,_⟩:=F.loc;refine c4 D (D+1) H3 s4 mC O (I.call' F.os (un.track hD3 hn) (F.hok.track hD3 ⟨hl,l,k,rv,oD⟩) F.bare λ b s=>?_) hD3 c3 ?_ ?_ ?_ (λ x c e=>?_) (λ p N=>?_) c8
   ·obtain⟨_,f1,f2,f3,f4,f5⟩:=f b s;exact⟨f3,f1,f4,f5⟩
   ·rw[j3 (show @Ne Nat (D+1) D by omega)];exact F.free
   ·have q:@LT.lt Nat _ X.env.locals a.heap.objs.size:=I.lt;show @Ne Nat (D+1) X.env.locals;omega
   ·have q:@LE.le Nat _ X.s₀.heap.objs.size a.heap.objs.size:=I.sz;show @LE.le Nat _ X.s₀.heap.objs.size (D+1);omega
   ·obtain⟨v,z⟩:=I.cell x c e;have q:@LT.lt Nat _ c a.heap.objs.size:=z.lt;show @Ne Nat c (D+1);omega
   ·have q:@LT.lt Nat _ p.1 a.heap.objs.size:=j7 (I.pin p N).1;show @Ne Nat p.1 (D+1);omega
  ·refine thn (T.item (p8 X scope L (D+1) j a H fp) rfl rfl rfl hc i _ s3 σ3 H3 _ b9 (a4 fr3 Q) st3 go) λ r s4 t0=>?_;obtain⟨u,hr,c6⟩:=t0;subst hr;refine thn c6 λ _ s5 t0=>?_;obtain⟨x,H5,I5,r5,y5,a2,c7⟩:=t0;have c9:=I5.pinned (a4 c7 Q) (T.obj _ _ a2);refine B1 (hg (D+1) j a H fp _ s5 σ3 H5 x u _ c9 r5 (step x H5 y5)) (λ _ s6 ⟨M,H6,I6,q6⟩=>?_) λ _ _ z=>z.elim;refine B1 (ht (D+1) j a H fp _ s6 M H6 _ I6 q6) (λ b s7 ⟨H7,I7,q7⟩=>?_) λ _ _ z=>z.elim;have b7:∀{A:Hp} {P:Jh},Inv (p8 X scope L (D+1) j a H fp) ([(D,{cls:=.type "list",data:=.seq l.toArray k})]++eQ fp s5.heap) M A P->tn (i+1) P.heap/\(∀b∈fp,A b=none)/\P.heap.get? D=some {cls:=.type "list",data:=.seq l.toArray k} /\ A D=none:=λ {A P} J'=>by
    refine⟨T.keep _ _ _ a2 λ b s o e=>(J'.pin (b,o) (v4 _ (v4 _ (aw s e)))).1,λ b s=>?_,?_,?_⟩
    ·obtain⟨o,e,d⟩:=T.obj _ _ a2 b s;exact(J'.pin (b,o) (v4 _ (v4 _ (aw s e)))).2.1
    ·exact(J'.pin (D,_) (v4 _ (B6 _ i5))).1
    ·exact(J'.pin (D,_) (v4 _ (B6 _ i5))).2.1
   cases b with
   | false=>
    rw[e8 x0]at q7 ⊢;obtain⟨m',hm,w7⟩:=q7;obtain⟨k1,k2,k3,k4⟩:=b7 I7;exact⟨m',hm,i+1,O,l,k,M,H7,I7.pins_of (λ p N=>(nomatch N)),k1,k2,k4,k3,rv,hl,w7⟩
   | true=>
    rw[d8 rfl]at q7 ⊢;refine B1 (he (D+1) j a H fp _ s7 M H7 _ I7 q7) (λ y s8 ⟨v8,H8,I8,r8,q8⟩=>?_) λ _ _ z=>z.elim
    obtain⟨m',hm,w8⟩:=q8;obtain⟨k1,k2,k3,k4⟩:=b7 I8;have b2:l.length<=sizeLine:=by rw[←rv.length];exact hl
    refine append_at k3 (λ h9 b1 c5=>?_) (by rw[r3];exact b2);have I9:Inv (p8 X scope L (D+1) j a H fp) [] M H8 s8:=I8.pins_of λ p N=>(nomatch N);refine⟨m',hm,i+1,O++[v8],l++[y],k+1,M,H8,I9.turned (it:=D) (t':=s8.toks) (λ b o s e=>(b1.2 b s).trans e) k4 b5 (.inr (by show a.heap.objs.size<=D;omega)) U (λ p N=>(nomatch N)),?_,k2,k4,?_,rv.snoc r8,?_,w8⟩
    ·exact T.keep _ _ _ k1 λ b s o e=>(b1.2 b (by have q:@LT.lt Nat _ b D:=ho b s;show @Ne Nat b D;omega)).trans e
    ·rw[c5,List.push_toArray]
    ·rw[o5,N8];omega
 exact codeAny_compStart_list Y (T.self X.A 0 _ _ _ (T.keep _ _ _ st λ b _ o e=>Z b o e) Y)
def ji(fr:ge (on Nat))(wi:TI)(g:TG)(tc:TT)(te:TE):TE:=λ σ H Q=>wi σ H λ J H1=>jh J g tc te (λ ys H'=>∀p,H' p=none->Q (.ref p) (upd H' p (.lst ys))) (inner fr σ) H1
theorem zb{K:TT}(S:CompScope X.N k scope X.env.scope fr)(hc:X.calm=true)(Y:PI X tg f E)
  (Z:∀C a c d fp,PG (p8 X scope k C a c d fp) tg g) (P:∀C a c d fp,PTs (p8 X scope k C a c d fp) j K) (he:∀C a c d fp,PE (p8 X scope k C a c d fp) elt F)
  (R:∀x,foldedSetIterable f X.env x=pure x:=by intro _;rfl):PE X (.ListComp elt [⟨tg,f,j,0⟩] scope pos) (ji fr E g K F):=by
 intro i s L H Q I h;rw[eval_ListComp];refine nj rfl R (jc (λ y N W=>I.ok.has y.1 (S.out y N W))) S.kind (λ x O U=>W6 S.snd (by rw[←U];exact O)) (thn (Y i s L H _ I h) λ v s1 h1=>thn h1 λ M s2 h2=>?_);obtain⟨it,fp,tn,J,H2,e,I2,T,l,f2,w⟩:=h2;subst e;refine pf S hc Z P he I2 T l f2 w ?_;intro D C H' s' m ys I' hD p u A q z r B;exact⟨m,p,λ h' n=>⟨.ref D,_,I'.turned (λ b o hb e=>(n.2 b hb).trans e) u A (.inr q) z r,rfl,B D hD⟩⟩
theorem zc(S:CompScope X.N u scope X.env.scope fr)(hc:X.calm=true)(hN:X.N.Nodup)(L:X.N[i]? = some y)
  (r:X.env.scope.names.lookup y=some .local) (hi:PI X tg j R)
  (hg:∀C c d f fp,PG (p8 X scope u C c d f fp) tg g) (ht:∀C c d f fp,PTs (p8 X scope u C c d f fp) l W) (he:∀C c d f fp,PE (p8 X scope u C c d f fp) elt U)
  (B:swapsWith (.ListComp elt [⟨tg,j,l,0⟩] scope pos) (some (.Name y Y)) k.line X.env=pure true:=by rfl)
  (hs:∀x,foldedSetIterable j X.env x=pure x:=by intro _;rfl):PS X (.Assign [.Name y Y] (.ListComp elt [⟨tg,j,l,0⟩] scope pos) k) (tAsg (ji fr R g W U) (bD i)):=by
 intro n s Z H Dn I h;rw[exec_Assign_Name_used _ _ _ _ B];refine d4 (bv (d4 ?_));show wpAny _ _ _ _ _ s;refine d4 (B1 (nj rfl hs (jc (λ y r hk=>I.ok.has y.1 (S.out y r hk))) S.kind (λ x hx hl=>W6 S.snd (by rw[←hl];exact hx))
  (thn (hi n s Z H _ I h) λ v s1 h1=>thn h1 λ itv s2 h2=>?_)) (λ _ s' hq=>d9 (d9 hq)) λ _ _ e=>e)
 obtain⟨it,fp,tn,J,H2,e,I2,T,A,f2,w⟩:=h2;subst e;refine pf S hc hg ht he I2 T A f2 w ?_;intro D C H' s' m ys I' hD K O q M p N P;refine wpAny_assign_Name (nT (v:=.ref D) I' hN L (Or.inl r) rfl (λ s'' Q ⟨a,E,ha⟩=>⟨m,K.sameBut E ?_,λ h' F=>⟨_,_,Q.turned (λ b o hb e=>(F.2 b hb).trans e) O q (.inr M) p N,P D hD⟩⟩) (.inr r));rcases ha with z | z
 ·rw[z];exact q
 ·exact Ne.symm (p y a z)
abbrev cxD(P:Jo)(w:Jn)(K:Js)(mg:Str->on Jg)(base:Jj)(N:ge Str)(qual:Str)(scope:Ju)(f:Ji)(cd:Jg)(A:Jp)(outer:ge Env)(s:Jh)(H:Hp):Cx:=cxOf CX0 P w K mg base N qual scope f cd A outer s H E0
theorem Inv.track(I:JM pins)(f:H a=none)(k:X.s₀.heap.get? a=none)(j:a≠X.env.locals)(i:∀x c,X.env.cells.lookup x=some c->c≠a)(h:∀p∈X.pn++pins,p.1≠a)(new:p4 X.prog X.w (upd H a o) s.heap a o) :
  Inv X pins σ (upd H a o) s:=
 ⟨I.ok,I.os,I.bare,I.base.track f k,I.loc,I.cell,by rw[j3 j.symm];exact I.free,λ x c e=>by rw[j3 (i x c e)];exact I.freeC x c e,λ p b=>by
  obtain⟨e,n,ne,g,d⟩:=I.pin p b;exact⟨e,by rwa [j3 (h p b)],ne,g,d⟩,I.hok.track f new,I.len⟩
open PySem.W PySem.Calls PySem.Builtin PySem.Builtin.ObjectAttr PySem.Builtin.Getset_descriptor
section
variable {prog:Jo} {w:Jn} {K:Frag} {x D:Ji} {M:Model} {h:Jj}
structure ClsK(K:Frag)(D:Addr):Prop where
 ga:findIn K (.ref D) "__getattribute__" = some (some (.builtin "BaseException.__getattribute__"))
 gt:findIn K (.ref D) "__getattr__" = some none
 mb:mroIn K D (.type "BaseException")=some true
 hd:hasDictIn K D=true
 fc:findIn K (.ref D) "__class__" = some (some (.builtin "object.__class__"))
 sg:specialIn K (.builtin "object.__class__") "__get__" = some (some (.builtin "getset_descriptor.__get__"))
 tk:takesIn K (.builtin "object.__class__")=some true
 mo:mroIn K D (.type "object")=some true
end
structure Src(P:Program)(w:World)(ia la:Addr)(vs:Array Value)(S:Nat->Heap->Prop):Prop where
 keep:∀k h h',S k h->(∀o,h.get? ia=some o->h'.get? ia=some o)->(∀o,h.get? la=some o->h'.get? la=some o)->S k h'
 there:∀k h,S k h->∃o xs,h.get? ia=some o/\o.data=.fields xs
 step:∀{A:Around} {E:Value->Shared->Prop} {s:Shared} {Q:Value->Shared->Prop} (k:Nat) (x:Value),S k s.heap->vs[k]? = some x->(∀h',S (k+1) h'->Heap.SameBut ia s.heap h'->Q x {s with heap:=h'}) ->
  wpAny (model P w) A (Builtin.SmallTypes.nextOf (.ref ia)) Q E s
 stop:∀{A:Around} {E:Value->Shared->Prop} {s:Shared} {Q:Value->Shared->Prop} (k:Nat),A.handled=none->S k s.heap->vs[k]? = none ->
  (∀h' e,Heap.ExtBut ia s.heap h'->(∃o,h'.get? e=some o/\o.cls=.type "StopIteration")->E (.ref e) {s with heap:=h'})->wpAny (model P w) A (Builtin.SmallTypes.nextOf (.ref ia)) Q E s
noncomputable def sL(ia la:Ji)(vs:Jl Jg):Nat->Jj->Prop:=λ k h=>h.IsListIter ia la k/\h.IsList la vs
noncomputable def sT(ia la:Ji)(vs:Jl Jg):Nat->Jj->Prop:=λ k h=>h.IsTupleIter ia la k/\h.IsTuple la vs
theorem zd(ne:a≠b):Src P w b a vs (sL b a vs) where
 keep:=λ k h i ⟨p,q⟩ n m=>⟨p.at n,q.at m⟩
 there:=λ k h ⟨p,q⟩=>by obtain⟨o,e,_,d⟩:=p;exact⟨o,_,e,d⟩
 step:=λ k x ⟨p,q⟩ c f=>wpAny_nextOf_list_item p q c λ i j g=>f i ⟨j,q.extBut g.extBut ne⟩ g
 stop:=λ k l ⟨p,q⟩ c f=>wpAny_nextOf_list_end l p q c f
theorem ze(p:s.heap.IsTupleIter b a k)(q:s.heap.IsTuple a vs)(f:vs[k]? = some x)(g:∀e,e.IsTupleIter b a (k+1)->Heap.SameBut b s.heap e->Q x {s with heap:=e}) :
  wpAny (model P w) A (Builtin.SmallTypes.nextOf (.ref b)) Q E s:=by
 obtain⟨ob,d,j,c⟩:=id p;obtain⟨ot,i,_,nn,h⟩:=q;unfold Builtin.SmallTypes.nextOf;refine d4 (M3 p.typeIs de (D5 de p.typeIs mW ?_ (mU _)));show wpAny _ _ (field (.ref b) 0 >>= _) _ _ s;refine d4 (D8 d c (x:=.ref a) rfl ?_);show wpAny _ _ _ _ _ s;rw[e8 (show ¬((Value.ref a==Value.none)=true)from x0)];show wpAny _ _ (field (.ref b) 1 >>= _) _ _ s;refine d4 (D8 d c (x:=.int k 0) rfl ?_);show wpAny _ _ (seqItems? (.ref a) >>= _) _ _ s;refine d4 (eA i h ?_);simp only[v5,f];refine d4 (T2 d c JN (d9 ⟨x,rfl,d9 (g _ ?_ (G4 ..))⟩));exact⟨_,V5 _ d (gX (Z5 c _)),(ie ..).trans j,by rw[Z5 c];simp[rawInt]⟩
theorem zf(g:A.handled=none)(p:s.heap.IsTupleIter b a k)(q:s.heap.IsTuple a vs)(h:vs[k]? = none)(i:∀c e,Heap.ExtBut b s.heap c->(∃o,c.get? e=some o/\o.cls=.type "StopIteration")->E (.ref e) {s with heap:=c}) :
  wpAny (model P w) A (Builtin.SmallTypes.nextOf (.ref b)) Q E s:=by
 obtain⟨ob,f,e2,d⟩:=id p;obtain⟨ot,l,_,nn,j⟩:=q;unfold Builtin.SmallTypes.nextOf;refine d4 (M3 p.typeIs de (D5 de p.typeIs mW ?_ (mU _)));show wpAny _ _ (field _ 0 >>= _) _ _ s;refine d4 (D8 f d (x:=.ref a) rfl ?_);show wpAny _ _ _ _ _ s;rw[e8 (show ¬((Value.ref a==Value.none)=true)from x0)];show wpAny _ _ _ _ _ s;refine d4 (D8 f d rfl ?_);show wpAny _ _ _ _ _ s;refine d4 (eA l j ?_);simp only[v5,h];refine d4 (au (d4 (T2 f d JN ?_)));show wpAny _ _ _ _ _ _;refine d4 ?_;simp only[newExc,newTuple];refine d4 (B7 ?_ (by size_fits));refine d4 (ak (by first | rfl | (simp only[firstArgMember];rfl)) ?_);refine B7 ?_ (by size_fits);refine d4 (iG ?_)
 first | rw[show A.in1.handled=none from g] | rw[g]
 refine d4 (d9 (wpAny_throw (i _ _ (((G4 ..).extBut.push _).push _) ⟨_,o4 _ rfl,rfl⟩)))
theorem zg(ne:a≠b):Src P w b a vs (sT b a vs) where
 keep:=λ k h i ⟨p,q⟩ n m=>⟨by obtain⟨o,e,r⟩:=p;exact⟨o,n o e,r⟩,by obtain⟨o,e,r⟩:=q;exact⟨o,m o e,r⟩⟩
 there:=λ k h ⟨p,q⟩=>by obtain⟨o,e,_,d⟩:=p;exact⟨o,_,e,d⟩
 step:=λ k x ⟨p,q⟩ c f=>ze p q c λ i j g=>f i ⟨j,q.extBut g.extBut ne⟩ g
 stop:=λ k l ⟨p,q⟩ c f=>zf l p q c f
theorem Src.ext(R:Src P w c b vs S)(q:S k h)(hs:Heap.ExtBut e h a)(f:c≠e)(d:b≠e):S k a:=R.keep k h a q (λ o z=>hs _ _ f z) (λ o z=>hs _ _ d z)
def SqK(t:Bool)(h:Jj)(l:Ji)(vs:Jl Jg):Prop:=match t with | false=>h.IsList l vs | true=>h.IsTuple l vs
def sK(t:Bool)(ia la:Ji)(vs:Jl Jg):Nat->Jj->Prop:=match t with | false=>sL ia la vs | true=>sT ia la vs
theorem ph(t:Bool)(ne:a≠b):Src P w b a vs (sK t b a vs):=by
 cases t
 ·exact zd ne
 ·exact zg ne
noncomputable def itN:Bool->Jx | false=>"list_iterator" | true=>"tuple_iterator"
abbrev itO(t:Bool)(l:Ji):Obj:={cls:=.type (itN t),data:=.fields #[.ref l,.int 0 0]}
abbrev zH1(h:Jj)(t1:Bool)(l1:Ji):Jj:=h.push (itO t1 l1)
theorem zh(e:b.get? d=some (itO t a))(q:SqK t h a vs)(k:∀c o,h.get? c=some o->b.get? c=some o):sK t d a vs 0 b:=by
 cases t
 ·exact⟨⟨_,e,rfl,rfl⟩,Heap.IsList.at q λ o z=>k _ o z⟩
 ·exact⟨⟨_,e,rfl,rfl⟩,by obtain⟨o,z,r⟩:=q;exact⟨o,k _ o z,r⟩⟩
end L2
end
noncomputable section
namespace PySem.SeqAt
open AutoSeq1 (wpAny_loadPart')
open MeetsSeq MeetsSeq2 MeetsSeq3 SeqRoads2
theorem zi(f:Nat->β->Sem (ForInStep β))(I:ge Nat->β->Jh->Prop)(Q:β->Jh->Prop)
   (turn:∀x rest b s,I (x::rest) b s->wpAny M A (f x b) (λ r c=>match r with | .yield b'=>I rest b' c | .done b'=>Q b' c) E s)
  (fin:∀b s,I [] b s->Q b s) (h:I (List.range' 0 n 1) b s):wpAny M A (forIn [:n] b f) Q E s:=by
 rw[Std.Legacy.Range.forIn_eq_forIn_range'];have a:([:n]:Std.Legacy.Range).size=n:=by simp[Std.Legacy.Range.size]
 show wpAny M A _ Q E s;rw[a];exact wpAny_forIn_list f I Q turn fin _ b h
theorem zj(l:Ji)(items:Jl Jg)(n:Nat)(dd:on Ji)(v:Jl (on Jg))(x:Jg)(e:Jg->Bool)(j:Nat)(hj:j<items.size)
  (p:e items[j]=true) (o:∀m (f:m<items.size),m<j->e items[m]=false) :
  Meets (Builtin.«tuple.index» ⟨[.ref l,x],[]⟩)
   (λ A R s=>s.heap.get? l=some {cls:=.type "tuple",dict:=dd,data:=.seq items n,slots:=v} /\ (∀y,y∈items->EqAt A.in1 s y x (e y))/\R (.ok (.ret (.int j s.toks))) {s with toks:=s.toks+1}):=
 .of_wp λ c w A R s h=>by
  obtain⟨B,g,d,u,z⟩:=s;obtain⟨C,E,h⟩:=h
  wp_walk using be C,zi _ (λ rest b k=>b.1=none/\k=⟨B,g,d,u,z⟩/\∃i,i<=j/\rest=List.range' i (items.size - i) 1) _
  case turn=>
   rintro i rest b k ⟨hb,rfl,r,hi',hr⟩
   obtain⟨m,f⟩:∃m,items.size - r=m+1:=⟨items.size - r - 1,by omega⟩;rw[f,List.range'_succ]at hr;obtain⟨rfl,rfl⟩:=eD hr;have a:i<items.size:=by omega
   rw[show items[i]? = some items[i] by simp[a]];refine d4 (E _ (Array.getElem_mem a) c w _ _ ?_);by_cases q:i=j
   ·subst q;rw[p]
    wp_walk
    exact⟨_,rfl,h⟩
   ·rw[o i a Jy]
    wp_walk
    exact⟨rfl,rfl,i+1,by omega,by congr 1;omega⟩
  case fin=>
   rintro⟨b1,b2⟩ k ⟨hb,rfl,i,hi,hr⟩
   obtain⟨m,f⟩:∃m,items.size - i=m+1:=⟨items.size - i - 1,by omega⟩;rw[f,List.range'_succ]at hr;cases hr
  case h=>
   exact⟨rfl,rfl,0,v9 _,by simp⟩
theorem pi:∀(a:ge PyData) (b:ge Jg) (c:ge Ji),PyData.canLayAll0 a=true->ReadsAll h b a c->b.length=a.length/\∀m (i:m<b.length) (g:m<a.length),PyData.eqv (readOf h b[m]) d=PyData.eqv a[m] d:=by
 intro a b c f r;have e:=readsAll_map a b c f r;refine⟨(by rw[←e,d7]),λ m i g=>?_⟩
 congr 1
 subst e;rw[List.getElem_map]
theorem index_list_reads(B:Reads s.heap c (.list xs) O)(z:Reads s.heap x d bs)(a:PyData.canLayAll0 xs=true)(K:d.canLay0=true)
  (C:A.units+1+min (PyData.depthAll xs) d.depth<cLine) (J:j<xs.length) (b:(j:Int)<2^63 - 1) (i:PyData.eqv xs[j] d=true) (f:∀m (F:m<xs.length),m<j->PyData.eqv xs[m] d=false) (h:Q (.int j s.toks) {s with toks:=s.toks+1}):wpAny JG A (call (.builtin "list.index") [c,x]) Q E s:=by
 cases B with
 | list u r q p=>
  rename_i l o e n N;obtain⟨M,L,v,y⟩:=o;simp at r q;subst r q;obtain⟨I,k⟩:=pi xs e.toList _ a p;have H:e.size=xs.length:=by rw[←I];simp
  refine PySem.call_meets nv ⟨_,u,rfl⟩ PySem.F.entry_list_index (PySem.F.args_list_index_2 _ _)
   (list_indexAt l e _ L y x _ j Jy b ?_ ?_) ⟨u,items_eqAt p z a K C,h⟩
  ·rw[←i];exact k j Jy J
  ·intro m F g;rw[←f m Jy g];exact k m Jy Jy
theorem index_tuple_reads(B:Reads s.heap c (.tuple xs) M)(z:Reads s.heap x d bs)(a:PyData.canLayAll0 xs=true)(J:d.canLay0=true)
  (C:A.units+1+min (PyData.depthAll xs) d.depth<cLine) (I:j<xs.length) (g:PyData.eqv xs[j] d=true) (e:∀m (i:m<xs.length),m<j->PyData.eqv xs[m] d=false) (h:Q (.int j s.toks) {s with toks:=s.toks+1}):wpAny JG A (call (.builtin "tuple.index") [c,x]) Q E s:=by
 cases B with
 | tuple u r q p=>
  rename_i l o b n;obtain⟨L,K,v,y⟩:=o;simp only at r q;subst r q;obtain⟨H,k⟩:=pi xs b.toList _ a p;have F:b.size=xs.length:=by rw[←H];simp
  refine PySem.call_meets nr ⟨_,u,rfl⟩ PySem.F.entry_tuple_index (PySem.F.args_tuple_index_2 _ _)
   (zj l b _ K y x _ j Jy ?_ ?_) ⟨u,items_eqAt p z a J C,h⟩
  ·rw[←g];exact k j (by simpa using(by omega:j<b.size)) I
  ·intro m i f;rw[←e m Jy f];exact k m (by simpa using i) Jy
end PySem.SeqAt
end
noncomputable section
namespace L2
open PySem
set_option genInjectivity true in
inductive DKey where
 | i (n:Int) | s (x:Str) | t (l:List (Sum Int Str))
 deriving DecidableEq
inductive Bi where
 | len | min | max | sum | sset | int | tuple | list | all
 deriving DecidableEq
inductive Mt where
 | bitLength | index | get
 deriving DecidableEq
inductive Tg where
 | one (i:Nat) | many (is:List Nat)
inductive ME where
  | var (i:Nat) | int (i:Int) | bl (b:Bool) | str (x:Str) | non | glb (x:Str)
  | bin (op:Operator) (a b:ME) | neg (a:ME)  | not (a:ME)
  | cmp (op:CmpOp) (a b:ME) | chain (op op':CmpOp) (a b c:ME)
  | and (es:List ME) | or (es:List ME)
  | lst (es:List ME) | tup (es:List ME)
  | ix (a b:ME) | sl (a lo hi:ME) | slf (a lo:ME) | slt (a hi:ME)
   | call (f:Nat) (es:List ME)    | bi (f:Bi) (es:List ME) | isi (a:ME) (ts:List Str) | meth (m:Mt) (a:ME) (es:List ME)
  | comp (elt:ME) (tg:Tg) (it:ME) (fr:List (Option Nat)) | compi (elt:ME) (tg:Tg) (it c:ME) (fr:List (Option Nat))
   | dix (a k:ME)
  | dgp (i:Nat) (k:ME)   | callv (i:Nat) (xs:List (Str×Nat)) (es:List ME)
  | srtk (a:ME) (N:List Str) (np:Nat) (lb:ME) (fr:List Nat) | ite (c a b:ME)
  | dgl (i:Nat) (k:ME) | nin (i:Nat) (k:ME) | kyi (a:ME)
  | idx (a b:ME)
  | rng (es:List ME) | enu (a:ME)  | itm (a:ME)
structure LamD where
 N:List Str
 np:Nat
 body:ME
 fn:List Str
 bl:List Str
 cl:List Str
set_option genInjectivity true in
inductive DV where
 | non | bl (b:Bool) | int (i:Int) | str (x:Str) | tup (ds:List DV) | lst (ds:List DV) | dct (ks:List DKey) (vs:List DV)
 | fn (x:Str)
 | lam (m:LamD) (ds:List DV)
 | scr (ns:List Int)
inductive Cl where
 | weak | top | strong | fresh
 deriving DecidableEq
set_option genInjectivity true in
inductive Re where
 | ok (d:DV) (c:Cl)
inductive Rs where
 | ok (l:List (DV×Cl))
inductive Rt where
 | ok (b:Bool)
inductive Sv where
 | no | val (d:DV) | own (d:DV)
 | od (d:DV)
inductive Ou where
 | v (d:DV) (fr:Bool)
inductive Out where
 | nx (δ:List Sv) | rt (d:DV) (fr:Bool)
inductive MS where
 | set (i:Nat) (own:Bool) (e:ME) | sett (is:List Nat) (e:ME) | aug (i:Nat) (e:ME)
 | app (i:Nat) (e:ME) | ext (i:Nat) (e:ME) | seti (i:Nat) (k e:ME)
 | exp (e:ME) | ret (e:ME)  | iff (c:ME) (a b:List MS) | fo (tg:Tg) (it:ME) (body:List MS) | wh (c:ME) (body:List MS)
  | retd (i:Nat)
 | sep (i:Nat) | dpp (i:Nat) (ks:List ME) (e:ME)
 | sel (i:Nat) | dpl (i:Nat) (k e:ME) | frd (i:Nat)
 | unk
structure FD where
 n:Nat
 np:Nat
 body:List MS
noncomputable def Re.thn(r:on Re)(k:DV->Cl->on Re):on Re:=match r with
 | none=>none
 | some (.ok d c)=>k d c
def Rs.thn(r:on Rs)(k:ge (DV×Cl)->on Re):on Re:=match r with
 | none=>none
 | some (.ok l)=>k l
def Rt.thn(r:on Rt)(k:Bool->on Re):on Re:=match r with
 | none=>none
 | some (.ok b)=>k b
noncomputable def Re.thnT(r:on Re)(k:DV->Cl->on Rt):on Rt:=match r with
 | none=>none
 | some (.ok d c)=>k d c
mutual
noncomputable def DV.immut:DV->Bool
 | .non=>true | .bl _=>true | .int _=>true | .str _=>true | .fn _=>true | .scr _=>true
 | .tup ds=>DV.immuts ds
 | .lst _=>false
 | .lam _ _=>false
 | .dct _ vs=>DV.immuts vs
noncomputable def DV.immuts:ge DV->Bool
 | []=>true
 | d::r=>d.immut&&DV.immuts r
end
mutual
noncomputable def DV.nolam:DV->Bool
 | .lam _ _=>false
 | .tup ds=>DV.nolams ds
 | .lst ds=>DV.nolams ds
 | .dct _ vs=>DV.nolams vs
 | _=>true
noncomputable def DV.nolams:ge DV->Bool
 | []=>true
 | d::r=>d.nolam&&DV.nolams r
end
def stro(d:DV):Cl->Bool
 | .strong=>true | .fresh=>true | _=>d.immut
def stros(l:ge (DV×Cl)):Bool:=l.all λ p=>stro p.1 p.2
noncomputable def Cl.item:Cl->Cl
 | .weak=>.weak | _=>.strong
noncomputable def Cl.anew:Cl->Cl->Cl
 | .weak,_=>.weak | _,.weak=>.weak | _,_=>.fresh
noncomputable def Cl.notF:Cl->Cl
 | .fresh=>.strong | c=>c
def j5:Nat:=1000000
mutual
noncomputable def deq:DV->DV->Bool
 | .non,.non=>true
 | .bl a,.bl b=>a==b
 | .bl a,.int j=>(if a then 1 else 0)==j
 | .int i,.bl b=>i==(if b then 1 else 0)
 | .int i,.int j=>i==j
 | .str a,.str b=>decide (a=b)
 | .tup a,.tup b=>deqs a b
 | .lst a,.lst b=>deqs a b
 | _,_=>false
noncomputable def deqs:ge DV->ge DV->Bool
 | [],[]=>true
 | a::r,b::s=>deq a b&&deqs r s
 | _,_=>false
end
mutual
noncomputable def DV.plain:Nat->DV->Bool
 | _,.non=>true | _,.bl _=>true | _,.int _=>true
 | _,.str x=>x.cps.all (· < 0x110000)
 | 0,_=>false
 | n+1,.tup ds=>DV.plains n ds | n+1,.lst ds=>DV.plains n ds
 | _,_=>false
noncomputable def DV.plains:Nat->ge DV->Bool
 | _,[]=>true
 | n,d::r=>d.plain n&&DV.plains n r
end
noncomputable def H9:DV->on Bool
 | .non=>some false
 | .bl b=>some b
 | .int i=>some (i != 0)
 | .str x=>some (x.cps.size != 0)
 | .tup ds=>some (!ds.isEmpty)
 | .lst ds=>some (!ds.isEmpty)
 | _=>none
noncomputable def A1(n:Nat)(i:Int):on Nat:=if 0<=i then(if i<n then some i.toNat else none)else if -(n:Int)<=i then some (i+n).toNat else none
def atD(ds:ge DV)(i:Int):on DV:=(A1 ds.length i).bind λ j=>ds[j]?
noncomputable def E1(k:DKey):ge DKey->ge DV->on DV
 | k'::ks,v::vs=>if k'=k then some v else E1 k ks vs
 | _,_=>none
noncomputable def putD(k:DKey)(d:DV)(ks:ge DKey)(vs:ge DV):ge DKey×ge DV:=
 if k∈ks then(ks,(ks.zip vs).map λ p=>if p.1=k then d else p.2)else(ks++[k],vs++[d])
def ixD(a b:DV):on DV:=match a,b with
 | .scr ns,.int i=>((A1 ns.length i).bind λ j=>ns[j]?).map DV.int
 | .lst ds,.int i=>atD ds i
 | .tup ds,.int i=>atD ds i
 | _,_=>none
noncomputable def slIx(n d:Nat):on Int->Nat
 | none=>d
 | some v=>if v<0 then(v+(n:Int)).toNat else min v.toNat n
def cutD(ds:ge DV)(lo hi:on Int):ge DV:=(ds.drop (slIx ds.length 0 lo)).take (slIx ds.length ds.length hi - slIx ds.length 0 lo)
def slD(a:DV)(lo hi:on Int):on DV:=match a with
 | .scr ns=>some (.lst (cutD (ns.map DV.int) lo hi))
 | .lst ds=>some (.lst (cutD ds lo hi))
 | .tup ds=>if slIx ds.length 0 lo=0/\slIx ds.length ds.length hi=ds.length then none else some (.tup (cutD ds lo hi))
 | _=>none
def slCl(a:DV)(c:Cl):Cl:=match a with
 | .scr _=>.fresh
 | .lst _=>Cl.anew c c
 | _=>c.item
noncomputable def Q5(i j:Int):Bool:=(decide (-(2^64)<i)&&decide (i<2^64))||(decide (-(2^64)<j)&&decide (j<2^64))||(decide (i.natAbs<2^2000)&&decide (j.natAbs<2^2000))
noncomputable def asI:DV->on Int
 | .int i=>some i
 | _=>none
noncomputable def asL:DV->on (ge DV)
 | .lst i=>some i
 | _=>none
noncomputable def asTp:DV->on (ge DV)
 | .tup i=>some i
 | _=>none
def binD(op:Operator)(a b:DV)(ca cb:Cl):on Re:=match op with
 | .Add=>match a with
  | .int i=>(asI b).bind λ j=>some (.ok (.int (i+j)) .strong)
  | .lst x=>(asL b).bind λ y=>if x.length+y.length<=j5 then some (.ok (.lst (x++y)) (Cl.anew ca cb))else none
  | .tup x=>(asTp b).bind λ y=>if x.length+y.length<=j5/\x≠[]then some (.ok (.tup (x++y)) (Cl.anew ca cb).notF)else none
  | _=>none
 | .Sub=>(asI a).bind λ i=>(asI b).bind λ j=>some (.ok (.int (i - j)) .strong)
 | .Mult=>match a with
  | .int i=>(asI b).bind λ j=>if Q5 i j then some (.ok (.int (i*j)) .strong)else none
  | .lst x=>(asI b).bind λ k=>if x.length*k.toNat<=j5 /\ -(2^63)<=k/\k<2^63 then some (.ok (.lst (List.replicate k.toNat x).flatten) (Cl.anew ca ca))else none
  | _=>none
 | .Mod=>(asI a).bind λ i=>(asI b).bind λ j=>if 0<j then some (.ok (.int (i%j)) .strong)else if j≠0 then some (.ok (.int (i.fmod j)) .strong)else none
 | .FloorDiv=>(asI a).bind λ i=>(asI b).bind λ j=>if 0<j/\j<2^200 then some (.ok (.int (i/j)) .strong)else none
 | .LShift=>(asI a).bind λ i=>(asI b).bind λ j=>if 0<=j/\j<=1000000/\i.natAbs<2^64 then some (.ok (.int (i*2^j.toNat)) .strong)else none
 | .RShift=>(asI a).bind λ i=>(asI b).bind λ j=>if 0<=j then some (.ok (.int (i/2^j.toNat)) .strong)else none
 | .BitOr=>(asI a).bind λ i=>(asI b).bind λ j=>some (.ok (.int (Builtin.bitOr i j)) .strong)
 | .BitAnd=>(asI a).bind λ i=>(asI b).bind λ j=>some (.ok (.int (Builtin.bitAnd i j)) .strong)
 | _=>none
noncomputable def asB:DV->on Bool
 | .bl i=>some i
 | _=>none
noncomputable def isN:DV->Bool
 | .non=>true
 | _=>false
def cmpD(op:CmpOp)(a b:DV):on Bool:=match op with
 | .Lt=>(asI a).bind λ i=>(asI b).bind λ j=>some (decide (i<j))
 | .LtE=>(asI a).bind λ i=>(asI b).bind λ j=>some (decide (i<=j))
 | .Gt=>(asI a).bind λ i=>(asI b).bind λ j=>some (decide (j<i))
 | .GtE=>(asI a).bind λ i=>(asI b).bind λ j=>some (decide (j<=i))
 | .Is=>match b with
  | .non=>some (isN a)
  | _=>none
 | .IsNot=>match b with
  | .non=>some (!isN a)
  | .bl j=>(asB a).bind λ i=>some (!(i==j))
  | _=>none
 | .Eq=>if a.plain 60&&b.plain 60 then some (deq a b)else none
 | .NotEq=>if a.plain 60&&b.plain 60 then some (!deq a b)else none
 | .In=>match b with
  | .lst ds=>if a.plain 60&&DV.plains 60 ds then some (ds.any λ d=>deq d a)else none
  | _=>none
 | .NotIn=>match b with
  | .lst ds=>if a.plain 60&&DV.plains 60 ds then some (!ds.any λ d=>deq d a)else none
  | .tup ds=>if a.plain 60&&DV.plains 60 ds then some (!ds.any λ d=>deq d a)else none
  | _=>none
noncomputable def ints?:ge DV->on (ge Int)
 | []=>some []
 | .int i::r=>(ints? r).map (i :: ·)
 | _=>none
noncomputable def bools?:ge DV->on (ge Bool)
 | []=>some []
 | .bl i::r=>(bools? r).map (i :: ·)
 | _=>none
noncomputable def minI:Int->ge Int->Int
 | m,[]=>m
 | m,x::r=>minI (if x<m then x else m) r
noncomputable def insI(x:Int):ge Int->ge Int
 | []=>[x]
 | y::r=>if x<y then x::y::r else y::insI x r
def E8:ge Int->ge Int
 | []=>[]
 | x::r=>insI x (E8 r)
noncomputable def dk(σ:ge Int)(k:Int):ge Int:=if k∈σ then σ else σ++[k]
noncomputable def ay(i:Int):Int:=if i=0 then 0 else(i.natAbs.log2:Int)+1
noncomputable def lenD:ge (DV×Cl)->on Re
 | [(.lst ds,_)]=>some (.ok (.int ds.length) .strong)
 | [(.tup ds,_)]=>some (.ok (.int ds.length) .strong)
 | [(.scr ns,_)]=>some (.ok (.int ns.length) .strong)
 | _=>none
def minD:ge (DV×Cl)->on Re
 | [(.int i,_),(.int j,_),(.int k,_)]=>some (.ok (.int (if j<i then(if k<j then k else j)else(if k<i then k else i))) .strong)
 | [(.int i,_),(.int j,_)]=>some (.ok (.int (if j<i then j else i)) .strong)
 | [(.lst ds,c)]=>match ints? ds with
  | some (n::r)=>some (.ok (.int (minI n r)) .strong)
  | _=>none
 | _=>none
noncomputable def kRun{α:Type}(n:Nat)(c:Nat->Nat->Bool):PySem.W.KasT α->on α
 | .ret a=>some a
 | .ask i j k=>if i<n/\j<n then kRun n c (k (c i j))else none
def O4(ks:ge Int):on (ge Nat):=if ks.length<2 then some (JJ ks.length)else(kRun ks.length (λ i j=>decide (ks.getD i 0<ks.getD j 0)) (PySem.W.kas_sort ks.length)).map Array.toList
noncomputable def putIx{α:Type}(x:α)(ix:ge Nat)(l:ge α):ge α:=ix.map λ i=>l.getD i x
noncomputable def maxD:ge (DV×Cl)->on Re
 | [(.int i,_),(.int j,_)]=>some (.ok (.int (if j>i then j else i)) .strong)
 | _=>none
def eU:ge (DV×Cl)->on Re
 | [(.lst ds,_)]=>match ints? ds with
  | some ns=>if ns.length<4000/\(ns.foldl dk []).length<64 then some (.ok (.lst ((E8 (ns.foldl dk [])).map DV.int)) .fresh)else none
  | none=>none
 | _=>none
def sumD:ge (DV×Cl)->on Re
 | [(.lst ds,_)]=>(ints? ds).map λ ns=>.ok (.int ns.sum) .strong
 | _=>none
def allD:ge (DV×Cl)->on Re
 | [(.lst ds,_)]=>(bools? ds).map λ bs=>.ok (.bl (bs.all id)) .strong
 | _=>none
noncomputable def intD:ge (DV×Cl)->on Re
 | [(.int i,_)]=>some (.ok (.int i) .strong)
 | [(.bl b,_)]=>some (.ok (.int (if b then 1 else 0)) .strong)
 | _=>none
def eV:ge (DV×Cl)->on Re
 | [(.scr ns,_)]=>some (.ok (.lst (ns.map DV.int)) .fresh)
 | [(.lst ds,c)]=>some (.ok (.lst ds) (Cl.anew c c))
 | [(.tup ds,c)]=>some (.ok (.lst ds) (Cl.anew c c))
 | _=>none
def jk:ge (DV×Cl)->on Re
 | [(.lst ds,c)]=>some (.ok (.tup ds) c.item)
 | [(.tup ds,c)]=>some (.ok (.tup ds) c)
 | _=>none
def biD(f:Bi)(l:ge (DV×Cl)):on Re:=match f with
 | .len=>lenD l
 | .min=>minD l
 | .max=>maxD l
 | .int=>intD l
 | .tuple=>jk l
 | .list=>eV l
 | .all=>allD l
 | .sset=>eU l
 | .sum=>sumD l
noncomputable def biOk:Bi->Bool
 | .len=>true | .min=>true | .max=>true | .int=>true | .tuple=>true | .list=>true | .all=>true | .sset=>true | .sum=>true
def mtD(m:Mt)(a:DV):on Re:=match m,a with
 | .bitLength,.int i=>some (.ok (.int (ay i)) .strong)
 | _,_=>none
structure Gs where
 con:List (Str×DV)
 fnl:List Str:=[]
 bll:List Str:=[]
 cll:List Str:=[]
noncomputable def tyOf:DV->ge Str
 | .non=>["NoneType"]
 | .bl _=>["bool","int"]
 | .int _=>["int"]
 | .str _=>["str"]
 | .tup _=>["tuple"]
 | .lst _=>["list"]
 | .dct _ _=>["dict"]
 | _=>[]
noncomputable def T8:ge Str:=["int","bool","str","list","tuple","dict"]
def isiD(G:Gs)(d:DV)(ts:ge Str):on Bool:=match d with
 | .scr _=>none
 | .fn _=>none
 | .lam _ _=>none
 | d=>match ts with
  | [t]=>if T8.contains t then some ((tyOf d).contains t)else none
  | _=>none
noncomputable def upTo(lo:Int)(n:Nat):ge DV:=(JJ n).map λ (i:Nat)=>DV.int (lo+i)
noncomputable def E9(i:Int):Bool:=decide (-(2^62)<=i)&&decide (i<2^62)
def L6(y:DV):ge DV->on Nat
 | []=>none
 | d::r=>if deq d y then some 0 else(L6 y r).map (· + 1)
noncomputable def seqB:DV->Bool
 | .lst _=>true | .tup _=>true | _=>false
def idxD(x y:DV):on DV:=match x with
 | .lst ds=>if y.plain 60&&DV.plains 60 ds&&decide (ds.length<=j5)then(L6 y ds).map λ (j:Nat)=>DV.int (j:Int)else none
 | .tup ds=>if y.plain 60&&DV.plains 60 ds&&decide (ds.length<=j5)then(L6 y ds).map λ (j:Nat)=>DV.int (j:Int)else none
 | _=>none
def rngD(l:ge (DV×Cl)):on (ge DV):=match l with
 | [(.int j,_)]=>if E9 j&&decide (j<=j5)then some (upTo 0 j.toNat)else none
 | [(.int i,_),(.int j,_)]=>if E9 i&&E9 j&&decide (j - i<=j5)then some (upTo i (j - i).toNat)else none
 | _=>none
noncomputable def enuD:Nat->ge DV->ge DV
 | _,[]=>[]
 | k,d::r=>.tup [.int k,d]::enuD (k+1) r
def Cl.meet:Cl->Cl->Cl
 | .weak,_=>.weak | _,.weak=>.weak | .top,_=>.top | _,.top=>.top | _,_=>.strong
noncomputable def M9:DV->on (Bool×ge DV)
 | .lst ds=>some (false,ds)
 | .tup ds=>some (true,ds)
 | _=>none
def eW(x:DV)(c:Cl):on Re:=match M9 x with
 | some (_,xs)=>some (.ok (.lst (enuD 0 xs)) (Cl.meet c c))
 | _=>none
noncomputable def kvp?:ge DKey->ge DV->on (ge ((Int×Int)×Int))
 | [],[]=>some []
 | .t [.inl a,.inl b]::ks,.int v::vs=>(kvp? ks vs).map (((a,b),v) :: ·)
 | _,_=>none
def itmD(x:DV)(c:Cl):on Re:=match x with
 | .dct ks vs=>if c=.strong/\ks.isEmpty=false then(kvp? ks vs).map (λ l=>.ok (.lst (l.map λ p=>.tup [.tup [.int p.1.1,.int p.1.2],.int p.2])) .strong)else none
 | _=>none
noncomputable def asDc:DV->on (ge DKey×ge DV)
 | .dct ks vs=>some (ks,vs)
 | _=>none
def dixC(x:DV)(c:Cl)(y:DV):on Re:=if c=.strong then(asDc x).bind λ p=>(asI y).bind λ k=>(E1 (.i k) p.1 p.2).map λ d=>.ok d .strong else none
def dgpD(ks:ge DKey)(vs:ge DV)(y:DV):on Re:=match y with
 | .tup [.int a,.int b]=>(match E1 (.t [.inl a,.inl b]) ks vs with
  | some (.int v)=>some (.ok (.int v) .strong)
  | _=>none)
 | _=>none
def dppD(i:Nat)(δ:ge Sv)(ks:ge DKey)(vs:ge DV)(l:ge (DV×Cl))(d:DV):on (ge Sv):=match l,d with
 | [(.int a,_),(.int b,_)],.int z=>if ks.length<j5 then some (δ.set i (.od (.tup [.dct (putD (.t [.inl a,.inl b]) (.int z) ks vs).1 (putD (.t [.inl a,.inl b]) (.int z) ks vs).2])))else none
 | _,_=>none
noncomputable def unT:DV->DV
 | .tup [d]=>d
 | d=>d
noncomputable def isDc:DV->Bool
 | .tup [_]=>true
 | _=>false
noncomputable def seqD:DV->on (ge DV)
 | .scr ns=>some (ns.map DV.int)
 | .lst ds=>some ds
 | .tup ds=>some ds
 | _=>none
noncomputable def O5(δ:ge Sv):ge Nat->ge DV->on (ge Sv)
 | [],[]=>some δ
 | i::is,d::ds=>O5 (δ.set i (.val d)) is ds
 | _,_=>none
def Tg.bind(tg:Tg)(d:DV)(δ:ge Sv):on (ge Sv):=match tg with
 | .one i=>some (δ.set i (.val d))
 | .many is=>match d with
  | .tup ds=>O5 δ is ds
  | _=>none
noncomputable def u0(fr:ge (on Nat))(δ:ge Sv):ge Sv:=fr.map λ o=>match o with
 | some i=>δ.getD i .no
 | none=>.no
inductive Rc where
 | skip | item (d:DV)
def u7(g:DV->on Rc):ge DV->on (ge DV)
 | []=>some []
 | d::r=>match g d with
  | none=>none
  | some .skip=>u7 g r
  | some (.item x)=>match u7 g r with
   | none=>none
   | some xs=>some (x::xs)
noncomputable def T9(r:on (ge DV)):on Re:=match r with
 | none=>none
 | some xs=>some (.ok (.lst xs) .fresh)
noncomputable def eX(r:on (ge DV)):on Re:=match r with
 | none=>none
 | some xs=>some (.ok (.lst xs) .weak)
def Rc.of(r:on Re):on Rc:=match r with
 | some (.ok d c)=>if stro d c then some (.item d)else none
 | _=>none
noncomputable def Rc.test(t:on Rt)(r:on Rc):on Rc:=match t with
 | some (.ok true)=>r
 | some (.ok false)=>some .skip
 | _=>none
inductive Ri where
 | ok (ds:List DV) (c:Cl)
def Ri.thn(r:on Ri)(k:ge DV->Cl->on Re):on Re:=match r with
 | none=>none
 | some (.ok ds c)=>k ds c
noncomputable def Re.thnI(r:on Re)(k:DV->Cl->on Ri):on Ri:=match r with
 | none=>none
 | some (.ok d c)=>k d c
def zk(d:DV)(c:Cl):on Ri:=(seqD d).map λ ds=>.ok ds c
def imL:DV->Bool
 | .lst ds=>DV.immuts ds
 | _=>false
def J2(F:Nat->ge DV->on Ou)(f:Nat)(l:ge (DV×Cl)):on Re:=match F f (l.map (·.1))with
 | none=>none
 | some (.v d fr)=>some (.ok d (if l.all λ p=>p.2 == .strong||p.2 == .fresh then(if fr then .fresh else .strong)else if fr&&imL d then .fresh else .weak))
def B2:Nat:=1001
def capD(δ:ge Sv):ge Nat->on (ge DV)
 | []=>some []
 | i::r=>match δ[i]?,capD δ r with
  | some (.val d),some ds=>if d.nolam then some (d::ds)else none
  | _,_=>none
noncomputable def sS:DV->on Str | .str i=>some i | _=>none
noncomputable def tT:DV->on (ge DV) | .tup l=>some l | _=>none
noncomputable def Q6(F:Nat->ge DV->on Ou)(m:DV):ge DV->on (ge Int)
 | []=>some []
 | d::r=>match F B2 [m,d]with
  | some (.v (.int k) false)=>(Q6 F m r).map (k :: ·)
  | _=>none
def srtL(F:Nat->ge DV->on Ou)(m:DV)(x:DV)(c:Cl):on Re:=match x with
 | .lst ds=>if(c == .strong||c == .fresh||c == .top)=true/\ds.length<64 then(Q6 F m ds).bind λ ks=>(O4 ks).map λ ix=>.ok (.lst (putIx .non ix ds)) .fresh else none
 | _=>none
def bJ(G:Gs)(F:Nat->ge DV->on Ou)(ra:on Re)(N:ge Str)(np:Nat)(lb:ME)(o:on (ge DV)):on Re:=match o with
  | some cs=>if G.fnl.isEmpty then none else Re.thn (ra) λ x cx=>srtL F (.lam ⟨N,np,lb,G.fnl,G.bll,G.cll⟩ cs) x cx
  | none=>none
def dglE(rk:on Re)(o:on Sv):on Re:=match o with
  | some (.od (.dct ks vs))=>Re.thn rk λ y _=>(asI y).bind λ k=>(E1 (.i k) ks vs).map λ d=>.ok d .strong
  | _=>none
def ninE(rk:on Re)(o:on Sv):on Re:=match o with
  | some (.od (.dct ks _))=>Re.thn rk λ y _=>(asI y).bind λ k=>some (.ok (.bl (!decide (DKey.i k∈ks))) .strong)
  | _=>none
noncomputable def keyI:ge DKey->on (ge Int)
 | []=>some []
 | .i n::r=>(keyI r).map (n :: ·)
 | _=>none
def kyiD(x:DV)(c:Cl):on Re:=(asDc x).bind λ p=>if c=.strong/\p.1.isEmpty=false then(keyI p.1).map λ l=>.ok (.lst (l.map DV.int)) .strong else none
def andD(x:DV)(c:Cl)(r:on Re):on Re:=match H9 x with
 | none=>none
 | some true=>r
 | some false=>some (.ok x c)
def orD(x:DV)(c:Cl)(r:on Re):on Re:=match H9 x with
 | none=>none
 | some true=>some (.ok x c)
 | some false=>r
def tstD(r:on Re):on Rt:=Re.thnT r λ x _=>(H9 x).map Rt.ok
def k7(r:on Re):on Ri:=Re.thnI r λ x c=>zk x c
def varE(o:on Sv):on Re:=match o with
  | some (.val d)=>some (.ok d .strong)
  | some (.own d)=>some (.ok d .top)
  | _=>none
def eY(F:Nat->ge DV->on Ou)(xs:ge (Str×Nat))(rs:on Rs)(o:on Sv):on Re:=match o with
  | some (.val (.fn x))=>(match xs.lookup x with
   | some f=>Rs.thn (rs) λ l=>J2 F f l
   | none=>none)
  | _=>none
mutual
def evE(G:Gs)(F:Nat->ge DV->on Ou):ME->ge Sv->on Re
 | .var i,δ=>varE δ[i]?
 | .int i,_=>some (.ok (.int i) .strong)
 | .bl i,_=>some (.ok (.bl i) .strong)
 | .str i,_=>some (.ok (.str i) .strong)
 | .non,_=>some (.ok .non .strong)
 | .glb x,_=>(G.con.lookup x).map λ d=>.ok d .strong
 | .bin op a b,δ=>Re.thn (evE G F a δ) λ x cx=>Re.thn (evE G F b δ) λ y cy=>binD op x y cx cy
 | .neg a,δ=>Re.thn (evE G F a δ) λ x _=>match x with | .int i=>some (.ok (.int (-i)) .strong) | _=>none
 | .not a,δ=>Re.thn (evE G F a δ) λ x _=>(H9 x).map λ k=>.ok (.bl (!k)) .strong
 | .cmp op a b,δ=>Re.thn (evE G F a δ) λ x _=>Re.thn (evE G F b δ) λ y _=>(cmpD op x y).map λ k=>.ok (.bl k) .strong
 | .chain op op' a b c,δ=>Re.thn (evE G F a δ) λ x _=>Re.thn (evE G F b δ) λ y _=>match cmpD op x y with
  | none=>none
  | some false=>some (.ok (.bl false) .strong)
  | some true=>Re.thn (evE G F c δ) λ z _=>(cmpD op' y z).map λ k=>.ok (.bl k) .strong
 | .and es,δ=>J8 G F es δ
 | .or es,δ=>evOr G F es δ
 | .lst es,δ=>Rs.thn (evEs G F es δ) λ l=>if l.length<=j5 then some (.ok (.lst (l.map (·.1))) (if stros l then .fresh else .weak))else none
 | .tup es,δ=>Rs.thn (evEs G F es δ) λ l=>if l.length<=j5 then some (.ok (.tup (l.map (·.1))) (if stros l then .strong else .weak))else none
 | .ix a b,δ=>Re.thn (evE G F a δ) λ x cx=>Re.thn (evE G F b δ) λ y _=>(ixD x y).map λ d=>.ok d cx.item
 | .sl a lo hi,δ=>Re.thn (evE G F a δ) λ x cx=>Re.thn (evE G F lo δ) λ l _=>match l with
  | .int l=>Re.thn (evE G F hi δ) λ h _=>(match h with
   | .int h=>(slD x (some l) (some h)).map λ d=>.ok d (slCl x cx)
   | _=>none)
  | _=>none
 | .slf a lo,δ=>Re.thn (evE G F a δ) λ x cx=>Re.thn (evE G F lo δ) λ l _=>match l with
  | .int l=>(slD x (some l) none).map λ d=>.ok d (slCl x cx)
  | _=>none
 | .slt a hi,δ=>Re.thn (evE G F a δ) λ x cx=>Re.thn (evE G F hi δ) λ h _=>match h with
  | .int h=>(slD x none (some h)).map λ d=>.ok d (slCl x cx)
  | _=>none
 | .call f es,δ=>Rs.thn (evEs G F es δ) λ l=>J2 F f l
 | .bi f es,δ=>if biOk f then Rs.thn (evEs G F es δ) λ l=>biD f l else none
 | .isi a ts,δ=>Re.thn (evE G F a δ) λ x _=>(isiD G x ts).map λ k=>.ok (.bl k) .strong
 | .meth m a _,δ=>if m=.bitLength then Re.thn (evE G F a δ) λ x _=>mtD m x else none
 | .comp elt tg it fr,δ=>Ri.thn (k7 (evE G F it δ)) λ ds c=>if c=.weak\/j5<ds.length then(if c=.weak/\ds.length<=j5 then eX (u7 (λ d=>(tg.bind d (u0 fr [])).bind λ δ'=>Rc.of (evE G F elt δ')) ds)else none)else T9 (u7 (λ d=>(tg.bind d (u0 fr δ)).bind λ δ'=>Rc.of (evE G F elt δ')) ds)
 | .compi elt tg it cd fr,δ=>Ri.thn (k7 (evE G F it δ)) λ ds c=>if c=.weak\/j5<ds.length then none else T9 (u7 (λ d=>(tg.bind d (u0 fr δ)).bind λ δ'=>Rc.test (tstD (evE G F cd δ')) (Rc.of (evE G F elt δ'))) ds)
 | .idx a b,δ=>Re.thn (evE G F a δ) λ x _=>if seqB x then Re.thn (evE G F b δ) λ y _=>(idxD x y).map λ d=>.ok d .strong else none
 | .rng es,δ=>Rs.thn (evEs G F es δ) λ l=>(rngD l).map λ ds=>.ok (.lst ds) .fresh
 | .enu a,δ=>Re.thn (evE G F a δ) λ x c=>eW x c
 | .itm a,δ=>Re.thn (evE G F a δ) λ x c=>itmD x c
 | .dix a k,δ=>Re.thn (evE G F a δ) λ x c=>Re.thn (evE G F k δ) λ y _=>dixC x c y
 | .dgp i k,δ=>match δ[i]? with
  | some (.od (.tup [.dct ks vs]))=>Re.thn (evE G F k δ) λ y _=>dgpD ks vs y
  | _=>none
 | .callv i xs es,δ=>eY F xs (evEs G F es δ) δ[i]?
 | .srtk a N np lb fr,δ=>bJ G F (evE G F a δ) N np lb (capD δ fr)
 | .ite c a b,δ=>Rt.thn (tstD (evE G F c δ)) λ k=>if k then evE G F a δ else evE G F b δ
 | .dgl i k,δ=>dglE (evE G F k δ) δ[i]?
 | .nin i k,δ=>ninE (evE G F k δ) δ[i]?
 | .kyi a,δ=>Re.thn (evE G F a δ) λ x c=>kyiD x c
def evEs(G:Gs)(F:Nat->ge DV->on Ou):ge ME->ge Sv->on Rs
 | [],_=>some (.ok [])
 | e::es,δ=>match evE G F e δ with
  | none=>none
  | some (.ok d c)=>match evEs G F es δ with
   | none=>none
   | some (.ok l)=>some (.ok ((d,c)::l))
def J8(G:Gs)(F:Nat->ge DV->on Ou):ge ME->ge Sv->on Re
 | [],_=>none
 | e::es,δ=>if es.isEmpty then evE G F e δ else Re.thn (evE G F e δ) λ x c=>andD x c (J8 G F es δ)
def evOr(G:Gs)(F:Nat->ge DV->on Ou):ge ME->ge Sv->on Re
 | [],_=>none
 | e::es,δ=>if es.isEmpty then evE G F e δ else Re.thn (evE G F e δ) λ x c=>orD x c (evOr G F es δ)
end
def jn:Nat:=1000
noncomputable def Re.thnS(δ:ge Sv)(r:on Re)(k:DV->Cl->on Out):on Out:=match r with
 | none=>none
 | some (.ok d c)=>k d c
def Rs.thnS(δ:ge Sv)(r:on Rs)(k:ge (DV×Cl)->on Out):on Out:=match r with
 | none=>none
 | some (.ok l)=>k l
def Rt.thnS(δ:ge Sv)(r:on Rt)(k:Bool->on Out):on Out:=match r with
 | none=>none
 | some (.ok b)=>k b
def Ri.thnS(δ:ge Sv)(r:on Ri)(k:ge DV->Cl->on Out):on Out:=match r with
 | none=>none
 | some (.ok ds c)=>k ds c
def m7(tg:Tg)(body:ge Sv->on Out):ge DV->ge Sv->on Out
 | [],δ=>some (.nx δ)
 | d::r,δ=>match tg.bind d δ with
  | none=>none
  | some δ1=>match body δ1 with
   | some (.nx δ2)=>m7 tg body r δ2
   | o=>o
def J9(test:ge Sv->on Rt)(body:ge Sv->on Out):Nat->ge Sv->on Out
 | 0,_=>none
 | n+1,δ=>match test δ with
  | none=>none
  | some (.ok false)=>some (.nx δ)
  | some (.ok true)=>match body δ with
   | some (.nx δ2)=>J9 test body n δ2
   | o=>o
def frD:DV->Cl->Bool
 | .lst _,.fresh=>true | .lst _,.top=>true
 | _,_=>false
noncomputable def bK(i:Nat)(δ:ge Sv)(d:DV)(c:Cl):on Out:=match c with
 | .fresh=>some (.nx (δ.set i (.own d)))
 | _=>match d with
  | .non=>some (.nx (δ.set i (.val .non)))
  | _=>none
def retD(d:DV)(c:Cl):Out:=.rt d (frD d c)
def asIv:on Sv->on Int
 | some (.val d)=>asI d
 | _=>none
def dplS(δ:ge Sv)(i:Nat)(rk re:on Re)(o:on Sv):on Out:=match o with
  | some (.od (.dct ks vs))=>Re.thnS δ re λ d c=>Re.thnS δ rk λ y _=>(asI y).bind λ k=>if stro d c/\DKey.i k∉ks/\ks.length<j5 then some (.nx (δ.set i (.od (.dct (ks++[.i k]) (vs++[d])))))else none
  | _=>none
noncomputable def frdS(δ:ge Sv)(i:Nat)(o:on Sv):on Out:=match o with
  | some (.od (.dct ks vs))=>some (.nx (δ.set i (.val (.dct ks vs))))
  | _=>none
def appS(δ:ge Sv)(i:Nat)(re:on Re)(o:on Sv):on Out:=match o with
  | some (.own (.lst ds))=>Re.thnS δ (re) λ d c=>if stro d c/\ds.length<j5 then some (.nx (δ.set i (.own (.lst (ds++[d])))))else none
  | _=>none
def pj(δ:ge Sv)(i:Nat)(rk re:on Re)(o:on Sv):on Out:=match o with
  | some (.own (.lst ds))=>Re.thnS δ (re) λ d c=>Re.thnS δ (rk) λ k _=>(match k with
   | .int k=>(match A1 ds.length k with
    | some j=>if stro d c then some (.nx (δ.set i (.own (.lst (ds.set j d)))))else none
    | none=>none)
   | _=>none)
  | _=>none
mutual
def evS(G:Gs)(F:Nat->ge DV->on Ou)(fu:Nat):MS->ge Sv->on Out
 | .set i own e,δ=>Re.thnS δ (evE G F e δ) λ d c=>if own then bK i δ d c else(if stro d c then some (.nx (δ.set i (.val d)))else none)
 | .sett is e,δ=>Re.thnS δ (evE G F e δ) λ d c=>if c=.strong\/c=.fresh then(match M9 d with
  | some (_,ds)=>(O5 δ is ds).map Out.nx
  | none=>none)else none
 | .aug i e,δ=>(asIv δ[i]?).bind λ a=>Re.thnS δ (evE G F e δ) λ d _=>(asI d).bind λ b=>some (.nx (δ.set i (JH (a+b))))
 | .app i e,δ=>appS δ i (evE G F e δ) δ[i]?
 | .ext i e,δ=>match δ[i]? with
  | some (.own (.lst ds))=>Re.thnS δ (evE G F e δ) λ d c=>if c=.strong\/c=.fresh then(match M9 d with
   | some (_,ys)=>if ds.length+ys.length<=j5 then some (.nx (δ.set i (.own (.lst (ds++ys)))))else none
   | none=>none)else none
  | _=>none
 | .seti i k e,δ=>pj δ i (evE G F k δ) (evE G F e δ) δ[i]?
 | .exp e,δ=>Re.thnS δ (evE G F e δ) λ _ _=>some (.nx δ)
 | .ret e,δ=>Re.thnS δ (evE G F e δ) λ d c=>some (retD d c)
 | .iff c a b,δ=>Rt.thnS δ (tstD (evE G F c δ)) λ k=>if k then evSs G F fu a δ else evSs G F fu b δ
 | .fo tg it body,δ=>Ri.thnS δ (k7 (evE G F it δ)) λ ds c=>if c=.strong\/c=.fresh then m7 tg (λ δ'=>evSs G F fu body δ') ds δ else none
 | .wh c body,δ=>J9 (λ δ'=>tstD (evE G F c δ')) (λ δ'=>evSs G F fu body δ') fu δ
 | .retd i,δ=>match δ[i]? with
  | some (.od d)=>if isDc d then some (.rt (unT d) false)else none
  | _=>none
 | .sep i,δ=>some (.nx (δ.set i (.od (.tup [.dct [] []]))))
 | .dpp i ks e,δ=>match δ[i]? with
  | some (.od (.tup [.dct kk vs]))=>Re.thnS δ (evE G F e δ) λ d _=>Rs.thnS δ (evEs G F ks δ) λ l=>(dppD i δ kk vs l d).map Out.nx
  | _=>none
 | .sel i,δ=>some (.nx (δ.set i (.od (.dct [] []))))
 | .dpl i k e,δ=>dplS δ i (evE G F k δ) (evE G F e δ) δ[i]?
 | .frd i,δ=>frdS δ i δ[i]?
 | .unk,_=>none
def evSs(G:Gs)(F:Nat->ge DV->on Ou)(fu:Nat):ge MS->ge Sv->on Out
 | [],δ=>some (.nx δ)
 | s::r,δ=>match evS G F fu s δ with
  | some (.nx δ')=>evSs G F fu r δ'
  | o=>o
end
noncomputable def j8(n:Nat)(ds:ge DV):ge Sv:=ds.map Sv.val++List.replicate (n - ds.length) .no
def Ou.of(o:on Out):on Ou:=match o with
 | some (.nx _)=>some (.v .non false)
 | some (.rt d fr)=>some (.v d fr)
 | none=>none
def lamR(ev:ME->ge Sv->on Re)(ds:ge DV):on Ou:=match ds with
 | .lam m cs::args=>if args.length=m.np/\args.length+cs.length=m.N.length/\DV.nolams args=true/\DV.nolams cs=true then(match ev m.body ((args++cs).map Sv.val)with
  | some (.ok d .strong)=>if d.nolam then some (.v d false)else none
  | _=>none)else none
 | _=>none
def run(G:Gs)(T:ge FD)(fu:Nat):Nat->Nat->ge DV->on Ou
 | 0,_,_=>none
 | k+1,f,ds=>match T[f]? with
  | none=>if f=B2 then lamR (evE G (JK k)) ds else none
  | some fd=>if ds.length=fd.np then Ou.of (evSs G (JK k) fu fd.body (j8 fd.n ds))else none
theorem B3:Re.thn (some (.ok d c)) k=k d c:=rfl
theorem bL:Rs.thn (some (.ok l)) k=k l:=rfl
theorem bM:Ri.thn (some (.ok ds c)) k=k ds c:=rfl
theorem pk:Re.thnS δ (some (.ok d c)) k=k d c:=rfl
theorem zm:Ri.thnS δ (some (.ok ds c)) k=k ds c:=rfl
theorem zn{G:Gs}{F:Nat->ge DV->on Ou}{fu:Nat}{δ:ge Sv}{m:MS}{r:ge MS}{δ':ge Sv}(h:evS G F fu m δ=some (.nx δ')):evSs G F fu (m::r) δ=evSs G F fu r δ':=by
 rw[show evSs G F fu (m::r) δ=(match evS G F fu m δ with | some (.nx δ')=>evSs G F fu r δ' | o=>o)from rfl,h]
theorem zo(h:evS G F fu m δ=some (.rt d fr)):evSs G F fu (m::r) δ=some (.rt d fr):=by
 rw[show evSs G F fu _ δ=(match evS G F fu m δ with | some (.nx δ')=>evSs G F fu r δ' | o=>o)from rfl,h]
theorem k8(h:T[f]? = some fd)(a:ds.length=fd.np):run G T fu (k+1) f ds=Ou.of (evSs G (JK k) fu fd.body (j8 fd.n ds)):=by
 show(match T[f]? with | none=>if f=B2 then lamR _ ds else none | some fd=>if ds.length=fd.np then Ou.of (evSs G _ fu fd.body _)else none)=_;rw[h];exact d8 a
end L2
namespace L2
open PySem
theorem pq{I:ge Sv->Prop}:∀{ds:ge DV} {δ:ge Sv},(∀d∈ds,∀δ,I δ->∃b a,tg.bind d δ=some b/\body b=some (.nx a)/\I a)->I δ->∃c,m7 tg body ds δ=some (.nx c)/\I c
 | [],δ,_,i=>⟨δ,rfl,i⟩
 | d::r,δ,h,i=>by obtain⟨b,a,l,k,f⟩:=h d (i5 ..) δ i;obtain⟨c,j,e⟩:=pq (λ d g=>h d (i7 _ g)) f;refine⟨c,?_,e⟩;show(match tg.bind d δ with | none=>none | some b=>(match body b with | some (.nx a)=>m7 tg body r a | o=>o))=_;rw[l];show(match body b with | some (.nx a)=>m7 tg body r a | o=>o)=_;rw[k];exact j
theorem pu:∀{a:ge DV},(∀d∈a,g d=some (if p d then .item d else .skip))->u7 g a=some (a.filter p)
 | [],_=>rfl
 | d::r,h=>by
  have b:=pu (λ d e=>h d (i7 _ e));unfold u7;rw[(h d (i5 ..))];cases c:p d with
  | false=>rw[Z1 (by grind)];exact b
  | true=>
   rw[Z2 c];show(match u7 g r with | none=>none | some xs=>some _)=_;rw[b]
theorem jo:∀{a:ge DV},(∀d∈a,g d=some (.item (f d)))->u7 g a=some (a.map f)
 | [],_=>rfl
 | d::r,h=>by unfold u7;rw[(h d (i5 ..))];show(match u7 g r with | none=>none | some xs=>some _)=_;rw[(jo (λ d b=>h d (i7 _ b)))];rfl
theorem pv(h:d∈upTo a n):∃j:Nat,j<n/\d=.int (a+j):=by
 unfold upTo at h;rw[f9]at h;obtain⟨j,b,rfl⟩:=h;exact⟨j,i6.mp b,rfl⟩
end L2
namespace L2
open PySem
theorem k5(h:evSs G F fu r δ=some (.rt d fr)):Ou.of (evSs G F fu r δ)=some (.v d fr):=by rw[h];rfl
theorem pz{G:Gs}{F:Nat->ge DV->on Ou}{fu:Nat}{δ δ':ge Sv}{r:ge MS}(h:evSs G F fu r δ=some (.nx δ')):Ou.of (evSs G F fu r δ)=some (.v .non false):=by rw[h];rfl
theorem f6(h:evS G F fu m δ=some (.nx δ'))(a:evSs G F fu r δ'=o):evSs G F fu (m::r) δ=o:=(zn h).trans a
theorem j9(h:evS G F fu m δ=some (.rt d fr)):evSs G F fu (m::r) δ=some (.rt d fr):=zo h
theorem eZ(d:tstD (evE G F c δ)=some (.ok bb)):evS G F fu (.iff c a b) δ=if bb then evSs G F fu a δ else evSs G F fu b δ:=by
 show Rt.thnS δ _ _=_;rw[d];rfl
theorem Q7(d:tstD (evE G F c δ)=some (.ok true))(h:evSs G F fu a δ=some (.nx δ'))(e:evSs G F fu r δ'=o):evSs G F fu (.iff c a b::r) δ=o:=f6 ((eZ d).trans h) e
theorem fb(d:tstD (evE G F c δ)=some (.ok false))(h:evSs G F fu b δ=some (.nx δ'))(e:evSs G F fu r δ'=o):evSs G F fu (.iff c a b::r) δ=o:=f6 ((eZ d).trans h) e
theorem W7(e:tstD (evE G F c δ)=some (.ok true))(h:evSs G F fu a δ=some (.rt d fr)):evSs G F fu (.iff c a b::r) δ=some (.rt d fr):=j9 ((eZ e).trans h)
theorem u4(b:tstD (evE G F c δ)=some (.ok false))(d:evSs G F fu r δ=o):evSs G F fu (.iff c a []::r) δ=o:=fb b rfl d
theorem F0(b:k7 (evE G F it δ)=some (.ok ds cl))(c:cl=.strong\/cl=.fresh)(h:m7 tg (λ δ'=>evSs G F fu body δ') ds δ=some (.nx δ'))(d:evSs G F fu r δ'=o):evSs G F fu (.fo tg it body::r) δ=o:=by
 refine f6 ?_ d;show Ri.thnS δ _ _=_;rw[b];show(if cl=.strong\/cl=.fresh then m7 tg _ ds δ else none)=_
 rwa [d8 c]
theorem j4(h:evE G F e δ=some (.ok d cl))(hs:stro d cl=true):evS G F fu (.set i false e) δ=some (.nx (δ.set i (.val d))):=by
 show Re.thnS δ _ _=_;rw[h];show(if stro d cl then some _ else none)=_;rw[d8 hs]
theorem O6(h:evE G F e δ=some (.ok d .fresh)):evS G F fu (.set i true e) δ=some (.nx (δ.set i (.own d))):=by
 show Re.thnS δ _ _=_;rw[h];rfl
theorem n6(h:evE G F e δ=some (.ok d cl)):evS G F fu (.ret e) δ=some (.rt d (frD d cl)):=by
 show Re.thnS δ _ _=_;rw[h];rfl
theorem ff(h:evE G F e δ=some (.ok d cl)):evS G F fu (.exp e) δ=some (.nx δ):=by
 show Re.thnS δ _ _=_;rw[h];rfl
theorem g8(a:evEs G F es δ=some (.ok l))(hs:(l.all λ p=>p.2 == .strong||p.2 == .fresh)=true)(h:F f (l.map (·.1))=some (.v d fr)):evE G F (.call f es) δ=some (.ok d (if fr then .fresh else .strong)):=by
 show Rs.thn _ _=_;rw[a];show J2 F f l=_;unfold J2;rw[h,hs];rfl
theorem zp(b:evEs G F es δ=some (.ok l))(h:F f (l.map (·.1))=some (.v (.lst ds) true))(a:DV.immuts ds=true):evE G F (.call f es) δ=some (.ok (.lst ds) .fresh):=by
 show Rs.thn _ _=_;rw[b];show J2 F f l=_;unfold J2;rw[h];show some (Re.ok _ (if(l.all λ p=>p.2 == .strong||p.2 == .fresh)then .fresh else if DV.immuts ds then .fresh else .weak))=_;rw[a];cases(l.all λ p=>p.2 == .strong||p.2 == .fresh)<;>rfl
theorem i4(h:JA e cl (.bl x)):tstD (evE G F e δ)=some (.ok x):=by rw[h];rfl
theorem fg(h:JA e cl (.bl x)):evE G F (.not e) δ=some (.ok (.bl (!x)) .strong):=by
 show Re.thn _ _=_;rw[h];rfl
end L2
namespace L2
open PySem
theorem B4(d:evE G F a δ=some (.ok x cx))(c:evE G F b δ=some (.ok y cy))(h:binD op x y cx cy=r):evE G F (.bin op a b) δ=r:=by
 show Re.thn _ _=_;rw[d,B3,c,B3,h]
theorem A7(d:evE G F a δ=some (.ok x cx))(c:evE G F b δ=some (.ok y cy))(h:cmpD op x y=some t):evE G F (.cmp op a b) δ=some (.ok (.bl t) .strong):=by
 show Re.thn _ _=_;rw[d,B3,c,B3,h];rfl
theorem o7(e:evE G F a δ=some (.ok x cx))(c:evE G F b δ=some (.ok y cy))(h:ixD x y=some d):evE G F (.ix a b) δ=some (.ok d cx.item):=by
 show Re.thn _ _=_;rw[e,B3,c,B3,h];rfl
theorem zq(d:JA a cx (.bl false))(c:evE G F b δ=o):evE G F (.or [a,b]) δ=o:=by
 show Re.thn _ _=_;rw[d];exact c
theorem zr(c:JA a cx (.bl true)):evE G F (.or [a,b]) δ=some (.ok (.bl true) cx):=by
 show Re.thn _ _=_;rw[c];rfl
theorem g7:evEs G F [] δ=some (.ok []):=rfl
theorem e7(b:evE G F a δ=some (.ok x cx))(h:evEs G F es δ=some (.ok l)):evEs G F (a::es) δ=some (.ok ((x,cx)::l)):=by
 unfold evEs;rw[b,h]
end L2
namespace L2
open PySem
theorem pA(c:δ[i]? = some (.own (.lst ds)))(h:evE G F e δ=some (.ok d cl))(a:stro d cl=true)(b:ds.length<j5):evS G F fu (.app i e) δ=some (.nx (δ.set i (.own (.lst (ds++[d]))))):=by
 show appS δ i _ δ[i]? = _;rw[c];show Re.thnS δ _ _=_;rw[h];exact d8 ⟨a,b⟩
theorem pB(f:δ[i]? = some (.own (.lst ds)))(h:evE G F e δ=some (.ok d cl))(b:JA k cx (.int n))(a:stro d cl=true)(c:A1 ds.length n=some j):evS G F fu (.seti i k e) δ=some (.nx (δ.set i (.own (.lst (ds.set j d))))):=by
 show pj δ i _ _ δ[i]? = _;rw[f];show Re.thnS δ _ _=_;rw[h,pk,b,pk];show(match A1 ds.length n with | some j=>if stro d cl then some (Out.nx _)else none | none=>none)=_;rw[c];exact d8 a
theorem zt(h:test δ=some (.ok false)):J9 test body (n+1) δ=some (.nx δ):=by
 unfold J9;rw[h]
theorem zu(h:test δ=some (.ok true))(a:body δ=some (.nx δ'))(hr:J9 test body n δ'=o):J9 test body (n+1) δ=o:=by
 unfold J9
 rwa [h,a]
theorem zw(h:J9 (λ δ'=>tstD (evE G F c δ')) (λ δ'=>evSs G F fu body δ') fu δ=some (.nx δ'))(b:evSs G F fu r δ'=o):evSs G F fu (.wh c body::r) δ=o:=f6 h b
end L2
namespace L2
open PySem
theorem U0{I:Nat->ge Sv->Prop}:∀(n:Nat) (c:Int) {δ:ge Sv},(∀j<n,∀δ,I j δ->∃b,body (δ.set i (JH (c+j)))=some (.nx b)/\I (j+1) b)->I 0 δ->∃d,m7 (.one i) body (upTo c n) δ=some (.nx d)/\I n d
 | 0,_,δ,_,g=>⟨δ,rfl,g⟩
 | n+1,c,δ,h,g=>by
  have e:upTo c (n+1)=.int c::upTo (c+1) n:=by
   unfold upTo;rw[nJ,t9,k6]
   congr 1
   ·congr 1;omega
   ·apply D2;intro a _;show DV.int _=DV.int _
    congr 1
    push_cast
    omega
  obtain⟨b,k,r⟩:=h 0 Jy δ g;rw[show c+_=c by omega]at k;obtain⟨d,u,p⟩:=U0 n (c+1) (λ j hj δ q=>by
   obtain⟨f,m,l⟩:=h (j+1) Jy δ q;refine⟨f,?_,l⟩;rw[show c+1+_=c+((j+1:Nat):Int) by push_cast;omega];exact m) r
  refine⟨d,?_,p⟩;rw[e];show(match body (δ.set i _)with | some (.nx b)=>m7 _ body _ b | o=>o)=_;rw[k];exact u
theorem zx(b:k7 (evE G F it δ)=some (.ok ds cl))(hc:cl ≠ .weak)(hl:ds.length<=j5)
  (h:∀d∈ds,∃a,tg.bind d (u0 fr δ)=some a/\tstD (evE G F cd a)=some (.ok (p d))/\evE G F elt a=some (.ok d .strong)):evE G F (.compi elt tg it cd fr) δ=some (.ok (.lst (ds.filter p)) .fresh):=by
 show Ri.thn _ _=_;rw[b,bM,e8 (by grind),pu (λ d c=>?_)]
 ·rfl
 ·obtain⟨a,g,f,e⟩:=h d c;rw[g,G5,f,e];cases p d<;>rfl
theorem zA(hw:k7 (evE G F it δ)=some (.ok ds cl))(b:cl ≠ .weak)(hl:ds.length<=j5)
  (h:∀d∈ds,∃a,tg.bind d (u0 fr δ)=some a/\evE G F elt a=some (.ok (f d) .strong)):evE G F (.comp elt tg it fr) δ=some (.ok (.lst (ds.map f)) .fresh):=by
 show Ri.thn _ _=_;rw[hw,bM,e8 (by rintro(z | z);exact b z;omega),jo (λ d hd=>?_)]
 ·rfl
 ·obtain⟨a,e,c⟩:=h d hd;rw[e,G5,c];rfl
theorem zB{l:ge Int}(h:j<l.length):ixD (.lst (l.map DV.int)) (.int j)=some (.int l[j]):=by
 have a:(j:Int)<((l.map DV.int).length:Int):=by rw[d7];exact_mod_cast h
 simp only[ixD,atD,A1,d8 (z9 j),d8 a,G5,v5,o8,j6 h,D7]
theorem pC{l:ge Int}{i:Int}(a:0<=i)(h:i<l.length):∃v,ixD (.lst (l.map DV.int)) (.int i)=some (.int v):=by
 obtain⟨j,rfl⟩:=Int.eq_ofNat_of_zero_le a;exact⟨_,zB Jy⟩
end L2
namespace L2
open PySem
theorem g6:evE G F (.int i) δ=some (.ok (.int i) .strong):=rfl
theorem d5(h:δ[n]? = some (.val d)):evE G F (.var n) δ=some (.ok d .strong):=congrArg varE h
theorem N0(h:δ[n]? = some (.own d)):evE G F (.var n) δ=some (.ok d .top):=congrArg varE h
theorem F7(d:JA a cx (.int i))(c:JA b cy (.int j)):evE G F (.bin .Add a b) δ=some (.ok (.int (i+j)) .strong):=B4 d c rfl
theorem az(d:JA a cx (.int i))(c:JA b cy (.int j)):evE G F (.bin .Sub a b) δ=some (.ok (.int (i - j)) .strong):=B4 d c rfl
theorem Q8(d:JA a cx (.int i))(c:JA b cy (.int j))(h:Q5 i j=true):evE G F (.bin .Mult a b) δ=some (.ok (.int (i*j)) .strong):=B4 d c (d8 h)
theorem B5(d:JA a cx (.int i))(c:JA b cy (.int j))(h:0<j):evE G F (.bin .Mod a b) δ=some (.ok (.int (i%j)) .strong):=B4 d c (d8 h)
theorem jq(d:JA a cx (.int i))(c:JA b cy (.int j))(h:0<j/\j<1073741824):evE G F (.bin .FloorDiv a b) δ=some (.ok (.int (i/j)) .strong):=B4 d c (d8 ⟨h.1,Int.lt_trans h.2 Jz⟩)
theorem b_eq(d:JA a cx (.int i))(c:JA b cy (.int j)):evE G F (.cmp .Eq a b) δ=some (.ok (.bl (i==j)) .strong):=A7 d c rfl
theorem b_lt(d:JA a cx (.int i))(c:JA b cy (.int j)):evE G F (.cmp .Lt a b) δ=some (.ok (.bl (decide (i<j))) .strong):=A7 d c rfl
end L2
namespace L2
open PySem
theorem pE:evE G F (.str x) δ=some (.ok (.str x) .strong):=rfl
theorem W8(h:evEs G F es δ=some (.ok l))(b:l.length<=j5)(a:stros l=true):evE G F (.tup es) δ=some (.ok (.tup (l.map (·.1))) .strong):=by
 show Rs.thn _ _=_;rw[h,bL,d8 b,a];rfl
def Rise(xs:Jl Nat):Prop:=∀(i k x y:Nat),i<k->xs[i]? = some x->xs[k]? = some y->x<y
theorem pF(v:Rise xs):∀(c b a:Nat),b<=a->a<=xs.size->a - b<=c ->
  (∀i x,i<b->xs[i]? = some x->x<j)->(∀i x,a<=i->xs[i]? = some x->j<=x) ->
  (∀i x,i<SetTable.below.go xs j c b a->xs[i]? = some x->x<j)/\(∀i x,SetTable.below.go xs j c b a<=i->xs[i]? = some x->j<=x):=by
 intro c
 induction c with
 | zero=>
  intro b a z w y l k;have:b=a:=by omega
  subst this;exact⟨l,k⟩
 | succ n u=>
  intro b a z w y l k;unfold SetTable.below.go;by_cases g:b<a
  ·rw[d8 g];have hm:(b+a)/2<a:=by omega
   have o:b<=(b+a)/2:=by omega
   have m:(b+a)/2<xs.size:=by omega
   have h:=K3 m;have r:xs.getD ((b+a)/2) j=xs[(b+a)/2]:=(by rw[R8,h];rfl);dsimp only;rw[r];by_cases f:xs[(b+a)/2]<j
   ·rw[d8 f];refine u _ _ Jy w Jy (λ i x p d=>?_) k;rcases Q3 i ((b+a)/2)with q | q
    ·exact eL (v i _ x _ q d h) f
    ·have e:i=(b+a)/2:=by omega
     subst e;rw[h]at d;cases d;exact f
   ·rw[e8 f];refine u _ _ o Jy Jy l λ i x p d=>?_
    rcases Q3 ((b+a)/2) i with q | q
    ·exact e9 (ik f) (W0 (v _ i _ x q h d))
    ·have e:i=(b+a)/2:=by omega
     subst e;rw[h]at d;cases d;exact ik f
  ·rw[e8 g];have:b=a:=by omega
   subst this;exact⟨l,k⟩
theorem jr(b:Rise xs)(h:i<SetTable.below xs j)(a:xs[i]? = some x):x<j:=
 (pF b xs.size 0 xs.size (v9 _) (f8 _) Jy (λ i x h=>by omega) λ i x h a=>by
  rw[K5 h]at a;cases a).1 i x h a
theorem fh(b:Rise xs)(h:SetTable.below xs j<=i)(a:xs[i]? = some x):j<=x:=
 (pF b xs.size 0 xs.size (v9 _) (f8 _) Jy (λ i x h=>by omega) λ i x h a=>by
  rw[K5 h]at a;cases a).2 i x h a
theorem zC:∀(a c b:Nat),c<=b->SetTable.below.go xs j a c b<=b:=by
 intro a
 induction a with
 | zero=>intro c b h;exact h
 | succ n d=>
  intro c b h;unfold SetTable.below.go;dsimp;split
  ·split
   ·exact d _ _ Jy
   ·exact e9 (d _ _ Jy) Jy
  ·exact h
theorem pG:SetTable.below xs j<=xs.size:=zC _ _ _ (v9 _)
theorem zD(d:Rise xs)(c:xs[i]? = some x):SetTable.below xs (x+1)=i+1:=by
 have hi:i<xs.size:=by
  rcases Q3 i xs.size with h | h
  ·exact h
  ·rw[K5 h]at c;cases c
 rcases dO _ _ with h | h | h
 ·have:=fh d (j:=x+1) (ig h) c;omega
 ·exact h
 ·have h2:SetTable.below xs (x+1)<=xs.size:=pG;have f:i+1<xs.size:=by omega
  have e:=K3 f;have a:=jr d h e;have b:=d i _ x _ (P8 _) c e;omega
theorem zE(b:Rise xs):SetTable.below xs 0=0:=by
 rcases dH _ with h | h
 ·exact h
 ·have h2:SetTable.below xs 0<=xs.size:=pG;have a:=jr b h (K3 Jy);omega
theorem Rise.empty:Rise #[]:=λ i k x y _ a=>by simp at a
theorem Rise.range(n:Nat):Rise (Array.range n):=λ i k x y h b a=>by
 rw[Array.getElem?_range]at b a;split at b
 ·split at a
  ·cases b;cases a;exact h
  ·cases a
 ·cases b
theorem pH{l:ge Nat}(h:l.Pairwise (· < ·)):Rise l.toArray:=λ i k x y a c b=>by
 obtain⟨e,g⟩:=x8.mp (by simpa using c);obtain⟨d,f⟩:=x8.mp (by simpa using b);rw[←g,←f];exact nc.mp h i k e d a
theorem zF(h:Rise xs):xs.toList.Pairwise (· < ·):=by
 refine nc.mpr λ i k c b a=>?_;exact h i k _ _ a (by rw[←F6];exact j6 c) (by rw[←F6];exact j6 b)
structure Tab(t:SetTable)(b:Bool):Prop where
 rise:Rise t.place
 dum:t.dummies = #[]
 led:t.led=b
theorem Tab.fresh(b:Bool):Tab (SetTable.fresh 0 0 b) b:=⟨Rise.empty,rfl,rfl⟩
theorem Tab.standIn(h:Tab t b)(n:Nat):Tab (t.standIn n) b:=⟨Rise.range n,rfl,h.led⟩
theorem pI(j:Nat):SetTable.has #[] j=false:=by
 unfold SetTable.has;simp
theorem zG(h:Tab t b)(f:Nat->Int)(z:Int):∀(a:Nat) (p:SetTable.Probe) (j:Nat) (d:on Nat),p.dummy=none->SetTable.probe.go t f z a p=some (.empty j d)->d=none/\t.slot j=.empty:=by
 intro a
 induction a with
 | zero=>intro p j d c e;cases e
 | succ n g=>
  intro p j d c e;unfold SetTable.probe.go at e;cases hs:t.slot p.j with
  | empty=>rw[hs]at e;cases e;exact⟨c,hs⟩
  | dummy=>
   unfold SetTable.slot at hs;rw[h.dum,pI]at hs;dsimp at hs;split at hs
   ·cases hs
   ·cases hs
  | live i=>
   rw[hs]at e;dsimp at e;split at e
   ·cases e
   ·refine g _ j d ?_ e;unfold SetTable.advance;split
    ·exact c
    ·exact c
theorem zH(h:Tab t b)(e:t.freeSlot z=some (j,w)):t.slot j=.empty:=by
 unfold SetTable.freeSlot at e;split at e
 ·rename_i j' d a;obtain⟨c,hs⟩:=zG h _ _ _ _ _ _ rfl a;subst c;cases e;exact hs
 ·cases e
theorem Tab.put(h:Tab t b)(hs:t.slot j=.empty):Tab (t.put j).1 b:=by
 have m:t.place[SetTable.below t.place j]? ≠ some j:=λ z=>by unfold SetTable.slot at hs;dsimp only at hs;rw[z]at hs;simp at hs
 refine⟨?_,?_,h.led⟩
 ·show Rise _;have g:=zF h.rise;have:(SetTable.insertAt t.place (SetTable.below t.place j) j).toList.Pairwise (· < ·):=by
   rw[(SetTable.toList_insertAt _ _ _),List.pairwise_append];refine⟨g.sublist (ic _ _),D3.mpr ⟨λ y f=>?_,g.sublist (List.drop_sublist _ _)⟩,λ x l y f=>?_⟩
   ·obtain⟨i,d⟩:=Z3.mp f;rw[bo,F6]at d;rcases dJ (fh h.rise (V7 _ _) d)with q | q
    ·exact q
    ·exfalso;subst q;rcases dH i with z | z
     ·subst z;exact m d
     ·have n:SetTable.below t.place j<t.place.size:=by
       rcases Q3 (SetTable.below t.place j+i) t.place.size with q | q
       ·omega
       ·rw[K5 q]at d;cases d
      have k:=K3 n;have a:=fh h.rise (f8 _) k;have c:=h.rise _ _ _ _ Jy k d;omega
   ·have e:x<j:=by
     obtain⟨i,d⟩:=Z3.mp l;rw[List.getElem?_take]at d;split at d
     ·rw[F6]at d;exact jr h.rise Jy d
     ·cases d
    rcases g5.mp f with q | q
    ·rw[q];exact e
    ·obtain⟨i,d⟩:=Z3.mp q;rw[bo,F6]at d;exact q9 e (fh h.rise (V7 _ _) d)
  have r:=pH this
  rwa [Array.toArray_toList]at r
 ·show(if SetTable.has t.dummies j then _ else t.dummies) = #[];rw[h.dum,pI];rfl
theorem Tab.orStandIn(h:Tab t b)(n:Nat):Tab (t.orStandIn n) b:=by
 unfold SetTable.orStandIn;split
 ·exact h
 ·exact h.standIn n
theorem Tab.layNew{t:Jw}{b:Bool}(h:Tab t b)(es:Jl (Int×Jg))(z:Int)(x:Jg):Tab (layNew t es z x).2.1 b:=by
 unfold PySem.layNew;split
 ·rename_i j w e;exact(h.put (zH h e)).orStandIn _
 ·exact h.standIn _
theorem pJ{f:Nat->on Nat}:∀{l:ge Nat},l.Pairwise (· < ·)->((l.filterMap λ j=>(f j).map (j,·)).map (·.1)).Pairwise (· < ·)
 | [],_=>.nil
 | a::l,h=>by
  obtain⟨o,n⟩:=D3.mp h;have d:=pJ (f:=f) n;rw[dz];cases e:f a with
  | none=>exact d
  | some c=>
   refine D3.mpr ⟨λ y i=>?_,d⟩;obtain⟨p,k,rfl⟩:=f9.mp i;obtain⟨j,m,b⟩:=bh.mp k;cases g:f j with
   | none=>rw[g]at b;cases b
   | some c2=>rw[g]at b;cases b;exact o j m
theorem Tab.relayAll{t:Jw}{b:Bool}(h:Tab t b)(es:Jl (Int×Jg))(n:Nat):Tab (relayAll t es n).2.1 b:=by
 unfold PySem.relayAll;split
 ·rename_i t' order e;dsimp only;split
  ·show Tab t' b;unfold SetTable.relaid SetTable.laid at e;cases hl:SetTable.layClean (SetTable.sizeAbove n - 1) (es.map (·.1))with
   | none=>rw[hl]at e;cases e
   | some owner=>
    rw[hl]at e;cases e;exact⟨pH (pJ (dm)),rfl,h.led⟩
  ·exact h.standIn _
 ·exact h.standIn _
theorem js{b:Type}{x:b}:∀{l:ge b} {i:Nat} (h:i<l.length),l[i]=x->(x::l.eraseIdx i).Perm l
 | [],i,h,_=>by cases h
 | a::l,0,_,e=>by have e:=e;subst e;exact .rfl
 | a::l,i+1,h,e=>by rw[List.eraseIdx_cons_succ];exact(List.Perm.swap a x _).trans (List.Perm.cons a (js (by simpa using h) (by simpa using e)))
theorem zI(d:Nat->Nat):∀(c k:Nat) (b:ge i) (f:Jl i),b.length<=c->(pickOrder.go d c k b f).toList.Perm (f.toList++b):=by
 intro c
 induction c with
 | zero=>
  intro k b f h;have:b=[]:=S2.mp Jy;subst this;unfold pickOrder.go;rw[A6]
 | succ n j=>
  intro k b f h;unfold pickOrder.go;cases e:b[d k%b.length]? with
  | none=>
   have:b=[]:=by
    cases b with
    | nil=>rfl
    | cons a r=>
     have g:d k%(a::r).length<(a::r).length:=Nat.mod_lt _ JN;rw[j6 g]at e;cases e
   subst this;rw[A6]
  | some x=>
   obtain⟨g,l⟩:=x8.mp e;refine(j _ _ _ ((by rw[List.length_eraseIdx,d8 g];omega))).trans ?_;rw[Array.toList_push,N9];refine List.Perm.append_left _ ?_;exact js g l
theorem pK(a:Nat->Nat)(xs:Jl b):(pickOrder a xs).toList.Perm xs.toList:=by
 unfold pickOrder;exact(zI a xs.size 0 xs.toList #[] JN).trans JN
noncomputable def L7:Jg->Int
 | .int n _=>n
 | _=>0
noncomputable def A8(w:Jn):Bool:=w.params.followText "set-order"
def SetI(prog:Jo)(w:Jn)(h:Jj)(a:Ji)(ks:ge Int):Prop:=
 ∃o es ep t,h.get? a=some o/\o.ExactSet/\o.data=.set es ep t/\ElemsOf (intKind prog w) es.toList/\(es.toList.map λ e=>L7 e.2).Perm ks/\es.size<scanBound/\t.fits es.size=true/\Tab t (!A8 w)
theorem pL(h:ElemsOf (intKind prog w) es)(b:e∈es):∃t,e.2=.int (L7 e.2) t:=by
 obtain⟨⟨k,a,_⟩,_⟩:=h e b;obtain⟨t,q⟩:=Value.isInt_shape a;exact⟨t,by rw[q];rfl⟩
theorem pM(h:ElemsOf (intKind prog w) es)(a:e∈es)(k:Int):(intKind prog w).is k e.2=true↔L7 e.2=k:=by
 obtain⟨t,q⟩:=pL h a;rw[q];show Value.isInt k (.int _ t)=true↔_;simp[Value.isInt,L7]
theorem SetI.at(x:SetI prog w h a ks)(k:∀o,h.get? a=some o->b.get? a=some o):SetI prog w b a ks:=by
 obtain⟨o,es,d,t,c,r⟩:=x;exact⟨o,es,d,t,k o c,r⟩
theorem pN{h:Jj}(c:h.get? a=some o)(b:o.data=.set es ep t) :
  (h.update a (Obj.putSet es' t')).get? a=some {o with data:=.set es' (ep+1) t'}:=by
 have q:=V5 (Obj.putSet es' t') c (by rw[putSet_of es' t' b];rfl)
 rwa [putSet_of es' t' b]at q
theorem zJ{prog:Jo}{w:Jn}{A:Jp}{s:Jh}{a:Ji}{j:ge Int}{k:Int}{tk:Tok}{o:Obj}{ep:Nat}{t:Jw}(r:s.heap.get? a=some o)(q:o.ExactSet)(u:o.data=.set es ep t)
    (l:ElemsOf (intKind prog w) es.toList) (H:(es.toList.map λ e=>L7 e.2).Perm j) (hb:es.size+1<scanBound) (ht:Tab t (!A8 w))
     {d:Jw} (p1:c.toList.Perm (es.toList++[(hashInt k,Value.int k tk)])) (J:d.fits c.size=true) (x:Tab d (!A8 w)) (F:Bool) {g:Bool->Sem Unit}
    (I:∀(b:Bool) (f:Jh) (Q':Unit->Jh->Prop),Q' () f->wpAny JG A (g b) Q' E f)
    (h:∀m,Heap.SameBut a s.heap m->SetI prog w m a (j++[k])->Q (some true) {s with heap:=m}) :
    wpAny JG A (do
      storeSet a c d
      if(!F&&d.tooFull)=true then do
        g (relayAll d c (SetTable.grown c.size)).2.2
        storeSet a (relayAll d c (SetTable.grown c.size)).1 (relayAll d c (SetTable.grown c.size)).2.1
        pure (some true)
      else pure (some true)) Q E s:=by
  have z1:c.size=es.size+1:=(by have:=p1.length_eq;rw[o5,w6,w6]at this;exact this);have z:ElemsOf (intKind prog w) c.toList:=(l.push (intKind_is prog w k tk) rfl).perm p1;have p:(c.toList.map λ e=>L7 e.2).Perm (j++[k]):=(by refine(p1.map _).trans ?_;rw[t5];exact H.append_right _);have C:c.size<scanBound:=by omega
  refine d4 (wpAny_storeSet_of r u ?_ (ii C));have i:=pN (es':=c) (t':=d) r u;have n:=G4 s.heap a (Obj.putSet c d);split
  · have p2:=relayAll_perm d c (SetTable.grown c.size)
    have y:=relayAll_fits d c (SetTable.grown c.size);have v:=x.relayAll c (SetTable.grown c.size);generalize relayAll d c (SetTable.grown c.size)=R at p2 y v ⊢;have z2:R.1.size=c.size:=by
      have:=p2.length_eq
      rwa [w6,w6]at this
    have B:R.1.size<scanBound:=by omega
    refine d4 (I _ _ _ ?_);refine d4 (wpAny_storeSet_of i rfl ?_ (ii B));refine d9 (h _ (n.trans (G4 _ a _)) ?_);exact⟨_,R.1,_,R.2.1,pN i rfl,q,rfl,z.perm p2,(p2.map _).trans p,B,y,v⟩
  · refine d9 (h _ n ?_)
    exact⟨_,c,_,d,i,q,rfl,z,p,C,J,x⟩
theorem zK(Z:SetI prog w s.heap a ks)(hr:ks.length+1<scanBound)
  (h:∀n b,Heap.SameBut a s.heap n->SetI prog w n a (dk ks k)->Q b {s with heap:=n}) :
  wpAny JG A (setAddHashed a (.int k tk) (hashInt k)) Q E s:=by
 obtain⟨o,es,ep,t,B,W,F,f,u,Y,P,K⟩:=id Z;have hz:es.size=ks.length:=by
  have:=u.length_eq
  rwa [d7,w6]at this
 have M:∀(b:Bool) (d:Jh) (H:Unit->Jh->Prop),H () d->wpAny JG A (match b with | true=>rule "set.scan.the-table-gave-way" | false=>pure ()) H E d:=λ b d H q=>by
  cases b with
  | true=>exact au q
  | false=>exact d9 q
 unfold setAddHashed setAddHashedIn;refine C7 (d4 (Z8 B F P ?_));dsimp only;rw[byScan_of rfl Y f,d8 rfl];unfold setAddByScan;refine d4 (d4 (au (d4 ?_)));refine wpAny_setScan_of (intKind_is prog w k tk) B F P f ?_;cases O:es.toList.findIdx? _ with
 | some j=>
  obtain⟨N,X,_⟩:=List.findIdx?_eq_some_iff_getElem.mp O;have C:=u.mem_iff.mp (f9.mpr ⟨es.toList[j],T0 N,(pM f (T0 N) k).mp X⟩);have m:dk ks k=ks:=by unfold dk;rw[d8 C]
  refine d9 (d9 ?_);have:=h s.heap false (Heap.SameBut.refl a s.heap) (by grind);exact this
 | none=>
  have C:k∉ks:=λ z=>by obtain⟨e,R,q⟩:=f9.mp (u.mem_iff.mpr z);have:=List.findIdx?_eq_none_iff.mp O e R;rw[(pM f R k).mpr q]at this;cases this
  have m:dk ks k=ks++[k]:=(by unfold dk;rw[e8 C]);rw[m]at h;dsimp only;have p1:=layNew_perm t es (hashInt k) (.int k tk);have y:=layNew_fits t es (hashInt k) (.int k tk);have v:=K.layNew es (hashInt k) (.int k tk);show wpAny _ _ _ _ _ _
  change wpAny _ A (match layNew t es (hashInt k) (.int k tk)with | _=>_) _ _ _
  generalize layNew t es _ _=L at p1 y v ⊢;obtain⟨c,J,I,gv⟩:=L;rw[Array.toList_push]at p1;dsimp only at p1 y v ⊢;refine d4 (M gv _ _ ?_);have p:∀g:Jw,g.fits c.size=true->Tab g (!A8 w)->wpAny JG A (do
   storeSet a c g
   if(!I&&g.tooFull)=true then do
    (λ b:Bool=>match b with | true=>rule "set.scan.the-table-gave-way" | false=>pure ()) (relayAll g c (SetTable.grown c.size)).2.2
    storeSet a (relayAll g c (SetTable.grown c.size)).1 (relayAll g c (SetTable.grown c.size)).2.1
    pure (some true)
   else pure (some true)) (λ r U=>wpAny JG A (match r with | some l=>pure l | none=>setAddHashedIn a (.int k tk) (hashInt k) 99999) Q E U) E s:=λ g f2 g2=>
   zJ B W F f u Jy K p1 f2 g2 I M λ n S S'=>d9 (h n true S S')
  split
  ·refine d4 ?_;rw[hashByValue_scannable 8 rfl];refine d9 ?_;exact p J y v
  ·refine d4 (d9 ?_);exact p J y v
open PySem.Spec PyProof.Rows
def fm(val:Nat->Int)(i:Nat):ge Int:=((JJ i).map val).foldl dk []
theorem pO(a:Nat->Int)(i:Nat):fm a (i+1)=dk (fm a i) (a i):=by
 unfold fm;rw[dZ,t5,List.foldl_append];rfl
theorem fj(σ:ge Int)(k:Int):(dk σ k).length<=σ.length+1:=by
 unfold dk;split
 ·exact Q4 _
 ·rw[o5];exact f8 _
theorem pP(a:Nat->Int):∀i,(fm a i).length<=i
 | 0=>f8 _
 | i+1=>by rw[pO];exact e9 (fj _ _) (im (pP a i))
theorem SetI.moved(x:SetI prog w s.heap S ks)(b:Moved wr G s a)(c:S∉wr):SetI prog w a.heap S ks:=x.at λ o e=>b.heap S o c e
theorem zL{prog:Jo}{w:Jn}{A:Jp}{I:Ji}{n:Nat}{St:Nat->Jh->Prop}(W:WalksS prog w A.in1 I fp f G n P St)(S:Ji)(j:S∉fp)(val:Nat->Int)(g:∀i v,P i v->∃t,v=.int (val i) t)(d:n+1<scanBound) :
  ∀(k i:Nat) (s:Jh),i+k=n->St i s->SetI prog w s.heap S (fm val i) ->
   (∀a,Moved (S::f) G s a->SetI prog w a.heap S (fm val n)->R (.ok (.ret .none)) a)->codeAny JG A (.builtin "set.update.loop" ⟨[.ref S,.ref I],[]⟩) R s:=by
 have u:S∉f:=λ z=>j (W.sub S z);have r:∀b∈f,b∈S::f:=λ b z=>i7 S z;intro k
 induction k with
 | zero=>
  intro i s e st hs q;have e:i=n:=e;subst e;refine af nw ?_;rw[bf gR];show wpAny JG A.in1 (pyNext (.ref I) >>= _) _ _ s;refine d4 (W.done s _ _ st λ a h=>?_);show wpAny JG A.in1 (ret Value.none) _ _ a;exact d9 (q a (h.mono r) (hs.moved h u))
 | succ k C=>
  intro i s e st hs q;have H:i<n:=by omega
  refine af nw ?_;rw[bf gR];show wpAny JG A.in1 (pyNext (.ref I) >>= _) _ _ s;refine d4 (W.item i s _ _ H st λ v a J l h=>?_);obtain⟨t,E⟩:=g i v J;subst E;have m:=hs.moved h u;show wpAny JG A.in1 _ _ _ a;refine d4 (C7 ?_);unfold setAdd;refine C7 (d4 ((intKind prog w).pyHash (k:=val i) (intKind_is prog w (val i) t) ?_));have hl:=pP val i;refine zK (s:={a with toks:=a.toks+1}) (k:=val i) (tk:=t) m Jy λ x b y L=>?_;have c:∀b o,b≠S->a.heap.get? b=some o->x.get? b=some o:=λ b o d e=>by rw[y.2 b d];exact e
  refine d9 ⟨bw gR _,C (i+1) _ Jy (W.frame (i+1) a x _ l (Q4 _) λ b d o e=>c b o (λ z=>j (z▸d)) e) (by rw[pO];exact L) λ B p K=>?_⟩;refine q B (Moved.trans W.gtrans ((h.mono r).then_heap (Q4 _) λ b o d e=>c b o (λ z=>d (z▸i5)) e) p) K
noncomputable def set0(w:Jn):Obj:={cls:=.type "set",dict:=none,data:=.set #[] 0 (.fresh 0 0 (!A8 w))}
theorem zM(e:h.get? a=some (set0 w)):SetI prog w h a []:=
 ⟨_,#[],0,_,e,⟨rfl,rfl,rfl⟩,rfl,λ _ z=>by simp at z,by simp,by decide,by rfl,Tab.fresh _⟩
theorem zN(v:Jg)(h:Q (.ref s.heap.objs.size) {s with heap:=s.heap.push (set0 w)}) :
  codeAny JG A (.call (.builtin "set.__new__") ⟨[.type "set",v],[]⟩) (wants Q E) s:=by
 refine codeAny_of_tree ?_;show wpAny _ A.in1 _ _ _ s;refine d4 (ak (F.newCall_set_1 v) ?_);refine d9 ⟨bw F.plain_set_new _,af F.entry_set_new ?_⟩;rw[bf F.plain_set_new];unfold Builtin.«set.__new__» Builtin.Frozenset.newClass;have q:=sub_set_self;obtain⟨h0,g0,d0,t0,o0⟩:=s
 wp_walk
 refine aa (d9 ?_);simp[newObj];exact d4 (wpAny_alloc (d9 (d9 h)))
theorem zO{prog:Jo}{w:Jn}{A:Jp}{E:Jg->Jh->Prop}{s:Jh}{l:Ji}{items:Jl Jg}{ns:ge Int}{Q:Jg->Jh->Prop}(hh:A.handled=none)(hl:s.heap.IsList l items)(hi:IntsAre items.toList ns)(hb:items.size+1<scanBound)
  (h:∀h' tk,SetI prog w h' s.heap.objs.size (fm (λ i=>ns.getD i 0) items.size)->(∀b o,s.heap.get? b=some o->h'.get? b=some o)->Q (.ref s.heap.objs.size) {s with heap:=h',toks:=tk}) :
  wpAny JG A (call (.type "set") [.ref l]) Q E s:=by
 have m0:=F.called_set.mro;obtain⟨c0,r0,m1⟩:=m0;have m2:=F.called_set.made;have m3:=F.called_set.sub;have m4:=F.called_set.notType;have m5:=F.called_set.canCreate;have m6:=F.typeCall_set_1 (.ref l);refine wpAny_call (codeAny_of_tree ?_);show wpAny JG _ (callAny (.type "set") _) _ _ _;refine d9 ⟨Code.quiet_builtin _ (by decide +kernel),af F.entry_type_call ?_⟩;rw[Around.under_plain (weight_type_call_type "set" [.ref l] []) rfl]
 repeat (any_goals (first | assumption | wp_step))
 refine Q2 (zN (.ref l) (E:=E) (Q:=λ v s1=>v=.ref s.heap.objs.size/\s1 = {s with heap:=s.heap.push (set0 w)}) ⟨rfl,rfl⟩) λ r s1 q=>?_;cases r with
 | error e=>exact q
 | ok f=>
  cases f with
  | ret v=>
   obtain⟨e1,e2⟩:=q;subst e1;subst e2;have g0:(s.heap.push (set0 w)).get? s.heap.objs.size=some (set0 w):=o4 _ rfl;have ty:Shared.TypeIs {s with heap:=s.heap.push (set0 w)} (.ref s.heap.objs.size) "set":=⟨_,g0,rfl⟩;have n1:=F.called_set.init.lookup;have n2:=F.called_set.init.bind (.ref s.heap.objs.size)
   repeat (any_goals (first | assumption | wp_step))
   refine Q2 (codeAny_call_builtin (R:=wants (λ v s2=>v=.none/\∃h' tk,s2 = {s with heap:=h',toks:=tk} /\ SetI prog w h' s.heap.objs.size (fm (λ i=>ns.getD i 0) items.size) /\
     ∀b o,s.heap.get? b=some o->h'.get? b=some o) E) F.called_set.init.plain F.entry_set_init (check_set_init_1 ty ?_)) λ r2 s2 q2=>?_
   ·obtain⟨⟨k1,k2,k3,k4⟩,kl,kc,kn,kd⟩:=hl;dsimp only at kc kd;subst kc;subst kd;have kl':(s.heap.push (set0 w)).get? l=some {cls:=.type "list",dict:=k2,data:=.seq items kn,slots:=k4}:=g9 _ kl;have il:(s.heap.push (set0 w)).IsList l items:=⟨_,kl',rfl,kn,rfl⟩;have p1:=F.sub_list_set;have p2:=F.sub_list_frozenset;have p3:(Value.type "list" == Value.type "dict")=false:=by decide
    unfold Builtin.«set.__init__» noKeywords Builtin.Frozenset.updateFrom;generalize hP:pyIter=PI
    wp_walk
    subst hP;refine dN il (d4 (wpAny_runValue ?_));have l0:l<s.heap.objs.size:=j7 kl;have z1:(s.heap.push (set0 w)).objs.size=s.heap.objs.size+1:=G6 _ _;have a1:l≠(s.heap.push (set0 w)).objs.size:=by rw[z1];exact o6 (K8 l0)
    have a2:s.heap.objs.size∉[(s.heap.push (set0 w)).objs.size,l]:=by
     rw[z1];intro z;rcases g5.mp z with z | z
     ·exact absurd z (o6 (P8 _))
     ·exact absurd (r9.mp z) (Q1 l0)
    refine zL ((Walks.list (by show A.handled=none;exact hh) _ l a1 items).toS) s.heap.objs.size a2 (λ i=>ns.getD i 0) (λ i v e=>IntsAre.int_at hi i v (by rw[F6];exact e)) hb
     items.size 0 _ (T5 _) ⟨⟨_,o4 _ rfl,rfl,rfl⟩,il.push _⟩ (zM (g9 _ g0)) λ s3 hm S3=>?_
    obtain⟨h3,g3,d3,t3,o3⟩:=s3;have b1:g3=s.gens:=hm.gens;have b2:d3=s.drawn:=hm.drawn;have b3:o3=s.os:=hm.os;subst b1;subst b2;subst b3;show wpAny JG _ _ _ _ _;refine d9 ?_;show wpAny JG _ (ret Value.none) _ _ _;refine d9 ⟨rfl,h3,t3,rfl,S3,λ b o e=>?_⟩;have b4:=j7 e;refine hm.heap b o (λ z=>?_) (g9 _ (g9 _ e));rcases g5.mp z with z | z
    ·exact absurd z (o6 b4)
    ·have:=r9.mp z;rw[z1]at this;exact absurd this (o6 (K8 b4))
   ·cases r2 with
    | error e=>exact q2
    | ok f2=>
     cases f2 with
     | ret v2=>
      obtain⟨c1,h',tk,c2,c3,c4⟩:=q2;subst c1;subst c2
      repeat (any_goals (first | assumption | wp_step))
      exact h h' tk c3 c4
     | _=>exact q2.elim
  | _=>exact q.elim
def B8(h:Jj)(I a:Ji)(f:Jg)(i n ep:Nat):Prop:=∃o,h.get? I=some o/\o.cls=.type "set_iterator" /\ o.data=.fields #[f,.int i 0,.ref a,.int n 0,.int ep 0]
def F1(h:Jj)(a:Ji)(es:Jl (Int×Jg))(ep:Nat)(t:Jw):Prop:=∃o,h.get? a=some o/\o.ExactSet/\o.data=.set es ep t
theorem B8.typeIs{s:Jh}(x:B8 s.heap I a f i n ep):s.TypeIs (.ref I) "set_iterator":=let ⟨o,e,c,_⟩:=x;⟨o,e,c⟩
theorem B8.at(x:B8 h I a f i n ep)(k:∀o,h.get? I=some o->b.get? I=some o):B8 b I a f i n ep:=let ⟨o,e,c⟩:=x;⟨o,k o e,c⟩
theorem F1.at(x:F1 h a es ep t)(k:∀o,h.get? a=some o->b.get? a=some o):F1 b a es ep t:=let ⟨o,e,c⟩:=x;⟨o,k o e,c⟩
theorem F1.typeIs{s:Jh}(x:F1 s.heap a es ep t):s.TypeIs (.ref a) "set":=let ⟨o,e,c,_⟩:=x;⟨o,e,c.1⟩
theorem N1:Slot "set_iterator" "__next__" "set_iterator.__next__":=
 .of (owner:="set_iterator") (n:="__next__") (by rw[typeLookup_type,nQ];kernel_rfl) (by decide +kernel) (by decide +kernel) (by decide +kernel)
  (by first | exact .inl (by decide +kernel) | exact .inr (by decide +kernel)) (by rw[iC];kernel_rfl)
theorem fq:entryFor table "set_iterator.__next__" = some Builtin.«set_iterator.__next__»:=entryFor_of_tree (by kernel_rfl)
theorem fv(v:Jg):argsOk "set_iterator.__next__" ⟨[v],[]⟩:=by unfold argsOk;kernel_rfl
theorem zP:entryFor table "set.__iter__" = some Builtin.«frozenset.__iter__»:=entryFor_alias (id':="frozenset.__iter__") (by kernel_rfl) rfl (by decide +kernel) (by kernel_rfl)
theorem pQ{ep:Nat}{h:Jj}{i:Nat}{n:Nat}(e:h.get? I=some o)(c:o.cls=.type "set_iterator")(d:o.data=.fields #[f,.int i 0,.ref a,.int n 0,.int ep 0]) :
  B8 (h.update I (Obj.mapFields (·.setIfInBounds 1 (rawInt ((i:Int)+1))))) I a f (i+1) n ep:=by
 refine⟨_,V5 _ e (gX (Z5 d _)),(ie ..).trans c,?_⟩;rw[Z5 d];simp[rawInt]
theorem pR{ep:Nat}{h:Jj}(g:Jg){i:Nat}{n:Nat}(e:h.get? I=some o)(c:o.cls=.type "set_iterator")(d:o.data=.fields #[f,.int i 0,.ref a,.int n 0,.int ep 0]) :
  B8 (h.update I (Obj.mapFields (·.setIfInBounds 0 g))) I a g i n ep:=by
 refine⟨_,V5 _ e (gX (Z5 d _)),(ie ..).trans c,?_⟩;rw[Z5 d];simp
theorem pS{prog:Jo}{w:Jn}{A:Jp}{E:Jg->Jh->Prop}{s:Jh}{I a:Ji}{es:Jl (Int×Jg)}{ep:Nat}{t:Jw}{Q:on Jg->Jh->Prop}{slot i j:Nat}{x:Jg}(hI:B8 s.heap I a (.int slot 0) i es.size ep)(hS:F1 s.heap a es ep t)(hf:t.fits es.size=true)
  (hn:∀(A:Jp) (E':Jg->Jh->Prop) (Q':on (Jg×Nat)->Jh->Prop),Q' (some (x,j)) s->wpAny JG A (setNext a slot i ep) Q' E' s)
  (hQ:∀h',B8 h' I a (.int j 0) (i+1) es.size ep->Heap.SameBut I s.heap h'->Q (some x) {s with heap:=h'}):wpAny JG A (pyNext (.ref I)) Q E s:=by
 obtain⟨o,ho,hc,hd⟩:=id hI;obtain⟨p,hp,hx,hq⟩:=id hS;unfold pyNext;refine d4 (Q0 (M3 (name:=Str.ofString "__next__") hI.typeIs N1 (D5 N1 hI.typeIs fq ?_ (fv _))));unfold Builtin.«set_iterator.__next__»;refine d4 (d9 ?_);dsimp only;refine d4 (ah ho hd ?_);dsimp only;refine d4 (bg hp hq hf ?_);rw[show(((es.size:Nat):Int) != ((es.size:Nat):Int))=false by simp,e8 x0];simp only[v5];refine d4 (hn _ _ _ ?_);dsimp only;refine d4 (T2 ho hd JN ?_);have I1:=pR (ep:=ep) (rawInt j) ho hc hd;obtain⟨o1,ho1,hc1,hd1⟩:=id I1;refine d4 (T2 ho1 hd1 JN (d9 ⟨x,rfl,d9 (hQ _ (pQ ho1 hc1 hd1) ?_)⟩));exact(G4 ..).trans (G4 ..)
theorem pT{prog:Jo}{w:Jn}{A:Jp}{E:Jg->Jh->Prop}{s:Jh}{I a:Ji}{es:Jl (Int×Jg)}{ep:Nat}{t:Jw}{Q:on Jg->Jh->Prop}{slot i:Nat}(hh:A.handled=none)(hI:B8 s.heap I a (.int slot 0) i es.size ep)(hS:F1 s.heap a es ep t)(hf:t.fits es.size=true)
  (hn:∀(A:Jp) (E':Jg->Jh->Prop) (Q':on (Jg×Nat)->Jh->Prop),Q' none s->wpAny JG A (setNext a slot i ep) Q' E' s)
  (hQ:∀h',Heap.ExtBut I s.heap h'->Q none {s with heap:=h'}):wpAny JG A (pyNext (.ref I)) Q E s:=by
 obtain⟨o,ho,hc,hd⟩:=id hI;obtain⟨p,hp,hx,hq⟩:=id hS;unfold pyNext;refine d4 (Q0 (M3 (name:=Str.ofString "__next__") hI.typeIs N1 (D5 N1 hI.typeIs fq ?_ (fv _))));unfold Builtin.«set_iterator.__next__»;refine d4 (d9 ?_);dsimp only;refine d4 (ah ho hd ?_);dsimp only;refine d4 (bg hp hq hf ?_);rw[show(((es.size:Nat):Int) != ((es.size:Nat):Int))=false by simp,e8 x0];simp only[v5];refine d4 (hn _ _ _ ?_);dsimp only;refine d4 (T2 ho hd JN ?_);refine d4 ?_;simp only[newExc,newTuple];refine d4 (B7 ?_ (by size_fits));refine d4 (m:=firstArgMember _ _) (ak (a:=Value.none) (by first | rfl | (simp only[firstArgMember];rfl)) ?_);refine B7 ?_ (by size_fits);simp only[raiseNew];refine d4 (iG ?_);rw[show A.in1.handled=none from hh];refine d4 (d9 (wpAny_throw ?_));refine d4 (ab (T:="StopIteration") (b:=true) ⟨_,o4 _ rfl,rfl⟩ bt ?_);exact d9 (hQ _ (((G4 ..).extBut.push _).push _))
theorem zQ{k:Nat}(f:B8 s.heap I a (.ref q) i es.size ep)(B:F1 s.heap a es ep t)(l:t.fits es.size=true)(r:IsTup s.heap q ps)(u:ps[i]? = some (.int k 0))(n:es[k]? = some (z,x))
  (C:∀g,B8 g I a (.ref q) (i+1) es.size ep->Heap.SameBut I s.heap g->Q (some x) {s with heap:=g}):wpAny JG A (pyNext (.ref I)) Q E s:=by
 obtain⟨o,c,y,e⟩:=id f;obtain⟨p,j,m,h⟩:=id B;unfold pyNext;refine d4 (Q0 (M3 f.typeIs N1 (D5 N1 f.typeIs fq ?_ (fv _))));unfold Builtin.«set_iterator.__next__»;refine d4 (d9 ?_);refine d4 (ah c e ?_);refine d4 (bg j h l ?_);rw[show(_ != _)=false by simp,e8 x0];simp[v5];obtain⟨oq,b,v,nq,d⟩:=r;refine d4 (eA b d ?_);dsimp only;rw[u];unfold setNextDrawn;simp only[v5];refine d4 (d4 (Z8 j h l ?_));rw[show(ep != ep)=false by simp,e8 x0];rw[n];refine d9 ?_;refine d4 (T2 c e JN (d9 ⟨x,rfl,d9 (C _ (pQ c y e) (G4 ..))⟩))
theorem zR(v:A.handled=none)(j:B8 s.heap I a (.ref q) i es.size ep)(C:F1 s.heap a es ep t)(x:t.fits es.size=true)(l:IsTup s.heap q ps)(u:ps[i]? = none)
  (F:∀k,Heap.ExtBut I s.heap k->Q none {s with heap:=k}):wpAny JG A (pyNext (.ref I)) Q E s:=by
 obtain⟨o,e,B,h⟩:=id j;obtain⟨p,r,hx,n⟩:=id C;unfold pyNext;refine d4 (Q0 (M3 j.typeIs N1 (D5 N1 j.typeIs fq ?_ (fv _))));unfold Builtin.«set_iterator.__next__»;refine d4 (d9 ?_);dsimp only;refine d4 (ah e h ?_);dsimp only;refine d4 (bg r n x ?_);rw[show(((es.size:Nat):Int) != ((es.size:Nat):Int))=false by simp,e8 x0];simp only[v5];obtain⟨oq,c,y,nq,f⟩:=l;refine d4 (eA c f ?_);dsimp only;rw[u];dsimp only;refine d4 (T2 e h JN ?_);obtain⟨o1,d,z,g⟩:=pR (ep:=ep) (rawInt 0) e B h;refine d4 (T2 d g JN ?_);refine d4 ?_;simp only[newExc,newTuple];refine d4 (B7 ?_ (by size_fits));refine d4 (m:=firstArgMember _ _) (ak (a:=Value.none) (by first | rfl | (simp only[firstArgMember];rfl)) ?_);refine B7 ?_ (by size_fits);simp only[raiseNew];refine d4 (iG ?_);rw[show A.in1.handled=none from v];refine d4 (d9 (wpAny_throw ?_));refine d4 (ab (T:="StopIteration") (b:=true) ⟨_,o4 _ rfl,rfl⟩ bt ?_);exact d9 (F _ ((((G4 ..).trans (G4 ..)).extBut.push _).push _))
section
variable {prog:Jo} {w:Jn} {A:Jp} {E:Jg->Jh->Prop} {s:Jh} {I a:Ji} {es:Jl (Int×Jg)} {ep:Nat} {t:Jw}
theorem pU(d:A8 w=true)(g:F1 s.heap a es ep t)(f:t.fits es.size=true)
  (h:Q (((pickOrder (w.params.setOrder a ep) es)[i]?).map λ e=>(e.2,slot)) s):wpAny JG A (setNext a slot i ep) Q E s:=by
 obtain⟨p,c,hx,b⟩:=id g;unfold setNext;refine d4 (Z8 c b f ?_);dsimp only;unfold setsByText;refine d4 (d4 (aa (d9 ?_)));show wpAny _ A (if A8 w=true then _ else _) Q E s;rw[d8 d];rw[show(ep != ep)=false by simp,e8 x0];refine d4 ?_;unfold setWalk;refine d4 (Z8 c b f ?_);dsimp only;unfold setsByText;refine d4 (d4 (aa (d9 ?_)));show wpAny JG A (if A8 w=true then _ else _) _ E s;rw[d8 d];exact d4 (aa (d9 (d9 h)))
theorem pV(d:A8 w=false)(g:(!t.plain&&decide (es.size>1))=false)(e:t.led=true)(k:F1 s.heap a es ep t)(f:t.fits es.size=true)
  (h:Q (match es[SetTable.below t.place slot]?,t.place[SetTable.below t.place slot]? with | some (_,x),some j=>some (x,j+1) | _,_=>none) s):wpAny JG A (setNext a slot i ep) Q E s:=by
 obtain⟨p,c,hx,b⟩:=id k;unfold setNext;refine d4 (Z8 c b f ?_);dsimp only;unfold setsByText;refine d4 (d4 (aa (d9 ?_)));show wpAny _ A (if A8 w=true then _ else _) Q E s;rw[e8 (by rw[d];exact x0)];show wpAny _ A (if(!t.plain&&decide (es.size>1))=true then _ else _) Q E s;rw[g,e8 x0];refine d4 ?_;show wpAny JG A (if(!t.led && !es.isEmpty)=true then _ else _) _ E s;rw[e];exact d9 (d9 h)
theorem zS:∀(n:Nat) (a:ge e) (s:Jh),a.length=n->(∀l d,l.Perm a->Q l {s with drawn:=d})->wpAny JG A (drawOrder n a) Q E s:=by
 intro n
 induction n generalizing Q with
 | zero=>
  intro a s c h;have:=S2.mp c;subst this;exact d9 (h [] s.drawn .rfl)
 | succ n g=>
  intro a s c h;cases a with
  | nil=>cases c
  | cons y r=>
   show wpAny _ A _ Q E s;have b:∀i,i<(y::r).length->wpAny _ A (match _[i]? with
     | some x=>do return x::(←drawOrder n ((y::r).eraseIdx i))
     | none=>unsupported "internal:drawOrder") Q E {s with drawn:=s.drawn.bump .order}:=λ i f=>by
    rw[(j6 f)];refine d4 (g _ _ (by grind) λ l d p=>d9 (h _ d ?_));exact(List.Perm.cons _ p).trans (js f rfl)
   refine d4 λ Γ p j=>⟨by simp,?_⟩;exact b _ (Nat.mod_lt _ JN)
noncomputable def fw(f:Jg)(a:Ji)(n ep:Nat):Obj:={cls:=.type "set_iterator",data:=.fields #[f,.int 0 0,.ref a,.int n 0,.int ep 0]}
noncomputable def fx(l:ge Nat):Obj:={cls:=.type "tuple",data:=.seq (l.map λ (i:Nat)=>Value.int i 0).toArray}
theorem jt{h:Jj}:B8 (h.push (fw f a n ep)) h.objs.size a f 0 n ep:=⟨_,o4 _ rfl,rfl,rfl⟩
theorem zT(h:F1 s.heap a es ep t)(f:t.fits es.size=true)(hb:es.size<=sizeLine)
  (m:(!A8 w&&(!t.plain&&decide (es.size>1)))=false->Q (.ref s.heap.objs.size) {s with heap:=s.heap.push (fw (.int 0 0) a es.size ep)})
  (k:∀l d,A8 w=false->l.Perm (JJ es.size)->Q (.ref (s.heap.objs.size+1)) {s with heap:=(s.heap.push (fx l)).push (fw (.ref s.heap.objs.size) a es.size ep),drawn:=d}) :
  wpAny JG A (pyIter (.ref a)) Q E s:=by
 obtain⟨p,c,hx,b⟩:=id h;refine dP h.typeIs F.slot_set_iter (D5 F.slot_set_iter h.typeIs zP ?_ (F.args_set_iter_1 _));unfold Builtin.«frozenset.__iter__» Builtin.Frozenset.slot0 slotArgs;simp only[List.isEmpty_nil,Bool.not_true,K6,↓reduceIte,bind_assoc,ee,bne_self_eq_false];unfold Builtin.Frozenset.addrOf Builtin.Frozenset.sizeOf;refine d4 (d9 ?_)
 try refine d4 (d9 ?_)
 refine d4 (d4 (bg c b f (d9 ?_)));unfold setDrawn;refine d4 (d4 (Z8 c b f ?_));unfold setsByText;refine d4 (d4 (aa (d9 (d9 ?_))));show wpAny _ _ (if(!A8 w&&(!t.plain&&decide _))=true then _ else _) _ _ _;by_cases g:(!A8 w&&(!t.plain&&decide (es.size>1)))=true
 ·rw[d8 g];have j:A8 w=false:=by
   cases e:A8 w with
   | false=>rfl
   | true=>rw[e]at g;cases g
  refine d4 (zS es.size _ s (o9) λ l d i=>?_);have hl:l.length=es.size:=by rw[i.length_eq,o9]
  unfold newTuple;refine d4 (B7 ?_ (by show(l.map _).toArray.size<=_;simp;omega));refine d4 (wpAny_setEpoch_of (g9 _ c) b f ?_);refine d4 (B7 (d9 ⟨_,rfl,"set_iterator",_,⟨_,o4 _ rfl,rfl⟩,N1.lookup,?_⟩));have:=k l d j i;rw[←(G6 _ _)]at this;exact this
 ·rw[e8 g];refine d4 (d9 ?_);refine d4 (wpAny_setEpoch_of c b f ?_);refine d4 (B7 (d9 ⟨_,rfl,"set_iterator",_,⟨_,o4 _ rfl,rfl⟩,N1.lookup,?_⟩));exact m (by grind)
end
section
variable {prog:Jo} {w:Jn} {A:Jp} {E:Jg->Jh->Prop} {s:Jh} {I a:Ji} {es:Jl (Int×Jg)} {ep:Nat} {t:Jw}
abbrev Nx(prog:Jo)(w:Jn)(I:Ji)(fp:ge Ji)(n:Nat)(ws:ge Jg)(St:Nat->Jj->Prop):Prop:=
 ∀A:Jp,A.handled=none->WalksS prog w A I fp [I] (λ a b=>b=a) n (λ i v=>ws[i]? = some v) (λ i s=>St i s.heap)
theorem ju {fp : ge Ji} {n : Nat} {ws : ge Jg} {St : Nat -> Jj -> Prop} (hI : I ∈ fp) (hz : ws.length = n)
    (fr : ∀ i h h', St i h -> (∀ b ∈ fp, ∀ o, h.get? b = some o -> h'.get? b = some o) -> St i h')
    (it : ∀ (A : Jp) (E : Jg -> Jh -> Prop) (Q : on Jg -> Jh -> Prop) (s : Jh) i v, A.handled = none -> ws[i]? = some v -> St i s.heap -> (∀ h', St (i + 1) h' -> Heap.SameBut I s.heap h' -> Q (some v) { s with heap := h' }) -> wpAny JG A (pyNext (.ref I)) Q E s)
    (dn : ∀ (A : Jp) (E : Jg -> Jh -> Prop) (Q : on Jg -> Jh -> Prop) (s : Jh), A.handled = none -> St n s.heap -> (∀ h', Heap.ExtBut I s.heap h' -> Q none { s with heap := h' }) -> wpAny JG A (pyNext (.ref I)) Q E s)
    (sf : ∀ (A : Jp) (E : Jg -> Jh -> Prop) (Q : Jg -> Jh -> Prop) (s : Jh) i, St i s.heap -> Q (.ref I) s -> wpAny JG A (pyIter (.ref I)) Q E s) : Nx prog w I fp n ws St := λ A hh =>
  { sub := λ b hb => by rw [r9.mp hb]; exact hI
    grefl := λ _ => rfl
    gtrans := λ _ _ _ h1 h2 => h2.trans h1
    frame := λ i s h' tk st _ k => fr i s.heap h' st k
    item := λ i s Q E hi st hQ => by have hg : ws[i]? = some ws[i] := j6 Jy;exact it A E Q s i _ hh hg st λ h' st' sb => hQ _ _ hg st' ⟨λ b o hb e => sb.extBut b o (λ z => hb (r9.mpr z)) e, rfl, rfl, rfl, f8 _⟩
    done := λ s Q E st hQ => dn A E Q s hh st λ h' eb => hQ _ ⟨λ b o hb e => eb b o (λ z => hb (r9.mpr z)) e, rfl, rfl, rfl, f8 _⟩
    self := λ i s Q E st hQ => sf A E Q s i st hQ }
theorem fy{a:Jj}(c:Heap.SameBut I h a)(d:b≠I):∀o,h.get? b=some o->a.get? b=some o:=λ o e=>c.extBut b o d e
theorem pW:Slot "set_iterator" "__iter__" "set_iterator.__iter__":=
 .of (owner:="set_iterator") (n:="__iter__") (by rw[typeLookup_type,nQ];kernel_rfl) (by decide +kernel) (by decide +kernel) (by decide +kernel)
  (by first | exact .inl (by decide +kernel) | exact .inr (by decide +kernel)) (by rw[iC];kernel_rfl)
theorem zU:entryFor table "set_iterator.__iter__" = some Builtin.«dict_keyiterator.__iter__»:=entryFor_alias (id':="dict_keyiterator.__iter__") (by kernel_rfl) rfl (by decide +kernel) (by kernel_rfl)
theorem zV(v:Jg):argsOk "set_iterator.__iter__" ⟨[v],[]⟩:=by unfold argsOk;kernel_rfl
theorem jv(b:B8 s.heap I a f i n ep)(h:Q (.ref I) s):wpAny JG A (pyIter (.ref I)) Q E s:=by
 refine dP b.typeIs pW (D5 pW b.typeIs zU ?_ (zV _));show wpAny _ _ _ _ _ s;exact d9 ⟨_,rfl,"set_iterator",_,b.typeIs,N1.lookup,h⟩
theorem zW(l:A8 w=true)(c:t.fits es.size=true)(f:a≠I) :
  Nx prog w I [I,a] es.size ((pickOrder (w.params.setOrder a ep) es).toList.map (·.2)) (λ i h=>B8 h I a (.int (0:Nat) 0) i es.size ep/\F1 h a es ep t):=by
 have hz:(pickOrder (w.params.setOrder a ep) es).size=es.size:=by
  have:=(pK (w.params.setOrder a ep) es).length_eq
  rwa [w6,w6]at this
 refine ju JN (by grind) (λ i h n st k=>⟨st.1.at (k I JN),st.2.at (k a JN)⟩) (λ A E Q s i v m b st g=>?_) (λ A E Q s m st g=>?_) λ A E Q s i st h=>jv st.1 h
 ·obtain⟨e,he,hev⟩:∃e,(pickOrder (w.params.setOrder a ep) es)[i]? = some e/\e.2=v:=by
   rw[o8,F6]at b;cases q:(pickOrder _ es)[i]? with
   | none=>rw[q]at b;cases b
   | some e=>rw[q]at b;cases b;exact⟨e,rfl,rfl⟩
  refine pS st.1 st.2 c (λ A p o q=>pU l st.2 c (by rwa [he,D7,hev])) λ n d j=>?_;exact g n ⟨d,st.2.at (fy j f)⟩ j
 ·refine pT m st.1 st.2 c (λ A p o q=>pU l st.2 c (by grind)) g
noncomputable def bN(t:Jw):Nat->Nat
 | 0=>0
 | i+1=>t.place.getD i 0+1
theorem pX(a:Rise t.place):∀{i:Nat},i<=t.place.size->SetTable.below t.place (bN t i)=i
 | 0,_=>zE a
 | i+1,h=>by have b:t.place[i]? = some t.place[i]:=K3 Jy;show SetTable.below t.place (t.place.getD i 0+1)=i+1;rw[R8,b];exact zD a b
theorem zX(g:A8 w=false)(y:(!t.plain&&decide (es.size>1))=false)(f:Tab t (!A8 w))(b:t.fits es.size=true)(l:a≠I) :
  Nx prog w I [I,a] es.size (es.toList.map (·.2)) (λ i h=>B8 h I a (.int (bN t i:Nat) 0) i es.size ep/\F1 h a es ep t/\i<=es.size):=by
 have p:t.led=true:=by rw[f.led,g];rfl
 have hz:t.place.size=es.size:=(by unfold SetTable.fits at b;rw[d6]at b;exact f7.mp b.1);refine ju JN (by rw[d7,w6]) (λ i h B st k=>⟨st.1.at (k I JN),st.2.1.at (k a JN),st.2.2⟩) (λ A E Q s i v r c st n=>?_) (λ A E Q s r st n=>?_) λ A E Q s i st h=>jv st.1 h
 ·obtain⟨z,he⟩:∃z,es[i]? = some (z,v):=by
   rw[o8,F6]at c;cases q:es[i]? with
   | none=>rw[q]at c;cases c
   | some e=>rw[q]at c;cases c;exact⟨e.1,rfl⟩
  have F:i<es.size:=by
   rcases Q3 i es.size with h | h
   ·exact h
   ·rw[K5 h]at he;cases he
  have u:t.place[i]? = some t.place[i]:=K3 Jy;have m:=pX f.rise (i:=i) Jy;have C:bN t (i+1)=t.place[i]+1:=(by show t.place.getD i 0+1=_;rw[R8,u];rfl);refine pS (slot:=bN t i) (j:=bN t (i+1)) (x:=v) st.1 st.2.1 b (λ A J H q=>pV g y p st.2.1 b (by rw[m,he,u];rw[C]at q;exact q)) λ B d o=>?_;exact n B ⟨d,st.2.1.at (fy o l),F⟩ o
 ·have m:=pX f.rise (i:=es.size) Jy;refine pT r st.1 st.2.1 b (λ A J H q=>pV g y p st.2.1 b (by rw[m,K5 (f8 _)];exact q)) n
theorem zY{l:ge Nat}(n:l.Perm (JJ es.size))(u:t.fits es.size=true)(g:a≠I)(B:q≠I) :
  Nx prog w I [I,a,q] es.size (l.map λ i=>(es.getD i (0,.none)).2) (λ i h=>B8 h I a (.ref q) i es.size ep/\F1 h a es ep t/\IsTup h q (l.map λ (i:Nat)=>Value.int i 0).toArray):=by
 have hl:l.length=es.size:=by rw[n.length_eq,o9]
 refine ju JN (by grind) (λ i h z st k=>⟨st.1.at (k I JN),st.2.1.at (k a JN),let ⟨o,e,r⟩:=st.2.2;⟨o,k q JN o e,r⟩⟩) (λ A E Q s i v p b st m=>?_) (λ A E Q s p st m=>?_) λ A E Q s i st h=>jv st.1 h
 ·obtain⟨k,hk,hkv⟩:∃k,l[i]? = some k/\(es.getD k _).2=v:=by
   rw[o8]at b;cases q:l[i]? with
   | none=>rw[q]at b;cases b
   | some k=>rw[q]at b;cases b;exact⟨k,rfl,rfl⟩
  have j:=(by have:=n.mem_iff.mp (Z3.mpr ⟨i,hk⟩);exact i6.mp this);have y:=K3 j;have f:es[k].2=v:=(by rw[←hkv,R8,y];rfl);refine zQ (x:=v) st.1 st.2.1 u st.2.2 (by rw[←F6,List.toList_toArray,o8,hk];rfl) (by rw[y,←f]) λ z c d=>?_;exact m z ⟨c,st.2.1.at (fy d g),let ⟨o,e,r⟩:=st.2.2;⟨o,fy d B o e,r⟩⟩ d
 ·refine zR p st.1 st.2.1 u st.2.2 (K5 (by grind)) m
end
section
variable {prog:Jo} {w:Jn} {A:Jp} {E:Jg->Jh->Prop} {s:Jh} {I a:Ji} {es:Jl (Int×Jg)} {ep:Nat} {t:Jw} {ks:ge Int}
theorem Aa(d:s.TypeIs (.ref a) "set")(h:Q false s):wpAny JG A (Builtin.List.listLengthHint (.ref a)) Q E s:=by
 unfold Builtin.List.listLengthHint;refine d4 (iw d F.slot_set_len.lookup ?_);generalize c:("set.__len__" : Jx)=id0
 wp_delta
 rw[show splitId id0=some ("set","__len__")from by subst c;decide +kernel];subst c;refine d4 (ab (b:=true) d (by rw[iC];kernel_rfl) ?_);refine iy (λ z=>absurd z Jz) λ _=>?_
 refine iy (λ _=>?_) λ z=>absurd (by decide +kernel) z;exact d4 (eG d (d9 h))
theorem pY{S:Ji}{fp:ge Ji}{n c0:Nat}{ws:ge Jg}{St:Nat->Jj->Prop}{c:Bool->Bool}{s1:Jh}{res:Jg}{R:Result->Jh->Prop}{EE:Jg->Jh->Prop}(W:Nx prog w I fp n ws St)(hh:A.handled=none)(hn:n<=sizeLine)(hSf:S∉fp)
  (hT:s1.TypeIs (.ref a) "set") (st:St 0 s1.heap) (hS:s1.heap.get? S=some {cls:=.type "list",data:=.seq #[] c0})
  (hR:∀h' tk acc c',(∀b o,b≠S->b≠I->s1.heap.get? b=some o->h'.get? b=some o)->h'.get? S=some {cls:=.type "list",dict:=none,data:=.seq acc c',slots:=#[]} -> acc.toList=ws->R (.ok (.ret res)) {s1 with heap:=h',toks:=tk}) (hw:ws.length=n) :
  wpAny JG A.in1 (do
   let room ←holding [Value.ref I] (Builtin.List.listLengthHint (.ref a))
   if c room=true then do
    rule "list.extend.makes-room"
    Builtin.List.listTouch (.ref S)
    again (.builtin "list.extend.loop" ⟨[.ref S,.ref I,res],[]⟩)
   else again (.builtin "list.extend.loop" ⟨[.ref S,.ref I,res],[]⟩))
   (λ fin s'=>match fin with | .done f=>R (.ok f) s' | .again c'=>c'.quiet=true/\codeAny JG A c' R s') EE s1:=by
 have loop:∀(h:Jj) (c1 tk:Nat),St 0 h->(∀b o,b≠S->s1.heap.get? b=some o->h.get? b=some o)->h.get? S=some {cls:=.type "list",data:=.seq #[] c1} ->
   codeAny JG A (.builtin "list.extend.loop" ⟨[.ref S,.ref I,res],[]⟩) R {s1 with heap:=h,toks:=tk}:=λ h c1 tk st1 k e=>by
  refine codeAny_extend_loopS (W A.in1 hh) hn S hSf res n 0 _ #[] c1 rfl (v9 _) st1 e (ItemsOf.nil _) λ s' acc c' hm e' ac=>?_;have b1:s' = {s1 with heap:=s'.heap,toks:=s'.toks}:=(by have q1:s'.gens=s1.gens:=hm.gens;have q2:s'.drawn=s1.drawn:=hm.drawn;have q3:s'.os=s1.os:=hm.os;obtain⟨h',g',d',t',o'⟩:=s';dsimp only at q1 q2 q3;subst q1;subst q2;subst q3;rfl);rw[b1];refine hR s'.heap s'.toks acc c' (λ b o hb hi q=>hm.heap b o (λ z=>?_) (k b o hb q)) e' ?_
  ·rcases g5.mp z with z | z
   ·exact hb z
   ·exact hi (r9.mp z)
  ·refine ij λ j=>?_;by_cases hj:j<n
   ·have hj':j<acc.size:=by rw[ac.1];exact hj
    have q1:acc[j]? = some acc[j]:=K3 hj';rw[F6,q1];exact(ac.2 j _ q1).symm
   ·rw[S4 (by rw[w6,ac.1];omega),S4 Jy]
 refine d4 (C7 (Aa hT ?_));refine iy (λ _=>?_) λ _=>d9 ⟨bw F.plain_extend_loop _,loop s1.heap c0 s1.toks st (λ b o _ e=>e) hS⟩;refine d4 (au (d4 ?_));show wpAny JG A.in1 (updateSeq S (·.push .none) >>= λ _=>updateSeq S (·.pop)) _ _ _;refine d4 (wpAny_updateSeq hS rfl ?_);have e2:=V5 (Obj.mapSeq (·.push Value.none)) hS rfl;refine wpAny_updateSeq (hz:=by seq_fits) e2 rfl ?_;have e3:=V5 (Obj.mapSeq (·.pop)) e2 rfl;have oth:∀b o,b≠S->s1.heap.get? b=some o->((s1.heap.update S (Obj.mapSeq (·.push Value.none))).update S (Obj.mapSeq (·.pop))).get? b=some o:=λ b o hb e=>
  (di _ _ (Ne.symm hb)).trans ((di _ _ (Ne.symm hb)).trans e)
 refine d9 ⟨bw F.plain_extend_loop _,loop _ _ s1.toks ?_ oth e3⟩;exact(W A.in1 hh).frame 0 s1 _ s1.toks st (f8 _) λ b hb o e=>oth b o (λ z=>hSf (z▸hb)) e
def EndC(s:Jh)(a:Ji)(ws:ge Jg)(I:Ji)(d:Drawn)(r:Result)(s':Jh):Prop:=
 ∃h' tk acc c',r=.ok (.ret (.ref s.heap.objs.size))/\s' = {s with heap:=h',toks:=tk,drawn:=d} /\ h'.get? s.heap.objs.size=some {cls:=.type "list",dict:=none,data:=.seq acc c',slots:=#[]} /\ acc.toList=ws /\
  ∀b o,b≠s.heap.objs.size->b≠I->s.heap.get? b=some o->h'.get? b=some o
theorem Ab(hh:A.handled=none)(hS:SetI prog w s.heap a ks)
  (h:∀K m g d,IntsAre K (K.map L7)->(K.map L7).Perm ks->(∀b o,s.heap.get? b=some o->m.get? b=some o)->s.heap.objs.size<m.objs.size->Q K {s with heap:=m,toks:=g,drawn:=d}):wpAny JG A (collect (.ref a)) Q E s:=by
 obtain⟨o,es,P,t,ho,hx,hd,a2,hp,hb,hf,ht⟩:=id hS;have hz:es.size<=sizeLine:=ii hb;have M:∀K:ge Jg,K.Perm (es.toList.map (·.2))->IntsAre K (K.map L7)/\(K.map L7).Perm ks:=λ K p=>by
  refine⟨?_,(p.map _).trans (by rw[k6];exact hp)⟩;have all:∀v∈K,∃g,v=.int (L7 v) g:=λ v hv=>by obtain⟨e,he,q⟩:=f9.mp (p.mem_iff.mp hv);obtain⟨g,y⟩:=pL a2 he;exact⟨g,by rw[←q];exact y⟩
  clear p
  induction K with
  | nil=>exact .nil
  | cons v r ih=>
   obtain⟨g,e⟩:=all v (i5 ..);rw[t9];have q:=ih λ u hu=>all u (i7 _ hu)
   generalize hn:L7 v=n at e;subst e;exact .cons n g q
 have L:a<s.heap.objs.size:=j7 ho;unfold collect;refine d4 (wpAny_runValue (af F.entry_proto_collect ?_));rw[bf F.plain_proto_collect];show wpAny JG A.in1 _ _ _ s;refine d4 (B7 ?_);refine d9 ⟨bw F.plain_list_iadd _,af F.entry_list_iadd ?_⟩;rw[bf F.plain_list_iadd];have a0:(JC).get? s.heap.objs.size=some {cls:=.type "list",data:=.seq ([]:ge Jg).toArray}:=o4 _ rfl;have O:F1 JC a es P t:=⟨o,g9 _ ho,hx,hd⟩;show wpAny JG A.in1 (Builtin.List.listExtendWith (.ref s.heap.objs.size) (.ref a) (.ref s.heap.objs.size)) _ _ _;unfold Builtin.List.listExtendWith;refine d4 (eG (T:="set") ⟨o,g9 _ ho,hx.1⟩ ?_);have h1:Builtin.List.listSameRef (.ref s.heap.objs.size) (.ref a)=false:=(by unfold Builtin.List.listSameRef;exact A4.mpr (Q1 L));have h2:(Value.type "set" == Value.type "list")=false:=by decide
 have h3:(Value.type "set" == Value.type "tuple")=false:=by decide
 simp only[h1,h2,h3,Bool.or_false,K6,if_false];refine d4 (zT (t:=t) O hf hz ?_ ?_)
 ·intro a1;have N:a≠(JC).objs.size:=by rw[G6];exact o6 (K8 L)
  have X:s.heap.objs.size∉[(JC).objs.size,a]:=λ z=>by
   rw[G6]at z;rcases g5.mp z with z | z
   ·exact absurd z (o6 (P8 _))
   ·exact absurd (r9.mp z) (Q1 L)
  obtain⟨S,St,p,W,st⟩:∃S St,S.Perm (es.toList.map (·.2))/\Nx prog w (s.heap.push {cls:=.type "list",data:=.seq ([]:ge Jg).toArray}).objs.size _ es.size S St /\
    St 0 _:=by
   by_cases I:A8 w=true
   ·exact⟨_,_,(pK _ es).map _,zW (t:=t) (ep:=P) I hf N,jt,O.at λ _=>g9 _⟩
   ·have I:A8 w=false:=by simpa using I
    rw[I]at a1;exact⟨_,_,.rfl,zX (ep:=P) I (by grind) ht hf N,jt,O.at λ _=>g9 _,v9 _⟩
  refine B1 (pY (A:=A) (a:=a) (c0:=0) (R:=EndC s a S (JC).objs.size s.drawn)
   W hh hz X ⟨o,g9 _ (g9 _ ho),hx.1⟩ st (g9 _ a0) (λ m g c B k e Z=>⟨m,g,c,B,rfl,rfl,e,Z,λ b u h1 h2 q=>k b u h1 h2 (g9 _ (g9 _ q))⟩) (by rw[p.length_eq,d7,w6])) ?_ λ _ _ e=>e
  have x:∀r H,EndC s a S (JC).objs.size s.drawn r H->∃m g c B,r=.ok (.ret (.ref s.heap.objs.size))/\H = {s with heap:=m,toks:=g} /\ m.get? s.heap.objs.size=some {cls:=.type "list",dict:=none,data:=.seq c B,slots:=#[]} /\ Q c.toList H:=λ r H ⟨m,g,c,B,J,y,e,Z,k⟩=>by obtain⟨q1,q2⟩:=M S p;refine⟨m,g,c,B,J,y,e,?_⟩;rw[Z,y];refine h S m g s.drawn q1 q2 (λ b u q=>k b u (o6 (j7 q)) ?_ q) (j7 e);rw[G6];exact o6 (K8 (j7 q))
  intro Y H C;cases Y with
  | done f=>
   obtain⟨m,g,c,B,J,y,e,U⟩:=x _ _ C;cases J;subst y;exact d4 (bB e (d9 U))
  | again B=>
   refine⟨C.1,Q2 C.2 λ r H hr=>?_⟩;obtain⟨m,g,c,B,J,y,e,U⟩:=x _ _ hr;subst J;subst y;exact d4 (bB e (d9 U))
 ·intro l d I pl;have z1:(JC).objs.size=s.heap.objs.size+1:=G6 _ _;have hl:l.length=es.size:=by rw[pl.length_eq,o9]
  have p:(l.map λ i=>(es.getD i (0,.none)).2).Perm (es.toList.map (·.2)):=by
   refine(pl.map _).trans (List.Perm.of_eq ?_);refine ij λ j=>?_;have J:es.toList[j]? = es[j]?:=F6;rw[o8,o8,J];by_cases hj:j<es.size
   ·rw[dB hj,D7,R8,K3 hj];rfl
   ·have y:(JJ es.size)[j]? = none:=S4 (by grind);rw[y,K5 Jy];rfl
  have N:a≠(JC).objs.size+1:=by rw[z1];exact o6 (K8 (K8 L))
  have X:s.heap.objs.size∉[(JC).objs.size+1,a,(JC).objs.size]:=λ z=>by
   rw[z1]at z;rcases g5.mp z with z | z
   ·exact absurd z (o6 (K8 (P8 _)))
   ·rcases g5.mp z with z | z
    ·exact absurd z (Q1 L)
    ·exact absurd (r9.mp z) (o6 (P8 _))
  have W:=zY (prog:=prog) (w:=w) (ep:=P) (t:=t) pl hf N (o6 (P8 _));have hI:B8 (((JC).push (fx l)).push (fw (.ref (JC).objs.size) a es.size P))
    ((JC).objs.size+1) a (.ref (JC).objs.size) 0 es.size P:=by
   have:=jt (a:=a) (ep:=P) (h:=(JC).push (fx l)) (f:=.ref (JC).objs.size) (n:=es.size);have z2:((JC).push (fx l)).objs.size=(JC).objs.size+1:=G6 _ _;rw[z2]at this;exact this
  refine B1 (pY (A:=A) (a:=a) (c0:=0) (R:=EndC s a (l.map λ i=>(es.getD i (0,.none)).2) ((JC).objs.size+1) d)
   W hh hz X ⟨o,g9 _ (g9 _ (g9 _ ho)),hx.1⟩ ⟨hI,O.at λ _ e=>g9 _ (g9 _ e),⟨_,g9 _ (o4 _ rfl),rfl,_,rfl⟩⟩ (g9 _ (g9 _ a0)) (λ m g c B k e Z=>⟨m,g,c,B,rfl,rfl,e,Z,λ b u h1 h2 q=>k b u h1 h2 (g9 _ (g9 _ (g9 _ q)))⟩) (by grind)) ?_ λ _ _ e=>e
  have x:∀r H,EndC s a (l.map λ i=>(es.getD i (0,.none)).2) ((JC).objs.size+1) d r H->∃m g c B,r=.ok (.ret (.ref s.heap.objs.size))/\H = {s with heap:=m,toks:=g,drawn:=d} /\ m.get? s.heap.objs.size=some {cls:=.type "list",dict:=none,data:=.seq c B,slots:=#[]} /\ Q c.toList H:=λ r H ⟨m,g,c,B,J,y,e,Z,k⟩=>by obtain⟨q1,q2⟩:=M _ p;refine⟨m,g,c,B,J,y,e,?_⟩;rw[Z,y];refine h _ m g d q1 q2 (λ b u q=>k b u (o6 (j7 q)) ?_ q) (j7 e);rw[z1];exact o6 (K8 (K8 (j7 q)))
  intro Y H C;cases Y with
  | done f=>
   obtain⟨m,g,c,B,J,y,e,U⟩:=x _ _ C;cases J;subst y;exact d4 (bB e (d9 U))
  | again B=>
   refine⟨C.1,Q2 C.2 λ r H hr=>?_⟩;obtain⟨m,g,c,B,J,y,e,U⟩:=x _ _ hr;subst J;subst y;exact d4 (bB e (d9 U))
theorem Ac(B:A.handled=none)(F:SetI prog w s.heap a ks)(H:ks.length<64)
  (h:∀k g d p c f e,(∀b o,s.heap.get? b=some o->k.get? b=some o)->s.heap.objs.size<=p->k.get? p=some (seqObj "list" c e)->IntsAre c.toList f->f.Perm ks->f.Pairwise (· <= ·)->Q (.ref p) {s with heap:=k,toks:=g,drawn:=d}) :
  wpAny JG A (call (.builtin "sorted") [.ref a]) Q E s:=by
 refine Calls.call_function_entry kind_sorted plain_sorted entry_sorted (args_sorted1 _) ?_
 unfold Builtin.«sorted»;refine d4 (d9 ?_);refine d4 (Ab (B) F λ c n g d y p1 l r=>?_);have z:c.length<64:=by have:=p1.length_eq;rw[d7]at this;omega
 refine d4 (iH ?_ (by rw[G8];omega));have j:(n.push (seqObj "list" c.toArray 0)).get? n.objs.size=some _:=o4 _ rfl;refine d4 (C7 (D5 slot_list_sort ⟨_,j,rfl⟩ entry_list_sort (list_sort_tree j y z λ i f x v u=>⟨_,rfl,?_⟩) (args_list_sort _)));refine d9 ⟨_,rfl,?_⟩;obtain⟨e,C⟩:=sortedHeap_at j;refine h _ g d _ i f e (λ b o q=>?_) (W0 r) C x (v.trans p1) u;have m:=j7 (l b o q);rw[sortedHeap_old (o6 m) (by rw[eN];exact K8 m)];exact g9 _ (l b o q)
end
theorem Ad(b:l≠it):∀(k i:Nat) (s:Jh) (Q:ge Jg->Jh->Prop),s.heap.IsListIter it l i->s.heap.IsList l items->i+k=items.size ->
  (∀h',h'.IsListIter it l items.size->Heap.SameBut it s.heap h'->Q (items.toList.drop i) {s with heap:=h'})->wpAny JG A (draw (.ref it) k) Q E s:=by
 intro k
 induction k with
 | zero=>
  intro i s Q d c e h;show wpAny _ A _ Q E s;have e:=e;subst e;have:=h s.heap d (Heap.SameBut.refl _ _);rw[nK (by rw[w6];exact f8 _)]at this;exact d9 this
 | succ k g=>
  intro i s Q d c e h;have a:i<items.size:=by omega
  show wpAny _ A _ Q E s;refine d4 (nE d c (K3 a) λ h1 m f=>?_);refine d4 (C7 (g (i+1) _ _ m (c.extBut f.extBut b) Jy λ n j o=>d9 ?_));have:=h n j (f.trans o);rw[gM (by rw[w6];exact a)]at this;exact this
theorem asgL(m:A.handled=none)(c:s.heap.IsList l items)
  (k:(assignEach elts env).length=items.size) (d:(assignEach elts env).findIdx? (·.1)=none)
  (h:∀h',Heap.ExtBut s.heap.objs.size s.heap h'->wpAny JG A (assignInOrder ((assignEach elts env).map (·.2)) items.toList) Q E {s with heap:=h'}) :
  wpAny JG A (assign (.Tuple elts x1 pos) env (.ref l)) Q E s:=by
 have a:l≠s.heap.objs.size:=(by obtain⟨o,j,_⟩:=c;exact o6 (j7 j));rw[assign_Tuple];refine d4 (bv ?_);unfold unpack;rw[k,d];refine d4 (C7 ?_);unfold unpackItems;refine d4 ?_;unfold notIterableAtAll;refine d4 (iw c.typeIs slot_list_iter.lookup (d9 ?_));simp only[K6,if_false];refine d4 (C7 (dN c ?_));refine d4 (C7 (Ad a items.size 0 _ _ ⟨_,o4 _ rfl,rfl,rfl⟩ (c.push _) (T5 _) λ h1 i g=>?_));rw[eB,e8 (by rw[w6];exact P9 _)];refine d4 (C7 (nP m i ((c.push _).extBut g.extBut a) (K5 (f8 _)) λ n p=>?_));simp only[Option.isSome_none,K6,if_false];exact d9 (h n λ b o f e=>p b o f (g.extBut b o f (g9 _ e)))
theorem Ae{l:ge Int}(h:i<l.length):l.getD i 0∈l:=by
 rw[p5,j6 h];exact T0 h
theorem minL{prog:Jo}{w:Jn}{A:Jp}{E:Jg->Jh->Prop}{s:Jh}{l:Ji}{vs:ge Jg}{ns:ge Int}{Q:Jg->Jh->Prop}(hh:A.handled=none)(hl:s.heap.IsList l vs.toArray)(hi:IntsAre vs ns)(hz:ns≠[])
  (h:∀h' M (t:Tok) tk,(∀b o,s.heap.get? b=some o->h'.get? b=some o)->M∈ns->(∀a∈ns,M<=a)->Q (.int M t) {s with heap:=h',toks:=tk}):wpAny JG A (call (.builtin "min") [.ref l]) Q E s:=by
 obtain⟨ys,e⟩:=hi.allInts.items;have en:ns=ys.toList.map (·.1):=by rw[←hi.numsOf,←nums_intItems,←e]
 have zy:0<ys.size:=by
  have q:0<ns.length:=List.length_pos_iff.mpr hz
  rwa [en,d7,w6]at q
 rw[e]at hl;refine min_intList hh hl zy λ v h1 tk q k=>?_
 obtain⟨t,ev⟩:=intItems_at q;subst ev;obtain⟨g1,g2⟩:=argBest_lt (numAt ys) (ys.size - 1);refine h h1 _ t tk k ?_ λ a ha=>?_
 ·rw[en,numAt_eq];exact Ae (by rw[d7,w6];omega)
 ·rw[en]at ha;obtain⟨j,hj,ej⟩:=mem_getD ha;subst ej;rw[d7,w6]at hj;rw[←numAt_eq];exact g2 j Jy
theorem extL(e:s.heap.get? l=some {cls:=.type "list",data:=.seq items n})(m:s.heap.IsList b new\/IsTup s.heap b new)(k:items.size+new.size<=sizeLine)
  (h:Q .none {s with heap:=s.heap.update l (Obj.mapSeq (· ++ new))}):wpAny JG A (call (.builtin "list.extend") [.ref l,.ref b]) Q E s:=by
 refine D5 F.slot_list_extend (⟨_,e,rfl⟩) F.entry_list_extend ?_ (F.args_list_extend_2 _ _);unfold Builtin.«list.extend»;refine d4 (d9 ?_);show wpAny _ _ _ _ _ _;unfold Builtin.List.listExtendWith;obtain⟨a,eb,T,hT,j,hd⟩:∃a,s.heap.get? b=some a/\∃T:Jx,(a.cls=.type T/\(T = "list" \/ T = "tuple"))/\∃j,a.data=.seq new j:=by
  rcases m with⟨o,i,g,f,d⟩ | ⟨o,i,g,f,d⟩
  ·exact⟨o,i,"list",⟨g,.inl rfl⟩,f,d⟩
  ·exact⟨o,i,"tuple",⟨g,.inr rfl⟩,f,d⟩
 refine d4 (eG ⟨a,eb,hT.1⟩ ?_);have c:(Builtin.List.listSameRef (.ref l) (.ref b)||Value.type T == .type "list" || Value.type T == .type "tuple")=true:=by
  rcases hT.2 with z | z<;>subst z
  ·rw[show(Value.type "list" == Value.type "list")=true by decide,iK,iL]
  ·rw[show(Value.type "tuple" == Value.type "tuple")=true by decide,iK]
 rw[d8 c];refine d4 (eM eb hd (d4 (eM e rfl ?_)));rw[e8 (by rw[oX k,Bool.and_false];exact x0)];refine d4 (bx e rfl ?_ Jy (by grind));exact d9 ⟨_,rfl,h⟩
noncomputable def gSeq(K:Js)(n:Nat)(t:TGs):TG:=λ v σ H Q=>∃a xs,v=.ref a/\(SqL K H a xs\/SqT K H a xs)/\xs.length=n/\t xs σ H Q
theorem Af(q:X.calm=true)(h:PGs X es t)(m:(assignEach es X.env).length=n)(d:(assignEach es X.env).findIdx? (·.1)=none):PG X (.Tuple es k pos) (gSeq X.K n t):=by
 intro c s i H v u Q I r g;obtain⟨a,j,w,f,p,g⟩:=g;rcases f with f | f
 ·subst w;cases r;obtain⟨x,l,pl,hz⟩:=I.list f;refine asgL (I.ok.hd q) pl.isList (by rw[m,r3,←l.length,p]) d λ h' y=>?_
  exact h c _ i H j _ Q (I.kept λ b o e=>y b o (o6 (j7 e)) e) l g
 ·exact oj q h m d c s i H v u Q I r ⟨a,j,w,f,p,g⟩
def Ag(K:Js):V->ge V->Hp->VK->Prop:=λ x vs H Q=>∃l b xs zs,x=.ref l/\vs=[.ref b]/\H l=some (.lst xs)/\(SqL K H b zs\/SqT K H b zs)/\xs.length+zs.length<=sizeLine/\Q .non (upd H l (.lst (xs++zs)))
theorem Ah:MtM X "list.extend" (Ag X.K):=by
 intro g s σ H x vs v us Q I k m h;obtain⟨l,b,xs,j,rfl,rfl,i,d,hz,q⟩:=h;cases k;obtain⟨u,rfl,o⟩:=m.one;cases o;obtain⟨z,p,n,r,hl,e⟩:=I.lstM i;obtain⟨a,c,ob⟩:∃a:ge Jg,Vals j a/\(s.heap.IsList b a.toArray\/IsTup s.heap b a.toArray):=by
  rcases d with d | d
  ·obtain⟨a,c,f,_⟩:=I.list d;exact⟨a,c,.inl f.isList⟩
  ·obtain⟨a,c,f,_⟩:=I.tuple d;exact⟨a,c,.inr f⟩
 have e2:=c.length;refine extL e ob (by grind) ?_;refine⟨.non,_,I.lset i e JN (r.append c) ?_,rfl,q⟩;rw[o5];omega
theorem fz:∀{b:ge Int} {a:ge Jg},Vals (b.map V.int) a->IntsAre a b
 | [],a,h=>by cases h;exact .nil
 | n::b,a,h=>by
  cases h with
  | cons r t=>
   obtain⟨c,rfl⟩:=r;exact .cons n c (fz t)
theorem pZ:∀{a:ge Int} {us:ge Jg},IntsAre us a->Vals (a.map V.int) us
 | _,_,.nil=>.nil
 | _,_,.cons n t h=>.cons ⟨t,rfl⟩ (pZ h)
theorem Ai(o:X.calm=true):x5 X (.builtin "min") (λ c H Q=>∃(a:Ji) (b:ge Int),c=[.ref a]/\SqL X.K H a (b.map V.int)/\b≠[]/\∀M,M∈b->(∀x∈b,M<=x)->Q (.int M) H):=by
 intro d s σ H c us Q I r h;obtain⟨a,b,rfl,n,m,q⟩:=h;obtain⟨u,rfl,f⟩:=L5 r;cases f;obtain⟨l,e,g,_⟩:=I.list n;exact minL (I.ok.hd o) g.isList (fz e) m λ h' M t tk k j i=>⟨.int M,H,I.kept k,⟨t,rfl⟩,q M j i⟩
noncomputable def setO(P:Jo)(w:Jn)(a:Ji)(ks:ge Int):HO:=.ext λ h=>SetI P w h a ks
theorem Aj(x:SetI P w h a b):p4 P w H h a (setO P w a b):=
 ⟨x,let ⟨o,_,_,_,e,_⟩:=x;⟨o,e⟩,λ h1 h2 q k=>q.at k⟩
theorem Ak(a:ge Int):fm (λ i=>a.getD i 0) a.length=a.foldl dk []:=by
 unfold fm
 congr 1
 refine ij λ j=>?_;rw[o8];by_cases b:j<a.length
 ·rw[dB b,D7,p5,j6 b];rfl
 ·rw[S4 (by grind),S4 Jy];rfl
theorem Al(n:X.calm=true):x5 X (.type "set") (λ e H Q=>∃(a:Ji) (b:ge Int),e=[.ref a]/\SqL X.K H a (b.map V.int)/\b.length<4000/\∀p,H p=none->Q (.ref p) (upd H p (setO X.prog X.w p (b.foldl dk [])))):=by
 intro g s σ H e us Q I r h;obtain⟨a,b,rfl,m,hz,q⟩:=h;obtain⟨u,rfl,j⟩:=L5 r;cases j;obtain⟨c,f,l,_⟩:=I.list m;have i:c.length=b.length:=by rw[←f.length,d7]
 refine zO (I.ok.hd n) l.isList (fz f) (by rw[r3,i];show _<4096;omega) λ h' tk S k=>?_;have d:c.toArray.size=b.length:=by rw[r3,i]
 rw[d,Ak]at S;exact⟨.ref s.heap.objs.size,_,I.laid k (f8 _) (Aj S),rfl,q _ I.fresh⟩
theorem Am(z:X.calm=true):x5 X (.builtin "sorted") (λ l H Q=>∃(p:Ji) (f:ge Int),l=[.ref p]/\H p=some (setO X.prog X.w p f)/\f.length<64/\∀(q:Ji) (i:ge Int),H q=none->i.Perm f->i.Pairwise (· <= ·)->Q (.ref q) (upd H q (.lst (i.map V.int)))):=by
 intro m s σ H l us Q I r h;obtain⟨p,f,rfl,A,x,q⟩:=h;obtain⟨u,rfl,w⟩:=L5 r;cases w;refine Ac (I.ok.hd z) ((I.hok p _ A).1) x λ B v d c o g e k n he y b j=>?_
 have hl:g.length<=sizeLine:=(by rw[b.length_eq,G8];omega);have ok:p4 X.prog X.w (upd H c (.lst (g.map V.int))) B c (.lst _):=⟨by rwa [d7],o.toList,e,(pZ y),by rwa [Array.toArray_toList]⟩;have a:=I.laid (t':=v) k n ok;refine⟨.ref c,_,?_,rfl,q c g (I.hok.fresh n) b j⟩;exact⟨a.ok,a.os,a.bare,a.base,a.loc,a.cell,a.free,a.freeC,a.pin,a.hok,a.len⟩
theorem An(h:Vals [x,y,z] a):∃u v w,a=[u,v,w]/\RelV x u/\RelV y v/\RelV z w:=by
 cases h with
 | cons r t=>
  obtain⟨v,w,rfl,c,b⟩:=eS t;exact⟨_,v,w,rfl,r,c,b⟩
open PySem.W
theorem qa{G:e->Jh->Prop}(f:∀i j C,i<n->j<n->C (c i j) s->d i j C s)(g:G a s):∀(t:PySem.W.KasT e),kRun n c t=some a->t.kasWp d G s
 | .ret b,h=>by have h:=h;cases h;exact g
 | .ask i j k,h=>by
  have h:(if i<n/\j<n then kRun n c _ else none)=some a:=h;split at h
  ·rename_i z;exact f i j _ z.1 z.2 (qa f g _ h)
  ·cases h
noncomputable def AllT{α:Type}(n:Nat)(φ:α->Prop):KasT α->Prop
 | .ret a=>φ a
 | .ask i j k=>(i<n/\j<n)/\∀b,AllT n φ (k b)
theorem AllT.run:∀{t:KasT d},AllT n b t->∃a,kRun n c t=some a/\b a
 | .ret a,h=>⟨a,rfl,h⟩
 | .ask i j k,h=>by
  obtain⟨a,e,q⟩:=AllT.run (h.2 _);refine⟨a,?_,q⟩;show(if i<n/\j<n then kRun n c _ else none)=some a
  rwa [d8 h.1]
theorem AllT.bind:∀{t:KasT c},AllT n d t->(∀a,d a->AllT n e (f a))->AllT n e (t.bind f)
 | .ret a,h,g=>g a h
 | .ask i j k,h,g=>⟨h.1,λ b=>AllT.bind (h.2 b) g⟩
def A2(n:Nat)(p:Jl Nat):Prop:=p.toList.Perm (JJ n)
theorem A2.lt(h:A2 n p)(a:0<n)(i:Nat):p.getD i 0<n:=by
 rw[R8];cases e:p[i]? with
 | none=>exact a
 | some x=>
  exact i6.mp (h.mem_iff.mp ((by rw[Array.getElem?_eq_some_iff]at e;obtain⟨c,b⟩:=e;rw[←b];exact Array.getElem_mem_toList c)))
theorem A2.rev(h:A2 n p)(i j:Nat):A2 n (kas_rev p i j):=by
 unfold kas_rev;exact(nb.mp (mirror_perm _ _ _ _)).trans h
theorem A2.bub(h:A2 n p)(k m:Nat):A2 n (bubble p k m):=(nb.mp (bubble_perm _ _ _)).trans h
theorem jw(a:0<n)(h:A2 n p):∀(f m:Nat),AllT n (λ _=>True) (kas_asc p f m)
 | 0,m=>trivial
 | f+1,m=>⟨⟨h.lt a _,h.lt a _⟩,λ b=>by
  cases b
  ·exact jw a h f _
  ·exact trivial⟩
theorem fA(a:0<n):∀(f:Nat) (p:Jl Nat) (m q:Nat),A2 n p->AllT n (λ r=>A2 n r.1) (kas_desc f p m q)
 | 0,p,m,q,h=>h
 | f+1,p,m,q,h=>⟨⟨h.lt a _,h.lt a _⟩,λ b=>by
  cases b
  ·refine⟨⟨h.lt a _,h.lt a _⟩,λ b=>?_⟩;cases b
   ·exact fA a f p _ _ h
   ·exact h
  ·show AllT n _ _;split
   ·exact fA a f _ _ 0 (h.rev _ _)
   ·exact fA a f p _ 0 h⟩
theorem qb(b:0<n)(h:A2 n p)(m z:Nat):AllT n (λ r=>A2 n r.2) (kas_tail3 m z p):=(jw b (h.rev _ _) _ _).bind λ a _=>h.rev _ _
theorem qc(a:0<n)(h:A2 n p)(m z:Nat):AllT n (λ r=>A2 n r.2) (kas_descPart m z p):=(fA a _ _ _ _ h).bind λ r b=>by
 split
 ·exact qb a (b.rev _ _) _ _
 ·exact qb a b _ _
theorem Ao(a:0<n)(h:A2 n p)(z:Nat):AllT n (λ r=>A2 n r.2) (kas_count z p):=(jw a h _ _).bind λ m _=>by
 split
 ·exact h
 ·split
  ·refine⟨⟨h.lt a _,h.lt a _⟩,λ b=>?_⟩;cases b
   ·exact qc a (h.rev _ _) _ _
   ·exact h
  ·exact qc a h _ _
theorem jx(a:0<n)(h:A2 n p)(k:Nat):∀(f l r:Nat),AllT n (λ _=>True) (kas_place p k f l r)
 | 0,l,r=>trivial
 | f+1,l,r=>by
  unfold kas_place;split
  ·exact trivial
  ·refine⟨⟨h.lt a _,h.lt a _⟩,λ b=>?_⟩;cases b
   ·exact jx a h k f _ _
   ·exact jx a h k f _ _
theorem qd(a:0<n):∀(f:Nat) (p:Jl Nat) (k:Nat),A2 n p->AllT n (A2 n) (kas_bin f p k)
 | 0,p,k,h=>h
 | f+1,p,k,h=>(jx a h k _ _ _).bind λ l _=>qd a f _ _ (h.bub _ _)
theorem Ap(b:0<n):AllT n (A2 n) (kas_sort n):=(Ao b (by unfold A2;simp) n).bind λ r a=>by
 split
 ·exact qd b _ _ _ a
 ·exact a
theorem Aq(ks:ge Int):∃b,O4 ks=some b/\b.Perm (List.range ks.length):=by
 unfold O4;split
 ·exact⟨_,rfl,.refl _⟩
 ·obtain⟨a,e,q⟩:=(Ap (n:=ks.length) Jy).run;exact⟨a.toList,by rw[e];rfl,q⟩
theorem Ar(h:b.Perm (JJ l.length)):(putIx x b l).Perm l:=by
 have e:putIx x (JJ l.length) l=l:=(by unfold putIx;apply List.ext_getElem JN;intro i h1 c;simp[j6 c]);have:=h.map λ i=>l.getD i x;exact this.trans (by rw[show(JJ l.length).map _=l from e])
theorem Vals.getD(r:Vals vs a)(i:Nat):RelV (vs.getD i .non) (a.getD i .none):=by
 rw[p5,p5];cases h:vs[i]? with
 | none=>rw[r.none_of h];rfl
 | some v=>
  obtain⟨u,e,q⟩:=r.get h
  rwa [e]
theorem Vals.putIx{vs:ge V}{us:ge Jg}(r:Vals vs us):∀ix:ge Nat,Vals (putIx .non ix vs) (L2.putIx .none ix us)
 | []=>.nil
 | i::l=>.cons (r.getD i) (Vals.putIx r l)
theorem As{items:Jl Jg}{bs:ge Bool}(e:items.toList=bs.map Value.bool):TruthOf prog w A (λ i v=>items[i]? = some v) (λ i=>bs.getD i false):=by
 intro i v s Q E hP d;have c:(bs.map Value.bool)[i]? = some v:=by rwa [←e,F6]
 rw[o8]at c;obtain⟨b,f,rfl⟩:=p9.mp c;have a:Q (bs.getD i false) s:=d;rw[p5,f]at a;exact PySem.wpAny_truthy_bool a
theorem At(bs:ge Bool):(JJ bs.length).all (λ i=>bs.getD i false)=bs.all id:=by
 rw[J7,t7,t7];constructor
 ·intro h x b;obtain⟨i,a,rfl⟩:=dF b;have:=h i (i6.mpr a);rw[p5,j6 a]at this;exact this
 ·intro h i a;have a:=i6.mp a;rw[p5,j6 a];exact h _ (T0 a)
theorem allL{bs:ge Bool}(m:A.handled=none)(f:s.heap.IsList l items)(e:items.toList=bs.map Value.bool)
  (h:∀a c,(∀b o,s.heap.get? b=some o->a.get? b=some o)->Q (.bool (bs.all id)) {s with heap:=a,toks:=c}):wpAny JG A (call (.builtin "all") [.ref l]) Q E s:=by
 have d:l<s.heap.objs.size:=by obtain⟨_,e,_⟩:=f;exact j7 e
 have j:items.size=bs.length:=by rw[←w6,e,d7]
 refine call_all_walk (dN f ⟨_,_,_,_,_,_,λ i=>bs.getD i false,rfl,Walks.list (A:=A.in1) m s.heap.objs.size l (o6 d) items,⟨⟨_,o4 _ rfl,rfl,rfl⟩,f.push _⟩,As e,λ a c k=>?_⟩);rw[j,At];exact h a c λ b o g=>k b o (by simp;exact o6 (j7 g)) (g9 _ g)
theorem sumL{prog:Jo}{w:Jn}{A:Jp}{E:Jg->Jh->Prop}{s:Jh}{l:Ji}{vs:ge Jg}{ns:ge Int}{Q:Jg->Jh->Prop}(hh:A.handled=none)(hl:s.heap.IsList l vs.toArray)(hi:IntsAre vs ns)
  (h:∀h' tk t,(∀b o,s.heap.get? b=some o->h'.get? b=some o)->Q (.int ns.sum t) {s with heap:=h',toks:=tk}):wpAny JG A (call (.builtin "sum") [.ref l]) Q E s:=by
 obtain⟨ys,e⟩:=hi.allInts.items;have en:ns=ys.toList.map (·.1):=by rw[←hi.numsOf,←nums_intItems,←e]
 rw[e]at hl;refine sum_intListG hh hl λ h' tk t' hk=>?_
 have:=h h' tk t' hk;rw[preSum_eq,dt JN];rw[en]at this;exact this
theorem qe:∀{bs:ge Bool} {us:ge Jg},Vals (bs.map V.bl) us->us=bs.map Value.bool
 | [],_,h=>by cases h;rfl
 | b::bs,_,h=>by
  cases h with
  | cons r t=>
   rw[qe t];cases(r);rfl
theorem Au(j:X.calm=true):x5 X (.builtin "all") (λ b H Q=>∃(a:Ji) (bs:ge Bool),b=[.ref a]/\SqL X.K H a (bs.map V.bl)/\Q (.bl (bs.all id)) H):=by
 intro c s σ H b us Q I r h;obtain⟨a,bs,rfl,i,q⟩:=h;obtain⟨u,rfl,e⟩:=L5 r;cases e;obtain⟨g,d,f,_⟩:=I.list i;exact allL (I.ok.hd j) f.isList (by simpa using qe d) λ h' tk k=>⟨.bl _,H,I.kept k,rfl,q⟩
theorem Av(l:X.calm=true):x5 X (.builtin "sum") (λ c H Q=>∃(a:Ji) (b:ge Int),c=[.ref a]/\SqL X.K H a (b.map V.int)/\Q (.int b.sum) H):=by
 intro d s σ H c us Q I r h;obtain⟨a,b,rfl,j,q⟩:=h;obtain⟨u,rfl,f⟩:=L5 r;cases f;obtain⟨i,e,g,_⟩:=I.list j;exact sumL (I.ok.hd l) g.isList (fz e) λ h' tk t k=>⟨.int _,H,I.kept k,⟨t,rfl⟩,q⟩
noncomputable section
open PySem
structure Sg where
 N:List Str
 sc:List (Str×NameKind)
 fn:List Str
 bl:List Str
 cl:List Str
 top:Bool
 lp:Bool
noncomputable def t4:Jk->Bool | .Starred _ _=>true | _=>false
noncomputable def L8:Jk->Bool | .Slice _ _ _ _=>true | _=>false
noncomputable def F2:Jk->Bool | .Set _ _ _=>true | _=>false
noncomputable def N2:Jk->Bool | .ListComp _ _ _ _=>true | .SetComp _ _ _ _=>true | .DictComp _ _ _ _ _=>true | _=>false
noncomputable def any1{α:Type}(o:on α)(f:α->Bool):Bool:=o.rec false f
theorem x3(h:any1 o f=true):∃a,o=some a/\f a=true:=by
 cases o with
 | none=>cases h
 | some a=>exact⟨a,rfl,h⟩
@[elab_as_elim] theorem bO{o:on b}(h:any1 o f=true){C:on b->Prop}(k:∀a,f a=true->C (some a)):C o:=let ⟨_,q,h⟩:=x3 h;Eq.mpr (congrArg C q) (k _ h)
noncomputable def inNo{α:Type}(o:on α)(f:Bool):Bool:=o.rec f λ _=>false
@[elab_as_elim] theorem X0{o:on b}(h:inNo o f=true){C:on b->Prop}(k:f=true->C none):C o:=by
 cases o with
 | none=>exact k h
 | some a=>cases h
noncomputable def in0{α:Type}(l:ge α)(f:Bool):Bool:=l.rec f λ _ _ _=>false
@[elab_as_elim] theorem N3{l:ge b}(h:in0 l f=true){C:ge b->Prop}(k:f=true->C []):C l:=by
 cases l with
 | nil=>exact k h
 | cons a r=>cases h
noncomputable def inC{α:Type}(l:ge α)(f:α->ge α->Bool):Bool:=l.rec false λ a r _=>f a r
@[elab_as_elim] theorem qf{f:b->ge b->Bool}(h:inC l f=true){C:ge b->Prop}(k:∀a r,f a r=true->C (a::r)):C l:=by
 cases l with
 | nil=>cases h
 | cons a r=>exact k a r h
def in1{α:Type}(l:ge α)(f:α->Bool):Bool:=inC l λ a r=>in0 r (f a)
@[elab_as_elim] theorem N4{f:b->Bool}(h:in1 l f=true){C:ge b->Prop}(k:∀a,f a=true->C [a]):C l:=qf h λ a _ h=>N3 h (k a)
theorem Aw(h:in1 l f=true):∃a,l=[a]/\f a=true:=N4 h λ a h=>⟨a,rfl,h⟩
def in2{α:Type}(l:ge α)(f:α->α->Bool):Bool:=inC l λ a r=>in1 r (f a)
@[elab_as_elim] theorem jy{f:c->c->Bool}(h:in2 l f=true){C:ge c->Prop}(k:∀a b,f a b=true->C [a,b]):C l:=qf h λ a _ h=>N4 h (k a)
noncomputable def qg(e:Jk):on {t:Str×Pos // e=.Name t.1 t.2}:=match e with | .Name x p=>some ⟨(x,p),rfl⟩ | _=>none
@[irreducible] def C8(e:Jk)(f:Str->Bool):Bool:=any1 (qg e) λ t=>f t.1.1
@[elab_as_elim] theorem E2(h:C8 e g=true){C:Jk->Prop}(k:∀x p,g x=true->C (.Name x p)):C e:=by
 unfold C8 at h;exact let ⟨t,_,h⟩:=x3 h;Eq.mpr (congrArg C t.2) (k _ _ h)
noncomputable def Ax(e:Jk):on {t:Const×Nat×Pos // e=.Constant t.1 t.2.1 t.2.2}:=match e with | .Constant x k p=>some ⟨(x,k,p),rfl⟩ | _=>none
noncomputable def qh(e:Jk):on {t:Jk×Operator×Jk×Pos // e=.BinOp t.1 t.2.1 t.2.2.1 t.2.2.2}:=match e with | .BinOp a o b p=>some ⟨(a,o,b,p),rfl⟩ | _=>none
@[irreducible] def jz(e:Jk)(f:Jk->Operator->Jk->Bool):Bool:=any1 (qh e) λ t=>f t.1.1 t.1.2.1 t.1.2.2.1
@[elab_as_elim] theorem qi(h:jz e g=true){C:Jk->Prop}(k:∀a o b p,g a o b=true->C (.BinOp a o b p)):C e:=by
 unfold jz at h;exact let ⟨t,_,h⟩:=x3 h;Eq.mpr (congrArg C t.2) (k _ _ _ _ h)
noncomputable def Ay(e:Jk):on {t:UnaryOp×Jk×Pos // e=.UnaryOp t.1 t.2.1 t.2.2}:=match e with | .UnaryOp o a p=>some ⟨(o,a,p),rfl⟩ | _=>none
@[irreducible] def inUn(e:Jk)(f:UnaryOp->Jk->Bool):Bool:=any1 (Ay e) λ t=>f t.1.1 t.1.2.1
@[elab_as_elim] theorem fB(h:inUn e g=true){C:Jk->Prop}(k:∀o a p,g o a=true->C (.UnaryOp o a p)):C e:=by
 unfold inUn at h;exact let ⟨t,_,h⟩:=x3 h;Eq.mpr (congrArg C t.2) (k _ _ _ h)
noncomputable def Az(e:Jk):on {t:Jk×(ge CmpOp)×(ge Jk)×Pos // e=.Compare t.1 t.2.1 t.2.2.1 t.2.2.2}:=match e with | .Compare a os bs p=>some ⟨(a,os,bs,p),rfl⟩ | _=>none
@[irreducible] def fC(e:Jk)(f:Jk->(ge CmpOp)->(ge Jk)->Bool):Bool:=any1 (Az e) λ t=>f t.1.1 t.1.2.1 t.1.2.2.1
@[elab_as_elim] theorem qj(h:fC e g=true){C:Jk->Prop}(k:∀a b bs p,g a b bs=true->C (.Compare a b bs p)):C e:=by
 unfold fC at h;exact let ⟨t,_,h⟩:=x3 h;Eq.mpr (congrArg C t.2) (k _ _ _ _ h)
noncomputable def AA(e:Jk):on {t:BoolOp×(ge Jk)×Pos // e=.BoolOp t.1 t.2.1 t.2.2}:=match e with | .BoolOp o es p=>some ⟨(o,es,p),rfl⟩ | _=>none
@[irreducible] def fE(e:Jk)(f:BoolOp->(ge Jk)->Bool):Bool:=any1 (AA e) λ t=>f t.1.1 t.1.2.1
@[elab_as_elim] theorem fF(h:fE e g=true){C:Jk->Prop}(k:∀o a p,g o a=true->C (.BoolOp o a p)):C e:=by
 unfold fE at h;exact let ⟨t,_,h⟩:=x3 h;Eq.mpr (congrArg C t.2) (k _ _ _ h)
noncomputable def AB(e:Jk):on {t:Jk×Jk×Jk×Pos // e=.IfExp t.1 t.2.1 t.2.2.1 t.2.2.2}:=match e with | .IfExp c a b p=>some ⟨(c,a,b,p),rfl⟩ | _=>none
@[irreducible] def inIf(e:Jk)(f:Jk->Jk->Jk->Bool):Bool:=any1 (AB e) λ t=>f t.1.1 t.1.2.1 t.1.2.2.1
@[elab_as_elim] theorem ql(h:inIf e g=true){C:Jk->Prop}(k:∀c a b p,g c a b=true->C (.IfExp c a b p)):C e:=by
 unfold inIf at h;exact let ⟨t,_,h⟩:=x3 h;Eq.mpr (congrArg C t.2) (k _ _ _ _ h)
noncomputable def AC(e:Jk):on {t:(ge Jk)×Pos // e=.List t.1 t.2}:=match e with | .List es p=>some ⟨(es,p),rfl⟩ | _=>none
@[irreducible] def jA(e:Jk)(f:(ge Jk)->Bool):Bool:=any1 (AC e) λ t=>f t.1.1
@[elab_as_elim] theorem qm(h:jA e g=true){C:Jk->Prop}(k:∀a p,g a=true->C (.List a p)):C e:=by
 unfold jA at h;exact let ⟨t,_,h⟩:=x3 h;Eq.mpr (congrArg C t.2) (k _ _ h)
noncomputable def qo(e:Jk):on {t:(ge Jk)×Nat×Pos // e=.Tuple t.1 t.2.1 t.2.2}:=match e with | .Tuple es k p=>some ⟨(es,k,p),rfl⟩ | _=>none
@[irreducible] def fG(e:Jk)(f:(ge Jk)->Bool):Bool:=any1 (qo e) λ t=>f t.1.1
@[elab_as_elim] theorem jC(h:fG e g=true){C:Jk->Prop}(k:∀a k p,g a=true->C (.Tuple a k p)):C e:=by
 unfold fG at h;exact let ⟨t,_,h⟩:=x3 h;Eq.mpr (congrArg C t.2) (k _ _ _ h)
noncomputable def AD(e:Jk):on {t:Jk×Jk×Pos // e=.Subscript t.1 t.2.1 t.2.2}:=match e with | .Subscript a b p=>some ⟨(a,b,p),rfl⟩ | _=>none
@[irreducible] def L9(e:Jk)(f:Jk->Jk->Bool):Bool:=any1 (AD e) λ t=>f t.1.1 t.1.2.1
@[elab_as_elim] theorem E3(h:L9 e g=true){C:Jk->Prop}(k:∀a b p,g a b=true->C (.Subscript a b p)):C e:=by
 unfold L9 at h;exact let ⟨t,_,h⟩:=x3 h;Eq.mpr (congrArg C t.2) (k _ _ _ h)
noncomputable def AE(e:Jk):on {t:(on Jk)×(on Jk)×(on Jk)×Pos // e=.Slice t.1 t.2.1 t.2.2.1 t.2.2.2}:=match e with | .Slice a b c p=>some ⟨(a,b,c,p),rfl⟩ | _=>none
@[irreducible] def bP(e:Jk)(f:(on Jk)->(on Jk)->(on Jk)->Bool):Bool:=any1 (AE e) λ t=>f t.1.1 t.1.2.1 t.1.2.2.1
@[elab_as_elim] theorem jD(h:bP e g=true){C:Jk->Prop}(k:∀a b c p,g a b c=true->C (.Slice a b c p)):C e:=by
 unfold bP at h;exact let ⟨t,_,h⟩:=x3 h;Eq.mpr (congrArg C t.2) (k _ _ _ _ h)
noncomputable def AF(e:Jk):on {t:Jk×(ge Jk)×(ge Keyword)×Pos // e=.Call t.1 t.2.1 t.2.2.1 t.2.2.2}:=match e with | .Call f as ks p=>some ⟨(f,as,ks,p),rfl⟩ | _=>none
@[irreducible] def fH(e:Jk)(f:Jk->(ge Jk)->(ge Keyword)->Pos->Bool):Bool:=any1 (AF e) λ t=>f t.1.1 t.1.2.1 t.1.2.2.1 t.1.2.2.2
@[elab_as_elim] theorem qp(h:fH e g=true){C:Jk->Prop}(k:∀f as a p,g f as a p=true->C (.Call f as a p)):C e:=by
 unfold fH at h;exact let ⟨t,_,h⟩:=x3 h;Eq.mpr (congrArg C t.2) (k _ _ _ _ h)
noncomputable def AG(e:Jk):on {t:Jk×Str×Pos // e=.Attribute t.1 t.2.1 t.2.2}:=match e with | .Attribute a n p=>some ⟨(a,n,p),rfl⟩ | _=>none
@[irreducible] def X1(e:Jk)(f:Jk->Str->Pos->Bool):Bool:=any1 (AG e) λ t=>f t.1.1 t.1.2.1 t.1.2.2
@[elab_as_elim] theorem bQ(h:X1 e g=true){C:Jk->Prop}(k:∀a n p,g a n p=true->C (.Attribute a n p)):C e:=by
 unfold X1 at h;exact let ⟨t,_,h⟩:=x3 h;Eq.mpr (congrArg C t.2) (k _ _ _ h)
noncomputable def AH(e:Jk):on {t:Jk×(ge Comprehension)×Ju×Pos // e=.ListComp t.1 t.2.1 t.2.2.1 t.2.2.2}:=match e with | .ListComp x gs sc p=>some ⟨(x,gs,sc,p),rfl⟩ | _=>none
@[irreducible] def jF(e:Jk)(f:Jk->(ge Comprehension)->Ju->Bool):Bool:=any1 (AH e) λ t=>f t.1.1 t.1.2.1 t.1.2.2.1
@[elab_as_elim] theorem AI(h:jF e g=true){C:Jk->Prop}(k:∀x a sc p,g x a sc=true->C (.ListComp x a sc p)):C e:=by
 unfold jF at h;exact let ⟨t,_,h⟩:=x3 h;Eq.mpr (congrArg C t.2) (k _ _ _ _ h)
noncomputable def AJ(e:Jk):on {t:(ge (on Jk))×(ge Jk)×Pos // e=.Dict t.1 t.2.1 t.2.2}:=match e with | .Dict ks vs p=>some ⟨(ks,vs,p),rfl⟩ | _=>none
@[irreducible] def jG(e:Jk)(f:(ge (on Jk))->(ge Jk)->Bool):Bool:=any1 (AJ e) λ t=>f t.1.1 t.1.2.1
@[elab_as_elim] theorem AK(h:jG e g=true){C:Jk->Prop}(k:∀ks vs p,g ks vs=true->C (.Dict ks vs p)):C e:=by
 unfold jG at h;exact let ⟨t,_,h⟩:=x3 h;Eq.mpr (congrArg C t.2) (k _ _ _ h)
noncomputable def AL(e:Jk):on {t:Jv×Jk×Ju×Pos // e=.Lambda t.1 t.2.1 t.2.2.1 t.2.2.2}:=match e with | .Lambda pr bd sc p=>some ⟨(pr,bd,sc,p),rfl⟩ | _=>none
@[irreducible] def jH(e:Jk)(f:Jv->Jk->Ju->Pos->Bool):Bool:=any1 (AL e) λ t=>f t.1.1 t.1.2.1 t.1.2.2.1 t.1.2.2.2
@[elab_as_elim] theorem AM(h:jH e g=true){C:Jk->Prop}(k:∀a b sc p,g a b sc p=true->C (.Lambda a b sc p)):C e:=by
 unfold jH at h;exact let ⟨t,_,h⟩:=x3 h;Eq.mpr (congrArg C t.2) (k _ _ _ _ h)
noncomputable def AN(e:Jq):on {t:(ge Jk)×Jk×Pos // e=.Assign t.1 t.2.1 t.2.2}:=match e with | .Assign t v p=>some ⟨(t,v,p),rfl⟩ | _=>none
@[irreducible] def jI(e:Jq)(f:(ge Jk)->Jk->Pos->Bool):Bool:=any1 (AN e) λ t=>f t.1.1 t.1.2.1 t.1.2.2
@[elab_as_elim] theorem AO(h:jI e g=true){C:Jq->Prop}(k:∀t v p,g t v p=true->C (.Assign t v p)):C e:=by
 unfold jI at h;exact let ⟨t,_,h⟩:=x3 h;Eq.mpr (congrArg C t.2) (k _ _ _ h)
noncomputable def AQ(e:Jq):on {t:Jk×Pos // e=.Expr t.1 t.2}:=match e with | .Expr v p=>some ⟨(v,p),rfl⟩ | _=>none
@[irreducible] def bR(e:Jq)(f:Jk->Pos->Bool):Bool:=any1 (AQ e) λ t=>f t.1.1 t.1.2
@[elab_as_elim] theorem jJ(h:bR e g=true){C:Jq->Prop}(k:∀v p,g v p=true->C (.Expr v p)):C e:=by
 unfold bR at h;exact let ⟨t,_,h⟩:=x3 h;Eq.mpr (congrArg C t.2) (k _ _ h)
noncomputable def AR(e:Jq):on {t:(on Jk)×Pos // e=.Return t.1 t.2}:=match e with | .Return v p=>some ⟨(v,p),rfl⟩ | _=>none
@[irreducible] def jK(e:Jq)(f:(on Jk)->Pos->Bool):Bool:=any1 (AR e) λ t=>f t.1.1 t.1.2
@[elab_as_elim] theorem AS(h:jK e g=true){C:Jq->Prop}(k:∀v p,g v p=true->C (.Return v p)):C e:=by
 unfold jK at h;exact let ⟨t,_,h⟩:=x3 h;Eq.mpr (congrArg C t.2) (k _ _ h)
noncomputable def AT(e:Jq):on {t:Jk×(ge Jq)×(ge Jq)×Pos // e=.If t.1 t.2.1 t.2.2.1 t.2.2.2}:=match e with | .If c a b p=>some ⟨(c,a,b,p),rfl⟩ | _=>none
@[irreducible] def jL(e:Jq)(f:Jk->(ge Jq)->(ge Jq)->Pos->Bool):Bool:=any1 (AT e) λ t=>f t.1.1 t.1.2.1 t.1.2.2.1 t.1.2.2.2
@[elab_as_elim] theorem AU(h:jL e g=true){C:Jq->Prop}(k:∀c a b p,g c a b p=true->C (.If c a b p)):C e:=by
 unfold jL at h;exact let ⟨t,_,h⟩:=x3 h;Eq.mpr (congrArg C t.2) (k _ _ _ _ h)
noncomputable def AV(e:Jq):on {t:Jk×Jk×(ge Jq)×(ge Jq)×Pos // e=.For t.1 t.2.1 t.2.2.1 t.2.2.2.1 t.2.2.2.2}:=match e with | .For t i b o p=>some ⟨(t,i,b,o,p),rfl⟩ | _=>none
@[irreducible] def jM(e:Jq)(f:Jk->Jk->(ge Jq)->(ge Jq)->Pos->Bool):Bool:=any1 (AV e) λ t=>f t.1.1 t.1.2.1 t.1.2.2.1 t.1.2.2.2.1 t.1.2.2.2.2
@[elab_as_elim] theorem AW(h:jM e g=true){C:Jq->Prop}(k:∀t i b o p,g t i b o p=true->C (.For t i b o p)):C e:=by
 unfold jM at h;exact let ⟨t,_,h⟩:=x3 h;Eq.mpr (congrArg C t.2) (k _ _ _ _ _ h)
noncomputable def AX(e:Jq):on {t:Jk×(ge Jq)×(ge Jq)×Pos // e=.While t.1 t.2.1 t.2.2.1 t.2.2.2}:=match e with | .While t b o p=>some ⟨(t,b,o,p),rfl⟩ | _=>none
@[irreducible] def inWh(e:Jq)(f:Jk->(ge Jq)->(ge Jq)->Pos->Bool):Bool:=any1 (AX e) λ t=>f t.1.1 t.1.2.1 t.1.2.2.1 t.1.2.2.2
@[elab_as_elim] theorem AY(h:inWh e g=true){C:Jq->Prop}(k:∀t b o p,g t b o p=true->C (.While t b o p)):C e:=by
 unfold inWh at h;exact let ⟨t,_,h⟩:=x3 h;Eq.mpr (congrArg C t.2) (k _ _ _ _ h)
noncomputable def AZ(e:Jq):on {t:Jk×Operator×Jk×Pos // e=.AugAssign t.1 t.2.1 t.2.2.1 t.2.2.2}:=match e with | .AugAssign t o v p=>some ⟨(t,o,v,p),rfl⟩ | _=>none
@[irreducible] def jN(e:Jq)(f:Jk->Operator->Jk->Pos->Bool):Bool:=any1 (AZ e) λ t=>f t.1.1 t.1.2.1 t.1.2.2.1 t.1.2.2.2
@[elab_as_elim] theorem Ba(h:jN e g=true){C:Jq->Prop}(k:∀t o v p,g t o v p=true->C (.AugAssign t o v p)):C e:=by
 unfold jN at h;exact let ⟨t,_,h⟩:=x3 h;Eq.mpr (congrArg C t.2) (k _ _ _ _ h)
def jO(e:Jk)(f:Jk->CmpOp->Jk->Bool):Bool:=fC e λ a os bs=>in1 os λ o=>in1 bs λ b=>f a o b
@[elab_as_elim] theorem jP(h:jO e f=true){C:Jk->Prop}(k:∀a o b p,f a o b=true->C (.Compare a [o] [b] p)):C e:=qj h λ a _ _ p h=>N4 h λ o h=>N4 h λ b h=>k a o b p h
def qr(e:Jk)(f:Jk->CmpOp->CmpOp->Jk->Jk->Bool):Bool:=fC e λ a os bs=>in2 os λ o o2=>in2 bs λ b c=>f a o o2 b c
@[elab_as_elim] theorem qt(h:qr e f=true){C:Jk->Prop}(k:∀a o d b c p,f a o d b c=true->C (.Compare a [o,d] [b,c] p)):C e:=qj h λ a _ _ p h=>jy h λ o d h=>jy h λ b c h=>k a o d b c p h
def qu(e:Jk)(f:Jk->Bool):Bool:=bP e λ a b c=>inNo b (inNo c (any1 a f))
@[elab_as_elim] theorem Bc(h:qu e f=true){C:Jk->Prop}(k:∀x p,f x=true->C (.Slice (some x) none none p)):C e:=jD h λ _ _ _ p h=>X0 h λ h=>X0 h λ h=>bO h λ x h=>k x p h
def qv(e:Jk)(f:Jk->Bool):Bool:=bP e λ a b c=>inNo a (inNo c (any1 b f))
@[elab_as_elim] theorem Bd(h:qv e f=true){C:Jk->Prop}(k:∀x p,f x=true->C (.Slice none (some x) none p)):C e:=jD h λ _ _ _ p h=>X0 h λ h=>X0 h λ h=>bO h λ x h=>k x p h
def qw(e:Jk)(f:Jk->Jk->Bool):Bool:=bP e λ a b c=>inNo c (any1 a λ x=>any1 b (f x))
@[elab_as_elim] theorem Be(h:qw e f=true){C:Jk->Prop}(k:∀x y p,f x y=true->C (.Slice (some x) (some y) none p)):C e:=jD h λ _ _ _ p h=>X0 h λ h=>bO h λ x h=>bO h λ y h=>k x y p h
def inCl(e:Jk)(f:Jk->ge Jk->Pos->Bool):Bool:=fH e λ g as ks p=>in0 ks (f g as p)
@[elab_as_elim] theorem N5(h:inCl e f=true){C:Jk->Prop}(k:∀g as p,f g as p=true->C (.Call g as [] p)):C e:=qp h λ g as _ p h=>N3 h (k g as p)
def jQ(e:Jk)(f:Jk->Pos->Bool):Bool:=inCl e λ g as p=>in0 as (f g p)
@[elab_as_elim] theorem jR(h:jQ e f=true){C:Jk->Prop}(k:∀g p,f g p=true->C (.Call g [] [] p)):C e:=N5 h λ g _ p h=>N3 h (k g p)
def bS(e:Jk)(f:Jk->Jk->Pos->Bool):Bool:=inCl e λ g as p=>in1 as λ a=>f g a p
@[elab_as_elim] theorem bT(h:bS e f=true){C:Jk->Prop}(k:∀g a p,f g a p=true->C (.Call g [a] [] p)):C e:=N5 h λ g _ p h=>N4 h λ a h=>k g a p h
def qx(e:Jk)(f:Jk->Jk->Jk->Pos->Bool):Bool:=inCl e λ g as p=>in2 as λ a b=>f g a b p
@[elab_as_elim] theorem qy(h:qx e f=true){C:Jk->Prop}(k:∀g a b p,f g a b p=true->C (.Call g [a,b] [] p)):C e:=N5 h λ g _ p h=>jy h λ a b h=>k g a b p h
def jS(e:Jk)(f:Bool):Bool:=jG e λ ks vs=>in0 ks (in0 vs f)
@[elab_as_elim] theorem qz(h:jS e f=true){C:Jk->Prop}(k:∀p,f=true->C (.Dict [] [] p)):C e:=AK h λ _ _ p h=>N3 h λ h=>N3 h λ h=>k p h
def qA(e:Jk)(f:Jk->ge Jk->on Str->Jk->Bool):Bool:=fH e λ g as ks p=>in1 ks λ w=>f g as w.arg w.value
@[elab_as_elim] theorem Bf(h:qA e f=true){C:Jk->Prop}(k:∀g b a v q p,f g b a v=true->C (.Call g b [⟨a,v,q⟩] p)):C e:=qp h λ g b _ p h=>N4 h λ ⟨a,v,q⟩ h=>k g b a v q p h
def inCk(e:Jk)(f:Jk->Jk->on Str->Jk->Bool):Bool:=qA e λ g as a v=>in1 as λ b=>f g b a v
@[elab_as_elim] theorem qB(h:inCk e f=true){C:Jk->Prop}(k:∀g b a v q p,f g b a v=true->C (.Call g [b] [⟨a,v,q⟩] p)):C e:=Bf h λ g _ a v q p h=>N4 h λ b h=>k g b a v q p h
def U1(e:Jq)(f:Jk->Jk->Pos->Bool):Bool:=jI e λ ts v p=>in1 ts λ t=>f t v p
@[elab_as_elim] theorem X2(h:U1 e f=true){C:Jq->Prop}(k:∀t v p,f t v p=true->C (.Assign [t] v p)):C e:=AO h λ _ v p h=>N4 h λ t h=>k t v p h
def jT(e:Jq)(f:Jk->Pos->Bool):Bool:=jK e λ o p=>any1 o λ v=>f v p
@[elab_as_elim] theorem qC(h:jT e f=true){C:Jq->Prop}(k:∀v p,f v p=true->C (.Return (some v) p)):C e:=AS h λ _ p h=>bO h λ v h=>k v p h
def qE(e:Jq)(f:Jk->Jk->ge Jq->Pos->Bool):Bool:=jM e λ t i b o p=>in0 o (f t i b p)
@[elab_as_elim] theorem Bg(h:qE e f=true){C:Jq->Prop}(k:∀t i b p,f t i b p=true->C (.For t i b [] p)):C e:=AW h λ t i b _ p h=>N3 h (k t i b p)
def qF(e:Jq)(f:Jk->ge Jq->Pos->Bool):Bool:=inWh e λ t b o p=>in0 o (f t b p)
@[elab_as_elim] theorem Bh(h:qF e f=true){C:Jq->Prop}(k:∀t b p,f t b p=true->C (.While t b [] p)):C e:=AY h λ t b _ p h=>N3 h (k t b p)
def F8(e:Jk):on Str:=(qg e).map λ t=>t.1.1
def aA(e:Jk):on Const:=(Ax e).map λ t=>t.1.1
def K0(e:Jk):on (ge Jk):=(qo e).map λ t=>t.1.1
def qG(e:Jk):on (Jk×Operator×Jk):=(qh e).map λ t=>(t.1.1,t.1.2.1,t.1.2.2.1)
theorem mpd{o:on d}(h:o.map f=some b):∃a,f a=b:=by
 cases o with
 | none=>cases h
 | some a=>cases h;exact⟨a,rfl⟩
theorem Q9(h:F8 e=some x):∃p,e=.Name x p:=let ⟨t,h⟩:=mpd h;⟨_,h▸t.2⟩
theorem qH(h:aA e=some x):∃k p,e=.Constant x k p:=let ⟨t,h⟩:=mpd h;⟨_,_,h▸t.2⟩
theorem bU{e:Jk}{es:ge Jk}(h:K0 e=some es):∃k p,e=.Tuple es k p:=let ⟨t,h⟩:=mpd h;⟨_,_,h▸t.2⟩
theorem Bj(h:qG e=some (a,o,b)):∃p,e=.BinOp a o b p:=by
 obtain⟨⟨⟨_,_,_,p⟩,z⟩,h⟩:=mpd h;cases h;exact⟨p,z⟩
structure CParts where
 elt:Expr
 tg:Expr
 it:Expr
 ifs:List Expr
 sc:Scope
def inCp(e:Jk)(f:CParts->Bool):Bool:=jF e λ x gs sc=>in1 gs λ g=>decide (g.is_async=0)&&f ⟨x,g.target,g.iter,g.ifs,sc⟩
@[elab_as_elim] theorem fI(h:inCp e f=true){C:Jk->Prop}(k:∀c p,f c=true->C (.ListComp c.elt [⟨c.tg,c.it,c.ifs,0⟩] c.sc p)):C e:=by
 refine AI h λ x gs d p h=>N4 h λ ⟨b,g,a,w⟩ h=>?_;obtain⟨i,h⟩:=C5.mp h;obtain rfl:=Z9 i;exact k ⟨x,b,g,a,d⟩ p h
noncomputable def visB(sg:Sg)(x:Str):Bool:=sg.sc.lookup x==some .local||sg.sc.lookup x==some .cell||sg.sc.lookup x==some .free
noncomputable def gloB(sg:Sg)(x:Str):Bool:=sg.sc.lookup x==some .globalImplicit
noncomputable def locB(sg:Sg)(x:Str):Bool:=sg.sc.lookup x==some .local||sg.sc.lookup x==some .cell
def K1(sg:Sg)(i:Nat)(x:Str):Bool:=sg.N[i]? == some x&&visB sg x&&x != "__debug__" && x != "__classdict__"
def bltB(sg:Sg)(x:Str)(f:Jk):Bool:=F8 f==some x&&gloB sg x&&sg.bl.contains x
noncomputable def Bl:Bi->Str
 | .len=>"len" | .min=>"min" | .max=>"max" | .sum=>"sum" | .sset=>"sorted" | .int=>"int" | .tuple=>"tuple" | .list=>"list" | .all=>"all"
noncomputable def qI:Mt->Str
 | .bitLength=>"bit_length" | .index=>"index" | .get=>"get"
noncomputable def F3(sg:Sg)(tn:ge Str)(fr:ge (on Nat)):ge Str:=tn++(fr.drop tn.length).map λ o=>match o with | some i=>sg.N.getD i "" | none=>""
def qJ:Tg->Jk->on (ge Str)
 | .one _,e=>(F8 e).map λ x=>[x]
 | .many is,e=>match K0 e with
  | some es=>if es.length=is.length then es.mapM F8 else none
  | none=>none
def tgOk(sg:Sg):Tg->Jk->Bool
 | .one i,e=>match F8 e with
  | some x=>sg.N[i]? == some x&&locB sg x
  | none=>false
 | .many is,e=>match K0 e with
  | some es=>es.length==is.length&&2<=es.length&&(is.zip es).all λ p=>match F8 p.2 with
   | some x=>sg.N[p.1]? == some x&&locB sg x
   | none=>false
  | none=>false
noncomputable def U2:ge Str->Bool
 | []=>true
 | x::r=>!r.contains x&&U2 r
noncomputable def X3:Tg->ge Nat
 | .one i=>[i]
 | .many is=>is
def X4(sg:Sg)(N':ge Str)(fr:ge (on Nat))(sc:Ju)(tg:Tg):Bool:=(X3 tg).all (λ i=>fr[i]? == some none) &&
 sc.kind == .function&&U2 N'&&U2 (sc.names.map (·.1))&&fr.length==N'.length &&
 (fr.zip N').all (λ p=>match p.1 with | some i=>sg.N[i]? == some p.2&&sc.names.contains (p.2,.free) | none=>true) &&
 sc.names.all λ y=>if y.2 == .free then sg.sc.lookup y.1==some .cell||sg.sc.lookup y.1==some .free else true
def bV(p:Jv)(ps:ge Str):Bool:=match p with | ⟨po,ar,va,ko,kd,kw,df⟩=>in0 po (in1 ar λ a=>inNo va (in0 ko (in0 kd (inNo kw (in0 df (a.arg == "entry" && ps==(["entry"]:ge Str)))))))
@[elab_as_elim] theorem qK(h:bV p ps=true){C:Jv->ge Str->Prop}(k:∀x y,C ⟨[],[⟨"entry",x,y⟩],none,[],[],none,[]⟩ ["entry"]):C p ps:=by
 obtain⟨po,ar,va,ko,kd,kw,df⟩:=p;refine N3 h λ h=>N4 h λ ⟨x,a,b⟩ h=>X0 h λ h=>N3 h λ h=>N3 h λ h=>X0 h λ h=>N3 h λ h=>?_
 simp only[d6,f7]at h;obtain⟨rfl,rfl⟩:=h;exact k a b
def qL(sg:Sg)(N:ge Str)(np:Nat)(fr:ge Nat)(pr:Jv)(sc:Ju):Bool:=bV pr (N.take np)&&sc.kind == .function && !sc.isCoroutine && !sc.isGenerator&&U2 N&&U2 (sc.names.map (·.1))&&decide (N.length=np+fr.length) &&
 (N.take np).all (λ x=>sc.names.lookup x==some .local)&&sc.names.all (λ y=>y.2 != .cell)&&(N.drop np).all (λ x=>sc.names.lookup x==some .free)&&(fr.zip (N.drop np)).all (λ p=>sg.N[p.1]? == some p.2) &&
 sc.names.all λ y=>if y.2 == .free then sg.sc.lookup y.1==some .cell else true
noncomputable def qM:ME->Bool
 | .comp _ _ _ _=>true
 | .compi _ _ _ _ _=>true
 | _=>false
noncomputable def isZp:ME->Bool
 | .enu _=>true
 | .itm _=>true
 | _=>false
mutual
def corE(sg:Sg)(w:Bool):ME->Jk->Bool
 | .var i,e=>C8 e λ x=>K1 sg i x
 | .int i,e=>aA e==some (.int i)
 | .bl i,e=>aA e==some (.bool i)
 | .str x,e=>aA e==some (.str x)&&decide (x.length<=1000)
 | .non,e=>aA e==some .none
 | .glb x,e=>F8 e==some x&&gloB sg x&&x != "__debug__"
 | .bin op a b,e=>jz e λ ea o eb=>o==op&&corE sg false a ea&&corE sg false b eb
 | .neg a,e=>inUn e λ o ea=>o == .USub&&corE sg false a ea
 | .not a,e=>inUn e λ o ea=>o == .Not&&corE sg false a ea
 | .cmp op a b,e=>jO e λ ea o eb=>o==op&&corE sg false a ea&&corE sg false b eb && !F2 eb
 | .chain op op' a b c,e=>qr e λ ea o o' eb ec=>o==op&&o'==op'&&corE sg false a ea&&corE sg false b eb&&corE sg false c ec && !F2 ec
 | .and ms,e=>fE e λ o es=>o == .And&&r6 sg ms es
 | .or ms,e=>fE e λ o es=>o == .Or&&r6 sg ms es
 | .lst ms,e=>jA e λ es=>r6 sg ms es
 | .tup ms,e=>fG e λ es=>r6 sg ms es
 | .ix a b,e=>L9 e λ ea eb=>corE sg false a ea&&corE sg false b eb && !L8 eb
 | .sl a lo hi,e=>L9 e λ ea es=>(qw es λ el eh=>corE sg false a ea&&corE sg false lo el&&corE sg false hi eh)
 | .slf a lo,e=>L9 e λ ea es=>(qu es λ el=>corE sg false a ea&&corE sg false lo el)
 | .slt a hi,e=>L9 e λ ea es=>(qv es λ eh=>corE sg false a ea&&corE sg false hi eh)
 | .call f ms,e=>inCl e λ ef es _=>(C8 ef λ x=>sg.fn[f]? == some x&&gloB sg x&&x != "__debug__") && !es.isEmpty&&r6 sg ms es
 | .bi f ms,e=>inCl e λ ef es _=>bltB sg (Bl f) ef && !es.isEmpty&&(match f with
   | .sset=>(in1 es λ e1=>inCl e1 λ ef' es' _=>bltB sg "set" ef'&&es'.length==1&&r6 sg ms es')
   | _=>r6 sg ms es)
 | .isi a ts,e=>qx e λ ef ea et _=>bltB sg "isinstance" ef&&corE sg false a ea && !t4 ea && !t4 et&&(match ts with
   | [t]=>F8 et==some t&&gloB sg t&&sg.bl.contains t&&T8.contains t
   | _=>false)
 | .meth m a ms,e=>jQ e λ ef pos=>(X1 ef λ ea n apos=>n==qI m&&corE sg false a ea&&((F8 ea).isSome||(qG ea).isSome)&&apos.endLine==pos.line&&ms.isEmpty)
 | .comp elt tg it fr,e=>inCp e λ c=>c.ifs.isEmpty&&(corE sg true it c.it&&(!isZp it||(K0 c.tg).isSome)) && !F2 c.it&&(any1 (qJ tg c.tg) λ tn=>X4 sg (F3 sg tn fr) fr c.sc tg&&tgOk ⟨F3 sg tn fr,c.sc.names,sg.fn,sg.bl,sg.cl,false,false⟩ tg c.tg&&corE ⟨F3 sg tn fr,c.sc.names,sg.fn,sg.bl,sg.cl,false,false⟩ false elt c.elt)
 | .compi elt tg it cd fr,e=>inCp e λ c=>(corE sg true it c.it&&(!isZp it||(K0 c.tg).isSome)) && !F2 c.it&&(any1 (qJ tg c.tg) λ tn=>in1 c.ifs λ ec=>X4 sg (F3 sg tn fr) fr c.sc tg&&tgOk ⟨F3 sg tn fr,c.sc.names,sg.fn,sg.bl,sg.cl,false,false⟩ tg c.tg&&corE ⟨F3 sg tn fr,c.sc.names,sg.fn,sg.bl,sg.cl,false,false⟩ false elt c.elt&&corE ⟨F3 sg tn fr,c.sc.names,sg.fn,sg.bl,sg.cl,false,false⟩ false cd ec)
 | .idx a b,e=>bS e λ ef eb pos=>(X1 ef λ ea n apos=>n == "index" && corE sg false a ea&&(F8 ea).isSome&&apos.endLine==pos.line&&corE sg false b eb && !t4 eb)
 | .rng ms,e=>w&&(inCl e λ ef es _=>bltB sg "range" ef&&r6 sg ms es&&decide (es.length<=2))
 | .enu a,e=>w&&(bS e λ ef ea _=>bltB sg "enumerate" ef&&corE sg false a ea && !t4 ea)
 | .itm a,e=>w&&(jQ e λ ef pos=>(X1 ef λ o n apos=>n == "items" && corE sg false a o&&apos.endLine==pos.line&&(F8 o).isSome))
 | .dix a k,e=>L9 e λ ea eb=>corE sg false a ea&&corE sg false k eb && !L8 eb
 | .dgp i k,e=>L9 e λ o ek=>(C8 o λ x=>K1 sg i x)&&corE sg false k ek && !L8 ek
 | .callv i xs ms,e=>inCl e λ ef es _=>(C8 ef λ x=>K1 sg i x)&&(xs.all λ p=>sg.fn[p.2]? == some p.1) && !es.isEmpty&&r6 sg ms es
 | .srtk a N np lb fr,e=>sg.top&&(inCk e λ ef ea kn el=>bltB sg "sorted" ef&&kn==some "key" && corE sg false a ea && !t4 ea&&(jH el λ pr bd sc _=>qL sg N np fr pr sc&&corE ⟨N,sc.names,sg.fn,sg.bl,sg.cl,false,false⟩ false lb bd))
 | .ite c a b,e=>inIf e λ ec ea eb=>corE sg false c ec&&corE sg false a ea&&corE sg false b eb
 | .dgl i k,e=>L9 e λ o ek=>(C8 o λ x=>K1 sg i x)&&corE sg false k ek && !L8 ek
 | .nin i k,e=>jO e λ ek o eo=>o == .NotIn&&(C8 eo λ x=>K1 sg i x)&&corE sg false k ek
 | .kyi a,e=>w&&(F8 e).isSome&&corE sg false a e
def r6(sg:Sg):ge ME->ge Jk->Bool
 | [],[]=>true
 | m::ms,e::es=>corE sg false m e && !t4 e&&r6 sg ms es
 | _,_=>false
end
def jU(v:Jk):Bool:=match K0 v with
 | none=>true
 | some vs=>vs.all (foldedForSure 8)
mutual
def corS(sg:Sg):MS->Jq->Bool
 | .set i _ e,s=>U1 s λ t v pos=>(C8 t λ x=>sg.N[i]? == some x&&locB sg x&&corE sg false e v&&(!N2 v||qM e))
 | .sett is e,s=>U1 s λ t v _=>tgOk sg (.many is) t&&corE sg false e v&&jU v && !N2 v
 | .aug i e,s=>jN s λ t o v _=>o == .Add&&(C8 t λ x=>sg.N[i]? == some x&&locB sg x)&&corE sg false e v
 | .app i e,s=>bR s λ v _=>(bS v λ ef ea pos=>(X1 ef λ o n apos=>n == "append" && (C8 o λ x=>K1 sg i x)&&corE sg false e ea && !t4 ea&&apos.endLine==pos.line))
 | .ext i e,s=>bR s λ v _=>(bS v λ ef ea pos=>(X1 ef λ o n apos=>n == "extend" && (C8 o λ x=>K1 sg i x)&&corE sg false e ea && !t4 ea&&apos.endLine==pos.line))
 | .seti i k e,s=>U1 s λ t v _=>(L9 t λ o ek=>(C8 o λ x=>K1 sg i x)&&corE sg false k ek && !L8 ek&&corE sg false e v)
 | .exp e,s=>bR s λ v _=>corE sg false e v && !N2 v
 | .ret e,s=>jT s λ v _=>corE sg false e v
 | .iff c a b,s=>jL s λ ec ea eb _=>corE sg false c ec&&F9 sg a ea&&F9 sg b eb
 | .fo tg it body,s=>qE s λ t i b _=>sg.lp&&tgOk sg tg t&&(corE sg true it i&&(!isZp it||(K0 t).isSome)) && !F2 i&&F9 sg body b
 | .wh c body,s=>qF s λ t b _=>sg.lp&&corE sg false c t&&F9 sg body b
 | .sep i,s=>U1 s λ t v _=>(C8 t λ x=>(jS v (sg.N[i]? == some x&&locB sg x)))
 | .dpp i ks e,s=>U1 s λ t v _=>(L9 t λ o ek=>(C8 o λ x=>K1 sg i x)&&(fG ek λ es=>r6 sg ks es)&&corE sg false e v && !N2 v)
 | .retd i,s=>jT s λ v _=>(C8 v λ x=>K1 sg i x)
 | .sel i,s=>U1 s λ t v _=>(C8 t λ x=>(jS v (sg.N[i]? == some x&&locB sg x)))
 | .dpl i k e,s=>U1 s λ t v _=>(L9 t λ o ek=>(C8 o λ x=>K1 sg i x)&&corE sg false k ek && !L8 ek&&corE sg false e v && !N2 v)
 | .frd _,_=>false
 | .unk,_=>true
def F9(sg:Sg):ge MS->ge Jq->Bool
 | [],[]=>true
 | .frd _::ms,ss=>F9 sg ms ss
 | m::ms,s::ss=>corS sg m s&&F9 sg ms ss
 | _,_=>false
end
end
end L2
end
noncomputable section
namespace L2
open PySem PySem.Spec PyProof.Rows
def M0(H:Hp)(q:Str)(params:Jv)(body:Jk)(scope:Ju)(cl:ge (Str×Ji))(f:Ji):Prop:=
 ∃c' oc u vs t pm ctv,H f=some (.frz (PySem.W.kla_obj "<lambda>" q params body scope cl pm c' ctv) (.own f))/\H c'=some (.frz oc u)/\oc.data=.fields vs/\vs[1]? = some (.str q t)
theorem M0.mono{H H':Hp}{q:Str}{params:Jv}{body:Jk}{scope:Ju}{cl:ge (Str×Ji)}{f:Ji}(e:Same H H')(h:M0 H q params body scope cl f):M0 H' q params body scope cl f:=by
 obtain⟨c',oc,u,vs,t,pm,ctv,e1,e2,r⟩:=h;exact⟨c',oc,u,vs,t,pm,ctv,e _ _ e1,e _ _ e2,r⟩
structure LamScope(N ps:List Str)(sc:Scope)(cl:List (Str×Addr))(l:List Addr):Prop where
 kind:sc.kind=.function
 co:sc.isCoroutine=false
 gen:sc.isGenerator=false
 nd:N.Nodup
 pre:N.take ps.length=ps
 par:∀x∈ps,sc.names.lookup x=some .local
 nocell:∀y∈sc.names,y.2 ≠ .cell
 fre:∀i x,ps.length<=i->N[i]? = some x->sc.names.lookup x=some .free
 has:∀x,sc.names.lookup x=some .free->∃c,cl.lookup x=some c
 inj:∀x y c,cl.lookup x=some c->cl.lookup y=some c->x=y
 mem:∀x c,cl.lookup x=some c->c∈l
def bW(H:Hp)(N:ge Str)(np:Nat)(cl:ge (Str×Ji))(l:ge Ji)(ws:ge V):Prop:=N.length=np+ws.length/\(∀c∈l,∃o v,H c=some (.frz o (.own c))/\o.data=.cell v) /\
 ∀(i:Nat) x v,N[np+i]? = some x->ws[i]? = some v->∃c o u,cl.lookup x=some c/\H c=some (.frz o (.own c))/\o.data=.cell (some u)/\RelV v u
theorem bW.mono{H H':Hp}{N:ge Str}{np:Nat}{cl:ge (Str×Ji)}{l:ge Ji}{ws:ge V}(e:Same H H')(h:bW H N np cl l ws):bW H' N np cl l ws:=
 ⟨h.1,λ c hc=>by obtain⟨o,v,e1,e2⟩:=h.2.1 c hc;exact⟨o,v,e _ _ e1,e2⟩,λ i x v h1 h2=>by obtain⟨c,o,u,e1,e2,r⟩:=h.2.2 i x v h1 h2;exact⟨c,o,u,e1,e _ _ e2,r⟩⟩
noncomputable def X5(m:LamD)(params:Jv)(body:Jk)(scope:Ju):Bool:=bV params (m.N.take m.np)&&corE ⟨m.N,scope.names,m.fn,m.bl,m.cl,false,false⟩ false m.body body
theorem Bm(h:bV a ps=true)(d:c.length=ps.length):bindArgs (PySem.W.kla_fn "<lambda>" q a b sc cl pm cd e) ⟨c,[]⟩=pure (ps.zip c):=by
 revert d;refine qK h λ x y d=>?_
 obtain⟨u,rfl⟩:∃u,c=[u]:=by
   cases c with
   | nil=>cases d
   | cons u r=>cases r with
    | nil=>exact⟨u,rfl⟩
    | cons _ _=>cases d
 rfl
structure Dm where
 K:PySem.W.Frag
 mg:Str->Option Value
abbrev Cx.D(X:Cx):Dm:=⟨X.K,X.mg⟩
def SqS(K:Js)(H:Hp)(a:Ji)(xs:ge V):Prop:=(∃o,H a=some (.frz o (.lst xs))) \/
 ∃(o:Obj) (its:Jl Jg) (n:Nat),K.lookup a=some o/\o.cls=.type "list" /\ o.dict=none/\o.data=.seq its n/\its.size<=sizeLine/\Vals xs its.toList
theorem SqS.sq{K:Js}(h:SqS K H a xs):SqL K H a xs:=by
 rcases h with h | h
 ·exact .inl (.inr h)
 ·exact .inr h
theorem SqS.of{K:Js}(b:Only H)(h:SqL K H a xs):SqS K H a xs:=by
 rcases h with(h | h) | h
 ·rcases b a with z | z
  ·rw[h]at z;cases z
  ·rcases z with⟨o,ys,z⟩ | ⟨q,z⟩<;>(rw[h]at z;cases z)
 ·exact .inl h
 ·exact .inr h
theorem Same.sqs{K:Js}{H H':Hp}{a:Ji}{xs:ge V}(e:Same H H')(h:SqS K H a xs):SqS K H' a xs:=by
 rcases h with⟨o,h⟩ | h
 ·exact .inl ⟨o,e _ _ h⟩
 ·exact .inr h
noncomputable def dKey:Key->DKey
 | .inl i=>.i i
 | .inr x=>.s x
noncomputable def mutO:HO->Bool
 | .lst _=>true
 | .dK _=>true
 | .dT _=>true
 | _=>false
mutual
def Rep(D:Dm)(H:Hp):DV->V->Prop
 | .non,v=>v=.non
 | .bl b,v=>v=.bl b
 | .int i,v=>v=.int i
 | .str x,v=>v=.str x/\x.length<=sizeLine
 | .tup ds,v=>∃a xs,v=.ref a/\SqT D.K H a xs/\RepL D H ds xs
 | .lst ds,v=>∃a xs,v=.ref a/\H a=some (.lst xs)/\RepL D H ds xs
 | .dct ks vs,v=>(∃a o kvs,v=.ref a/\H a=some (.frz o (.dK kvs))/\kvs.map (λ p=>dKey p.1)=ks/\RepL D H vs (kvs.map (·.2)))\/∃a o kvs,v=.ref a/\H a=some (.frz o (.dT kvs))/\kvs.map (λ p=>DKey.t p.1)=ks/\RepL D H vs (kvs.map (·.2))
 | .fn x,v=>∃f,v=.ref f/\D.mg x=some (.ref f)
 | .lam m cs,v=>∃f pr bd sc q cl l ws,v=.ref f/\M0 H q pr bd sc cl f/\X5 m pr bd sc=true/\LamScope m.N (m.N.take m.np) sc cl l/\RepL D H cs ws/\bW H m.N m.np cl l ws
 | .scr ns,v=>∃a,v=.ref a/\SqS D.K H a (ns.map V.int)
def RepL(D:Dm)(H:Hp):ge DV->ge V->Prop
 | [],xs=>xs=[]
 | d::ds,xs=>∃v vs,xs=v::vs/\Rep D H d v/\RepL D H ds vs
end
theorem Same.tseq{K:Js}{H H':Hp}{a:Ji}{xs:ge V}(e:Same H H')(h:SqT K H a xs):SqT K H' a xs:=by
 rcases h with(h | ⟨o,h⟩) | h
 ·exact .inl (.inl (e _ _ h))
 ·exact .inl (.inr ⟨o,e _ _ h⟩)
 ·exact .inr h
mutual
theorem Rep.mono{D:Dm}{H H':Hp}(e:Same H H'):∀{d:DV} {v:V},Rep D H d v->Rep D H' d v
 | .non,_,h=>by unfold Rep at h ⊢;exact h
 | .bl _,_,h=>by unfold Rep at h ⊢;exact h
 | .int _,_,h=>by unfold Rep at h ⊢;exact h
 | .str _,_,h=>by unfold Rep at h ⊢;exact h
 | .tup ds,_,h=>by unfold Rep at h ⊢;obtain⟨a,xs,e1,e2,e3⟩:=h;exact⟨a,xs,e1,e.tseq e2,RepL.mono e e3⟩
 | .lst ds,_,h=>by unfold Rep at h ⊢;obtain⟨a,xs,e1,e2,e3⟩:=h;exact⟨a,xs,e1,e _ _ e2,RepL.mono e e3⟩
 | .dct _ _,_,h=>by
  unfold Rep at h ⊢;rcases h with⟨a,o,kvs,e1,e2,e3,e4⟩ | ⟨a,o,kvs,e1,e2,e3,e4⟩
  ·exact .inl ⟨a,o,kvs,e1,e _ _ e2,e3,RepL.mono e e4⟩
  ·exact .inr ⟨a,o,kvs,e1,e _ _ e2,e3,RepL.mono e e4⟩
 | .fn _,_,h=>by unfold Rep at h ⊢;exact h
 | .lam m cs,_,h=>by unfold Rep at h ⊢;obtain⟨f,pr,bd,sc,q,cl,l,ws,e1,e2,e3,e4,e5,e6⟩:=h;exact⟨f,pr,bd,sc,q,cl,l,ws,e1,e2.mono e,e3,e4,RepL.mono e e5,e6.mono e⟩
 | .scr _,_,h=>by unfold Rep at h ⊢;obtain⟨a,e1,e2⟩:=h;exact⟨a,e1,e.sqs e2⟩
theorem RepL.mono{D:Dm}{H H':Hp}(e:Same H H'):∀{ds:ge DV} {xs:ge V},RepL D H ds xs->RepL D H' ds xs
 | [],_,h=>by unfold RepL at h ⊢;exact h
 | d::ds,_,h=>by unfold RepL at h ⊢;obtain⟨v,vs,e1,e2,e3⟩:=h;exact⟨v,vs,e1,Rep.mono e e2,RepL.mono e e3⟩
end
theorem u6:Rep D H (.int i) v↔v=.int i:=by unfold Rep;exact L4
theorem O7:Rep D H (.bl i) v↔v=.bl i:=by unfold Rep;exact L4
theorem bX:Rep D H (.str i) v↔(v=.str i/\i.length<=sizeLine):=by unfold Rep;exact L4
theorem O8:Rep D H .non v↔v=.non:=by unfold Rep;exact L4
theorem C9:Rep D H (.tup ds) v↔∃a b,v=.ref a/\SqT D.K H a b/\RepL D H ds b:=by unfold Rep;exact L4
theorem G0:Rep D H (.lst ds) v↔∃a b,v=.ref a/\H a=some (.lst b)/\RepL D H ds b:=by unfold Rep;exact L4
theorem jV:Rep D H (.lam m cs) v↔∃f pr c a q cl l b,v=.ref f/\M0 H q pr c a cl f/\X5 m pr c a=true/\LamScope m.N (m.N.take m.np) a cl l/\RepL D H cs b/\bW H m.N m.np cl l b:=by unfold Rep;exact L4
theorem fJ:Rep D H (.fn x) v↔∃f,v=.ref f/\D.mg x=some (.ref f):=by unfold Rep;exact L4
theorem R4{D:Dm}{H:Hp}{v:V}{ns:ge Int}:Rep D H (.scr ns) v↔∃a,v=.ref a/\SqS D.K H a (ns.map V.int):=by unfold Rep;exact L4
theorem O9:Rep D H (.dct ks vs) v↔((∃a o b,v=.ref a/\H a=some (.frz o (.dK b))/\b.map (λ p=>dKey p.1)=ks/\RepL D H vs (b.map (·.2)))\/∃a o b,v=.ref a/\H a=some (.frz o (.dT b))/\b.map (λ p=>DKey.t p.1)=ks/\RepL D H vs (b.map (·.2))):=by unfold Rep;exact L4
theorem y9{D:Dm}{H:Hp}{xs:ge V}:RepL D H [] xs↔xs=[]:=by unfold RepL;exact L4
theorem u8:RepL D H (d::ds) xs↔∃v a,xs=v::a/\Rep D H d v/\RepL D H ds a:=by
 constructor
 ·intro h;exact h
 ·intro h;exact h
theorem RepL.length:∀{a:ge DV} {xs:ge V},RepL D H a xs->xs.length=a.length
 | [],_,h=>by rw[y9.mp h];rfl
 | d::a,_,h=>by obtain⟨v,vs,c,_,b⟩:=u8.mp h;rw[c,n7,n7,RepL.length b]
theorem RepL.get:∀{ds:ge DV} {xs:ge V} {i:Nat} {d:DV},RepL D H ds xs->ds[i]? = some d->∃v,xs[i]? = some v/\Rep D H d v
 | [],_,_,_,_,e=>by simp at e
 | d::ds,_,i,d',h,e=>by
  obtain⟨v,vs,c,b,a⟩:=u8.mp h;subst c;cases i with
  | zero=>simp at e;subst e;exact⟨v,rfl,b⟩
  | succ i=>simpa using RepL.get a (by simpa using e)
theorem RepL.append:∀{a es:ge DV} {xs ys:ge V},RepL D H a xs->RepL D H es ys->RepL D H (a++es) (xs++ys)
 | [],_,_,_,h,b=>by rwa [y9.mp h]
 | d::a,_,_,_,h,b=>by obtain⟨v,vs,f,e,c⟩:=u8.mp h;subst f;exact u8.mpr ⟨v,_,rfl,e,RepL.append c b⟩
theorem RepL.one(h:Rep D H d v):RepL D H [d] [v]:=u8.mpr ⟨v,[],rfl,h,y9.mpr rfl⟩
theorem RepL.take:∀{a:ge DV} {xs:ge V} (n:Nat),RepL D H a xs->RepL D H (a.take n) (xs.take n)
 | _,_,0,_=>y9.mpr rfl
 | [],_,n+1,h=>by rw[y9.mp h];exact y9.mpr rfl
 | d::a,_,n+1,h=>by obtain⟨v,vs,e,c,b⟩:=u8.mp h;subst e;exact u8.mpr ⟨v,_,rfl,c,RepL.take n b⟩
theorem RepL.drop:∀{a:ge DV} {xs:ge V} (n:Nat),RepL D H a xs->RepL D H (a.drop n) (xs.drop n)
 | _,_,0,h=>h
 | [],_,n+1,h=>by rw[y9.mp h];exact y9.mpr rfl
 | d::a,_,n+1,h=>by obtain⟨v,vs,c,e2,b⟩:=u8.mp h;subst c;exact RepL.drop n b
theorem RepL.set(q:Rep D H d v):∀{a:ge DV} {xs:ge V} (n:Nat),RepL D H a xs->RepL D H (a.set n d) (xs.set n v)
 | [],_,n,h=>by rw[y9.mp h];exact y9.mpr rfl
 | _::a,_,0,h=>by obtain⟨v,f,c,e,b⟩:=u8.mp h;subst c;exact u8.mpr ⟨_,_,rfl,q,b⟩
 | _::a,_,n+1,h=>by obtain⟨v,f,c,e,b⟩:=u8.mp h;subst c;exact u8.mpr ⟨_,_,rfl,e,RepL.set q n b⟩
theorem RepL.rep{D:Dm}{H:Hp}{ds:ge DV}{xs:ge V}(h:RepL D H ds xs):∀k:Nat,RepL D H (List.replicate k ds).flatten (List.replicate k xs).flatten
 | 0=>y9.mpr rfl
 | k+1=>by rw[S8,S8,V6,V6];exact h.append (RepL.rep h k)
theorem bY:∀(a:ge Int),RepL D H (a.map DV.int) (a.map V.int)
 | []=>y9.mpr rfl
 | n::a=>u8.mpr ⟨_,_,rfl,u6.mpr rfl,bY a⟩
noncomputable def wo(O:ge Ji)(H:Hp):Hp:=λ b=>if b∈O then none else H b
theorem aB(h:b∈O):wo O H b=none:=d8 h
theorem i8(h:b∉O):wo O H b=H b:=e8 h
theorem x6(h:wo O H b=some o):b∉O/\H b=some o:=by
 by_cases a:b∈O
 ·rw[aB a]at h;cases h
 ·rw[i8 a]at h;exact⟨a,h⟩
theorem Same.wo{O:ge Ji}{H H':Hp}(e:Same H H'):Same (wo O H) (wo O H'):=λ b o h=>by
 obtain⟨hb,h⟩:=x6 h;rw[i8 hb];exact e b o h
theorem t6:Same (L2.wo O H) H:=λ b o h=>(x6 h).2
theorem M1(h:∀b∈a,b∈O):Same (L2.wo O H) (L2.wo a H):=λ b o e=>by
 obtain⟨c,e⟩:=x6 e
 rwa [i8 λ z=>c (h b z)]
theorem u9(h:H p=none):Same H (upd H p o):=λ b u q=>by rwa [j3 (A0 q h)]
structure Hid(O W:List Addr)(H0 H:Hp):Prop where
 ot:∀a∈O++W,H0 a≠none
 same:Same H0 H
 wl:∀a∈W,∃o,H0 a=some o/\mutO o=true
 dj:∀a∈W,a∉O
 om:∀a∈O,∃o,H0 a=some o/\mutO o=true
def Hdn(O:ge Ji)(H:Hp):Prop:=∀a∈O,∃o,H a=some o/\mutO o=true
theorem Hdn.ne(h:Hdn O H):∀a∈O,H a≠none:=λ a b q=>by obtain⟨o,e,_⟩:=h a b;rw[q]at e;cases e
theorem Hid.omS{O W:ge Ji}{H0 H H':Hp}(h:Hid O W H0 H)(e:Same H0 H'):Hdn O H':=λ a ha=>by obtain⟨o,q,m⟩:=h.om a ha;exact⟨o,e _ _ q,m⟩
theorem Hid.omW(h:Hid O W b H)(c:p∈W):Hdn O (upd b p x):=λ a d=>by
 obtain⟨o,q,m⟩:=h.om a d;exact⟨o,by rw[j3 λ z=>h.dj p c (by grind)];exact q,m⟩
theorem Hid.hdO(h:Hid O W a H):Hdn O H:=h.omS h.same
theorem Hid.hdA(h:Hid O W c H):Hdn (O++W) H:=λ a b=>by
 rcases A5.mp b with z | z
 ·exact h.hdO a z
 ·obtain⟨o,q,m⟩:=h.wl a z;exact⟨o,h.same _ _ q,m⟩
theorem Hid.mono{O W:ge Ji}{H0 H H':Hp}(h:Hid O W H0 H)(e:Same H H'):Hid O W H0 H':=⟨h.ot,h.same.trans e,h.wl,h.dj,h.om⟩
theorem Hid.newOut(h:Hid O W b H)(a:H p=none):p∉O++W:=λ z=>h.ot p z (h.same.free a)
mutual
theorem Rep.immut{D:Dm}{O W:ge Ji}{H:Hp}(hw:∀a∈W,∃o,H a=some o/\mutO o=true):∀{d:DV} {v:V},d.immut=true->Rep D (L2.wo O H) d v->Rep D (L2.wo (O++W) H) d v
 | .non,_,_,h=>by unfold Rep at h ⊢;exact h
 | .bl _,_,_,h=>by unfold Rep at h ⊢;exact h
 | .int _,_,_,h=>by unfold Rep at h ⊢;exact h
 | .str _,_,_,h=>by unfold Rep at h ⊢;exact h
 | .tup ds,_,m,h=>by
  unfold Rep at h ⊢;obtain⟨a,xs,e1,e2,e3⟩:=h;have m':DV.immuts ds=true:=by unfold DV.immut at m;exact m
  refine⟨a,xs,e1,?_,RepL.immut hw m' e3⟩;rcases e2 with(h | ⟨o,h⟩) | h
  ·obtain⟨ha,h⟩:=x6 h;refine .inl (.inl ?_);rw[i8 λ z=>?_]
   ·exact h
   ·rcases A5.mp z with z | z
    ·exact ha z
    ·obtain⟨ys,q,m⟩:=hw a z;rw[h]at q;cases q;cases m
  ·obtain⟨ha,h⟩:=x6 h;refine .inl (.inr ⟨o,?_⟩);rw[i8 λ z=>?_]
   ·exact h
   ·rcases A5.mp z with z | z
    ·exact ha z
    ·obtain⟨ys,q,m⟩:=hw a z;rw[h]at q;cases q;cases m
  ·exact .inr h
 | .lst ds,_,m,_=>by unfold DV.immut at m;cases m
 | .dct ks vs,_,m,h=>by
  have m':DV.immuts vs=true:=by unfold DV.immut at m;exact m
  have ou:∀{a:Ji} {o:Obj} {u:HO},L2.wo O H a=some (.frz o u)->L2.wo (O++W) H a=some (.frz o u):=λ {a o u} e=>by
   obtain⟨ha,h⟩:=x6 e;rw[i8 λ z=>?_]
   ·exact h
   ·rcases A5.mp z with z | z
    ·exact ha z
    ·obtain⟨ys,q,m⟩:=hw a z;rw[h]at q;cases q;cases m
  rcases O9.mp h with⟨a,o,kvs,e1,e2,e3,e4⟩ | ⟨a,o,kvs,e1,e2,e3,e4⟩
  ·exact O9.mpr (.inl ⟨a,o,kvs,e1,ou e2,e3,RepL.immut hw m' e4⟩)
  ·exact O9.mpr (.inr ⟨a,o,kvs,e1,ou e2,e3,RepL.immut hw m' e4⟩)
 | .fn _,_,_,h=>by unfold Rep at h ⊢;exact h
 | .lam _ _,_,m,_=>by unfold DV.immut at m;cases m
 | .scr ns,_,_,h=>by
  unfold Rep at h ⊢;obtain⟨a,e1,e2⟩:=h;refine⟨a,e1,?_⟩;rcases e2 with⟨o,h⟩ | h
  ·obtain⟨ha,h⟩:=x6 h;refine .inl ⟨o,?_⟩;rw[i8 λ z=>?_]
   ·exact h
   ·rcases A5.mp z with z | z
    ·exact ha z
    ·obtain⟨ys,q,m⟩:=hw a z;rw[h]at q;cases q;cases m
  ·exact .inr h
theorem RepL.immut{D:Dm}{O W:ge Ji}{H:Hp}(hw:∀a∈W,∃o,H a=some o/\mutO o=true):∀{ds:ge DV} {xs:ge V},DV.immuts ds=true->RepL D (L2.wo O H) ds xs->RepL D (L2.wo (O++W) H) ds xs
 | [],_,_,h=>by unfold RepL at h ⊢;exact h
 | d::ds,_,m,h=>by unfold RepL at h ⊢;obtain⟨v,vs,e1,e2,e3⟩:=h;unfold DV.immuts at m;rw[d6]at m;exact⟨v,vs,e1,Rep.immut hw m.1 e2,RepL.immut hw m.2 e3⟩
end
def RepT(D:Dm)(W:ge Ji)(Ht H:Hp)(d:DV)(v:V):Prop:=match d with
 | .lst ds=>∃a xs,v=.ref a/\a∈W/\Ht a=some (.lst xs)/\RepL D H ds xs
 | d=>Rep D H d v
theorem RepT.mono{D:Dm}{W:ge Ji}{Ht Ht' H H':Hp}{d:DV}{v:V}(et:Same Ht Ht')(e:Same H H')(h:RepT D W Ht H d v):RepT D W Ht' H' d v:=by
 cases d with
 | lst ds=>obtain⟨a,xs,e1,e0,e2,e3⟩:=h;exact⟨a,xs,e1,e0,et _ _ e2,e3.mono e⟩
 | non=>exact Rep.mono (D:=D) (d:=.non) (v:=v) e h
 | bl b=>exact Rep.mono (D:=D) (d:=.bl b) (v:=v) e h
 | int b=>exact Rep.mono (D:=D) (d:=.int b) (v:=v) e h
 | str b=>exact Rep.mono (D:=D) (d:=.str b) (v:=v) e h
 | tup b=>exact Rep.mono (D:=D) (d:=.tup b) (v:=v) e h
 | dct b c=>exact Rep.mono (D:=D) (d:=.dct b c) (v:=v) e h
 | fn b=>exact Rep.mono (D:=D) (d:=.fn b) (v:=v) e h
 | lam b c=>exact Rep.mono (D:=D) (d:=.lam b c) (v:=v) e h
 | scr b=>exact Rep.mono (D:=D) (d:=.scr b) (v:=v) e h
theorem RepT.rep(e:Same H f)(h:RepT D W f H d v):Rep D f d v:=by
 cases d with
 | lst ds=>obtain⟨a,g,k,e0,j,i⟩:=h;exact G0.mpr ⟨a,g,k,j,i.mono e⟩
 | non=>exact Rep.mono e h
 | bl b=>exact Rep.mono e h
 | int b=>exact Rep.mono e h
 | str b=>exact Rep.mono e h
 | tup b=>exact Rep.mono e h
 | dct b c=>exact Rep.mono e h
 | fn b=>exact Rep.mono e h
 | lam b c=>exact Rep.mono e h
 | scr b=>exact Rep.mono e h
def Got(D:Dm)(O W:ge Ji)(H0 H:Hp)(d:DV)(c:Cl)(v:V):Prop:=match c with
 | .weak=>Rep D (L2.wo O H) d v
 | .top=>RepT D W (L2.wo O H) (L2.wo (O++W) H) d v
 | .strong=>Rep D (L2.wo (O++W) H) d v
 | .fresh=>∃p xs ds,v=.ref p/\d=.lst ds/\H0 p=none/\H p=some (.lst xs)/\RepL D (L2.wo (p::(O++W)) H) ds xs
section
variable {D:Dm} {O W:ge Ji} {H0 H H':Hp} {d:DV} {ds:ge DV} {c:Cl} {v:V}
theorem bZ:∀b∈O,b∈O++W:=λ _ h=>B6 _ h
theorem Got.mono(h:Got D O W H0 H d c v)(e:Same H H'):Got D O W H0 H' d c v:=by
 cases c with
 | weak=>exact Rep.mono e.wo h
 | top=>exact RepT.mono e.wo e.wo h
 | strong=>exact Rep.mono e.wo h
 | fresh=>
  obtain⟨p,a,k,j,i,g,f,b⟩:=h;exact⟨p,a,k,j,i,g,e _ _ f,b.mono e.wo⟩
theorem Got.since(h:Got D O W a H d c v)(e:Same H0 a):Got D O W H0 H d c v:=by
 cases c with
 | weak=>exact h
 | top=>exact h
 | strong=>exact h
 | fresh=>
  obtain⟨p,b,l,k,j,i,g,f⟩:=h;exact⟨p,b,l,k,j,e.free i,g,f⟩
theorem Got.strong(h:Got D O W H0 H d .fresh v)(c:Hid O W H0 H):Rep D (L2.wo (O++W) H) d v:=by
 obtain⟨p,a,ds,j,i,g,e4,f⟩:=h;rw[i];exact G0.mpr ⟨p,a,j,by rwa [i8 (λ z=>c.ot p z g)],f.mono (M1 λ b e=>i7 _ e)⟩
theorem Got.weak(h:Got D O W H0 H d c v)(hd:Hid O W H0 H):Rep D (L2.wo O H) d v:=by
 cases c with
 | weak=>exact h
 | top=>exact RepT.rep (M1 bZ) h
 | strong=>exact Rep.mono (M1 bZ) h
 | fresh=>exact Rep.mono (M1 bZ) (h.strong hd)
theorem Got.all(h:Got D O W H0 H d c v)(a:Hid O W H0 H):Rep D H d v:=Rep.mono t6 (h.weak a)
theorem Got.stro(h:Got D O W H0 H d c v)(hd:Hid O W H0 H)(g:L2.stro d c=true):Rep D (L2.wo (O++W) H) d v:=by
 cases c with
 | strong=>exact h
 | fresh=>exact h.strong hd
 | weak=>exact Rep.immut (λ a f=>by obtain⟨b,e,m⟩:=hd.wl a f;exact⟨b,hd.same _ _ e,m⟩) g (h.weak hd)
 | top=>exact Rep.immut (λ a f=>by obtain⟨b,e,m⟩:=hd.wl a f;exact⟨b,hd.same _ _ e,m⟩) g (h.weak hd)
theorem Got.items(h:Got D O W H0 H (.lst ds) c v)(hd:Hid O W H0 H)(f:c ≠ .weak):∃a xs,v=.ref a/\H a=some (.lst xs)/\RepL D (L2.wo (O++W) H) ds xs:=by
 cases c with
 | weak=>exact absurd rfl f
 | top=>
  obtain⟨a,xs,e,e0,d,b⟩:=h;exact⟨a,xs,e,t6 _ _ d,b⟩
 | strong=>
  obtain⟨a,xs,e,d,b⟩:=G0.mp h;exact⟨a,xs,e,t6 _ _ d,b⟩
 | fresh=>
  obtain⟨a,xs,e,d,b⟩:=G0.mp (h.strong hd);exact⟨a,xs,e,t6 _ _ d,b⟩
theorem Got.itemsT(h:Got D O W H0 H (.tup f) c v)(hd:Hid O W H0 H)(g:c ≠ .weak):∃a xs,v=.ref a/\SqT D.K H a xs/\RepL D (L2.wo (O++W) H) f xs:=by
 cases c with
 | weak=>exact absurd rfl g
 | top=>
  obtain⟨a,xs,e,b,d⟩:=C9.mp (h);exact⟨a,xs,e,t6.tseq b,d⟩
 | strong=>
  obtain⟨a,xs,e,b,d⟩:=C9.mp h;exact⟨a,xs,e,t6.tseq b,d⟩
 | fresh=>
  obtain⟨p,xs,f,e,b,d,e4,e5⟩:=h;cases b
theorem Got.lst(h:Got D O W H0 H (.lst ds) c v)(d:Hid O W H0 H):∃a b,v=.ref a/\H a=some (.lst b)/\RepL D (L2.wo O H) ds b:=by
 obtain⟨a,b,g,f,e⟩:=G0.mp (h.weak d);exact⟨a,b,g,t6 _ _ f,e⟩
theorem Got.tup(h:Got D O W H0 H (.tup ds) c v)(d:Hid O W H0 H):∃a b,v=.ref a/\SqT D.K H a b/\RepL D (L2.wo O H) ds b:=by
 obtain⟨a,b,g,f,e⟩:=C9.mp (h.weak d);exact⟨a,b,g,t6.tseq f,e⟩
noncomputable def J3(O W:ge Ji):Cl->ge Ji
 | .weak=>O
 | _=>O++W
theorem Got.lstC(h:Got D O W H0 H (.lst ds) c v)(hd:Hid O W H0 H):∃a xs,v=.ref a/\H a=some (.lst xs)/\RepL D (L2.wo (J3 O W c) H) ds xs:=by
 cases c with
 | weak=>exact h.lst hd
 | top=>exact h.items hd JI
 | strong=>exact h.items hd JI
 | fresh=>exact h.items hd JI
theorem Got.tupC(h:Got D O W H0 H (.tup ds) c v)(hd:Hid O W H0 H):∃a xs,v=.ref a/\SqT D.K H a xs/\RepL D (L2.wo (J3 O W c) H) ds xs:=by
 cases c with
 | weak=>exact h.tup hd
 | top=>exact h.itemsT hd JI
 | strong=>exact h.itemsT hd JI
 | fresh=>exact h.itemsT hd JI
theorem Got.item(h:Rep D (L2.wo (J3 O W c) H) d v):Got D O W H0 H d c.item v:=by
 cases c<;>exact h
theorem v7(a:c ≠ .fresh:=by intro z;cases z):Got D O W H0 H (.int i) c (.int i):=by
 have q:∀H,Rep D H _ (.int i):=λ H=>u6.mpr rfl;cases c with
 | fresh=>exact absurd rfl a
 | weak=>exact q (L2.wo O H)
 | strong=>exact q (L2.wo (O++W) H)
 | top=>exact q (L2.wo (O++W) H)
theorem R5:Got D O W H0 H (.bl i) .strong (.bl i):=(O7.mpr rfl:Rep D (L2.wo (O++W) H) _ _)
theorem Bn:Got D O W H0 H .non .strong .non:=(O8.mpr rfl:Rep D (L2.wo (O++W) H) .non .non)
theorem Got.int(h:Got D O W H0 H (.int i) c v)(a:Hid O W H0 H):v=.int i:=u6.mp (h.weak a)
theorem Got.bl(h:Got D O W H0 H (.bl i) c v)(a:Hid O W H0 H):v=.bl i:=O7.mp (h.weak a)
theorem P0(c:Hid O W H0 H)(a:H p=none)(r:RepL D (L2.wo (O++W) H) ds xs):Got D O W H0 (upd H p (.lst xs)) (.lst ds) .fresh (.ref p):=by
 refine⟨p,xs,ds,rfl,rfl,c.same.free a,v6,r.mono λ b o e=>?_⟩;obtain⟨hb,e⟩:=x6 e
 rwa [i8 (by grind),j3 (A0 e a)]
theorem jW(b:Hid O W H0 H)(a:H p=none)(r:RepL D (L2.wo O H) ds xs):Got D O W H0 (upd H p (.lst xs)) (.lst ds) .weak (.ref p):=by
 exact G0.mpr ⟨p,xs,rfl,by rw[i8 (λ z=>b.newOut a (B6 _ z))];exact v6,r.mono (u9 a).wo⟩
theorem fK(hd:Hid O W H0 H)(a:H p=none)(r:RepL D (L2.wo (J3 O W c) H) ds xs):Got D O W H0 (upd H p (.lst xs)) (.lst ds) (Cl.anew c c) (.ref p):=by
 cases c with
 | weak=>exact jW hd a r
 | top=>exact P0 hd a r
 | strong=>exact P0 hd a r
 | fresh=>exact P0 hd a r
theorem cf(b:Hid O W H0 H)(a:H p=none)(r:RepL D (L2.wo (O++W) H) ds xs):Got D O W H0 (upd H p (.tup xs)) (.tup ds) .strong (.ref p):=
 C9.mpr ⟨p,xs,rfl,SqT.of (by rw[i8 (b.newOut a)];exact v6),r.mono (u9 a).wo⟩
theorem jX(b:Hid O W H0 H)(a:H p=none)(r:RepL D (L2.wo O H) ds xs):Got D O W H0 (upd H p (.tup xs)) (.tup ds) .weak (.ref p):=
 C9.mpr ⟨p,xs,rfl,SqT.of (by rw[i8 λ z=>b.newOut a (B6 _ z)];exact v6),r.mono (u9 a).wo⟩
theorem qN(hd:Hid O W H0 H)(a:H p=none)(r:RepL D (L2.wo (J3 O W c) H) ds xs):Got D O W H0 (upd H p (.tup xs)) (.tup ds) c.item (.ref p):=by
 cases c with
 | weak=>exact jX hd a r
 | top=>exact cf hd a r
 | strong=>exact cf hd a r
 | fresh=>exact cf hd a r
end
inductive GotL (D:Dm) (O W:List Addr) (H0 H:Hp):List (DV×Cl)->List V->Prop where
 | nil:GotL D O W H0 H [] []
 | cons {d:DV} {c:Cl} {v:V} {l:List (DV×Cl)} {vs:List V}:Got D O W H0 H d c v->GotL D O W H0 H l vs->GotL D O W H0 H ((d,c)::l) (v::vs)
theorem GotL.repL(h:GotL D O W H0 H l vs)(b:Hid O W H0 H):RepL D (L2.wo O H) (l.map (·.1)) vs:=by
 induction h with
 | nil=>exact y9.mpr rfl
 | cons h _ a=>exact u8.mpr ⟨_,_,rfl,h.weak b,a⟩
theorem GotL.stros(h:GotL D O W H0 H l vs)(b:Hid O W H0 H)(hs:L2.stros l=true):RepL D (L2.wo (O++W) H) (l.map (·.1)) vs:=by
 induction h with
 | nil=>exact y9.mpr rfl
 | cons h _ a=>
  unfold L2.stros at hs;rw[List.all_cons,d6]at hs;exact u8.mpr ⟨_,_,rfl,h.stro b hs.1,a hs.2⟩
theorem GotL.length(h:GotL D O W H0 H l vs):vs.length=l.length:=by
 induction h with
 | nil=>rfl
 | cons _ _ a=>rw[n7,n7,a]
theorem GotL.strong(h:GotL D O W H0 H l vs)(b:Hid O W H0 H)(hs:(l.all λ p=>p.2 == .strong||p.2 == .fresh)=true):RepL D (L2.wo (O++W) H) (l.map (·.1)) vs:=by
 refine h.stros b ?_;unfold L2.stros;rw[t7]at hs ⊢;intro p a;have:=hs p a;unfold L2.stro;cases e:p.2<;>rw[e]at this<;>first | rfl | cases this
theorem GotL.one(h:GotL D O W H0 H [(d,c)] vs):∃v,vs=[v]/\Got D O W H0 H d c v:=by
 cases h with
 | cons h t=>cases t;exact⟨_,rfl,h⟩
theorem GotL.two(h:GotL D O W H0 H [(d,c),(b,f)] vs):∃v a,vs=[v,a]/\Got D O W H0 H d c v/\Got D O W H0 H b f a:=by
 cases h with
 | cons h t=>obtain⟨a,e,g⟩:=t.one;subst e;exact⟨_,_,rfl,h,g⟩
theorem GotL.three(h:GotL D O W a H [(d,c),(i,l),(g,j)] vs):∃v f b,vs=[v,f,b]/\Got D O W a H d c v/\Got D O W a H i l f/\Got D O W a H g j b:=by
 cases h with
 | cons h t=>obtain⟨f,b,e,n,m⟩:=t.two;subst e;exact⟨_,_,_,rfl,h,n,m⟩
noncomputable def oeD(L:ge ((Int×Int)×Int)):DV:=.dct (L.map λ p=>.t [.inl p.1.1,.inl p.1.2]) (L.map λ p=>.int p.2)
noncomputable def oeK(L:ge ((Int×Int)×Int)):ge (ge Key×V):=L.map λ p=>([.inl p.1.1,.inl p.1.2],.int p.2)
noncomputable def dicO:HO->Bool
 | .dK _=>true
 | .dT _=>true
 | _=>false
def OdOk(D:Dm)(H:Hp)(d:DV)(o:HO):Prop:=(∃L,d=.tup [oeD L]/\o=.dT (oeK L))\/∃vs kvs,d=.dct (kvs.map λ p=>dKey p.1) vs/\o=.dK kvs/\RepL D H vs (kvs.map (·.2))
theorem OdOk.dic(h:OdOk D H d o):dicO o=true:=by rcases h with⟨L,_,e⟩ | ⟨vs,kvs,_,e,_⟩<;>(rw[e];rfl)
theorem OdOk.mut(h:OdOk D H d o):mutO o=true:=by rcases h with⟨L,_,e⟩ | ⟨vs,kvs,_,e,_⟩<;>(rw[e];rfl)
theorem OdOk.mono(h:OdOk D H d o)(e:Same H H'):OdOk D H' d o:=h.imp id λ ⟨b,a,f,c,r⟩=>⟨b,a,f,c,r.mono e⟩
def OdAt(D:Dm)(H:Hp)(σ:St)(δ:ge Sv)(O W:ge Ji):Prop:=∀(i:Nat) d,δ[i]? = some (.od d)->(∃a o,OdOk D (L2.wo (O++W) H) d o/\σ[i]? = some (some (.ref a))/\a∈W/\H a=some o)/\∀(j:Nat) d',δ[j]? = some (.od d')->σ[j]? = σ[i]? -> j=i
theorem OdAt.step(h:OdAt D H σ δ O W)(e:Same (L2.wo (O++W) H) (L2.wo (r++l) H'))(b:∀(j:Nat) d,δ'[j]? = some (.od d)->δ[j]? = some (.od d)/\c[j]? = σ[j]?)(v:∀a∈W,(∃o,H a=some o/\dicO o=true)->a∈l)(x:∀a o,a∈W->H a=some o->dicO o=true->H' a=some o):OdAt D H' c δ' r l:=λ i d q=>by
 obtain⟨s,m⟩:=b i d q;obtain⟨⟨a,L,f,y,p,n⟩,u⟩:=h i d s;exact⟨⟨a,L,f.mono e,by rw[m];exact y,v a p ⟨_,n,f.dic⟩,x a _ p n f.dic⟩,λ j g z w=>u j g (b j g z).1 (by rw[←(b j g z).2,w,m])⟩
theorem jY{σ:St}{δ:ge Sv}(x:on V)(c:∀d,X ≠ .od d):∀(j:Nat) d,(δ.set i X)[j]? = some (.od d)->δ[j]? = some (.od d)/\(σ.set i x)[j]? = σ[j]?:=λ j d h=>by
 have b:j≠i:=λ z=>by
  subst z;have a:j<δ.length:=by have:=(x8.mp h).1;rw[B0]at this;exact this
  rw[K4 a]at h;exact c d (A9 h)
 rw[p7 b.symm]at h ⊢;exact⟨h,rfl⟩
theorem Bo{σ:St}{δ:ge Sv}(a:∀d,X ≠ .od d):∀(j:Nat) d,(δ.set i X)[j]? = some (.od d)->δ[j]? = some (.od d)/\σ[j]? = σ[j]?:=λ j d h=>⟨(jY (σ:=σ) none a j d h).1,rfl⟩
structure RSt(D:Dm)(H:Hp)(σ:St)(δ:List Sv)(O W:List Addr):Prop where
 val:∀(i:Nat) d,δ[i]? = some (.val d)->∃v,σ[i]? = some (some v)/\Rep D (L2.wo (O++W) H) d v
 own:∀(i:Nat) d,δ[i]? = some (.own d)->∃a xs ds,d=.lst ds/\σ[i]? = some (some (.ref a))/\a∈W/\H a=some (.lst xs)/\RepL D (L2.wo (O++W) H) ds xs
 inj:∀(i j:Nat) a d d',δ[i]? = some (.own d)->δ[j]? = some (.own d')->σ[i]? = some (some (.ref a))->σ[j]? = some (some (.ref a))->i=j
 od:OdAt D H σ δ O W
 len:σ.length=δ.length
 hid:Hid O W H H
theorem Hid.later{O W:ge Ji}{H H':Hp}(h:Hid O W H H)(e:Same H H'):Hid O W H' H':=⟨λ a ha q=>h.ot a ha (e.free q),Same.refl _,λ a ha=>by obtain⟨xs,q,m⟩:=h.wl a ha;exact⟨xs,e _ _ q,m⟩,h.dj,h.omS e⟩
theorem RSt.mono(R:RSt D H σ δ O W)(e:Same H H'):RSt D H' σ δ O W where
 val:=λ i d h=>by obtain⟨v,c,b⟩:=R.val i d h;exact⟨v,c,b.mono e.wo⟩
 own:=λ i f h=>by obtain⟨a,g,f,o,c,b,n,m⟩:=R.own i f h;exact⟨a,g,f,o,c,b,e _ _ n,m.mono e.wo⟩
 inj:=R.inj
 od:=R.od.step e.wo (λ j d h=>⟨h,rfl⟩) (λ _ h _=>h) (λ a l _ h _=>e _ _ h)
 len:=R.len
 hid:=R.hid.later e
noncomputable def Post(D:Dm)(O W:ge Ji)(H0 H:Hp)(Q:VK):Re->Prop
 | .ok d c=>∀v H',Same H H'->Got D O W H0 H' d c v->Q v H'
def dE(D:Dm)(δ:ge Sv)(r:Re):TE:=λ σ H Q=>∃O W,RSt D H σ δ O W/\Post D O W H H Q r
noncomputable def Bp(D:Dm)(O W:ge Ji)(H0 H:Hp)(Q:ge V->Hp->Prop):Rs->Prop
 | .ok l=>∀vs H',Same H H'->GotL D O W H0 H' l vs->Q vs H'
def dA(D:Dm)(δ:ge Sv)(r:Rs):TA:=λ σ H Q=>∃O W,RSt D H σ δ O W/\Bp D O W H H Q r
noncomputable def fL(D:Dm)(H:Hp)(Q:Bool->Hp->Prop):Rt->Prop
 | .ok b=>∀H',Same H H'->Q b H'
def dT(D:Dm)(δ:ge Sv)(r:Rt):TT:=λ σ H Q=>∃O W,RSt D H σ δ O W/\fL D H Q r
theorem Post.step(h:Post D O W b H Q r)(e:Same H a):Post D O W b a Q r:=by
 cases r with
 | ok d c=>exact λ v f s g=>h v f (e.trans s) g
theorem Post.later(h:Post D O W b H Q r)(e:Same H a)(f:Same b a):Post D O W a a Q r:=by
 cases r with
 | ok d c=>exact λ v i s g=>h v i (e.trans s) (g.since f)
theorem GotL.since(h:GotL D O W a H l vs)(e:Same b a):GotL D O W b H l vs:=by
 induction h with
 | nil=>exact .nil
 | cons g _ c=>exact .cons (g.since e) c
theorem fL.later(h:fL D H Q r)(e:Same H a):fL D a Q r:=by
 cases r with
 | ok b=>exact λ c s=>h c (e.trans s)
theorem PE.weak(h:PE X e t)(k:∀a H Q,t' a H Q->t a H Q):PE X e t':=λ b s a H Q I q=>h b s a H Q I (k a H Q q)
theorem PT.weak(h:PT X e t)(k:∀a H Q,t' a H Q->t a H Q):PT X e t':=λ b s a H Q I q=>h b s a H Q I (k a H Q q)
theorem PW.weak(h:PW X e t)(k:∀b H Q,t' b H Q->t b H Q):PW X e t':=λ a c s b H Q I q=>h a c s b H Q I (k b H Q q)
theorem PA.weak(h:PA X e t)(k:∀a H Q,t' a H Q->t a H Q):PA X e t':=λ c b s a H Q I q=>h c b s a H Q I (k a H Q q)
theorem PS.weak(h:PS X e t)(k:∀D a H,t' D a H->t D a H):PS X e t':=λ b s a H D I q=>h b s a H D I (k D a H q)
theorem PSs.weak(h:PSs X e t)(k:∀D a H,t' D a H->t D a H):PSs X e t':=λ b s a H D I q=>h b s a H D I (k D a H q)
theorem qO:PW X e (λ _ _ _=>False):=λ _ _ _ _ _ _ _ h=>h.elim
theorem qP:PT X e (λ _ _ _=>False):=λ _ _ _ _ _ _ h=>h.elim
theorem cg:PE X e (λ _ _ _=>False):=λ _ _ _ _ _ _ h=>h.elim
theorem P1(h:n<=j5):n<=sizeLine:=e9 h Jz
theorem qQ(g:∀j,PE X a j->PE X e (tUn r j))(m:∀q,f=some q->PE X a (dE X.D δ q))(h:Re.thn f k=some c)
  (l:∀O W i H x Q d cx (σ:St),k d cx=some c->Hid O W i H->Got X.D O W i H d cx x->Post X.D O W i H Q c->r x H Q):PE X e (dE X.D δ c):=by
 cases b:f with
 | none=>rw[b]at h;cases h
 | some q=>
  rw[b]at h;have A:=m q b;cases q with
  | ok d cx=>
   exact(g _ A).weak λ σ H Q ⟨O,W,R,p⟩=>⟨O,W,R,λ x o s1 n=>l O W H o x Q d cx σ h (R.hid.mono s1) n (p.step s1)⟩
theorem qR{k:DV->Cl->DV->Cl->on Re}(v:∀q,m=some q->PE X a (dE X.D δ q))(u:∀q,l=some q->PE X b (dE X.D δ q))
  (h:(Re.thn m λ x cx=>Re.thn l λ y cy=>k x cx y cy)=some e)
  (s:∀O W j H x y Q i cx g cy (σ:St),k i cx g cy=some e->Hid O W j H->Got X.D O W j H i cx x->Got X.D O W j H g cy y->Post X.D O W j H Q e->r x y H Q) :
  ∃o n,PE X a o/\PE X b n/\∀σ H Q,dE X.D δ e σ H Q->tOp r o n σ H Q:=by
 cases d:m with
 | none=>rw[d]at h;cases h
 | some q=>
  rw[d]at h;have A:=v q d;cases q with
  | ok i cx=>
   have f:=h;cases c:l with
   | none=>rw[c]at f;cases f
   | some q=>
    rw[c]at f;have B:=u q c;cases q with
    | ok g cy=>
     exact⟨_,_,A,B,λ σ H Q ⟨O,W,R,p⟩=>⟨O,W,R,λ x H1 s1 z=>⟨O,W,R.mono s1,λ y C s2 w=>
      s O W H C x y Q i cx g cy σ f ((R.hid.mono s1).mono s2) (z.mono s2) (w.since s1) (p.step (s1.trans s2))⟩⟩⟩
theorem jZ{k:DV->Cl->DV->Cl->on Re}(i:∀g f,PE X a g->PE X b f->PE X e (tOp r g f))(s:∀q,l=some q->PE X a (dE X.D δ q))(p:∀q,j=some q->PE X b (dE X.D δ q))
  (h:(Re.thn l λ x cx=>Re.thn j λ y cy=>k x cx y cy)=some c)
  (o:∀O W d H x y Q n cx m cy (σ:St),k n cx m cy=some c->Hid O W d H->Got X.D O W d H n cx x->Got X.D O W d H m cy y->Post X.D O W d H Q c->r x y H Q):PE X e (dE X.D δ c):=by
 obtain⟨g,f,A,B,q⟩:=qR s p h o;exact(i _ _ A B).weak q
theorem cj(d:∀t,PA X es t->PE X e (tCB r t))(i:∀q,c=some q->PA X es (dA X.D δ q))(h:Rs.thn c k=some b)
  (g:∀O W f H vs Q l (σ:St),k l=some b->Hid O W f H->GotL X.D O W f H l vs->Post X.D O W f H Q b->r vs H Q):PE X e (dE X.D δ b):=by
 cases a:c with
 | none=>rw[a]at h;cases h
 | some q=>
  rw[a]at h;have A:=i q a;cases q with
  | ok l=>
   exact(d _ A).weak λ σ H Q ⟨O,W,R,p⟩=>⟨O,W,R,λ vs m s1 j=>g O W H m vs Q l σ h (R.hid.mono s1) j (p.step s1)⟩
theorem Bq{i:Nat}(g:X.N[i]? = some x)(hv:Vis X.env.scope x)(hd:(x==("__debug__" : Str))=false)(c:(x==("__classdict__" : Str))=false)
  (h:varE δ[i]? = some r):PE X (.Name x pos) (dE X.D δ r):=
 (M6 g hv hd c).weak λ σ H Q ⟨O,W,R,p⟩=>by
  unfold varE at h;split at h
  ·rename_i d q;cases h;obtain⟨v,e,b⟩:=R.val i d q;exact⟨v,e,p v H (Same.refl H) b⟩
  ·rename_i d q;cases h;obtain⟨a,f,ds,l,e,b,k,j⟩:=R.own i d q;subst l;refine⟨.ref a,e,p _ H (Same.refl H) ⟨a,f,rfl,b,?_,j⟩⟩;rw[i8 (R.hid.dj a b)];exact k
  ·cases h
theorem Br:PE X (.Constant (.int i) j pos) (dE X.D δ (.ok (.int i) .strong)):=wV.weak λ σ H Q ⟨O,W,R,p⟩=>p _ H (Same.refl H) v7
theorem Bs:PE X (.Constant (.bool i) j pos) (dE X.D δ (.ok (.bl i) .strong)):=wW.weak λ σ H Q ⟨O,W,R,p⟩=>p _ H (Same.refl H) R5
theorem Bt(h:i.length<=sizeLine):PE X (.Constant (.str i) j pos) (dE X.D δ (.ok (.str i) .strong)):=wY.weak λ σ H Q ⟨O,W,R,p⟩=>p _ H (Same.refl H) (bX.mpr ⟨rfl,h⟩:Rep X.D (L2.wo (O++W) H) _ _)
theorem Bu:PE X (.Constant .none j pos) (dE X.D δ (.ok .non .strong)):=wX.weak λ σ H Q ⟨O,W,R,p⟩=>p _ H (Same.refl H) Bn
section
variable {X:Cx} {δ:ge Sv} {a b c e:Jk} {pos:Pos} {ra rb:on Re} {re:Re}
theorem aC{a:Hp}(b:Hid O W a H)(e:Got D O W a H (.int i) h x)(d:Got D O W a H (.int j) f y)(c:C i j)(q:Q (g i j) H):rI C g x y H Q:=
 ⟨i,j,e.int b,d.int b,c,q⟩
theorem fM{a:Hp}{e:Cl}(b:Hid O W a H)(d:Got D O W a H (.int i) f x)(c:Got D O W a H (.int j) e y)(q:Q (g i j) H):rI0 g x y H Q:=
 ⟨i,j,d.int b,c.int b,q⟩
theorem qS{b a:Cl}(h:b ≠ .weak)(c:a ≠ .weak):Cl.anew b a=.fresh:=by
 cases b<;>cases a<;>first | rfl | exact absurd rfl h | exact absurd rfl c
def fN(i j:Int):Prop:=CMul i j\/(i.natAbs<2^2000/\j.natAbs<2^2000)
theorem aD(h:i.natAbs<2^n):Builtin.Int.intBits i<=n:=by
 unfold Builtin.Int.intBits;by_cases a:i=0
 ·subst a;exact v9 n
 ·rw[e8 (by grind)];have:=λ z=>a (Int.natAbs_eq_zero.mp z)
  exact(bA this).mpr h
theorem fN.ok(h:fN i j):IntMulOk i j:=by
 rcases h with h | ⟨h1,h2⟩
 ·exact h.ok
 ·unfold IntMulOk;have b1:=aD h1;have b2:=aD h2;have:Builtin.Int.intTooBig ((Builtin.Int.intBits i:Int)+(Builtin.Int.intBits j:Int))=false:=by
   unfold Builtin.Int.intTooBig;rw[x4];have:((bitsLine:Nat):Int)=134217728:=by decide
   omega
  rw[this,Bool.and_false];exact x0
theorem Bv:OpR X (binaryOp .Mult) (rI fN λ i j=>.int (i*j)):=opI λ _ _ _ _ _ _ _ a q=>mul_int q a.ok
theorem Bw:OpR X (binaryOp .FloorDiv) (rI (λ _ j=>0<j/\j<2^200) λ i j=>.int (i/j)):=opI λ i j _ _ _ _ _ a q=>by
 have h1:=a.1;have b:j.natAbs<2^200:=by have:=a.2;omega
 refine floordiv_int Jy (by rw[mZ i Jy];exact q) (.inl (PyProof.noPylong_of_log2 ?_));exact q9 ((bA Jy).mpr b) Jz
def binR(X:Cx):Operator->R2
 | .Add=>λ x y H Q=>rI0 (λ i j=>.int (i+j)) x y H Q\/rCat x y H Q\/oR X.K x y H Q
 | .Sub=>rI0 λ i j=>.int (i - j)
 | .Mult=>λ x y H Q=>rI fN (λ i j=>.int (i*j)) x y H Q\/rRep x y H Q
 | .Mod=>λ x y H Q=>rI (λ _ j=>0<j) (λ i j=>.int (i%j)) x y H Q\/rI (λ _ j=>j≠0) (λ i j=>.int (i.fmod j)) x y H Q
 | .FloorDiv=>rI (λ _ j=>0<j/\j<2^200) λ i j=>.int (i/j)
 | .LShift=>rI CPow λ i j=>.int (i*2^j.toNat)
 | .RShift=>rI (λ _ j=>0<=j) λ i j=>.int (i/2^j.toNat)
 | .BitAnd=>rI0 λ i j=>.int (Builtin.bitAnd i j)
 | .BitOr=>rI0 λ i j=>.int (Builtin.bitOr i j)
 | _=>λ _ _ _ _=>False
theorem Bx:OpR X (binaryOp op) (binR X op):=by
 cases op with
 | Add=>exact xJ.or (yO.or yy)
 | Sub=>exact xK
 | Mult=>exact Bv.or yQ
 | Mod=>exact xL.or xM
 | FloorDiv=>exact Bw
 | LShift=>exact xN
 | RShift=>exact xO
 | BitAnd=>exact xP
 | BitOr=>exact xQ
 | BitXor=>exact λ _ _ _ _ _ _ _ _ _ _ _ _ h=>h.elim
 | MatMult=>exact λ _ _ _ _ _ _ _ _ _ _ _ _ h=>h.elim
 | Div=>exact λ _ _ _ _ _ _ _ _ _ _ _ _ h=>h.elim
 | Pow=>exact λ _ _ _ _ _ _ _ _ _ _ _ _ h=>h.elim
theorem u5(h:asI d=some i):d=.int i:=by cases d<;>cases h;rfl
theorem By(h:asL d=some i):d=.lst i:=by cases d<;>cases h;rfl
theorem Bz(h:asTp d=some i):d=.tup i:=by cases d<;>cases h;rfl
theorem BA(h:binD op E C cx cy=some re)(hd:Hid O W v H)(c:Got X.D O W v H E cx x)(d:Got X.D O W v H C cy y)
  (p:Post X.D O W v H Q re):binR X op x y H Q:=by
 unfold binD at h;cases op
 case Add=>
  dsimp only at h;split at h
  ·rename_i o
   replace h:=p6.mp h
   obtain⟨n,a,h⟩:=h;have a:=u5 a;subst a;cases h;exact .inl (fM hd c d (p _ H (Same.refl H) v7))
  ·rename_i B
   replace h:=p6.mp h
   obtain⟨A,a,h⟩:=h;have a:=By a;subst a;split at h
   ·rename_i m;cases h;by_cases g:cx ≠ .weak/\cy ≠ .weak
    ·obtain⟨j,i,b,l,r1⟩:=c.items hd g.1;obtain⟨s,r,a,u,f⟩:=d.items hd g.2;refine .inr (.inl ⟨j,s,i,r,b,a,l,u,by rw[r1.length,f.length];exact P1 m,λ q e=>p _ _ (u9 e) ?_⟩);rw[qS g.1 g.2];exact P0 hd e (r1.append f)
    ·obtain⟨j,i,b,l,r1⟩:=c.lst hd;obtain⟨s,r,a,u,f⟩:=d.lst hd;refine .inr (.inl ⟨j,s,i,r,b,a,l,u,by rw[r1.length,f.length];exact P1 m,λ q e=>p _ _ (u9 e) ?_⟩);have:Cl.anew cx cy=.weak:=(by cases cx<;>cases cy<;>first | rfl | exact absurd ⟨(by intro z;cases z),JI⟩ g);rw[this];exact jW hd e (r1.append f)
   ·cases h
  ·rename_i B
   replace h:=p6.mp h
   obtain⟨A,a,h⟩:=h;have a:=Bz a;subst a;split at h
   ·rename_i m;cases h;by_cases g:cx ≠ .weak/\cy ≠ .weak
    ·obtain⟨j,i,b,l,r1⟩:=c.itemsT hd g.1;obtain⟨s,r,a,u,f⟩:=d.itemsT hd g.2;have cl:(Cl.anew cx cy).notF=.strong:=by rw[qS g.1 g.2];rfl
     rw[cl]at p;refine .inr (.inr ⟨j,s,i,r,b,a,l,u,λ z=>m.2 (by have:=r1.length;rw[z]at this;exact S2.mp this.symm),by rw[r1.length,f.length];exact P1 m.1,λ z=>?_,λ _ q e=>p _ _ (u9 e) (cf hd e (r1.append f))⟩);refine p _ _ (Same.refl _) ?_;have w:A=[]:=by have:=f.length;rw[z]at this;exact S2.mp this.symm
     subst w;rw[A6];cases cx with
     | weak=>exact absurd rfl g.1
     | top=>rw[←b];exact c
     | strong=>rw[←b];exact c
     | fresh=>obtain⟨_,_,_,_,q,_⟩:=c;cases q
    ·obtain⟨j,i,b,l,r1⟩:=c.tup hd;obtain⟨s,r,a,u,f⟩:=d.tup hd;have cl:(Cl.anew cx cy).notF=.weak:=(by cases cx<;>cases cy<;>first | rfl | exact absurd ⟨(by intro z;cases z),JI⟩ g);rw[cl]at p;refine .inr (.inr ⟨j,s,i,r,b,a,l,u,λ z=>m.2 (by have:=r1.length;rw[z]at this;exact S2.mp this.symm),by rw[r1.length,f.length];exact P1 m.1,λ z=>?_,λ _ q e=>p _ _ (u9 e) (jX hd e (r1.append f))⟩);refine p _ _ (Same.refl _) ?_;have w:A=[]:=by have:=f.length;rw[z]at this;exact S2.mp this.symm
     subst w;rw[A6,←b];exact c.weak hd
   ·cases h
  ·cases h
 case Sub=>
  dsimp only at h
  replace h:=p6.mp h
  obtain⟨o,b,h⟩:=h
  replace h:=p6.mp h
  obtain⟨n,a,h⟩:=h;have b:=u5 b;have a:=u5 a;subst b a;cases h;exact fM hd c d (p _ H (Same.refl H) v7)
 case Mult=>
  dsimp only at h;split at h
  ·rename_i o
   replace h:=p6.mp h
   obtain⟨n,a,h⟩:=h;have a:=u5 a;subst a;split at h
   ·rename_i m;cases h;refine .inl (aC hd c d ?_ (p _ H (Same.refl H) v7));unfold Q5 at m;simp only[E7,d6,D4]at m;exact m
   ·cases h
  ·rename_i B
   replace h:=p6.mp h
   obtain⟨k,a,h⟩:=h;have a:=u5 a;subst a;split at h
   ·rename_i m;cases h;obtain⟨j,i,b,l,r1⟩:=c.lstC hd;refine .inr ⟨j,k,i,b,d.int hd,l,m.2.1,m.2.2,by rw[r1.length];exact P1 m.1,λ q e=>p _ _ (u9 e) (fK hd e (r1.rep _))⟩
   ·cases h
  ·cases h
 case Mod=>
  dsimp only at h
  replace h:=p6.mp h
  obtain⟨o,b,h⟩:=h
  replace h:=p6.mp h
  obtain⟨n,a,h⟩:=h;have b:=u5 b;have a:=u5 a;subst b a;split at h
  ·rename_i m;cases h;exact .inl (aC hd c d m (p _ H (Same.refl H) v7))
  ·split at h
   ·rename_i m;cases h;exact .inr (aC hd c d m (p _ H (Same.refl H) v7))
   ·cases h
 case FloorDiv=>
  dsimp only at h
  replace h:=p6.mp h
  obtain⟨o,b,h⟩:=h
  replace h:=p6.mp h
  obtain⟨n,a,h⟩:=h;have b:=u5 b;have a:=u5 a;subst b a;split at h
  ·rename_i m;cases h;exact aC hd c d m (p _ H (Same.refl H) v7)
  ·cases h
 case LShift=>
  dsimp only at h
  replace h:=p6.mp h
  obtain⟨o,b,h⟩:=h
  replace h:=p6.mp h
  obtain⟨n,a,h⟩:=h;have b:=u5 b;have a:=u5 a;subst b a;split at h
  ·rename_i m;cases h;exact aC hd c d m (p _ H (Same.refl H) v7)
  ·cases h
 case RShift=>
  dsimp only at h
  replace h:=p6.mp h
  obtain⟨o,b,h⟩:=h
  replace h:=p6.mp h
  obtain⟨n,a,h⟩:=h;have b:=u5 b;have a:=u5 a;subst b a;split at h
  ·rename_i m;cases h;exact aC hd c d m (p _ H (Same.refl H) v7)
  ·cases h
 case BitOr=>
  dsimp only at h
  replace h:=p6.mp h
  obtain⟨o,b,h⟩:=h
  replace h:=p6.mp h
  obtain⟨n,a,h⟩:=h;have b:=u5 b;have a:=u5 a;subst b a;cases h;exact fM hd c d (p _ H (Same.refl H) v7)
 case BitAnd=>
  dsimp only at h
  replace h:=p6.mp h
  obtain⟨o,b,h⟩:=h
  replace h:=p6.mp h
  obtain⟨n,a,h⟩:=h;have b:=u5 b;have a:=u5 a;subst b a;cases h;exact fM hd c d (p _ H (Same.refl H) v7)
 all_goals (dsimp only at h;cases h)
theorem BB(f:∀q,ra=some q->PE X a (dE X.D δ q))(e:∀q,rb=some q->PE X b (dE X.D δ q))(h:(Re.thn ra λ x d=>Re.thn rb λ y c=>binD op x y d c)=some re):PE X (.BinOp a op b pos) (dE X.D δ re):=
 jZ (λ _ _=>xG Bx) f e h λ O W H0 H x y Q dx d dy c σ k hd i g p=>BA k hd i g p
theorem BC(b:∀q,ra=some q->PE X a (dE X.D δ q))(h:(Re.thn ra λ x _=>match x with | .int i=>some (.ok (.int (-i)) .strong) | _=>none)=some re):PE X (.UnaryOp .USub a pos) (dE X.D δ re):=
 qQ (λ _=>xH xR) b h λ O W H0 H x Q dx cx σ k hd c p=>by
  split at k
  ·cases k;exact⟨_,c.int hd,p _ H (Same.refl H) v7⟩
  ·cases k
theorem BD:atD ds i=L2.atI ds i:=rfl
theorem RepL.atI(h:RepL D H ds xs)(e:atD ds i=some d):∃v,L2.atI xs i=some v/\Rep D H d v:=by
 rw[BD]at e;unfold L2.atI at e ⊢;rw[h.length];cases q:ixN ds.length i with
 | none=>rw[q]at e;cases e
 | some j=>
  rw[q]at e;exact h.get e
theorem BE(h:((ixD A w).map λ d=>Re.ok d cx.item)=some re)(hd:Hid O W k H)(s:Got X.D O W k H A cx x)(r:Got X.D O W k H w cy y)
  (p:Post X.D O W k H Q re):rIx X.K x y H Q:=by
 obtain⟨d,e,F⟩:=p9.mp h;cases F;unfold ixD at e;split at e
 ·rename_i c i;obtain⟨a,g,f⟩:=R4.mp (s.all hd);obtain⟨n,E,C⟩:=p9.mp e;cases C;have q:L2.atI (c.map V.int) i=some (.int n):=by
   unfold L2.atI;rw[d7];have b:((ixN c.length i).bind λ j=>c[j]?)=some n:=E;cases z:ixN c.length i with
   | none=>rw[z]at b;cases b
   | some j=>
    rw[z]at b;have B:c[j]? = some n:=b;show(c.map V.int)[j]? = _;rw[o8,B];rfl
  refine .inl ⟨a,_,i,_,g,r.int hd,f.sq,q,p _ H (Same.refl H) ?_⟩;cases cx<;>exact v7
 ·obtain⟨a,l,g,f,u⟩:=s.lstC hd;obtain⟨v,o,m⟩:=u.atI e;exact .inl ⟨a,l,_,v,g,r.int hd,SqL.of f,o,p _ H (Same.refl H) (Got.item m)⟩
 ·obtain⟨a,l,g,f,u⟩:=s.tupC hd;obtain⟨v,o,m⟩:=u.atI e;exact .inr (.inl ⟨a,l,_,v,g,r.int hd,f,o,p _ H (Same.refl H) (Got.item m)⟩)
 ·cases e
theorem BF(g:∀q,ra=some q->PE X a (dE X.D δ q))(f:∀q,rb=some q->PE X b (dE X.D δ q))(e:L8 b=false)(h:(Re.thn ra λ x c=>Re.thn rb λ y _=>(ixD x y).map λ d=>.ok d c.item)=some re):PE X (.Subscript a b pos) (dE X.D δ re):=
 jZ (λ _ _ j i=>yA yE j i (by cases b<;>first | (intro _ _;rfl) | cases e)) g f h λ O W H0 H x y Q dx c dy cy σ k hd m l p=>BE k hd m l p
theorem fO(n d:Nat)(o:on Int):slIx n d o=HT.sIx n d o:=by cases o<;>rfl
theorem RepL.cut(h:RepL D H ds xs)(a b:on Int):RepL D H (cutD ds a b) (cutV xs a b):=by
 unfold cutD cutV;rw[fO,fO,←h.length];exact(h.drop _).take _
theorem ka{e:on Int}(h:((slD n e f).map λ d=>Re.ok d (slCl n cx))=some re)(hd:Hid O W o H)(l:Got X.D O W o H n cx x)
  (p:Post X.D O W o H Q re):rSlL X.K x e f H Q\/rSlT X.K x e f H Q:=by
 obtain⟨d,c,s⟩:=p9.mp h;cases s;unfold slD at c;split at c
 ·rename_i r;cases c;obtain⟨a,i,g⟩:=R4.mp (l.all hd);exact .inl ⟨a,_,i,g.sq,λ q b=>p _ _ (u9 b) (P0 hd b ((bY r).cut e f))⟩
 ·cases c;obtain⟨a,k,i,g,j⟩:=l.lstC hd;exact .inl ⟨a,k,i,SqL.of g,λ q b=>p _ _ (u9 b) (fK hd b (j.cut e f))⟩
 ·rename_i ds;split at c
  ·cases c
  ·rename_i m;cases c;obtain⟨a,k,i,g,j⟩:=l.tupC hd;refine .inr ⟨a,k,i,g,?_,λ q b=>p _ _ (u9 b) (qN hd b (j.cut e f))⟩;rw[fO,fO,←j.length]at m;exact m
 ·cases c
theorem kb:SlR X (λ x a b H Q=>rSlL X.K x a b H Q\/rSlT X.K x a b H Q):=yK.or yx
theorem fP(h:PE X b (dE X.D δ (.ok (.int i) cl))):PO X (some b) (λ d H Q=>∃O W,RSt X.D H d δ O W/\∀c,Same H c->Q (some i) c):=λ a s d H Q I ⟨O,W,R,p⟩=>
 yw h a s d H Q I ⟨O,W,R,λ v c s1 g=>⟨i,g.int (R.hid.mono s1),p c s1⟩⟩
theorem BG(j:∀q,ra=some q->PE X a (dE X.D δ q))(i:∀q,rb=some q->PE X b (dE X.D δ q))(h:(Re.thn ra λ x g=>Re.thn rb λ l _=>match l with
  | .int l=>(slD x (some l) none).map λ d=>.ok d (slCl x g) | _=>none)=some re):PE X (.Subscript a (.Slice (some b) none none p2) pos) (dE X.D δ re):=by
 cases e:ra with
 | none=>rw[e]at h;cases h
 | some q=>
  rw[e]at h;have A:=j q e;cases q with
  | ok n g=>
   cases c:rb with
   | none=>rw[c]at h;cases h
   | some q=>
    rw[c]at h;have B:=i q c;cases q with
    | ok m cy=>
     have f:(match(generalizing:=false) m with | .int l=>(slD n _ none).map λ d=>Re.ok d _ | _=>none)=some re:=h;split at f
     ·rename_i l;exact(iX kb A (fP B) oP).weak λ σ H Q ⟨O,W,R,p⟩=>⟨O,W,R,λ x H1 s1 k=>⟨O,W,R.mono s1,λ H2 s2=>ka f ((R.hid.mono s1).mono s2) (k.mono s2) (p.step (s1.trans s2))⟩⟩
     ·cases f
theorem BH(j:∀q,ra=some q->PE X a (dE X.D δ q))(i:∀q,rb=some q->PE X b (dE X.D δ q))(h:(Re.thn ra λ x g=>Re.thn rb λ l _=>match l with
  | .int l=>(slD x none (some l)).map λ d=>.ok d (slCl x g) | _=>none)=some re):PE X (.Subscript a (.Slice none (some b) none p2) pos) (dE X.D δ re):=by
 cases e:ra with
 | none=>rw[e]at h;cases h
 | some q=>
  rw[e]at h;have A:=j q e;cases q with
  | ok n g=>
   cases c:rb with
   | none=>rw[c]at h;cases h
   | some q=>
    rw[c]at h;have B:=i q c;cases q with
    | ok m cy=>
     have f:(match(generalizing:=false) m with | .int l=>(slD n none _).map λ d=>Re.ok d _ | _=>none)=some re:=h;split at f
     ·rename_i l;exact(iX kb A oP (fP B)).weak λ σ H Q ⟨O,W,R,p⟩=>⟨O,W,R,λ x H1 s1 k=>⟨O,W,R.mono s1,λ H2 s2=>ka f ((R.hid.mono s1).mono s2) (k.mono s2) (p.step (s1.trans s2))⟩⟩
     ·cases f
theorem BI(v:∀q,ra=some q->PE X a (dE X.D δ q))(s:∀q,rb=some q->PE X b (dE X.D δ q))(r:∀q,j=some q->PE X c (dE X.D δ q))(h:(Re.thn ra λ x o=>Re.thn rb λ l _=>match l with
  | .int l=>Re.thn j λ u _=>(match u with
   | .int u=>(slD x (some l) (some u)).map λ d=>.ok d (slCl x o) | _=>none) | _=>none)=some re):PE X (.Subscript a (.Slice (some b) (some c) none p2) pos) (dE X.D δ re):=by
 cases g:ra with
 | none=>rw[g]at h;cases h
 | some q=>
  rw[g]at h;have A:=v q g;cases q with
  | ok n o=>
   cases f:rb with
   | none=>rw[f]at h;cases h
   | some q=>
    rw[f]at h;have B:=s q f;cases q with
    | ok z cy=>
     have i:(match(generalizing:=false) z with | .int l=>Re.thn j λ u _=>(match u with | .int u=>(slD n (some l) (some u)).map λ d=>Re.ok d _ | _=>none) | _=>none)=some re:=h;split at i
     ·rename_i l;cases e:j with
      | none=>rw[e]at i;cases i
      | some q=>
       rw[e]at i;have C:=r q e;cases q with
       | ok y cz=>
        have m:(match(generalizing:=false) y with | .int u=>(slD n (some l) (some u)).map λ d=>Re.ok d (slCl n o) | _=>none)=some re:=i;split at m
        ·rename_i u;exact(iX kb A (fP B) (fP C)).weak λ σ H Q ⟨O,W,R,p⟩=>⟨O,W,R,λ x H1 s1 w=>⟨O,W,R.mono s1,λ H2 s2=>⟨O,W,(R.mono s1).mono s2,λ H3 k=>ka m (((R.hid.mono s1).mono s2).mono k) ((w.mono s2).mono k) (p.step (s1.trans (s2.trans k)))⟩⟩⟩
        ·cases m
     ·cases i
end
mutual
noncomputable def toP:DV->PyData
 | .non=>.none | .bl b=>.bool b | .int i=>.int i | .str x=>.str x
 | .tup ds=>.tuple (toPs ds) | .lst ds=>.list (toPs ds)
 | _=>.none
noncomputable def toPs:ge DV->ge PyData
 | []=>[]
 | d::r=>toP d::toPs r
end
mutual
theorem cn:∀(n m:Nat) (d e:DV),d.plain n=true->e.plain m=true->PyData.eqv (toP d) (toP e)=deq d e
 | n,m,.non,e,_,h=>by cases e<;>first | (cases m<;>simp[DV.plain]at h;done) | (simp only[toP,PyData.eqv,deq])
 | n,m,.bl _,e,_,h=>by cases e<;>first | (cases m<;>simp[DV.plain]at h;done) | (simp only[toP,PyData.eqv,deq])
 | n,m,.int _,e,_,h=>by cases e<;>first | (cases m<;>simp[DV.plain]at h;done) | (simp only[toP,PyData.eqv,deq])
 | n,m,.str x,e,_,h=>by
  cases e with
  | str y=>simp only[toP,PyData.eqv,deq];rfl
  | non=>simp only[toP,PyData.eqv,deq]
  | bl _=>simp only[toP,PyData.eqv,deq]
  | int _=>simp only[toP,PyData.eqv,deq]
  | tup _=>simp only[toP,PyData.eqv,deq]
  | lst _=>simp only[toP,PyData.eqv,deq]
  | dct _ _=>cases m<;>simp[DV.plain]at h
  | fn _=>cases m<;>simp[DV.plain]at h
  | lam _ _=>cases m<;>simp[DV.plain]at h
  | scr _=>cases m<;>simp[DV.plain]at h
 | 0,_,.tup _,_,h,_=>by simp[DV.plain]at h
 | 0,_,.lst _,_,h,_=>by simp[DV.plain]at h
 | n+1,m,.tup ds,e,h,h'=>by
  cases e with
  | tup es=>
   cases m with
   | zero=>simp[DV.plain]at h'
   | succ m=>
    simp only[toP,PyData.eqv,deq];exact ke n m ds es (by simpa[DV.plain]using h) (by simpa[DV.plain]using h')
  | non=>simp only[toP,PyData.eqv,deq]
  | bl _=>simp only[toP,PyData.eqv,deq]
  | int _=>simp only[toP,PyData.eqv,deq]
  | str _=>simp only[toP,PyData.eqv,deq]
  | lst _=>simp only[toP,PyData.eqv,deq]
  | dct _ _=>cases m<;>simp[DV.plain]at h'
  | fn _=>cases m<;>simp[DV.plain]at h'
  | lam _ _=>cases m<;>simp[DV.plain]at h'
  | scr _=>cases m<;>simp[DV.plain]at h'
 | n+1,m,.lst ds,e,h,h'=>by
  cases e with
  | lst es=>
   cases m with
   | zero=>simp[DV.plain]at h'
   | succ m=>
    simp only[toP,PyData.eqv,deq];exact ke n m ds es (by simpa[DV.plain]using h) (by simpa[DV.plain]using h')
  | non=>simp only[toP,PyData.eqv,deq]
  | bl _=>simp only[toP,PyData.eqv,deq]
  | int _=>simp only[toP,PyData.eqv,deq]
  | str _=>simp only[toP,PyData.eqv,deq]
  | tup _=>simp only[toP,PyData.eqv,deq]
  | dct _ _=>cases m<;>simp[DV.plain]at h'
  | fn _=>cases m<;>simp[DV.plain]at h'
  | lam _ _=>cases m<;>simp[DV.plain]at h'
  | scr _=>cases m<;>simp[DV.plain]at h'
 | n,_,.dct _ _,_,h,_=>by cases n<;>simp[DV.plain]at h
 | n,_,.fn _,_,h,_=>by cases n<;>simp[DV.plain]at h
 | n,_,.lam _ _,_,h,_=>by cases n<;>simp[DV.plain]at h
 | n,_,.scr _,_,h,_=>by cases n<;>simp[DV.plain]at h
theorem ke:∀(n m:Nat) (ds es:ge DV),DV.plains n ds=true->DV.plains m es=true->PyData.eqvAll (toPs ds) (toPs es)=deqs ds es
 | _,_,[],[],_,_=>by simp only[toPs,PyData.eqvAll,deqs]
 | _,_,[],_::_,_,_=>by simp only[toPs,PyData.eqvAll,deqs]
 | _,_,_::_,[],_,_=>by simp only[toPs,PyData.eqvAll,deqs]
 | n,m,d::ds,e::es,h,h'=>by simp only[DV.plains,d6]at h h';simp only[toPs,PyData.eqvAll,deqs,cn n m d e h.1 h'.1,ke n m ds es h.2 h'.2]
end
mutual
theorem X6:∀(n:Nat) (d:DV),d.plain n=true->(toP d).canLay0=true/\(toP d).depth<=n
 | n,.non,_=>by simp[toP,PyData.canLay0,PyData.depth]
 | n,.bl _,_=>by simp[toP,PyData.canLay0,PyData.depth]
 | n,.int _,_=>by simp[toP,PyData.canLay0,PyData.depth]
 | n,.str x,h=>by
  have h':(x.cps.all (· < 0x110000))=true:=by cases n<;>simpa[DV.plain]using h
  simp only[toP,PyData.canLay0,PyData.depth];exact⟨h',v9 _⟩
 | 0,.tup _,h=>by simp[DV.plain]at h
 | 0,.lst _,h=>by simp[DV.plain]at h
 | n+1,.tup ds,h=>by have q:=U3 n ds (by simpa[DV.plain]using h);simp only[toP,PyData.canLay0,PyData.depth,q.1,true_and];have:=q.2;omega
 | n+1,.lst ds,h=>by have q:=U3 n ds (by simpa[DV.plain]using h);simp only[toP,PyData.canLay0,PyData.depth,q.1,true_and];have:=q.2;omega
 | n,.dct _ _,h=>by cases n<;>simp[DV.plain]at h
 | n,.fn _,h=>by cases n<;>simp[DV.plain]at h
 | n,.lam _ _,h=>by cases n<;>simp[DV.plain]at h
 | n,.scr _,h=>by cases n<;>simp[DV.plain]at h
theorem U3:∀(n:Nat) (ds:ge DV),DV.plains n ds=true->PyData.canLayAll0 (toPs ds)=true/\PyData.depthAll (toPs ds)<=n
 | _,[],_=>by simp[toPs,PyData.canLayAll0,PyData.depthAll]
 | n,d::ds,h=>by simp only[DV.plains,d6]at h;have q:=X6 n d h.1;have q':=U3 n ds h.2;simp only[toPs,PyData.canLayAll0,PyData.depthAll,q.1,q'.1,Bool.and_self,true_and];have a:=q.2;have b:=q'.2;omega
end
section
variable {X:Cx} {pins:ge (Ji×Obj)} {σ:St} {H:Hp} {s:Jh}
mutual
theorem G1(I:JM pins):∀(n:Nat) {d:DV} {v:V} {u:Jg},d.plain n=true->Rep X.D H d v->RelV v u->∃as,Reads s.heap u (toP d) as
 | _,.non,_,_,_,h,r=>by rw[O8.mp h]at r;cases r;exact⟨_,Reads.none⟩
 | _,.bl b,_,_,_,h,r=>by rw[O7.mp h]at r;cases r;exact⟨_,Reads.bool b⟩
 | _,.int i,_,_,_,h,r=>by rw[u6.mp h]at r;obtain⟨t,rfl⟩:=r;exact⟨_,Reads.int i t⟩
 | _,.str x,_,_,_,h,r=>by rw[(bX.mp h).1]at r;obtain⟨t,rfl⟩:=r;exact⟨_,Reads.str x t⟩
 | 0,.tup _,_,_,p,_,_=>by simp[DV.plain]at p
 | 0,.lst _,_,_,p,_,_=>by simp[DV.plain]at p
 | n+1,.tup ds,_,_,p,h,r=>by obtain⟨a,xs,e1,e2,e3⟩:=C9.mp h;rw[e1]at r;cases r;obtain⟨its,rv,⟨o,h1,h2,k,h3⟩,_⟩:=I.tuple e2;obtain⟨as,q⟩:=kf I n (by simpa[DV.plain]using p) e3 rv;rw[toP];exact⟨as,Reads.tuple h1 h2 h3 (by simpa using q)⟩
 | n+1,.lst ds,_,_,p,h,r=>by obtain⟨a,xs,e1,e2,e3⟩:=G0.mp h;rw[e1]at r;cases r;obtain⟨_,its,k,rv,_,h1⟩:=I.lstM e2;obtain⟨as,q⟩:=kf I n (by simpa[DV.plain]using p) e3 rv;rw[toP];exact⟨_,Reads.list h1 rfl rfl (by simpa using q)⟩
 | n,.dct _ _,_,_,h,_,_=>by cases n<;>simp[DV.plain]at h
 | n,.fn _,_,_,h,_,_=>by cases n<;>simp[DV.plain]at h
 | n,.lam _ _,_,_,h,_,_=>by cases n<;>simp[DV.plain]at h
 | n,.scr _,_,_,h,_,_=>by cases n<;>simp[DV.plain]at h
theorem kf(I:JM pins):∀(n:Nat) {ds:ge DV} {vs:ge V} {us:ge Jg},DV.plains n ds=true->RepL X.D H ds vs->Vals vs us->∃as,ReadsAll s.heap us (toPs ds) as
 | _,[],_,_,_,h,r=>by rw[y9.mp h]at r;cases r;exact⟨_,ReadsAll.nil⟩
 | n,d::ds,_,_,p,h,r=>by
  simp only[DV.plains,d6]at p;obtain⟨v,vs,e1,e2,e3⟩:=u8.mp h;subst e1;cases r with
  | cons r1 r2=>
   obtain⟨as,q⟩:=G1 I n p.1 e2 r1;obtain⟨bs,q'⟩:=kf I n p.2 e3 r2;rw[toPs];exact⟨_,ReadsAll.cons q q'⟩
end
theorem fQ(h:d.plain 60=true):SeqAt.shaped (toP d)=true:=by
 have q:=X6 60 d h;unfold SeqAt.shaped;rw[q.1,L3];exact t8 (e9 q.2 Jz)
theorem fR(h:d.plain 60=true):∀(a:ge DV),DV.plains 60 a=true->((toPs a).any λ y=>PyData.eqv y (toP d))=a.any λ x=>deq x d
 | [],_=>rfl
 | e::a,p=>by simp[DV.plains,d6]at p;rw[toPs,G7,G7,cn 60 60 e d p.1 h,fR h a p.2]
end
section
variable {X:Cx} {δ:ge Sv} {a b c e:Jk} {pos:Pos} {ra rb rc:on Re} {re:Re}
def cmpR(X:Cx)(op:CmpOp):R2:=λ x y H Q=>∃dx dy k,cmpD op dx dy=some k/\Rep X.D H dx x/\Rep X.D H dy y/\Q (.bl k) H
theorem BJ(h:asB d=some i):d=.bl i:=by cases d<;>first | (cases h;rfl) | cases h
theorem qU(r:Rep D H d v):decide (v=.non)=isN d:=by
 cases d with
 | non=>rw[O8.mp r];rfl
 | bl _=>rw[O7.mp r];rfl
 | int _=>rw[u6.mp r];rfl
 | str _=>rw[(bX.mp r).1];rfl
 | tup _=>obtain⟨a,c,e,_⟩:=C9.mp r;rw[e];rfl
 | lst _=>obtain⟨a,c,e,_⟩:=G0.mp r;rw[e];rfl
 | fn _=>obtain⟨a,e,_⟩:=fJ.mp r;rw[e];rfl
 | lam _ _=>obtain⟨a,_,_,_,_,_,_,_,e,_⟩:=jV.mp r;rw[e];rfl
 | scr _=>obtain⟨a,e,_⟩:=R4.mp r;rw[e];rfl
 | dct _ _=>rcases O9.mp r with⟨a,o,b,e,_⟩ | ⟨a,o,b,e,_⟩<;>rw[e]<;>rfl
theorem aE(K:X.A.units+64<cLine):OpR X (compareOp op) (cmpR X op):=by
 intro b s z H x y v u Q I l g h;obtain⟨dx,dy,k,a,r1,m,q⟩:=h;have f:∀{F:Bool},F=k->EP X b z Q _ s:=λ {F} e=>⟨.bl F,H,I,rfl,by rw[e];exact q⟩
 unfold cmpD at a;cases op
 case Lt=>
  dsimp only at a
  replace a:=p6.mp a
  obtain⟨C,c,a⟩:=a
  replace a:=p6.mp a
  obtain⟨B,d,a⟩:=a;have c:=u5 c;have d:=u5 d;subst c d;cases a;exact xS b s z H x y v u Q I l g ⟨_,_,u6.mp r1,u6.mp m,q⟩
 case LtE=>
  dsimp only at a
  replace a:=p6.mp a
  obtain⟨C,c,a⟩:=a
  replace a:=p6.mp a
  obtain⟨B,d,a⟩:=a;have c:=u5 c;have d:=u5 d;subst c d;cases a;exact xT b s z H x y v u Q I l g ⟨_,_,u6.mp r1,u6.mp m,q⟩
 case Gt=>
  dsimp only at a
  replace a:=p6.mp a
  obtain⟨C,c,a⟩:=a
  replace a:=p6.mp a
  obtain⟨B,d,a⟩:=a;have c:=u5 c;have d:=u5 d;subst c d;cases a;exact xU b s z H x y v u Q I l g ⟨_,_,u6.mp r1,u6.mp m,q⟩
 case Eq=>
  dsimp only at a;split at a
  ·rename_i p;rw[d6]at p;cases a;obtain⟨A,o⟩:=G1 I 60 p.1 r1 l;obtain⟨bs,n⟩:=G1 I 60 p.2 m g;exact eq_dataH o n (fQ p.1) (fQ p.2) K (f (cn 60 60 _ _ p.1 p.2))
  ·cases a
 case NotEq=>
  dsimp only at a;split at a
  ·rename_i p;rw[d6]at p;cases a;obtain⟨A,o⟩:=G1 I 60 p.1 r1 l;obtain⟨bs,n⟩:=G1 I 60 p.2 m g;exact ne_dataH o n (fQ p.1) (fQ p.2) K (f (by rw[cn 60 60 _ _ p.1 p.2]))
  ·cases a
 case GtE=>
  dsimp only at a
  replace a:=p6.mp a
  obtain⟨C,c,a⟩:=a
  replace a:=p6.mp a
  obtain⟨B,d,a⟩:=a;have c:=u5 c;have d:=u5 d;subst c d;cases a;exact xV b s z H x y v u Q I l g ⟨_,_,u6.mp r1,u6.mp m,q⟩
 case Is=>
  dsimp only at a;split at a
  ·cases a;exact xW b s z H x y v u Q I l g ⟨O8.mp m,by rw[qU r1];exact q⟩
  ·cases a
 case IsNot=>
  dsimp only at a;split at a
  ·cases a;exact xX b s z H x y v u Q I l g ⟨O8.mp m,by rw[qU r1];exact q⟩
  ·rename_i j
   replace a:=p6.mp a
   obtain⟨i,c,a⟩:=a;have c:=BJ c;subst c;cases a;obtain rfl:=O7.mp r1;obtain rfl:=O7.mp m;cases(l);cases g;exact PySem.wpAny_isNot_plain rfl (f (by cases i<;>cases j<;>rfl))
  ·cases a
 case In=>
  dsimp only at a;split at a
  ·rename_i w;split at a
   ·rename_i p;rw[d6]at p;cases a;obtain⟨A,o⟩:=G1 I 60 p.1 r1 l;obtain⟨bs,n⟩:=G1 I 61 (by simpa[DV.plain]using p.2) m g;rw[toP]at n;have r:=X6 60 _ p.1;have E:=U3 60 w p.2;have J:=r.2;exact SeqAt.in_list_reads n o E.1 r.1 Jy (f (fR p.1 w p.2))
   ·cases a
  ·cases a
 case NotIn=>
  dsimp only at a;split at a
  ·rename_i w;split at a
   ·rename_i p;rw[d6]at p;cases a;obtain⟨A,o⟩:=G1 I 60 p.1 r1 l;obtain⟨bs,n⟩:=G1 I 61 (by simpa[DV.plain]using p.2) m g;rw[toP]at n;have r:=X6 60 _ p.1;have E:=U3 60 w p.2;have J:=r.2;exact SeqAt.notIn_list_reads n o E.1 r.1 Jy (f (by rw[fR p.1 w p.2]))
   ·cases a
  ·rename_i w;split at a
   ·rename_i p;rw[d6]at p;cases a;obtain⟨A,o⟩:=G1 I 60 p.1 r1 l;obtain⟨bs,n⟩:=G1 I 61 (by simpa[DV.plain]using p.2) m g;rw[toP]at n;have r:=X6 60 _ p.1;have J:=r.2;exact SeqAt.notIn_tuple_reads n o (U3 60 w p.2).1 r.1 Jy (f (by rw[fR p.1 w p.2]))
   ·cases a
  ·cases a
theorem kg(h:F2 b=false):behindInMarks op b=false:=by
 cases b<;>first | rfl | cases h
theorem BK(d:X.A.units+64<cLine)(g:∀q,ra=some q->PE X a (dE X.D δ q))(f:∀q,rb=some q->PE X b (dE X.D δ q))(e:F2 b=false)
  (h:(Re.thn ra λ x _=>Re.thn rb λ y _=>(cmpD op x y).map λ k=>.ok (.bl k) .strong)=some re):PE X (.Compare a [op] [b] pos) (dE X.D δ re):=
 jZ (λ _ _ j i=>xY (aE d) j i (kg e)) g f h λ O W H0 H x y Q s cx r cy σ k hd m l p=>by obtain⟨c,o,n⟩:=p9.mp k;cases n;exact⟨s,r,c,o,m.all hd,l.all hd,p _ H (Same.refl H) R5⟩
theorem BL(g:∀q,ra=some q->PE X a (dE X.D δ q))(f:∀q,rb=some q->PE X b (dE X.D δ q))
  (h:(Re.thn ra λ x _=>Re.thn rb λ y _=>(cmpD op x y).map λ k=>.ok (.bl k) .strong)=some re):∃d c,PE X a d/\PE X b c/\∀σ H Q,dE X.D δ re σ H Q->tOp (cmpR X op) d c σ H Q:=
 qR g f h λ O W H0 H x y Q o cx n cy σ k hd j i p=>by obtain⟨e,m,l⟩:=p9.mp k;cases l;exact⟨o,n,e,m,j.all hd,i.all hd,p _ H (Same.refl H) R5⟩
theorem kh(b:∀d c,re=.ok d c->∃k,d=.bl k)(h:tstD (some re)=some r)(q:dT X.D δ r σ H Q):dE X.D δ re σ H (λ x a=>∃k,x=.bl k/\Q k a):=by
 obtain⟨O,W,R,p⟩:=q;cases re with
 | ok d c=>
  obtain⟨k,rfl⟩:=b d c rfl;cases h;exact⟨O,W,R,λ v a s g=>⟨k,g.bl (R.hid.mono s),p a s⟩⟩
theorem BM(h:(Re.thn ra λ x _=>Re.thn rb λ y _=>(cmpD op x y).map λ k=>.ok (.bl k) .strong)=some re):∀d c,re=.ok d c->∃k,d=.bl k:=by
 intro d c e;subst e;cases ra with
 | none=>cases h
 | some q=>
  cases q with
  | ok d c=>
   cases rb with
   | none=>cases h
   | some q=>
    cases q with
    | ok d' c'=>
     obtain⟨k,_,e⟩:=p9.mp (h);cases e;exact⟨k,rfl⟩
theorem BN(d:X.A.units+64<cLine)(g:∀q,ra=some q->PE X a (dE X.D δ q))(f:∀q,rb=some q->PE X b (dE X.D δ q))(e:F2 b=false)
  (h:tstD (Re.thn ra λ x _=>Re.thn rb λ y _=>(cmpD op x y).map λ k=>.ok (.bl k) .strong)=some r):PT X (.Compare a [op] [b] pos) (dT X.D δ r):=by
 cases q:(Re.thn ra λ x _=>Re.thn rb λ y _=>(cmpD op x y).map λ k=>Re.ok _ .strong)with
 | none=>rw[q]at h;cases h
 | some re=>
  rw[q]at h;obtain⟨ta,tb,A,B,w⟩:=BL g f q;exact(xZ (aE d) A B (kg e)).weak λ c H Q z=>w c H _ (kh (BM q) h z)
theorem qV{a:CmpOp}(h:F2 c=false):lastMarks [op,a] [b,c]=false:=by
 show behindInMarks a c=false;exact kg h
theorem qW{e:CmpOp}(I:∀q,ra=some q->PE X a (dE X.D δ q))(F:∀q,rb=some q->PE X b (dE X.D δ q))(E:∀q,rc=some q->PE X c (dE X.D δ q))
  (h:(Re.thn ra λ x _=>Re.thn rb λ y _=>match cmpD op x y with
   | none=>none
   | some false=>some (.ok (.bl false) .strong)
   | some true=>Re.thn rc λ z _=>(cmpD e y z).map λ k=>.ok (.bl k) .strong)=some re):∃w v u,PE X a w/\PE X b v/\PE X c u/\(∀σ H Q,dE X.D δ re σ H Q->iS (cmpR X op) (cmpR X e) w v u σ H Q)/\∀d cl,re=.ok d cl->∃k,d=.bl k:=by
 cases i:ra with
 | none=>rw[i]at h;cases h
 | some q=>
  rw[i]at h;have A:=I q i;cases q with
  | ok s cx=>
   cases g:rb with
   | none=>rw[g]at h;cases h
   | some q=>
    rw[g]at h;have B:=F q g;cases q with
    | ok l cy=>
     have j:(match(generalizing:=false) cmpD op s l with
      | none=>none
      | some false=>some (Re.ok (.bl false) .strong)
      | some true=>Re.thn rc λ z _=>(cmpD e l z).map λ k=>.ok (.bl k) .strong)=some re:=h
     split at j
     ·cases j
     ·rename_i r;cases j;exact⟨_,_,_,A,B,cg,λ σ H Q ⟨O,W,R,p⟩=>⟨O,W,R,λ x P s1 o=>⟨O,W,R.mono s1,λ y N s2 n=>
       ⟨s,l,false,r,(o.mono s2).all ((R.hid.mono s1).mono s2),n.all ((R.mono s1).hid.mono s2),false,rfl,by rw[e8 x0];exact p _ _ (s1.trans s2) R5⟩⟩⟩,λ d cl z=>by cases z;exact⟨_,rfl⟩⟩
     ·rename_i r;cases f:rc with
      | none=>rw[f]at j;cases j
      | some q=>
       rw[f]at j;have C:=E q f;cases q with
       | ok M cz=>
        obtain⟨k,L,K⟩:=p9.mp (j);cases K;exact⟨_,_,_,A,B,C,λ σ H Q ⟨O,W,R,p⟩=>⟨O,W,R,λ x P s1 o=>⟨O,W,R.mono s1,λ y N s2 n=>
         ⟨s,l,true,r,(o.mono s2).all ((R.hid.mono s1).mono s2),n.all ((R.mono s1).hid.mono s2),true,rfl,by
          rw[d8 rfl];exact⟨O,W,(R.mono s1).mono s2,λ z H3 m J=>⟨l,M,k,L,(n.mono m).all (((R.mono s1).hid.mono s2).mono m),J.all (((R.mono s1).mono s2).hid.mono m),p _ _ (s1.trans (s2.trans m)) R5⟩⟩⟩⟩⟩,λ d cl z=>by cases z;exact⟨_,rfl⟩⟩
theorem BO(e:X.A.units+64<cLine)(j:∀q,ra=some q->PE X a (dE X.D δ q))(i:∀q,rb=some q->PE X b (dE X.D δ q))(g:∀q,rc=some q->PE X c (dE X.D δ q))(f:F2 c=false)
  (h:(Re.thn ra λ x _=>Re.thn rb λ y _=>match cmpD op x y with
   | none=>none
   | some false=>some (.ok (.bl false) .strong)
   | some true=>Re.thn rc λ z _=>(cmpD d y z).map λ k=>.ok (.bl k) .strong)=some re):PE X (.Compare a [op,d] [b,c] pos) (dE X.D δ re):=by
 obtain⟨ta,tb,tc,A,B,C,w,_⟩:=qW j i g h;exact(ya (aE e) (aE e) A B C (qV f)).weak w
theorem BP(f:X.A.units+64<cLine)(m:∀q,ra=some q->PE X a (dE X.D δ q))(l:∀q,rb=some q->PE X b (dE X.D δ q))(j:∀q,rc=some q->PE X c (dE X.D δ q))(i:F2 c=false)
  (h:tstD (Re.thn ra λ x _=>Re.thn rb λ y _=>match cmpD op x y with
   | none=>none
   | some false=>some (.ok (.bl false) .strong)
   | some true=>Re.thn rc λ z _=>(cmpD d y z).map λ k=>.ok (.bl k) .strong)=some r):PT X (.Compare a [op,d] [b,c] pos) (dT X.D δ r):=by
 cases q:(Re.thn ra λ x _=>Re.thn rb λ y _=>match cmpD op x y with
   | none=>none
   | some false=>some _
   | some true=>Re.thn rc λ z _=>(cmpD d y z).map λ k=>.ok _ .strong)with
 | none=>rw[q]at h;cases h
 | some re=>
  rw[q]at h;obtain⟨ta,tb,tc,A,B,C,w,e⟩:=qW m l j q;exact(yb (aE f) (aE f) A B C (qV i)).weak λ g H Q z=>w g H _ (kh e h z)
end
theorem aF(h:H9 d=some k)(r:Rep D H d v):TruV D.K v H k:=by
 cases d with
 | non=>cases h;rw[O8.mp r];rfl
 | bl b=>cases h;rw[O7.mp r];rfl
 | int i=>cases h;rw[u6.mp r];rfl
 | str x=>
  cases h;obtain⟨f,e⟩:=bX.mp r;rw[f];refine⟨e,?_⟩;show(x.cps.size != 0)=(((x.cps.size:Nat):Int) != 0);cases x.cps.size with
  | zero=>rfl
  | succ n=>simp only[bne,Nat.add_eq_zero_iff];rw[J7];simp;omega
 | tup j=>
  cases h;obtain⟨a,c,f,e,g⟩:=C9.mp r;rw[f];refine .inr (.inl ⟨c,e,?_⟩);have:=g.length;cases c<;>cases j<;>first | rfl | cases this
 | lst j=>
  cases h;obtain⟨a,c,f,e,g⟩:=G0.mp r;rw[f];refine .inl ⟨c,SqL.of e,?_⟩;have:=g.length;cases c<;>cases j<;>first | rfl | cases this
 | dct _ _=>cases h
 | fn _=>cases h
 | lam _ _=>cases h
 | scr _=>cases h
theorem BQ(g:∀q,c=some q->PE X e (dE X.D δ q))(f:∀a,isTrue e X.env a=(do let v ←a;standAt e.pos;holding [v] (truthy v)))(h:tstD c=some r):PT X e (dT X.D δ r):=by
 cases b:c with
 | none=>rw[b]at h;cases h
 | some q=>
  rw[b]at h;have A:=g q b;cases q with
  | ok d cl=>
   obtain⟨k,l,j⟩:=p9.mp (h);cases j;exact(yd A f).weak λ σ H Q ⟨O,W,R,p⟩=>⟨O,W,R,λ x m s1 i=>⟨k,aF l (i.all (R.hid.mono s1)),p m s1⟩⟩
theorem BR(j:PE X a f):PE X (.UnaryOp .Not a pos) (tUn (λ x H Q=>∃k,TruV X.K x H k/\Q (.bl (!k)) H) f):=by
 intro c s e H Q I h;refine UnaryOp_ (thn (j c s e H _ I h) λ v s1 t0=>?_);obtain⟨x,g,o,i,d⟩:=t0;obtain⟨k,t,d⟩:=d;exact not_of (thn (eR c s1 e g x v (λ b q=>b=k/\q=g) o i ⟨k,t,rfl,rfl⟩) λ b s2 ⟨p,n,m,l⟩=>by
  subst m l;exact⟨.bl (!b),p,n,rfl,d⟩)
theorem BS(e:∀q,d=some q->PE X a (dE X.D δ q))(h:(Re.thn d λ x _=>(H9 x).map λ k=>.ok (.bl (!k)) .strong)=some c):PE X (.UnaryOp .Not a pos) (dE X.D δ c):=
 qQ (λ _=>BR) e h λ O W H0 H x Q dx cx σ k hd f p=>by obtain⟨b,i,g⟩:=p9.mp k;cases g;exact⟨b,aF i (f.all hd),p _ H (Same.refl H) R5⟩
theorem qX(q:PE X a j)(p:PE X (.BoolOp .And (b::es) pos) i):PE X (.BoolOp .And (a::b::es) pos) (λ e H Q=>j e H λ x f=>∃k,TruV X.K x f k/\if k=true then i e f Q else Q x f):=by
 intro d s e H Q I h;refine BoolOp_and (thn (q d s e H _ I h) λ v s1 t0=>?_);obtain⟨x,f,w,l,g⟩:=t0;obtain⟨k,t,g⟩:=g;refine thn (eR d s1 e f x v (λ b y=>b=k/\y=f) w l ⟨k,t,rfl,rfl⟩) λ c o t0=>?_;obtain⟨n,m,u,r⟩:=t0
 subst u r;cases c with
 | true=>exact p d o e n Q m g
 | false=>exact⟨x,n,m,l,g⟩
theorem qY(p:PE X a i)(o:PE X (.BoolOp .Or (b::es) pos) tb):PE X (.BoolOp .Or (a::b::es) pos) (λ e H Q=>i e H λ x f=>∃k,TruV X.K x f k/\if k=true then Q x f else tb e f Q):=by
 intro d s e H Q I h;refine BoolOp_or (thn (p d s e H _ I h) λ v s1 t0=>?_);obtain⟨x,f,u,j,g⟩:=t0;obtain⟨k,t,g⟩:=g;refine thn (eR d s1 e f x v (λ b w=>b=k/\w=f) u j ⟨k,t,rfl,rfl⟩) λ c n t0=>?_;obtain⟨m,l,r,q⟩:=t0
 subst r q;cases c with
 | false=>exact o d n e m Q l g
 | true=>exact⟨x,m,l,j,g⟩
theorem BU(o:∀q,k=some q->PE X a (dE X.D δ q))(n:∀q,j=some q->PE X (.BoolOp .And (b::es) pos) (dE X.D δ q))(h:(Re.thn k λ x c=>andD x c j)=some g):PE X (.BoolOp .And (a::b::es) pos) (dE X.D δ g):=by
 cases e:k with
 | none=>rw[e]at h;cases h
 | some q=>
  rw[e]at h;have A:=o q e;cases q with
  | ok d cl=>
   have f:andD d cl j=some g:=h;unfold andD at f;split at f
   ·cases f
   ·rename_i t;exact(qX A (n g f)).weak λ m H Q ⟨O,W,R,p⟩=>⟨O,W,R,λ x l s1 i=>⟨true,aF t (i.all (R.hid.mono s1)),iteT ⟨O,W,R.mono s1,p.later s1 s1⟩⟩⟩
   ·rename_i t;cases f;exact(qX A cg).weak λ m H Q ⟨O,W,R,p⟩=>⟨O,W,R,λ x l s1 i=>⟨false,aF t (i.all (R.hid.mono s1)),iteF (p _ l s1 i)⟩⟩
theorem BV(o:∀q,k=some q->PE X a (dE X.D δ q))(n:∀q,j=some q->PE X (.BoolOp .Or (b::es) pos) (dE X.D δ q))(h:(Re.thn k λ x c=>orD x c j)=some g):PE X (.BoolOp .Or (a::b::es) pos) (dE X.D δ g):=by
 cases e:k with
 | none=>rw[e]at h;cases h
 | some q=>
  rw[e]at h;have A:=o q e;cases q with
  | ok d cl=>
   have f:orD d cl j=some g:=h;unfold orD at f;split at f
   ·cases f
   ·rename_i t;cases f;exact(qY A cg).weak λ m H Q ⟨O,W,R,p⟩=>⟨O,W,R,λ x l s1 i=>⟨true,aF t (i.all (R.hid.mono s1)),iteT (p _ l s1 i)⟩⟩
   ·rename_i t;exact(qY A (n g f)).weak λ m H Q ⟨O,W,R,p⟩=>⟨O,W,R,λ x l s1 i=>⟨false,aF t (i.all (R.hid.mono s1)),iteF ⟨O,W,R.mono s1,p.later s1 s1⟩⟩⟩
theorem ki(h:tstD (Re.thn b k)=some r):∃d c,b=some (.ok d c)/\tstD (k d c)=some r:=by
 cases a:b with
 | none=>rw[a]at h;cases h
 | some q=>
  rw[a]at h;cases q with
  | ok d c=>exact⟨d,c,rfl,h⟩
theorem qZ(h:tstD (some (.ok d c))=some r):∃k,H9 d=some k/\r=.ok k:=by
 obtain⟨k,b,a⟩:=p9.mp (h);exact⟨k,b,a.symm⟩
theorem BW(f:∀q,tstD e=some q->PT X a (dT X.D δ q))(h:tstD (Re.thn e λ x _=>(H9 x).map λ k=>.ok (.bl (!k)) .strong)=some r):PT X (.UnaryOp .Not a pos) (dT X.D δ r):=by
 obtain⟨d,c,g,b⟩:=ki h
 ·cases t:H9 d with
  | none=>rw[t]at b;cases b
  | some k=>
   rw[t]at b;cases b;have A:=f _ (by rw[g];show(H9 d).map Rt.ok=_;rw[t];rfl);exact(xh A).weak λ σ H Q ⟨O,W,R,p⟩=>⟨O,W,R,λ i s1=>p i s1⟩
theorem BX(n:∀q,tstD i=some q->PT X a (dT X.D δ q))(m:∀q,tstD g=some q->PW X (.BoolOp .And (b::es) pos) (dT X.D δ q))(h:tstD (Re.thn i λ x c=>andD x c g)=some r):PW X (.BoolOp .And (a::b::es) pos) (dT X.D δ r):=by
 obtain⟨d,c,o,e⟩:=ki h
 ·unfold andD at e;cases t:H9 d with
  | none=>rw[t]at e;cases e
  | some k=>
   rw[t]at e;have A:=n _ (by rw[o];show(H9 d).map Rt.ok=_;rw[t];rfl);cases k with
   | true=>exact(nW A (m r e)).weak λ l H Q ⟨O,W,R,p⟩=>⟨O,W,R,λ j s1=>iteT ⟨O,W,R.mono s1,p.later s1⟩⟩
   | false=>
    obtain⟨k,f,rfl⟩:=qZ e;rw[t]at f;cases f;exact(nW A qO).weak λ l H Q ⟨O,W,R,p⟩=>⟨O,W,R,λ j s1=>iteF (p j s1)⟩
theorem BY(n:∀q,tstD i=some q->PT X a (dT X.D δ q))(m:∀q,tstD g=some q->PW X (.BoolOp .Or (b::es) pos) (dT X.D δ q))(h:tstD (Re.thn i λ x c=>orD x c g)=some r):PW X (.BoolOp .Or (a::b::es) pos) (dT X.D δ r):=by
 obtain⟨d,c,o,e⟩:=ki h
 ·unfold orD at e;cases t:H9 d with
  | none=>rw[t]at e;cases e
  | some k=>
   rw[t]at e;have A:=n _ (by rw[o];show(H9 d).map Rt.ok=_;rw[t];rfl);cases k with
   | false=>exact(nX A (m r e)).weak λ l H Q ⟨O,W,R,p⟩=>⟨O,W,R,λ j s1=>iteF ⟨O,W,R.mono s1,p.later s1⟩⟩
   | true=>
    obtain⟨k,f,rfl⟩:=qZ e;rw[t]at f;cases f;exact(nX A qO).weak λ l H Q ⟨O,W,R,p⟩=>⟨O,W,R,λ j s1=>iteT (p j s1)⟩
theorem rd(l:PT X c g)(n:PT X a t)(m:PT X b u):PT X (.IfExp c a b pos) (λ e H Q=>g e H λ k f=>if k=true then t e f Q else u e f Q):=by
 intro d s e H Q I h;refine isTrue_IfExp (thn (l d s e H _ I h) λ k s1 t0=>?_);obtain⟨f,j,i⟩:=t0;cases k with
 | true=>exact n d s1 e f Q j i
 | false=>exact m d s1 e f Q j i
theorem BZ(i:∀q,e=some q->PT X c (dT X.D δ q))(l:∀q,tstD f=some q->PT X a (dT X.D δ q))(j:∀q,tstD rb=some q->PT X b (dT X.D δ q))(h:tstD (Rt.thn e λ k=>if k then f else rb)=some r):PT X (.IfExp c a b pos) (dT X.D δ r):=by
 cases d:e with
 | none=>rw[d]at h;cases h
 | some q=>
  rw[d]at h;have C:=i q d;cases q with
  | ok k=>
   cases k with
   | true=>exact(rd C (l r h) qP).weak λ g H Q ⟨O,W,R,p⟩=>⟨O,W,R,λ m s1=>iteT ⟨O,W,R.mono s1,p.later s1⟩⟩
   | false=>exact(rd C qP (j r h)).weak λ g H Q ⟨O,W,R,p⟩=>⟨O,W,R,λ m s1=>iteF ⟨O,W,R.mono s1,p.later s1⟩⟩
theorem Ca(l:∀q,f=some q->PT X c (dT X.D δ q))(n:∀q,rb=some q->PE X a (dE X.D δ q))(m:∀q,i=some q->PE X b (dE X.D δ q))
  (h:(Rt.thn f λ k=>if k then rb else i)=some e):PE X (.IfExp c a b pos) (dE X.D δ e):=by
 cases d:f with
 | none=>rw[d]at h;cases h
 | some q=>
  rw[d]at h;have C:=l q d;cases q with
  | ok k=>
   cases k with
   | true=>
    have g:=h;exact(nZ C (n e g) cg).weak λ j H Q ⟨O,W,R,p⟩=>⟨O,W,R,λ o s1=>iteT ⟨O,W,R.mono s1,p.later s1 s1⟩⟩
   | false=>
    have g:=h;exact(nZ C cg (m e g)).weak λ j H Q ⟨O,W,R,p⟩=>⟨O,W,R,λ o s1=>iteF ⟨O,W,R.mono s1,p.later s1 s1⟩⟩
theorem w4(h:t4 e=false):starEach (e::es) env=(false,eval e env)::starEach es env:=by
 cases e<;>first | rfl | cases h
theorem Cb:PA X [] (dA X.D δ (.ok [])):=W5.weak λ σ H Q ⟨O,W,R,p⟩=>p [] H (Same.refl H) .nil
theorem Cc(i:t4 e=false)(k:∀q,g=some q->PE X e (dE X.D δ q))(j:∀q,f=some q->PA X es (dA X.D δ q))
  (h:(match(generalizing:=false) g with | none=>none | some (.ok d c)=>(match(generalizing:=false) f with | none=>none | some (.ok l)=>some (.ok ((d,c)::l))))=some q):PA X (e::es) (dA X.D δ q):=by
 cases b:g with
 | none=>rw[b]at h;cases h
 | some z=>
  rw[b]at h;have A:=k z b;cases z with
  | ok d cl=>
   cases a:f with
   | none=>rw[a]at h;cases h
   | some y=>
    rw[a]at h;have B:=j y a;cases y with
    | ok l=>
     cases h;exact(T7 A B (w4 i)).weak λ σ H Q ⟨O,W,R,p⟩=>⟨O,W,R,λ x H1 s1 n=>⟨O,W,R.mono s1,λ vs o s2 m=>p _ o (s1.trans s2) (.cons (n.mono s2) (m.since s1))⟩⟩
theorem Cd(d:∀q,b=some q->PA X es (dA X.D δ q))(h:(Rs.thn b λ l=>if l.length<=j5 then some (.ok (.lst (l.map (·.1))) (if stros l then .fresh else .weak))else none)=some c):PE X (.List es pos) (dE X.D δ c):=
 cj (λ _=>yg) d h λ O W H0 H vs Q l σ k hd g p=>by
  split at k
  ·rename_i m;cases k;refine⟨by rw[g.length];exact P1 m,λ q a=>p _ _ (u9 a) ?_⟩;by_cases z:stros l=true
   ·rw[d8 z];exact P0 hd a (g.stros hd z)
   ·rw[e8 z];exact jW hd a (g.repL hd)
  ·cases k
theorem Cf(e:∀q,b=some q->PA X es (dA X.D δ q))(h:(Rs.thn b λ l=>if l.length<=j5 then some (.ok (.tup (l.map (·.1))) (if stros l then .strong else .weak))else none)=some c):PE X (.Tuple es d pos) (dE X.D δ c):=
 cj (λ _=>oE) e h λ O W H0 H vs Q l σ k hd g p=>by
  split at k
  ·rename_i m;cases k;refine⟨by rw[g.length];exact P1 m,λ q a=>p _ _ (u9 a) ?_⟩;by_cases z:stros l=true
   ·rw[d8 z];exact cf hd a (g.stros hd z)
   ·rw[e8 z];exact jX hd a (g.repL hd)
  ·cases k
theorem kj:∀a:ge DV,toPs a=a.map toP
 | []=>by rw[toPs];rfl
 | d::r=>by rw[toPs,kj r];rfl
theorem kq:∀{a:ge DV} {j:Nat},L6 y a=some j->∃h:j<a.length,deq a[j] y=true/\∀m (b:m<a.length),m<j->deq a[m] y=false
 | [],j,h=>by cases h
 | d::r,j,h=>by
  unfold L6 at h;split at h
  ·rename_i e;cases h;exact⟨Nat.succ_pos _,e,λ m _ b=>absurd b (Nat.not_lt_zero _)⟩
  ·rename_i e;obtain⟨k,l,rfl⟩:=p9.mp h;obtain⟨f,i,g⟩:=kq l;refine⟨Nat.succ_lt_succ f,i,λ m b c=>?_⟩;cases m with
   | zero=>exact Bool.eq_false_iff.mpr e
   | succ m=>exact g m _ (Nat.lt_of_succ_lt_succ c)
theorem rf:∀{ds:ge DV} {m:Nat} (h:m<ds.length),DV.plains n ds=true->(ds[m]).plain n=true
 | d::r,0,_,p=>by simp[DV.plains,d6]at p;exact p.1
 | d::r,m+1,h,p=>by simp[DV.plains,d6]at p;exact rf (ds:=r) _ p.2
section
variable {X:Cx} {pins:ge (Ji×Obj)} {σ:St} {H:Hp} {s:Jh} {δ:ge Sv} {o e:Jk} {to te:TE} {apos cpos:Pos} {ra rb:on Re} {re:Re}
theorem rg(p:y.plain 60=true)(q:DV.plains 60 ds=true)(h:L6 y ds=some j) :
  ∃h:j<(toPs ds).length,PyData.eqv (toPs ds)[j] (toP y)=true/\∀m (c:m<(toPs ds).length),m<j->PyData.eqv (toPs ds)[m] (toP y)=false:=by
 obtain⟨f,e,a⟩:=kq h;have hl:(toPs ds).length=ds.length:=by rw[kj,d7]
 have d:∀m _ (a:m<ds.length),PyData.eqv (toPs ds)[m] _=deq ds[m] y:=λ m e a=>by
  rw[←cn 60 60 ds[m] y (rf a q) p]
  congr 1
  simp[kj,List.getElem_map]
 exact⟨by omega,(d j Jy f).trans e,λ m c b=>(d m c Jy).trans (a m Jy b)⟩
theorem Cg(hu:X.A.units+64<cLine)(I:JM pins)(e:RelV x v)(d:RelV y u)(g:Rep X.D H (.lst ds) x)(f:Rep X.D H a y)(p:a.plain 60=true)(q:DV.plains 60 ds=true)(hl:ds.length<=j5)
  (h:L6 a ds=some j) (k:Q (.int j) H):wpAny JE X.A (call (.builtin "list.index") [v,u]) (EP X pins σ Q) X.xe s:=by
 obtain⟨as,i⟩:=G1 I 60 p f d;obtain⟨bs,b⟩:=G1 I 61 (by simpa[DV.plain]using q) g e;rw[toP]at b;have c:=X6 60 _ p;have l3:=c.2;obtain⟨m,o,n⟩:=rg p q h;have l:=(kq h).1;exact SeqAt.index_list_reads b i (U3 60 ds q).1 c.1 Jy m (by have:j5=1000000:=rfl;omega) o n ⟨.int j,H,I.tok _,⟨_,rfl⟩,k⟩
theorem Ch(hu:X.A.units+64<cLine)(I:JM pins)(e:RelV x v)(d:RelV y u)(g:Rep X.D H (.tup ds) x)(f:Rep X.D H a y)(p:a.plain 60=true)(q:DV.plains 60 ds=true)
  (h:L6 a ds=some j) (k:Q (.int j) H):wpAny JE X.A (call (.builtin "tuple.index") [v,u]) (EP X pins σ Q) X.xe s:=by
 obtain⟨as,i⟩:=G1 I 60 p f d;obtain⟨bs,b⟩:=G1 I 61 (by simpa[DV.plain]using q) g e;rw[toP]at b;have c:=X6 60 _ p;have l3:=c.2;obtain⟨l,n,m⟩:=rg p q h;exact SeqAt.index_tuple_reads b i (U3 60 ds q).1 c.1 Jy l n m ⟨.int j,H,I.tok _,⟨_,rfl⟩,k⟩
def tIdx(X:Cx)(to te:TE):TE:=λ σ H Q=>to σ H λ x H1=>(∃ds,Rep X.D H1 (.lst ds) x/\te σ H1 λ y H2=>∃ds dy j,Rep X.D H2 (.lst ds) x/\Rep X.D H2 dy y/\dy.plain 60=true/\DV.plains 60 ds=true/\ds.length<=j5/\L6 dy ds=some j/\Q (.int j) H2) \/
 (∃ds,Rep X.D H1 (.tup ds) x/\te σ H1 λ y H2=>∃ds dy j,Rep X.D H2 (.tup ds) x/\Rep X.D H2 dy y/\dy.plain 60=true/\DV.plains 60 ds=true/\L6 dy ds=some j/\Q (.int j) H2)
theorem Ci(M:X.A.units+64<cLine)(Z:PE X o to)(N:PE X e te)(g:attributeBase o "index" X.env (eval o X.env)=eval o X.env)(f:(apos.endLine==cpos.line)=true)(hs:starEach [e] X.env=[(false,eval e X.env)]) :
  PE X (.Call (.Attribute o "index" apos) [e] [] cpos) (tIdx X to te):=by
 intro d s m H Q I h;refine nH g (by rw[hs];rfl) f rfl (thn (Z d s m H _ I h) λ v s1 t0=>?_);obtain⟨x,O,l,F,i⟩:=t0;rcases i with⟨ds,C,i⟩ | ⟨ds,C,i⟩
 ·obtain⟨a,P,w,r,e3⟩:=G0.mp C;subst w;cases(F);obtain⟨Y,_,J,_⟩:=l.list (SqL.of r);refine⟨"list","list.index",gS,nv,PySem.F.type_list_index,J.isList.typeIs,λ b q=>?_,?_⟩
  ·cases q;obtain⟨o,n,e,c,hd,_⟩:=J;exact⟨o,e,hd⟩
  ·rw[hs];refine ba rfl (gY (hU (thn (N d s1 m O _ l i) λ u R ⟨y,H2,E,p,z,dy,j,B,A,p1,p2,p3,S,k⟩=>hZ ?_)));exact Cg M E (show RelV (.ref a) _ from rfl) p B A p1 p2 p3 S k
 ·obtain⟨a,P,w,r,e3⟩:=C9.mp C;subst w;cases(F);obtain⟨K,L,W,U⟩:=l.tupleN r;refine⟨"tuple","tuple.index",PySem.F.plainAttrs_tuple,nr,PySem.F.type_tuple_index,⟨K,L,W⟩,λ b q=>?_,?_⟩
  ·cases q;exact⟨K,L,U⟩
  ·rw[hs];refine ba rfl (gY (hU (thn (N d s1 m O _ l i) λ u R ⟨y,H2,E,p,z,dy,j,B,A,p1,p2,p3,k⟩=>hZ ?_)));exact Ch M E (show RelV (.ref a) _ from rfl) p B A p1 p2 p3 k
theorem Cj(I:X.A.units+64<cLine)(L:∀q,ra=some q->PE X o (dE X.D δ q))(K:∀q,rb=some q->PE X e (dE X.D δ q))(g:attributeBase o "index" X.env (eval o X.env)=eval o X.env)(f:(apos.endLine==cpos.line)=true)(J:starEach [e] X.env=[(false,eval e X.env)])
  (h:(Re.thn ra λ x _=>if seqB x then Re.thn rb λ y _=>(idxD x y).map λ d=>.ok d .strong else none)=some re):PE X (.Call (.Attribute o "index" apos) [e] [] cpos) (dE X.D δ re):=by
 cases c:ra with
 | none=>rw[c]at h;cases h
 | some q=>
  rw[c]at h;have A:=L q c;cases q with
  | ok r cx=>
   have l:(if seqB r then Re.thn rb λ y _=>(idxD r y).map λ d=>Re.ok d .strong else none)=some re:=h;have s:seqB r=true:=by
    cases z:seqB r with
    | true=>rfl
    | false=>rw[z]at l;cases l
   rw[d8 s]at l;have n:=l;cases b:rb with
   | none=>rw[b]at n;cases n
   | some q=>
    rw[b]at n;have B:=K q b;have C:=Ci I A B g f J;cases q with
    | ok E cy=>
     obtain⟨d,a,M⟩:=p9.mp n;subst M;unfold idxD at a;split at a
     ·rename_i k;split at a
      ·rename_i m;obtain⟨j,v,rfl⟩:=p9.mp a;rw[d6,d6,D4]at m;exact C.weak λ F H Q ⟨O,W,R,p⟩=>⟨O,W,R,λ x N s1 i=>.inl ⟨k,i.all (R.hid.mono s1),O,W,R.mono s1,λ y w s2 u=>
        ⟨k,E,j,(i.mono s2).all ((R.hid.mono s1).mono s2),(u.since s1).all ((R.hid.mono s1).mono s2),m.1.1,m.1.2,m.2,v,p _ w (s1.trans s2) v7⟩⟩⟩
      ·cases a
     ·rename_i k;split at a
      ·rename_i m;obtain⟨j,v,rfl⟩:=p9.mp a;rw[d6,d6,D4]at m;exact C.weak λ F H Q ⟨O,W,R,p⟩=>⟨O,W,R,λ x N s1 i=>.inr ⟨k,i.all (R.hid.mono s1),O,W,R.mono s1,λ y w s2 u=>
        ⟨k,E,j,(i.mono s2).all ((R.hid.mono s1).mono s2),(u.since s1).all ((R.hid.mono s1).mono s2),m.1.1,m.1.2,v,p _ w (s1.trans s2) v7⟩⟩⟩
      ·cases a
     ·cases a
end
def GotR(D:Dm)(O:ge Ji)(H0 H:Hp)(d:DV)(fr:Bool)(v:V):Prop:=match fr with
 | false=>Rep D (L2.wo O H) d v
 | true=>∃p xs ds,v=.ref p/\d=.lst ds/\H0 p=none/\H p=some (.lst xs)/\RepL D (L2.wo (p::O) H) ds xs
def spF(D:Dm)(n:Nat)(f:ge DV->on Ou):Sp:=λ vs H Q E=>∃O ds o,Hdn O H/\ds.length=n/\RepL D (L2.wo O H) ds vs/\f ds=some o /\
 (match o with | .v d fr=>∀v H',Same H H'->GotR D O H H' d fr v->Q v H')
theorem rh{ps:ge Str}{j:St->Hp->Prop}(M:∀ds o,F f ds=some o->ds.length=ps.length)(C:∀q,n=some q->PA X U (dA X.D δ q)->PE X S (λ σ H Q=>j σ H/\iU (spF X.D ps.length (F f)) [] E0 (dA X.D δ q) σ H Q))(E:∀σ H O W,RSt X.D H σ δ O W->j σ H)(I:∀q,n=some q->PA X U (dA X.D δ q))
  (h:(Rs.thn n λ l=>J2 F f l)=some B):PE X S (dE X.D δ B):=by
 cases c:n with
 | none=>rw[c]at h;cases h
 | some q=>
  rw[c]at h;have A:=I q c
  replace C:=C q c
  cases q with
  | ok l=>
   have r:J2 F f l=some B:=h;unfold J2 at r;split at r
   ·cases r
   ·rename_i d P i;cases r;refine(C A).weak λ σ H Q ⟨O,W,R,p⟩=>⟨E _ _ _ _ R,O,W,R,λ vs Z s1 N=>?_⟩
    have hd:=R.hid.mono s1;show spF X.D ps.length (F f) _ Z Q E0;rw[A6];by_cases z:(l.all λ p=>p.2 == .strong||p.2 == .fresh)=true
    ·rw[d8 z]at p;refine⟨O++W,_,_,hd.hdA,M _ _ i,N.strong hd z,i,λ v K s g=>p v K (s1.trans s) ?_⟩;cases P with
     | false=>exact g
     | true=>
      obtain⟨q,k,ds,i,J,x,w,u⟩:=g;exact⟨q,k,ds,i,J,s1.free x,w,u⟩
    ·rw[e8 z]at p;refine⟨O,_,_,hd.hdO,M _ _ i,N.repL hd,i,λ v K s g=>p v K (s1.trans s) ?_⟩;cases P with
     | false=>exact g
     | true=>
      obtain⟨q,k,ds,L,J,x,w,u⟩:=g;subst J;rw[L3];cases y:imL (.lst ds)with
      | true=>exact⟨q,k,ds,L,rfl,s1.free x,w,RepL.immut (λ a I=>by obtain⟨o,e,m⟩:=hd.wl a I;exact⟨o,s _ _ (hd.same _ _ e),m⟩) y u⟩
      | false=>
       exact G0.mpr ⟨q,k,L,by rw[i8 (λ z=>hd.ot q (B6 _ z) (s1.free x))];exact w,u.mono (M1 λ b Y=>i7 _ Y)⟩
theorem Ck(fo:FnOk X.prog X.w X.K X.mg X.base CX0 k c fd ps (spF X.D ps.length (F f)))(n:∀ds o,F f ds=some o->ds.length=ps.length)(m:Room k X.A)(u:Gl X x)(r:X.mg x=some (.ref c))(s:PySem.W.keepIn X.K (.ref c)=true)
  (v:M7 X.K fd ps []) (w:∀q,d=some q->PA X (e::es) (dA X.D δ q)) (b:(x==("__debug__" : Str))=false) (j:t4 e=false) (a:es.any t4=false)
  (h:(Rs.thn d λ l=>J2 F f l)=some g):PE X (.Call (.Name x p) (e::es) [] pos) (dE X.D δ g):=by
 have plain:∀(es:ge Jk),es.any t4=false->(backTo pos (starEach es X.env)).any (·.1)=false:=by
  intro es
  induction es with
  | nil=>intro _;rfl
  | cons y ys i=>
   intro q;rw[G7,S6]at q;rw[w4 q.1];show(false||(backTo pos _).any (·.1))=false;rw[i q.2];rfl
 exact rh n (λ t _ z=>(yh fo m u r s v .nil pc z b (w4 j) (plain es a)).weak λ σ H Q h=>h.2) (λ _ _ _ _ _=>trivial) w h
section
variable {X:Cx} {δ:ge Sv} {e:Jk} {es:ge Jk} {pos p:Pos} {re:Re} {rs:on Rs}
theorem cq:∀(es:ge Jk),es.any t4=false->(backTo pos (starEach es env)).any (·.1)=false
 | [],_=>rfl
 | y::a,q=>by rw[G7,S6]at q;rw[w4 q.1];show(false||(backTo pos _).any (·.1))=false;rw[cq a q.2];rfl
theorem Cm(fo:FnOk X.prog X.w X.K X.mg X.base CX0 k c fd ps j)(o:Room k X.A)(hv:PE X (.Name x p) (tVar i))(w:PySem.W.keepIn X.K (.ref c)=true)(z:M7 X.K fd ps ds)(hd:Vals d ds)
  (A:PA X (e::es) t) (y:starEach (e::es) X.env=(false,eval e X.env)::starEach es X.env:=by rfl) (f:(backTo pos (starEach es X.env)).any (·.1)=false:=by rfl) :
  PE X (.Call (.Name x p) (e::es) [] pos) (λ b H Q=>b[i]? = some (some (.ref c))/\iU j d E0 t b H Q):=by
 intro a s b H Q I h;obtain⟨B,h⟩:=h;refine bj (thn (hv a s b H (λ v g=>v=.ref c/\g=H) I ⟨_,B,rfl,rfl⟩) λ u s1 t0=>?_);obtain⟨v,g,C,r1,n,m⟩:=t0;subst n m;obtain rfl:u=Value.ref c:=r1;refine PySem.W.callWith_K I.ok.mod.kin w (thn (A pos a s1 b g _ C h) λ us s2 ⟨vs,H2,l,r,q⟩=>⟨l.kIn,?_⟩) y f;exact oF fo o z hd pc l r q
theorem Cn(fo:FnOk X.prog X.w X.K X.mg X.base CX0 k b fd ps (spF X.D ps.length (F f)))(r:∀ds o,F f ds=some o->ds.length=ps.length)(n:Room k X.A)(hv:PE X (.Name x p) (tVar i))(s:X.mg y=some (.ref b))(u:PySem.W.keepIn X.K (.ref b)=true)
  (z:M7 X.K fd ps []) (w:δ[i]? = some (.val (.fn y))) (A:∀q,rs=some q->PA X (e::es) (dA X.D δ q)) (m:t4 e=false) (a:es.any t4=false)
  (h:(Rs.thn rs λ l=>J2 F f l)=some re):PE X (.Call (.Name x p) (e::es) [] pos) (dE X.D δ re):=by
 refine rh r (λ t _ B=>Cm fo n hv u z .nil B (w4 m) (cq es a)) (λ σ H O W R=>?_) A h;obtain⟨v,E,C⟩:=R.val i _ w;obtain⟨g,j,d⟩:=fJ.mp C;have c:X.mg y=some _:=d;rw[s]at c;cases c;rw[E,j]
noncomputable def biR(X:Cx)(k:ge (DV×Cl)->on Re):ge V->Hp->VK->Prop:=λ vs H Q=>∃l re O W H0,k l=some re/\Hid O W H0 H/\GotL X.D O W H0 H l vs/\∃d c,re=.ok d c/\∀v H',Same H H'->Got X.D O W H0 H' d c v->Q v H'
theorem cr(r:x5 X (.builtin f) (biR X k))(o:Gl X x)(m:X.mg x=none)(hv:bootBuiltins x=some (.builtin f))(j:x ≠ "__name__")(b:(x==("__debug__" : Str))=false)
  (s:∀q,rs=some q->PA X (e::es) (dA X.D δ q)) (i:t4 e=false) (a:es.any t4=false) (h:Rs.thn rs k=some re):PE X (.Call (.Name x p) (e::es) [] pos) (dE X.D δ re):=
 cj (λ _ u=>iW r o m hv u j b (w4 i) (cq es a)) s h λ O W v H vs Q l σ n hd g p=>by obtain⟨d,c⟩:=re;exact⟨l,_,O,W,v,n,hd,g,d,c,rfl,p⟩
theorem kr(o:x5 X (.type T) (biR X k))(n:Gl X x)(j:X.mg x=none)(hv:bootBuiltins x=some (.type T))(i:x ≠ "__name__")(b:(x==("__debug__" : Str))=false)
  (r:∀q,rs=some q->PA X (e::es) (dA X.D δ q)) (f:t4 e=false) (a:es.any t4=false) (h:Rs.thn rs k=some re):PE X (.Call (.Name x p) (e::es) [] pos) (dE X.D δ re):=
 cj (λ _ s=>oM o n j hv s i b (w4 f) (cq es a)) r h λ O W u H vs Q l σ m hd g p=>by obtain⟨d,c⟩:=re;exact⟨l,_,O,W,u,m,hd,g,d,c,rfl,p⟩
theorem fS:∀{ds:ge DV} {b:ge Int} {a:ge V},ints? ds=some b->RepL D H ds a->a=b.map V.int
 | [],b,a,h,r=>by cases h;exact y9.mp r
 | .int i::ds,b,a,h,r=>by obtain⟨ms,g,f⟩:=p9.mp h;obtain⟨v,vs,e,d,c⟩:=u8.mp r;rw[←f,e,t9,u6.mp d,(fS g c)]
 | .non::ds,b,a,h,_=>by cases h
 | .bl _::ds,b,a,h,_=>by cases h
 | .str _::ds,b,a,h,_=>by cases h
 | .tup _::ds,b,a,h,_=>by cases h
 | .lst _::ds,b,a,h,_=>by cases h
 | .dct _ _::ds,b,a,h,_=>by cases h
 | .fn _::ds,b,a,h,_=>by cases h
 | .lam _ _::ds,b,a,h,_=>by cases h
 | .scr _::ds,b,a,h,_=>by cases h
theorem rj:∀(r:ge Int) (m:Int),(minI m r=m\/minI m r∈r)/\minI m r<=m/\∀x∈r,minI m r<=x
 | [],m=>⟨.inl rfl,Int.le_refl _,λ x h=>by cases h⟩
 | y::r,m=>by
  obtain⟨b,d,a⟩:=rj r (if y<m then y else m);unfold minI;by_cases q:y<m
  ·rw[d8 q]at b d a ⊢;refine⟨.inr ?_,by omega,λ x c=>?_⟩
   ·rcases b with z | z
    ·rw[z];exact i5 ..
    ·exact i7 _ z
   ·rcases g5.mp c with z | z
    ·rwa [z]
    ·exact a x z
  ·rw[e8 q]at b d a ⊢;refine⟨b.imp id (i7 _),d,λ x c=>?_⟩;rcases g5.mp c with z | z
   · omega
   ·exact a x z
theorem Co(g:M∈n::r)(d:∀x∈n::r,M<=x):M=minI n r:=by
 obtain⟨a,b,c⟩:=rj r n;have e:=d _ (a.elim (λ z=>by rw[z];exact i5 ..) (i7 _));have f:minI n r<=M:=by
  rcases g5.mp g with z | z
  ·rwa [z]
  ·exact c M z
 omega
theorem kt(x:Int):∀l:ge Int,(insI x l).Perm (x::l)
 | []=>.rfl
 | y::r=>by
  unfold insI;split
  ·exact .rfl
  ·exact(List.Perm.cons y (kt x r)).trans (List.Perm.swap x y r)
theorem rm:∀l:ge Int,(E8 l).Perm l
 | []=>.rfl
 | x::r=>(kt x _).trans (List.Perm.cons x (rm r))
theorem rn(x:Int):∀{l:ge Int},l.Pairwise (· <= ·)->(insI x l).Pairwise (· <= ·)
 | [],_=>List.pairwise_singleton _ _
 | y::r,h=>by
  obtain⟨b,c⟩:=D3.mp h;unfold insI;split
  ·rename_i q;refine D3.mpr ⟨λ z a=>?_,h⟩;rcases g5.mp a with e | e
   ·omega
   ·have:=b z e;omega
  ·rename_i q;refine D3.mpr ⟨λ z a=>?_,rn x c⟩;rcases g5.mp ((kt x r).mem_iff.mp a)with e | e
   ·omega
   ·exact b z e
theorem ro:∀l:ge Int,(E8 l).Pairwise (· <= ·)
 | []=>.nil
 | x::r=>rn x (ro r)
theorem rq:∀{a b:ge Int},a.Perm b->a.Pairwise (· <= ·)->b.Pairwise (· <= ·)->a=b
 | [],b,p,_,_=>(List.Perm.nil_eq p)
 | x::a,b,p,f,d=>by
  cases b with
  | nil=>exact absurd p.length_eq JN
  | cons y b=>
   obtain⟨j,i⟩:=D3.mp f;obtain⟨h,g⟩:=D3.mp d;have e:x=y:=by
    rcases g5.mp (p.mem_iff.mp (i5)) with z | z
    ·exact z
    ·rcases g5.mp (p.mem_iff.mpr (i5)) with c | c
     ·exact c.symm
     ·have:=j y c;have:=h x z;omega
   subst e;rw[rq (List.Perm.cons_inv p) i g]
theorem Cp:x5 X (.builtin "len") (biR X lenD):=by
 intro b s k H xs n Q I r h;obtain⟨l,re,O,W,H0,e,o,g,d,c,rfl,p⟩:=h;unfold lenD at e;split at e
 ·cases e;obtain⟨v,rfl,f⟩:=g.one;obtain⟨a,m,j,i,q⟩:=f.lst o;exact iZ b s k H _ n Q I r ⟨a,m,by rw[j],.inl (SqL.of i),by rw[q.length];exact p _ H (Same.refl H) v7⟩
 ·cases e;obtain⟨v,rfl,f⟩:=g.one;obtain⟨a,m,j,i,q⟩:=f.tup o;exact iZ b s k H _ n Q I r ⟨a,m,by rw[j],.inr i,by rw[q.length];exact p _ H (Same.refl H) v7⟩
 ·cases e;obtain⟨v,rfl,f⟩:=g.one;obtain⟨a,j,i⟩:=R4.mp (f.all o);exact iZ b s k H _ n Q I r ⟨a,_,by rw[j],.inl i.sq,by rw[d7];exact p _ H (Same.refl H) v7⟩
 ·cases e
theorem Cq(j:X.calm=true):x5 X (.builtin "min") (biR X minD):=by
 intro b s o H xs q Q I r h;obtain⟨l,re,O,W,H0,e,hd,g,d,c,rfl,p⟩:=h;unfold minD at e;split at e
 ·cases e;obtain⟨v,w,v2,rfl,i,f,m⟩:=g.three;obtain rfl:=i.int hd;obtain rfl:=f.int hd;obtain rfl:=m.int hd;obtain⟨u,u2,u3,rfl,⟨t,rfl⟩,⟨t2,rfl⟩,⟨t3,rfl⟩⟩:=An r;refine PySem.min_three_ints (I.ok.hd j) λ h' tk k=>⟨_,H,I.kept k,?_,p _ H (Same.refl H) v7⟩
  split<;>split<;>exact⟨_,rfl⟩
 ·cases e;obtain⟨v,w,rfl,i,f⟩:=g.two;exact yf j b s o H _ q Q I r ⟨_,_,by rw[i.int hd,f.int hd],p _ H (Same.refl H) v7⟩
 ·split at e
  ·rename_i n x A;cases e;obtain⟨v,rfl,i⟩:=g.one;obtain⟨a,ys,F,E,C⟩:=i.lst hd;have B:=fS A C;subst B;exact Ai j b s o H _ q Q I r ⟨a,n::x,by rw[F],SqL.of E,by simp,λ M z y=>by rw[Co z y];exact p _ H (Same.refl H) v7⟩
  ·cases e
 ·cases e
theorem Cr(j:X.calm=true):x5 X (.builtin "max") (biR X maxD):=by
 intro a s f H xs i Q I r h;obtain⟨l,re,O,W,H0,b,hd,g,d,c,rfl,p⟩:=h;unfold maxD at b;split at b
 ·cases b;obtain⟨v,v',rfl,m,e⟩:=g.two;exact ye j a s f H _ i Q I r ⟨_,_,by rw[m.int hd,e.int hd],p _ H (Same.refl H) v7⟩
 ·cases b
theorem rr:∀{ds:ge DV} {bs:ge Bool} {a:ge V},bools? ds=some bs->RepL D H ds a->a=bs.map V.bl
 | [],bs,a,h,r=>by cases h;exact y9.mp r
 | .bl i::ds,bs,a,h,r=>by obtain⟨ms,f,e⟩:=p9.mp h;obtain⟨v,vs,d,c,b⟩:=u8.mp r;have q:=rr f b;subst e d q;rw[O7.mp c];rfl
 | .non::_,_,_,h,_=>by cases h
 | .int _::_,_,_,h,_=>by cases h
 | .str _::_,_,_,h,_=>by cases h
 | .tup _::_,_,_,h,_=>by cases h
 | .lst _::_,_,_,h,_=>by cases h
 | .fn _::_,_,_,h,_=>by cases h
 | .lam _ _::_,_,_,h,_=>by cases h
 | .scr _::_,_,_,h,_=>by cases h
 | .dct _ _::_,_,_,h,_=>by cases h
theorem Cs(o:X.calm=true):x5 X (.builtin "sum") (biR X sumD):=by
 intro b s i H xs j Q I r h;obtain⟨l,re,O,W,H0,f,n,g,d,c,rfl,p⟩:=h;unfold sumD at f;split at f
 ·obtain⟨k,m,e⟩:=p9.mp f;cases e;obtain⟨v,rfl,q⟩:=g.one;obtain⟨a,ys,y,x,w⟩:=q.lst n;have u:=fS m w;subst u;exact Av o b s i H _ j Q I r ⟨a,k,by rw[y],SqL.of x,p _ H (Same.refl H) v7⟩
 ·cases f
theorem Ct(n:X.calm=true):x5 X (.builtin "all") (biR X allD):=by
 intro b s i H xs j Q I r h;obtain⟨l,re,O,W,H0,f,m,g,d,c,rfl,p⟩:=h;unfold allD at f;split at f
 ·obtain⟨bs,k,e⟩:=p9.mp f;cases e;obtain⟨v,rfl,o⟩:=g.one;obtain⟨a,ys,x,w,u⟩:=o.lst m;have q:=rr k u;subst q;exact Au n b s i H _ j Q I r ⟨a,bs,by rw[x],SqL.of w,p _ H (Same.refl H) R5⟩
 ·cases f
theorem Cu:bootBuiltins "sum" = some (.builtin "sum"):=by decide +kernel
theorem Cv:bootBuiltins "all" = some (.builtin "all"):=by decide +kernel
theorem Cw:bootBuiltins "sorted" = some (.builtin "sorted"):=by decide +kernel
theorem Cy:bootBuiltins "set" = some (.type "set"):=by decide +kernel
theorem Cz{p':Pos}{pos':Pos}(hc:X.calm=true)(hg:Gl X "sorted")(hm:X.mg "sorted" = none)(hg':Gl X "set")(hm':X.mg "set" = none)
  (ha:∀q,rs=some q->PA X [e] (dA X.D δ q)) (hs:t4 e=false) (h:Rs.thn rs eU=some re):PE X (.Call (.Name "sorted" p) [.Call (.Name "set" p') [e] [] pos'] [] pos) (dE X.D δ re):=
 cj (r:=λ vs H Q=>(∃(a:Ji) (ns:ge Int),vs=[.ref a]/\SqL X.K H a (ns.map V.int)/\ns.length<4000/\∀p,H p=none->∃(p1:Ji) (ks:ge Int),[V.ref p]=[.ref p1]/\upd H p (setO X.prog X.w p (ns.foldl dk [])) p1=some (setO X.prog X.w p1 ks)/\ks.length<64 /\
   ∀(q:Ji) (ms:ge Int),upd H p (setO X.prog X.w p (ns.foldl dk [])) q=none->ms.Perm ks->ms.Pairwise (· <= ·)->Q (.ref q) (upd (upd H p (setO X.prog X.w p (ns.foldl dk []))) q (.lst (ms.map V.int)))))
  (λ t hA=>by
   have q1:=oM (p:=p') (pos:=pos') (Al hc) hg' hm' Cy hA Jz Jz (w4 hs) rfl;have q2:=iW (p:=p) (pos:=pos) (Am hc) hg hm Cw (T7 q1 W5) Jz Jz rfl rfl;exact q2.weak λ σ H Q h=>h) ha h λ O W H0 H vs Q l σ hl hd g pp=>by
  unfold eU at hl;split at hl
  ·split at hl
   ·rename_i ds c ns hq;split at hl
    ·rename_i hb;cases hl;obtain⟨v,rfl,gv⟩:=g.one;obtain⟨a,ys,e1,e2,e3⟩:=gv.lst hd;have e4:=fS hq e3;subst e4;refine⟨a,ns,by rw[e1],SqL.of e2,hb.1,λ p1 hp1=>⟨p1,_,rfl,v6,hb.2,λ q ms hq1 pm pw=>?_⟩⟩;have e5:ms=E8 (ns.foldl dk []):=rq (pm.trans (rm _).symm) pw (ro _);subst e5;have s1:Same H (upd H p1 (setO X.prog X.w p1 (ns.foldl dk []))):=u9 hp1;exact pp _ _ (s1.trans (u9 hq1)) (P0 (hd.mono s1) hq1 (bY _))
    ·cases hl
   ·cases hl
  ·cases hl
theorem CA:x5 X (.type "int") (biR X intD):=by
 intro a s f H xs i Q I r h;obtain⟨l,re,O,W,H0,b,j,g,d,c,rfl,p⟩:=h;unfold intD at b;split at b
 ·cases b;obtain⟨v,rfl,e⟩:=g.one;exact oB a s f H _ i Q I r (.inl ⟨_,by rw[e.int j],p _ H (Same.refl H) v7⟩)
 ·cases b;obtain⟨v,rfl,e⟩:=g.one;exact oB a s f H _ i Q I r (.inr ⟨_,by rw[e.bl j],p _ H (Same.refl H) v7⟩)
 ·cases b
theorem CB:x5 X (.type "list") (biR X eV):=by
 intro b s n H xs u Q I r h;obtain⟨l,re,O,W,H0,i,f,g,d,c,rfl,p⟩:=h;unfold eV at i;split at i
 ·cases i;obtain⟨v,rfl,j⟩:=g.one;obtain⟨a,m,k⟩:=R4.mp (j.all f);exact ja b s n H _ u Q I r ⟨a,_,by rw[m],.inl k.sq,λ q e=>p _ _ (u9 e) (P0 f e (bY _))⟩
 ·cases i;obtain⟨v,rfl,j⟩:=g.one;obtain⟨a,o,m,k,w⟩:=j.lstC f;exact ja b s n H _ u Q I r ⟨a,o,by rw[m],.inl (SqL.of k),λ q e=>p _ _ (u9 e) (fK f e w)⟩
 ·cases i;obtain⟨v,rfl,j⟩:=g.one;obtain⟨a,o,m,k,w⟩:=j.tupC f;exact ja b s n H _ u Q I r ⟨a,o,by rw[m],.inr k,λ q e=>p _ _ (u9 e) (fK f e w)⟩
 ·cases i
theorem RepL.getD(h:RepL D H ds xs)(i:Nat):Rep D H (ds.getD i .non) (xs.getD i .non):=by
 rw[p5,p5];cases e:ds[i]? with
 | none=>
  rw[S4 (by rw[h.length];exact gL.mp e)];exact O8.mpr rfl
 | some d=>
  obtain⟨v,a,q⟩:=h.get e
  rwa [a]
theorem RepL.putIx(h:RepL D H ds xs):∀a:ge Nat,RepL D H (L2.putIx .non a ds) (L2.putIx .non a xs)
 | []=>y9.mpr rfl
 | i::l=>u8.mpr ⟨_,_,rfl,h.getD i,RepL.putIx h l⟩
theorem CC:x5 X (.type "tuple") (biR X jk):=by
 intro b s n H xs o Q I r h;obtain⟨l,re,O,W,H0,e,i,g,d,c,rfl,p⟩:=h;unfold jk at e;split at e
 ·cases e;obtain⟨v,rfl,j⟩:=g.one;obtain⟨a,f,m,k,w⟩:=j.lstC i;exact oT b s n H _ o Q I r ⟨a,f,by rw[m],.inl ⟨SqL.of k,λ q u=>p _ _ (u9 u) (qN i u w)⟩⟩
 ·cases e;obtain⟨v,rfl,j⟩:=g.one;obtain⟨a,f,m,k,w⟩:=j.tupC i;exact oT b s n H _ o Q I r ⟨a,f,by rw[m],.inr ⟨k,p _ _ (Same.refl H) (by grind)⟩⟩
 ·cases e
end
noncomputable def tyS:DV->on Jx
 | .non=>some "NoneType" | .bl _=>some "bool" | .int _=>some "int" | .str _=>some "str" | .tup _=>some "tuple" | .lst _=>some "list" | .dct _ _=>some "dict"
 | _=>none
noncomputable def rx(T t:Jx):on Bool:=if(Value.type T==Value.type t)=true then some true else if PySem.W.kitMeta t=true then(fastBuiltinMro T).map (·.contains (.type t))else none
theorem CD:(["NoneType","bool","int","str","tuple","list","dict"]:ge Jx).all (λ T=>(["int","bool","str","list","tuple","dict"]:ge Jx).all λ t=>rx T t==some (T==t||(T == "bool" && t == "int")))=true:=by decide +kernel
theorem U4{K:Js}(T t:Jx)(b:T∈["NoneType","bool","int","str","tuple","list","dict"])(a:t∈["int","bool","str","list","tuple","dict"]) :
  PySem.W.kitOne K (.type T) (.type t)=some (T==t||(T == "bool" && t == "int")):=by
 exact(show rx T t=_ from by simpa using (t7.mp (t7.mp CD T b) t a))
section
variable {X:Cx} {δ:ge Sv} {e e':Jk} {pos p p':Pos} {re:Re} {ra:on Re}
theorem CF(I:JM k)(r:Rep X.D H d v)(c:RelV v u)(e:tyS d=some T)(f:t∈["int","bool","str","list","tuple","dict"])
  (h:∀tk,Q (.bool (T==t||(T == "bool" && t == "int"))) {s with toks:=tk}):wpAny JE X.A (call (.builtin "isinstance") [u,.type t]) Q A s:=by
 cases d with
 | non=>cases e;rw[O8.mp r]at c;cases c;exact T1 PySem.W.kitx_none I.kIn True.intro (U4 _ _ JN f) (λ z=>nomatch z) h
 | bl b=>cases e;rw[O7.mp r]at c;cases c;exact T1 PySem.W.kitx_bool I.kIn True.intro (U4 _ _ JN f) (λ z=>nomatch z) h
 | int b=>cases e;rw[u6.mp r]at c;obtain⟨tk,rfl⟩:=c;exact T1 PySem.W.kitx_int I.kIn True.intro (U4 _ _ JN f) (λ z=>nomatch z) h
 | str b=>cases e;rw[(bX.mp r).1]at c;obtain⟨tk,rfl⟩:=c;exact T1 PySem.W.kitx_str I.kIn True.intro (U4 _ _ JN f) (λ z=>nomatch z) h
 | tup y=>
  cases e;obtain⟨a,w,j,i,x⟩:=C9.mp r;rw[j]at c;cases c;obtain⟨q,_,⟨o,g,l,_⟩,_⟩:=I.tuple i;exact T1 PySem.W.kitx_tuple I.kIn ⟨o,g,l⟩ (U4 _ _ JN f) (λ z=>nomatch z) h
 | lst y=>
  cases e;obtain⟨a,w,j,i,x⟩:=G0.mp r;rw[j]at c;cases c;obtain⟨_,q,n,_,_,g⟩:=I.lstM i;exact T1 PySem.W.kitx_list I.kIn ⟨_,g,rfl⟩ (U4 _ _ JN f) (λ z=>nomatch z) h
 | dct ks vs=>
  cases e;rcases O9.mp r with⟨a,m,p,j,i,_⟩ | ⟨a,m,p,j,i,_⟩
  ·rw[j]at c;cases c;obtain⟨_,_,_,_,_,⟨o,_,_,g,l,_⟩⟩:=(show p4 X.prog X.w H s.heap a (.frz m _)from I.hok a _ i);exact T1 PySem.W.kitx_dict I.kIn ⟨o,g,l.1⟩ (U4 _ _ JN f) (λ z=>nomatch z) h
  ·rw[j]at c;cases c;obtain⟨_,_,_,_,_,o,_,_,g,l,_⟩:=(show p4 X.prog X.w H s.heap a (.frz m _)from I.hok a _ i);exact T1 PySem.W.kitx_dict I.kIn ⟨o,g,l.1⟩ (U4 _ _ JN f) (λ z=>nomatch z) h
 | fn _=>cases e
 | lam _ _=>cases e
 | scr _=>cases e
def rIsi(X:Cx):ge V->Hp->VK->Prop:=λ xs H Q=>∃d T t x,xs=[x,.ty t]/\Rep X.D H d x/\tyS d=some T/\t∈["int","bool","str","list","tuple","dict"]/\Q (.bl (T==t||(T == "bool" && t == "int"))) H
theorem CG:x5 X (.builtin "isinstance") (rIsi X):=by
 intro b s σ H xs us Q I r h;obtain⟨d,T,t,x,rfl,f,i,g,q⟩:=h;obtain⟨u,w',rfl,e,a⟩:=eS r;cases a;exact CF I f e i g λ c=>⟨.bl _,H,I.tok c,rfl,q⟩
noncomputable def aG:Str->on Jx:=λ x=>(["int","bool","str","list","tuple","dict"]:ge Jx).find? λ t=>Str.ofString t==x
theorem ry(h:aG x=some t):bootBuiltins x=some (.type t)/\t∈["int","bool","str","list","tuple","dict"]/\Str.ofString t=x:=by
 unfold aG at h;have a:=List.mem_of_find?_eq_some h;have b:Str.ofString t=x:=by simpa using (List.find?_some h)
 refine⟨?_,a,b⟩;subst b;simp[g5,V8,W1]at a;rcases a with rfl | rfl | rfl | rfl | rfl | rfl
 ·exact boot_int
 ·exact boot_bool
 ·exact boot_str
 ·exact boot_list
 ·exact boot_tuple
 ·exact boot_dict
noncomputable def rA:Jx->ge Str
 | "NoneType"=>["NoneType"] | "bool"=>["bool","int"] | "int"=>["int"] | "str"=>["str"] | "tuple"=>["tuple"] | "list"=>["list"] | "dict"=>["dict"]
 | _=>[]
theorem CH:(["NoneType","bool","int","str","tuple","list","dict"]:ge Jx).all (λ T=>(["int","bool","str","list","tuple","dict"]:ge Jx).all λ t=>(rA T).contains (Str.ofString t)==(T==t||(T == "bool" && t == "int")))=true:=by decide +kernel
theorem CI(h:aG x=some t)(b:tyS d=some T):(tyOf d).contains x=(T==t||(T == "bool" && t == "int")):=by
 obtain⟨_,e,c⟩:=ry h;subst c;have a:∀T∈_,(rA T).contains _=(T==t||_):=λ T b=>by have q:=t7.mp (t7.mp CH T b) t e;simpa using q
 cases d<;>cases b
 ·exact a "NoneType" JN
 ·exact a "bool" JN
 ·exact a "int" JN
 ·exact a "str" JN
 ·exact a "tuple" JN
 ·exact a "list" JN
 ·exact a "dict" JN
theorem CJ(m:aG x=some t)(z:Gl X "isinstance")(u:X.mg "isinstance" = none)(i:Gl X x)(g:X.mg x=none)(f:x ≠ "__name__")(j:(x==("__debug__" : Str))=false)
  (B:∀q,ra=some q->PE X e (dE X.D δ q)) (n:t4 e=false) (h:(Re.thn ra λ y _=>(isiD G y [x]).map λ k=>.ok (.bl k) .strong)=some re):PE X (.Call (.Name "isinstance" p) [e,.Name x p'] [] pos) (dE X.D δ re):=by
 obtain⟨K,l,J⟩:=ry m;have T:PE X (.Name x p') (tC (.ty t)):=xa i g K rfl f j;have C:=λ r (E:PE X e r)=>iW (p:=p) (pos:=pos) CG z u boot_isinstance (T7 E (T7 T W5) (w4 n)) Jz Jz (w4 n)
 cases a:ra with
 | none=>rw[a]at h;cases h
 | some q=>
  rw[a]at h;have A:=B q a;cases q with
  | ok d cl=>
   obtain⟨k,b,I⟩:=p9.mp (h);cases I;have c:∃T,tyS d=some T/\k=(tyOf d).contains x:=by
    unfold isiD at b;have s:T8.contains x=true:=by
     rw[←J];simp only[g5,V8,W1]at l;rcases l with rfl | rfl | rfl | rfl | rfl | rfl<;>decide +kernel
    cases d<;>first
     | (simp only[s,if_true]at b;cases b;exact⟨_,rfl,rfl⟩)
     | cases b
   obtain⟨T,o,w⟩:=c;exact(C _ A).weak λ σ H Q ⟨O,W,R,p⟩=>⟨O,W,R,λ v L s1 F=>⟨d,T,t,v,rfl,F.all (R.hid.mono s1),o,l,by rw[←CI m o,←w];exact p _ L s1 R5⟩⟩
end
theorem CK(a:Str):av (a ++ "<lambda>")=false:=by
 have c:∀b:Str,b.cps.toList.getLast? = some 102->(a++_==b)=false:=λ b d=>by
  rw[A4];intro z;rw[←z]at d;have e:(a++("<lambda>" : Str)).cps.toList.getLast? = some 62:=by show(a.cps++("<lambda>" : Str).cps).toList.getLast? = _;rw[hE,List.getLast?_append];rfl
  rw[e]at d;cases d
 unfold av;rw[c _ rfl,c _ rfl];rfl
theorem rB:∀(l:ge Jg),TriplesOk l->(∃i t,a=.int i t)->(∃i t,b=.int i t)->codeAmong pos' (l++[a,b,c])=some cv->codeAmong pos' l=some cv\/cv=c
 | [],_,⟨i,t,k⟩,⟨j,u,g⟩,h=>by
  subst k g;have d:(if i==pos'.line&&j==pos'.col then some c else codeAmong pos' [])=some cv:=h;split at d
  ·exact .inr (A9 d).symm
  ·cases d
 | .int i t :: .int j u::x::r,ok,f,e,h=>by
  have d:(if i==pos'.line&&j==pos'.col then some x else codeAmong pos' _)=some cv:=h;show(if i==pos'.line&&j==pos'.col then some x else codeAmong pos' r)=some cv\/cv=c;split at d
  ·rename_i z;rw[d8 z];exact .inl d
  ·rename_i z;rw[e8 z];exact rB r ok f e d
theorem rC(e:∃i t,a=.int i t)(d:∃i t,b=.int i t):∀(l:ge Jg),TriplesOk l->TriplesOk (l++[a,b,c])
 | [],_=>by obtain⟨i,t,rfl⟩:=e;obtain⟨j,u,rfl⟩:=d;exact trivial
 | .int i t :: .int j u::x::r,ok=>rC e d r ok
structure LamAt(X:Cx)(scope:Scope)(c P:Addr):Prop where
 code:X.env.code=.ref c
 hd:∀{pins:List (Addr×Obj)} {σ:List (Option V)} {H:Hp} {s:Shared},Inv X pins σ H s->PySem.W.CodeHd s.heap c P
 tab:∀{pins:List (Addr×Obj)} {σ:List (Option V)} {H:Hp} {s:Shared},Inv X pins σ H s->H P=some (.tbl (X.env.qual ++ "<lambda>"))
 fre:∀y∈scope.names,y.2=NameKind.free->X.env.kindOf y.1=some .cell\/X.env.kindOf y.1=some .free
theorem LamAt.has(L:LamAt X scope c P)(ok:X.Ok):∀y∈scope.names,y.2=NameKind.free->∃a,X.env.cells.lookup y.1=some a:=λ y b d=>ok.has y.1 (L.fre y b d)
theorem CL(I:JM r)(L:LamAt X scope c P)(a3:defaultsOf g X.env=([],[]))
  (h:∀f k s',Inv X r σ k s'->Same H k->H f=none->M0 k (X.env.qual ++ "<lambda>") g body scope (n9 X.env.cells scope.names []) f->Q (.ref f) s') :
  wpAny M A (eval (.Lambda g body scope pos) X.env) Q E s:=by
 refine PySem.W.kla_eval a3 ?_;have hP:=L.tab I;obtain⟨ps,hp,ht,x⟩:=I.hok _ _ hP;have a5:=jc (scope:=scope) (env:=X.env) (L.has I.ok);have hg:s.heap.Ns mainGlobals X.mg:=I.ok.mod.glob.keeps I.bk;have c0:mainGlobals≠P:=λ z=>by obtain⟨o,es,ep,e,d,_⟩:=hg;rw[z,hp]at e;cases e;cases d
 obtain⟨bm,ob,b1,b2,b3,b4,b5,b6⟩:=I.ok.mod.bmod;have p:=I.bs _ _ b3;have c1:bm≠P:=λ z=>by rw[z,hP]at p;cases p.2
 have c3:bm≠mainGlobals:=λ z=>by obtain⟨o,es,ep,e,d,_⟩:=hg;rw[←z,p.1]at e;cases e;rw[b6]at d;cases d
 have hb:s.heap.BuiltinsAt X.mg P:=⟨bm,ob,b1,b2,c3,c1,p.1,b4,b5,b6⟩;have C:=L.hd I;cases hf:codeAmong pos ps.toList with
 | some cv=>
  obtain⟨j,N,u,vs,t,e1,e2,e3,e4⟩:=x pos cv hf;subst e1;refine PySem.W.kla_makeFunctionHit (mg:=X.mg) a5 I.ok.glob hg L.code C hp ht hf hb λ m i tk hk W=>?_
  have hn:H i.objs.size=none:=I.hok.fresh W;refine h _ (upd H i.objs.size (.frz _ (.own i.objs.size))) _ (I.laid (t':=tk) (λ b u e=>g9 _ (hk b u e)) W ⟨o4 _ rfl,_,o4 _ rfl⟩) (u9 hn) hn ?_;refine⟨j,N,u,vs,t,_,m,v6,?_,e3,e4.1⟩;rw[j3 (A0 e2 hn)];exact e2
 | none=>
  refine PySem.W.kla_makeFunction (mg:=X.mg) a5 I.ok.glob hg L.code C hp ht hf c0 hb λ j m i tk hx l B Y U=>?_;obtain⟨c5,N,vs,t,e2,Z,hd,hv⟩:=Y;cases e2;have b9:H j=none:=I.hok.fresh l;have a0:H i.objs.size=none:=I.hok.fresh (e9 l (W0 B));have S:∀{b:Ji} {u:HO},H b=some u->b≠j/\b≠i.objs.size:=λ e=>⟨A0 e b9,A0 e a0⟩;have v:∀{b:Ji} {o:Obj},s.heap.get? b=some o->b≠j/\b≠i.objs.size:=λ {b o} e=>⟨o6 (q9 (j7 e) l),o6 (q9 (j7 e) (e9 l (W0 B)))⟩;generalize a2:PySem.W.kla_obj "<lambda>" (X.env.qual ++ "<lambda>") g body scope _ _ j m=fo;have a1:fo.isFreed=false:=by rw[←a2];rfl
  generalize F:upd (upd H j (.frz N (.own j))) i.objs.size (.frz fo (.own i.objs.size))=k;have a8:k i.objs.size=some (.frz fo (.own i.objs.size)):=by rw[←F];exact v6
  have at2:k j=some (.frz N (.own j)):=by rw[←F,j3 (o6 B)];exact v6
  have K:∀{b:Ji},b≠j->b≠i.objs.size->k b=H b:=λ h1 h2=>by rw[←F,j3 h2,j3 h1]
  have sm:Same H k:=λ b o e=>by rw[K (S e).1 (S e).2];exact e
  have kp:∀b o,b≠P->s.heap.get? b=some o->(i.push fo).get? b=some o:=λ b o hb e=>g9 _ (hx b o hb e);have a6:∀b,H b=none->b≠P:=λ b n z=>by rw[z,hP]at n;cases n
  have un:Un X.fs [] H k s.heap (i.push fo):=by
   refine⟨λ b o e n _ _=>kp b o (a6 b n) e,λ b o e n _ _=>⟨o.slots,kp b o (a6 b n) e⟩,λ b o e n _=>by rw[K (v e).1 (v e).2];exact n,λ b o e _=>?_,λ b xs e=>sm _ _ e,λ b o u e=>sm _ _ e,λ b q e=>sm _ _ e⟩;by_cases z:b=P
   ·subst z;exact⟨_,g9 _ U⟩
   ·exact⟨o,kp b o z e⟩
  have b8:HOk X.prog X.w k (i.push fo):=λ b u e=>by
   by_cases z1:b=i.objs.size
   ·subst z1;rw[a8]at e;cases e;exact⟨o4 _ a1,_,o4 _ a1⟩
   ·by_cases z2:b=j
    ·subst z2;rw[at2]at e;cases e;exact⟨g9 _ Z,_,g9 _ Z⟩
    ·rw[K z2 z1]at e;by_cases z3:b=P
     ·subst z3;rw[hP]at e;cases e;refine⟨_,g9 _ U,?_,λ R cv a4=>?_⟩
      ·rw[hE];exact rC ⟨_,_,rfl⟩ ⟨_,_,rfl⟩ _ ht
      ·rw[hE]at a4;rcases rB (a:=rawInt pos.line) (b:=rawInt pos.col) (c:=.ref j) ps.toList ht ⟨_,_,rfl⟩ ⟨_,_,rfl⟩ a4 with w | w
       ·obtain⟨c2,b0,u2,a9,t2,f1,f2,f3,f4⟩:=x R cv w;refine⟨c2,b0,u2,a9,t2,f1,sm _ _ f2,f3,f4.1,λ y=>?_⟩;obtain⟨y0,T,a7,tf,J,tg,b7,O,tt,y1,y2,y3,y4,y5,y6,y7,y8⟩:=f4.2 y;exact⟨y0,T,a7,tf,J,tg,b7,O,tt,y1,y2,y3,y4,y5,y6,y7,sm _ _ y8⟩
       ·exact⟨j,N,_,vs,t,w,at2,hd,hv,λ y=>by rw[show av (X.env.qual ++ "<lambda>")=false from CK _]at y;cases y⟩
     ·refine(I.hok b u e).stay (λ b' u' c4 q=>kp b' u' ?_ q) (λ b' q=>sm _ _ q) (λ b' xs q=>sm _ _ q) (λ b' xs q=>sm _ _ q) λ b' _ _ _ _ q=>sm _ _ q;rcases c4 with w | w
      ·rw[w];exact z3
      ·intro z;rw[z,hP]at w;cases w
  refine h i.objs.size k _ (I.un (t':=tk) un b8) sm a0 ⟨j,N,_,vs,t,(X.mg "__name__").getD .none,m,by rw[a8,←a2],at2,hd,hv⟩
end L2
namespace L2
open PySem PySem.Spec PyProof.Rows
noncomputable def trC(l:ge Ji)(h:Jj)(H:Hp):Hp:=λ b=>if b∈l then(h.get? b).map λ o=>HO.frz o (.own b)else H b
theorem fT(a:b∈l)(e:h.get? b=some o):trC l h H b=some (.frz o (.own b)):=by
 unfold trC;rw[d8 a,e];rfl
theorem X7(a:b∉l):trC l h H b=H b:=e8 a
structure Cells(l:List Addr)(h:Heap)(H:Hp):Prop where
 none:∀c∈l,H c=none
 cel:∀c∈l,∃o v,h.get? c=some o/\o.data=.cell v
section
variable {P:Jo} {w:Jn} {K:Js} {mg:Str->on Jg} {base:Jj} {A:Jp} {outer:ge Env} {s s':Jh} {H:Hp} {l:ge Ji} {Q Q':VK} {u:Jg}
theorem Cells.same(C:Cells l s.heap H):Same H (trC l s.heap H):=λ b o e=>by
 rw[X7 λ z=>by rw[C.none b z]at e;cases e];exact e
theorem HOk.trC(C:Cells l s.heap H)(x:HOk P w H s.heap):HOk P w (trC l s.heap H) s.heap:=λ b u e=>by
 by_cases hb:b∈l
 ·obtain⟨o,v,g,_⟩:=C.cel b hb;rw[fT hb g]at e;cases e;exact⟨g,o,g⟩
 ·rw[X7 hb]at e;exact(x b u e).stay (λ _ _ _ q=>q) (λ _ q=>C.same _ _ q) (λ _ _ q=>C.same _ _ q) (λ _ _ q=>C.same _ _ q) λ _ _ _ _ _ q=>C.same _ _ q
theorem Env0.trC(C:Cells l s.heap H)(hb:∀c∈l,base.get? c=none)(hf:∀c∈l,c∉frs outer)(e:Env0 P w K mg base A outer s H):Env0 P w K mg base A outer s (trC l s.heap H):=
 ⟨e.frames,e.mod,λ b o q=>⟨(e.bs b o q).1,by rw[X7 λ z=>by rw[hb b z]at q;cases q];exact(e.bs b o q).2⟩,e.bsz,e.funs,⟨λ b q=>by rw[X7 λ z=>hf b z q];exact e.frf.1 b q,λ p hp=>C.same _ _ (e.frf.2 p hp)⟩,HOk.trC C e.hok,e.bare⟩
theorem CE.trC(C:Cells l s.heap H)(h:CE outer P w (trC l s.heap H) s Q' u s')(hq:∀v H',Same (trC l s.heap H) H'->Q' v H'->Q v (L2.wo l H'))(hs:∀v H',Q' v H'->Same (trC l s.heap H) H'):CE outer P w H s Q u s':=by
 obtain⟨v,H',os,bare,un,hok,r,q⟩:=h;have at1:∀{b:Ji},b∈l->∃o v,s.heap.get? b=some o/\o.data=.cell v/\H' b=some (.frz o (.own b))/\s'.heap.get? b=some o:=λ {b} hb=>by obtain⟨o,v,g,d⟩:=C.cel b hb;have z:=un.frzs b o _ (fT hb g);exact⟨o,v,g,d,z,(hok b _ z).1⟩
 refine⟨v,L2.wo l H',os,bare,⟨λ b o e n hf hx=>?_,λ b o e n hf hx=>?_,λ b o e n hx=>?_,un.there,λ b xs e=>?_,λ b o x e=>?_,λ b x e=>?_⟩,λ b x e=>?_,r,hq v H' (hs v H' q) q⟩
 ·by_cases hb:b∈l
  ·obtain⟨o',_,g,_,_,g'⟩:=at1 hb;rw[e]at g;cases g;exact g'
  ·exact un.keep b o e (by rw[X7 hb];exact n) hf hx
 ·by_cases hb:b∈l
  ·obtain⟨o',_,g,_,_,g'⟩:=at1 hb;rw[e]at g;cases g;exact⟨o.slots,g'⟩
  ·exact un.slot b o e (by rw[X7 hb];exact n) hf hx
 ·by_cases hb:b∈l
  ·exact aB hb
  ·rw[i8 hb];exact un.free b o e (by rw[X7 hb];exact n) hx
 ·rw[i8 λ z=>by rw[C.none b z]at e;cases e];exact un.tups b xs (C.same _ _ e)
 ·rw[i8 λ z=>by rw[C.none b z]at e;cases e];exact un.frzs b o x (C.same _ _ e)
 ·rw[i8 λ z=>by rw[C.none b z]at e;cases e];exact un.tbls b x (C.same _ _ e)
 ·obtain⟨hb,e⟩:=x6 e;refine(hok b x e).stay (λ _ _ _ q=>q) (λ b' q=>?_) (λ b' _ q=>?_) (λ b' _ q=>?_) λ b' o' _ vs d q=>?_
  ·rw[i8 λ z=>by obtain⟨_,_,_,_,g,_⟩:=at1 z;rw[q]at g;cases g];exact q
  ·rw[i8 λ z=>by obtain⟨_,_,_,_,g,_⟩:=at1 z;rw[q]at g;cases g];exact q
  ·rw[i8 λ z=>by obtain⟨_,_,_,_,g,_⟩:=at1 z;rw[q]at g;cases g];exact q
  ·rw[i8 λ z=>by obtain⟨_,_,_,d',g,_⟩:=at1 z;rw[q]at g;cases g;rw[d]at d';cases d'];exact q
structure CellsT(l:List Addr)(h:Heap)(H:Hp):Prop where
 at_:∀c∈l,∃o v,H c=some (.frz o (.own c))/\h.get? c=some o/\o.data=.cell v
noncomputable def ov(l:ge Ji)(H H':Hp):Hp:=λ b=>if b∈l then H b else H' b
theorem ku{H':Hp}{b:Ji}(h:b∈l):ov l H H' b=H b:=d8 h
theorem U5{H':Hp}{b:Ji}(h:b∉l):ov l H H' b=H' b:=e8 h
theorem HOk.woC(C:CellsT l s.heap H)(x:HOk P w H s.heap):HOk P w (L2.wo l H) s.heap:=λ b u e=>by
 obtain⟨hb,e⟩:=x6 e;refine(x b u e).stay (λ _ _ _ q=>q) (λ a q=>?_) (λ a _ q=>?_) (λ a _ q=>?_) λ a o' _ vs d q=>?_
 ·rw[i8 λ z=>by obtain⟨_,_,g,_⟩:=C.at_ _ z;rw[q]at g;cases g];exact q
 ·rw[i8 λ z=>by obtain⟨_,_,g,_⟩:=C.at_ _ z;rw[q]at g;cases g];exact q
 ·rw[i8 λ z=>by obtain⟨_,_,g,_⟩:=C.at_ _ z;rw[q]at g;cases g];exact q
 ·rw[i8 λ z=>by obtain⟨_,_,g,_,c⟩:=C.at_ _ z;rw[q]at g;cases g;rw[d]at c;cases c];exact q
theorem CE.woC(C:CellsT l s.heap H)(m:∀b∈frs outer,H b=none)(h:CE outer P w (L2.wo l H) s Q' u s')(J:∀v i,(∀c∈l,i c=none)->Q' v i->Q v (ov l H i)):CE outer P w H s Q u s':=by
 obtain⟨v,i,F,p,un,A,r,q⟩:=h;have I:∀c∈l,c∉frs outer:=λ c y z=>by obtain⟨_,_,g,_⟩:=C.at_ c y;rw[m c z]at g;cases g
 have f:∀c∈l,i c=none:=λ c y=>by obtain⟨o,_,_,g,_⟩:=C.at_ c y;exact un.free c o g (aB y) JN
 refine⟨v,ov l H i,F,p,⟨λ b o e n m j=>?_,λ b o e n m j=>?_,λ b o e n j=>?_,un.there,λ b E e=>?_,λ b o x e=>?_,λ b x e=>?_⟩,λ b x e=>?_,r,J v i f q⟩
 ·have a:b∉l:=λ z=>by obtain⟨_,_,g,_⟩:=C.at_ b z;rw[n]at g;cases g
  exact un.keep b o e (by rw[i8 a];exact n) m j
 ·have a:b∉l:=λ z=>by obtain⟨_,_,g,_⟩:=C.at_ b z;rw[n]at g;cases g
  exact un.slot b o e (by rw[i8 a];exact n) m j
 ·have a:b∉l:=λ z=>by obtain⟨_,_,g,_⟩:=C.at_ b z;rw[n]at g;cases g
  rw[U5 a];exact un.free b o e (by rw[i8 a];exact n) j
 ·have a:b∉l:=λ z=>by obtain⟨_,_,g,_⟩:=C.at_ b z;rw[e]at g;cases g
  rw[U5 a];exact un.tups b E (by rw[i8 a];exact e)
 ·by_cases a:b∈l
  ·rw[ku a];exact e
  ·rw[U5 a];exact un.frzs b o x (by rw[i8 a];exact e)
 ·have a:b∉l:=λ z=>by obtain⟨_,_,g,_⟩:=C.at_ b z;rw[e]at g;cases g
  rw[U5 a];exact un.tbls b x (by rw[i8 a];exact e)
 ·by_cases a:b∈l
  ·rw[ku a]at e;obtain⟨o,_,g,K,_⟩:=C.at_ b a;rw[g]at e;cases e;have k:=un.keep b o K (aB a) (I b a) JN;exact⟨k,o,k⟩
  ·rw[U5 a]at e;refine(A b x e).stay (λ _ _ _ q=>q) (λ B q=>?_) (λ B _ q=>?_) (λ B _ q=>?_) λ B o' _ vs d q=>?_
   all_goals (rw[U5 λ z=>by rw[f _ z]at q;cases q];exact q)
end
noncomputable def fU(P:Jo)(w:Jn)(K:Js)(mg:Str->on Jg)(base:Jj)(N:ge Str)(qual:Str)(scope:Ju)(f:Ji)(cd:Jg)(cl:ge (Str×Ji))(A:Jp)(outer:ge Env)(s:Jh)(H:Hp):Cx where
 prog:=P
 w:=w
 K:=K
 mg:=mg
 base:=base
 A:=A.deeper (PySem.W.envX qual scope s.heap.objs.size f cd cl)
 N:=N
 s₀:=s
 H₀:=H
 env:=PySem.W.envX qual scope s.heap.objs.size f cd cl
 outer:=outer
 stack:=PySem.W.envX qual scope s.heap.objs.size f cd cl::outer
 ex:=[]
 calm:=true
 fn:=λ _=>false
 pn:=[]
 xe:=λ _ _=>False
theorem CM{P:Jo}{w:Jn}{K:Js}{base:Jj}{A:Jp}{j:ge Env}{s:Jh}{H:Hp}{l:ge Ji}{N ps:ge Str}{q:Str}{scope:Ju}{f:Ji}{M:ge Jg}{vs ws:ge V}{cd:Jg}{k:Jj}{tk:Nat}(S:LamScope N ps scope cl l)(C:CellsT l s.heap H)(hd:A.handled=none)(B:Env0 P w K mg base A j s H)(hl:vs.length=ps.length)(r:Vals vs M)(Z:N.length=ps.length+ws.length)
  (hw:∀i x v,N[ps.length+i]? = some x->ws[i]? = some v->∃c u,cl.lookup x=some c/\s.heap.IsCell c (some u)/\RelV v u)
  (Y:k.Ns s.heap.objs.size (λ x=>(ps.zip M).reverse.lookup x)) (R:∀b o,s.heap.get? b=some o->k.get? b=some o) :
  Inv (fU P w K mg base N q scope f cd cl A j s (L2.wo l H)) [] ((vs++ws).map some) (L2.wo l H) {s with heap:=k,toks:=tk}:=by
 have nl:∀{b:Ji},H b=none->b∉l:=λ {b} n z=>by obtain⟨_,_,g,_⟩:=C.at_ b z;rw[n]at g;cases g
 have I:∀b:Ji,b∉(fU P w K mg base N q scope f cd cl A j s (L2.wo l H)).ex:=λ b z=>absurd (show b∈([]:ge Ji)from z) JN;have U:∀{b:Ji},H b=none->L2.wo l H b=none:=λ {b} n=>by rw[i8 (nl n)];exact n
 have F:∀x c,cl.lookup x=some c->∃v,k.IsCell c v:=λ x c e=>by obtain⟨o,v,_,g,d⟩:=C.at_ c (S.mem x c e);exact⟨v,o,R _ _ g,d⟩
 refine⟨⟨B.mod,S.kind,rfl,rfl,f8 _,S.inj,λ y J=>?_,λ y c z=>(nomatch z),λ _=>hd,Around.frames_deeper B.frames,.inr ⟨rfl,rfl⟩,λ b z=>absurd z (I b),λ b o e=>⟨(B.bs b o e).1,U (B.bs b o e).2⟩,B.bsz,λ b _ _=>I b,λ b z=>absurd z (I b),B.funs,λ b hb=>U (B.frf.1 b hb),λ p L=>?_⟩,
  rfl,B.bare,Un.kept R,⟨_,Y,λ i y v Q O h3=>?_⟩,F,?_,λ y c h=>aB (S.mem y c h),λ p L=>absurd (show p∈([]:ge (Ji×Obj))from L) JN,(HOk.woC C B.hok).kept R,?_⟩
 ·have J:=J;rcases J with J | J
  ·exact absurd rfl (S.nocell _ (D1 J))
  ·exact S.has y J
 ·have z:=B.frf.2 p L;show L2.wo l H p.1=_;rw[i8 λ m=>by obtain⟨_,_,g,_⟩:=C.at_ _ m;rw[z]at g;cases g];exact z
 ·have Q:N[i]? = some y:=Q;rw[o8]at O;have E:(vs++ws)[i]? = some v:=by
   cases z:(vs++ws)[i]? with
   | none=>rw[z]at O;cases O
   | some a=>rw[z]at O;exact congrArg some (A9 (A9 O))
  by_cases hi:i<ps.length
  ·rw[P6 Jy]at E;obtain⟨u,hu,rv⟩:=r.get E;have L:ps[i]? = some y:=by rw[←S.pre,aZ hi];exact Q
   have W:ps.Nodup:=by rw[←S.pre];exact S.nd.sublist (ic _ _)
   refine⟨u,rv,.inl ⟨S.par y (S5 L),?_⟩⟩;show(ps.zip M).reverse.lookup y=some u;have X:((ps.zip M).reverse.map (·.1)).Nodup:=by rw[List.map_reverse,List.map_fst_zip (by have:=r.length;omega)];exact List.pairwise_reverse.mpr (List.Pairwise.imp (λ h=>Ne.symm h) W)
   refine W6 X (List.mem_reverse.mpr ?_);have hz:(ps.zip M)[i]? = some (y,u):=by rw[gO];exact⟨L,hu⟩
   exact S5 hz
  ·rw[S0 Jy]at E;obtain⟨c,u,e1,e2,e3⟩:=hw (i - vs.length) y v (by rw[show ps.length+(i - vs.length)=i by omega];exact Q) E;exact⟨u,e3,.inr ⟨.inr (S.fre i y Jy Q),c,e1,e2.keeps R⟩⟩
 ·show L2.wo l H s.heap.objs.size=none;exact U (B.hok.fresh (f8 _))
 ·show((vs++ws).map some).length=N.length;rw[d7,o5];omega
theorem CN{K:Js}(S:LamScope N ps scope cl l)(C:CellsT l s.heap H)(M:A.depth<recursionLimit/\A.handled=none)(m:Env0 P w K mg base A outer s H)(hf:M0 H q params body scope cl f)
  (h:∀B a j,bindArgs (PySem.W.kla_fn "<lambda>" q params body scope cl B (.ref a) j) ⟨us,[]⟩=pure (ps.zip us)) (hl:vs.length=ps.length) (r:Vals vs us) (p:N.length=ps.length+ws.length)
  (Y:∀i x v,N[ps.length+i]? = some x->ws[i]? = some v->∃c u,cl.lookup x=some c/\s.heap.IsCell c (some u)/\RelV v u)
  (g:∀a,∃t,PE (fU P w K mg base N q scope f (.ref a) cl A outer s (L2.wo l H)) body t/\t ((vs++ws).map some) (L2.wo l H) (λ v k=>(∀c∈l,k c=none)->Q v (ov l H k))) :
  codeAny (model P w) A (.call (.ref f) ⟨us,[]⟩) (CR CX outer P w H s Q E) s:=by
 obtain⟨a,W,u,y,t,B,j,h1,h2,h3,h4⟩:=hf;refine PySem.W.kla_callFunE M.1 ((m.hok f _ h1).1) rfl S.co S.gen rfl ⟨a,W,y,t,rfl,((m.hok a _ h2).1),h3,h4⟩ ?_;show wpAny _ _ _ _ _ s;rw[h B a j];refine d9 (wpAny_newFunctionEnv S.nocell (λ x X=>S.par x.1 (dX X).1) (λ L I n=>⟨(m.mod.nolimit.keeps λ b o e=>(m.bs b o e).1).fresh _ n,?_⟩) S.kind);show codeAny _ _ _ _ _;obtain⟨t,Z,hq⟩:=g a;exact PySem.W.kla_codeExpr (B1 (Z [] _ _ _ _ (CM S C M.2 m hl r p Y I (λ b o e=>n.extBut b o (o6 (j7 e)) (g9 _ e))) hq) (λ v R ⟨O,k,J,U,z⟩=>CE.woC (Q':=λ v k=>(∀c∈l,k c=none)->Q v (ov l H k)) C m.frf.1 ⟨O,k,J.os,J.bare,J.base,J.hok,U,z⟩ λ _ _ z q=>q z) λ e R z=>(z:False).elim)
structure RoomL(k:Nat)(A:Around):Prop where
 hd:A.handled=none
 dp:A.depth+3*k+5<recursionLimit
 un:A.units+16*k+198<cLine
theorem Room.toL2(r:Room k A):RoomL k A.in1.in1:=⟨r.hd,r.dp,by have:=r.un;show A.units+1+1+16*k+198<_;omega⟩
theorem RoomL.deeper(r:RoomL (k+1) A)(env:Env):Room k (A.deeper env):=
 ⟨r.hd,by have:=r.dp;show A.depth+1+3*k+5<_;omega,by have:=r.un;show A.units+3+16*k+200<_;omega⟩
theorem RoomL.ok(r:RoomL k A):A.depth<recursionLimit/\A.handled=none:=⟨by have:=r.dp;omega,r.hd⟩
def aH(P:Jo)(w:Jn)(K:Js)(mg:Str->on Jg)(base:Jj)(fn bl cl:ge Str)(k:Nat)(Fl:ge DV->on Ou):Prop:=
 ∀(A:Jp) (outer:ge Env) (s:Jh) (H:Hp) (us:ge Jg) (vs:ge V) (Q:VK) (E:XK) (O:ge Ji) (f:Ji) (m:LamD) (cs ds:ge DV) (d:DV),RoomL k A->Env0 P w K mg base A outer s H->Vals vs us->Hdn O H->m.fn=fn->m.bl=bl->m.cl=cl ->
  Rep ⟨K,mg⟩ (L2.wo O H) (.lam m cs) (.ref f)->RepL ⟨K,mg⟩ (L2.wo O H) ds vs->Fl (.lam m cs::ds)=some (.v d false)->(∀v H',Same H H'->Rep ⟨K,mg⟩ (L2.wo O H') d v->Q v H') ->
  codeAny (model P w) A (.call (.ref f) ⟨us,[]⟩) (CR CX0 outer P w H s Q E) s
section
variable {D:Dm} {O l:ge Ji} {H:Hp}
theorem aI(d:∀c∈l,∃o,H c=some (.frz o (.own c)))(h:L2.wo O H b=some u)(a:∀o c,u ≠ .frz o (.own c)):L2.wo O (L2.wo l H) b=some u:=by
 obtain⟨f,e⟩:=x6 h;rw[i8 f,i8 λ z=>by obtain⟨o,g⟩:=d b z;rw[e]at g;cases g;exact a _ _ rfl];exact e
mutual
theorem CO(hl:∀c∈l,∃o,H c=some (.frz o (.own c))):∀{d:DV} {v:V},d.nolam=true->Rep D (L2.wo O H) d v->Rep D (L2.wo O (L2.wo l H)) d v
 | .non,_,_,h=>by unfold Rep at h ⊢;exact h
 | .bl _,_,_,h=>by unfold Rep at h ⊢;exact h
 | .int _,_,_,h=>by unfold Rep at h ⊢;exact h
 | .str _,_,_,h=>by unfold Rep at h ⊢;exact h
 | .tup ds,_,m,h=>by
  unfold Rep at h ⊢;obtain⟨a,xs,e1,e2,e3⟩:=h;unfold DV.nolam at m;refine⟨a,xs,e1,?_,X8 hl m e3⟩;rcases e2 with(h | ⟨o,h⟩) | h
  ·exact .inl (.inl (aI hl h (by intro o c z;cases z)))
  ·exact .inl (.inr ⟨o,aI hl h (by intro o c z;cases z)⟩)
  ·exact .inr h
 | .lst ds,_,m,h=>by unfold Rep at h ⊢;obtain⟨a,xs,e1,e2,e3⟩:=h;unfold DV.nolam at m;exact⟨a,xs,e1,aI hl e2 (by intro o c z;cases z),X8 hl m e3⟩
 | .dct _ _,_,m,h=>by
  unfold Rep at h ⊢;unfold DV.nolam at m;rcases h with⟨a,ob,kvs,e1,e2,e3,e4⟩ | ⟨a,ob,kvs,e1,e2,e3,e4⟩
  ·exact .inl ⟨a,ob,kvs,e1,aI hl e2 (by intro o c z;cases z),e3,X8 hl m e4⟩
  ·exact .inr ⟨a,ob,kvs,e1,aI hl e2 (by intro o c z;cases z),e3,X8 hl m e4⟩
 | .fn _,_,_,h=>by unfold Rep at h ⊢;exact h
 | .lam _ _,_,m,_=>by unfold DV.nolam at m;cases m
 | .scr _,_,_,h=>by
  unfold Rep at h ⊢;obtain⟨a,e1,e2⟩:=h;refine⟨a,e1,?_⟩;rcases e2 with⟨o,h⟩ | h
  ·exact .inl ⟨o,aI hl h (by intro o c z;cases z)⟩
  ·exact .inr h
theorem X8(hl:∀c∈l,∃o,H c=some (.frz o (.own c))):∀{ds:ge DV} {xs:ge V},DV.nolams ds=true->RepL D (L2.wo O H) ds xs->RepL D (L2.wo O (L2.wo l H)) ds xs
 | [],_,_,h=>by unfold RepL at h ⊢;exact h
 | d::ds,_,m,h=>by unfold RepL at h ⊢;obtain⟨v,vs,e1,e2,e3⟩:=h;unfold DV.nolams at m;rw[d6]at m;exact⟨v,vs,e1,CO hl m.1 e2,X8 hl m.2 e3⟩
end
end
section
variable {X:Cx} {pins:ge (Ji×Obj)} {σ:St} {H:Hp} {s:Jh} {sc:Ju} {N ps:ge Str}
theorem kx(d:∀y∈sc.names,y.2=NameKind.free->∃a,b.lookup y.1=some a)(h:(n9 b sc.names []).lookup x=some c):b.lookup x=some c/\(x,NameKind.free)∈sc.names:=by
 rcases bF d (D1 h)with z | z
 ·cases z
 ·exact z
theorem rD(g:∀y∈sc.names,y.2=NameKind.free->∃a,b.lookup y.1=some a)(f:(x,NameKind.free)∈sc.names)(d:b.lookup x=some c):(n9 b sc.names []).lookup x=some c:=by
 obtain⟨c',e⟩:=jf (eT f d);have:=(kx g e).1;rw[d]at this;cases this;exact e
structure LamTx(N ps:List Str)(sc:Scope):Prop where
 kind:sc.kind=.function
 co:sc.isCoroutine=false
 gen:sc.isGenerator=false
 nd:N.Nodup
 pre:N.take ps.length=ps
 par:∀x∈ps,sc.names.lookup x=some .local
 nocell:∀y∈sc.names,y.2 ≠ .cell
 fre:∀i x,ps.length<=i->N[i]? = some x->sc.names.lookup x=some .free
theorem LamTx.full(T:LamTx N ps sc)(I:JM pins)(b:∀y∈sc.names,y.2=NameKind.free->∃a,X.env.cells.lookup y.1=some a):LamScope N ps sc (n9 X.env.cells sc.names []) ((n9 X.env.cells sc.names []).map (·.2)) where
 kind:=T.kind
 co:=T.co
 gen:=T.gen
 nd:=T.nd
 pre:=T.pre
 par:=T.par
 nocell:=T.nocell
 fre:=T.fre
 has:=λ x h=>by have d:=D1 h;obtain⟨c,e⟩:=b _ d rfl;exact⟨c,rD b d e⟩
 inj:=λ x y c g f=>I.ok.inj x y c (kx b g).1 (kx b f).1
 mem:=λ x c h=>f9.mpr ⟨_,D1 h,rfl⟩
theorem ky(I:JM pins)(d:∀y∈sc.names,y.2=NameKind.free->∃a,X.env.cells.lookup y.1=some a):∀c∈(n9 X.env.cells sc.names []).map (·.2),∃x,X.env.cells.lookup x=some c/\(x,NameKind.free)∈sc.names:=λ c e=>by
 obtain⟨⟨x,c'⟩,b,rfl⟩:=f9.mp e;rcases bF d b with z | z
 ·cases z
 ·exact⟨x,z.1,z.2⟩
theorem Cells.of(I:JM pins)(f:∀y∈sc.names,y.2=NameKind.free->∃a,X.env.cells.lookup y.1=some a):Cells ((n9 X.env.cells sc.names []).map (·.2)) s.heap H where
 none:=λ c b=>by obtain⟨x,e,_⟩:=ky I f c b;exact I.freeC x c e
 cel:=λ c b=>by obtain⟨x,e,_⟩:=ky I f c b;obtain⟨v,o,g,d⟩:=I.cell x c e;exact⟨o,v,g,d⟩
theorem CP(I:JM pins)(h:∀y∈sc.names,y.2=NameKind.free->∃a,X.env.cells.lookup y.1=some a)(d:∀y∈sc.names,y.2=NameKind.free->X.fn y.1=true):∀c∈(n9 X.env.cells sc.names []).map (·.2),X.base.get? c=none/\c∉frs X.stack:=λ c i=>by
 obtain⟨x,e,g⟩:=ky I h c i;have b:=I.ok.cab x c (d _ g rfl) e;refine⟨Z4 (e9 I.ok.bsz b),λ z=>?_⟩;rcases g5.mp (I.stkSub c z)with w | w
 ·exact I.cne x c e w
 ·obtain⟨_,o,f,_⟩:=I.ok.funs.mem w
  exact absurd (q9 (j7 f) b) (P9 _)
end
section
variable {X:Cx} {δ:ge Sv} {ea eb bd:Jk} {pos p lp:Pos} {re:Re} {k:Nat} {x:Str} {pr:Jv} {sc:Ju} {c P:Ji} {m:LamD} {cs:ge DV} {fr:ge Nat}
def tLam(X:Cx)(pr:Jv)(bd:Jk)(sc:Ju):TE:=λ _ H Q=>∀f H',Same H H'->H f=none->M0 H' (X.env.qual ++ "<lambda>") pr bd sc (n9 X.env.cells sc.names []) f->Q (.ref f) H'
theorem CQ(L:LamAt X sc c P)(a:defaultsOf pr X.env=([],[])):PE X (.Lambda pr bd sc lp) (tLam X pr bd sc):=by
 intro b s σ H Q I h;exact CL I L a λ f d s' g sm e lf=>⟨.ref f,d,g,rfl,h f d sm e lf⟩
theorem rG(R:RSt D H σ δ O W):∀{b:ge Nat} {cs:ge DV},capD δ b=some cs->∃a:ge V,a.length=b.length/\RepL D (L2.wo (O++W) H) cs a/\∀(j i:Nat) v,b[j]? = some i->a[j]? = some v->σ[i]? = some (some v)
 | [],cs,h=>by cases h;exact⟨[],rfl,by unfold RepL;rfl,λ j i v h=>by cases h⟩
 | i::r,cs,h=>by
  unfold capD at h;split at h
  ·rename_i d ds q p;split at h
   ·cases h;obtain⟨a,l,k,g⟩:=rG R p;obtain⟨v,o,n⟩:=R.val i d q;refine⟨v::a,by rw[n7,n7,l],u8.mpr ⟨v,a,rfl,n,k⟩,λ j m f e c=>?_⟩;cases j with
    | zero=>cases e;cases c;exact o
    | succ j=>exact g j m f e c
   ·cases h
  ·cases h
end
section
variable {X:Cx} {δ:ge Sv} {v:Jk} {te:TE} {pos kpos:Pos} {i:Int} {j:Nat}
theorem P2(c:H p=some (.dK []))(h:L2.wo O H b=some u)(a:u ≠ .dK []):L2.wo O (upd H p o) b=some u:=by
 obtain⟨d,e⟩:=x6 h;rw[i8 d,j3 (λ z=>by rw[z,c]at e;cases e;exact a rfl)];exact e
mutual
theorem CS{D:Dm}{O:ge Ji}{H:Hp}{p:Ji}{o:HO}(hp:H p=some (.dK [])):∀{d:DV} {v:V},Rep D (L2.wo O H) d v->Rep D (L2.wo O (upd H p o)) d v
 | .non,_,h=>by unfold Rep at h ⊢;exact h
 | .bl _,_,h=>by unfold Rep at h ⊢;exact h
 | .int _,_,h=>by unfold Rep at h ⊢;exact h
 | .str _,_,h=>by unfold Rep at h ⊢;exact h
 | .tup ds,_,h=>by
  unfold Rep at h ⊢;obtain⟨a,xs,e1,e2,e3⟩:=h;refine⟨a,xs,e1,?_,aJ hp e3⟩;rcases e2 with(h | ⟨o,h⟩) | h
  ·exact .inl (.inl (P2 hp h JI))
  ·exact .inl (.inr ⟨o,P2 hp h JI⟩)
  ·exact .inr h
 | .lst ds,_,h=>by unfold Rep at h ⊢;obtain⟨a,xs,e1,e2,e3⟩:=h;exact⟨a,xs,e1,P2 hp e2 JI,aJ hp e3⟩
 | .dct _ _,_,h=>by
  unfold Rep at h ⊢;rcases h with⟨a,ob,kvs,e1,e2,e3,e4⟩ | ⟨a,ob,kvs,e1,e2,e3,e4⟩
  ·exact .inl ⟨a,ob,kvs,e1,P2 hp e2 JI,e3,aJ hp e4⟩
  ·exact .inr ⟨a,ob,kvs,e1,P2 hp e2 JI,e3,aJ hp e4⟩
 | .fn _,_,h=>by unfold Rep at h ⊢;exact h
 | .lam m cs,_,h=>by
  unfold Rep at h ⊢;obtain⟨f,pr,bd,sc,q,cl,l,ws,e1,⟨c',oc,u,vs,t,pm,ctv,f1,f2,f3⟩,e3,e4,e5,g1,g2,g3⟩:=h;refine⟨f,pr,bd,sc,q,cl,l,ws,e1,⟨c',oc,u,vs,t,pm,ctv,P2 hp f1 JI,P2 hp f2 JI,f3⟩,e3,e4,aJ hp e5,g1,λ c hc=>?_,λ i x v h1 h2=>?_⟩
  ·obtain⟨o,v,k1,k2⟩:=g2 c hc;exact⟨o,v,P2 hp k1 JI,k2⟩
  ·obtain⟨c,o,u,k1,k2,k3⟩:=g3 i x v h1 h2;exact⟨c,o,u,k1,P2 hp k2 JI,k3⟩
 | .scr _,_,h=>by
  unfold Rep at h ⊢;obtain⟨a,e1,e2⟩:=h;refine⟨a,e1,?_⟩;rcases e2 with⟨o,h⟩ | h
  ·exact .inl ⟨o,P2 hp h JI⟩
  ·exact .inr h
theorem aJ{D:Dm}{O:ge Ji}{H:Hp}{p:Ji}{o:HO}(hp:H p=some (.dK [])):∀{ds:ge DV} {xs:ge V},RepL D (L2.wo O H) ds xs->RepL D (L2.wo O (upd H p o)) ds xs
 | [],_,h=>by unfold RepL at h ⊢;exact h
 | d::ds,_,h=>by unfold RepL at h ⊢;obtain⟨v,vs,e1,e2,e3⟩:=h;exact⟨v,vs,e1,CS hp e2,aJ hp e3⟩
end
end
structure Wk(D:Dm)(J:It)(ds:List DV)(Oc Oi:List Addr)(H1:Hp):Prop where
 go:∀i H,Same (L2.wo Oc H1) (L2.wo Oc H)->i<ds.length->J.go i H
 same:∀i H x H',J.yld i H x H'->Same H H'
 yld:∀i H x H' d O2,Same (L2.wo Oc H1) (L2.wo Oc H)->Same (L2.wo Oi H1) (L2.wo Oi H)->J.yld i H x H'->ds[i]? = some d->(∀a∈O2,H a≠none/\(a∈Oi\/H1 a=none))->Rep D (L2.wo O2 H') d x
 stop:∀H,Same (L2.wo Oc H1) (L2.wo Oc H)->J.stop ds.length H
def hidW(O W:ge Ji):Cl->ge Ji
 | .top=>O
 | .weak=>O
 | _=>O++W
def CT(D:Dm)(O W:ge Ji)(H:Hp)(R:It->Hp->Prop):Ri->Prop
 | .ok ds c=>∀J H',Same H H'->Wk D J ds (hidW O W c) (J3 O W c) H'->R J H'
def dI(D:Dm)(δ:ge Sv)(r:Ri):TI:=λ σ H R=>∃O W,RSt D H σ δ O W/\CT D O W H R r
theorem PI.weak(h:PI X tg a t)(k:∀b H R,t' b H R->t b H R):PI X tg a t':=λ c s b H R I q=>h c s b H R I (k b H R q)
theorem kC(s:Same (L2.wo O c) (L2.wo O H))(h:∀a∈d,H a≠none/\(a∈O\/c a=none)):Same (L2.wo O c) (L2.wo d H):=λ b o e=>by
 have q:=s b o e;obtain⟨f,e⟩:=x6 e;obtain⟨_,q⟩:=x6 q;rw[i8 λ z=>?_]
 ·exact q
 ·rcases(h b z).2 with w | w
  ·exact f w
  ·rw[w]at e;cases e
theorem Wk.list(h:SqL D.K (L2.wo f b) a xs)(r:RepL D (L2.wo c b) ds xs):Wk D (Itl D.K a) ds f c b where
 go:=λ i H s hi=>⟨xs,xs[i]'(by rwa [r.length]),t6.seq (s.seq h),j6 _⟩
 same:=λ i H x n y=>by rw[y.1];exact Same.refl _
 yld:=λ i H x n d O2 s g y e l=>by obtain⟨m,y⟩:=y;subst m;obtain⟨v,k,j⟩:=r.get e;have:=y xs (t6.seq (s.seq h));rw[k]at this;cases this;exact j.mono (kC g l)
 stop:=λ H s=>⟨xs,t6.seq (s.seq h),by rw[r.length];exact f8 _⟩
theorem Wk.tup(h:SqT D.K (L2.wo f b) a xs)(r:RepL D (L2.wo c b) ds xs):Wk D (Itt D.K a) ds f c b where
 go:=λ i H s hi=>⟨xs,xs[i]'(by rwa [r.length]),t6.tseq (s.tseq h),j6 _⟩
 same:=λ i H x n y=>by rw[y.1];exact Same.refl _
 yld:=λ i H x n d O2 s g y e l=>by obtain⟨m,y⟩:=y;subst m;obtain⟨v,k,j⟩:=r.get e;have:=y xs (t6.tseq (s.tseq h));rw[k]at this;cases this;exact j.mono (kC g l)
 stop:=λ H s=>⟨xs,t6.tseq (s.tseq h),by rw[r.length];exact f8 _⟩
theorem kF(a:Int)(n:Nat):(upTo a n).length=n:=by unfold upTo;rw[d7,o9]
theorem CU(h:(upTo a n)[i]? = some d):i<n/\d=.int (a+i):=by
 have b:i<n:=by have:=(x8.mp h).1;rw[kF]at this;exact this
 unfold upTo at h;rw[o8,dB b]at h;cases h;exact⟨b,rfl⟩
theorem Wk.range(a:Int)(n:Nat):Wk D (Itr a n) (upTo a n) h g j where
 go:=λ i H s b=>by rw[kF]at b;exact b
 same:=λ i H x k y=>by rw[y.1];exact Same.refl _
 yld:=λ i H x k d O2 s s' y e ho=>by obtain⟨f,y⟩:=y;subst f;obtain⟨_,c⟩:=CU e;subst c;exact u6.mpr y
 stop:=λ H s=>by rw[kF];exact f8 _
theorem Got.walkL(g:Got D O W f H (.lst ds) c v)(hd:Hid O W f H):∃a xs,v=.ref a/\SqL D.K (L2.wo (hidW O W c) H) a xs/\RepL D (L2.wo (J3 O W c) H) ds xs:=by
 cases c with
 | weak=>obtain⟨a,xs,e,d,b⟩:=G0.mp g;exact⟨a,xs,e,SqL.of d,b⟩
 | top=>obtain⟨a,xs,e,e0,d,b⟩:=g;exact⟨a,xs,e,SqL.of d,b⟩
 | strong=>obtain⟨a,xs,e,d,b⟩:=G0.mp g;exact⟨a,xs,e,SqL.of d,b⟩
 | fresh=>obtain⟨a,xs,e,d,b⟩:=G0.mp (g.strong hd);exact⟨a,xs,e,SqL.of d,b⟩
theorem Got.walkT(g:Got D O W b H (.tup ds) c v)(hd:Hid O W b H):∃a xs,v=.ref a/\SqT D.K (L2.wo (hidW O W c) H) a xs/\RepL D (L2.wo (J3 O W c) H) ds xs:=by
 cases c with
 | weak=>exact C9.mp g
 | top=>
  obtain⟨a,xs,f,e,d⟩:=C9.mp (g);exact⟨a,xs,f,(M1 bZ).tseq e,d⟩
 | strong=>exact C9.mp g
 | fresh=>obtain⟨_,_,_,_,q,_⟩:=g;cases q
theorem Got.walkS{D:Dm}{O W:ge Ji}{H0 H:Hp}{ns:ge Int}{c:Cl}{v:V}(g:Got D O W H0 H (.scr ns) c v)(hd:Hid O W H0 H):∃a,v=.ref a/\SqL D.K (L2.wo (hidW O W c) H) a (ns.map V.int):=by
 cases c with
 | weak=>obtain⟨a,e1,e2⟩:=R4.mp g;exact⟨a,e1,e2.sq⟩
 | top=>obtain⟨a,e1,e2⟩:=R4.mp (show Rep D (L2.wo (O++W) H) (.scr ns) v from g);exact⟨a,e1,(M1 bZ).seq e2.sq⟩
 | strong=>obtain⟨a,e1,e2⟩:=R4.mp g;exact⟨a,e1,e2.sq⟩
 | fresh=>obtain⟨_,_,_,_,q,_⟩:=g;cases q
theorem rH(s:∀q,l=some q->PE X e (dE X.D δ q))(h:k7 l=some o):PI X tg e (dI X.D δ o):=by
 cases g:l with
 | none=>rw[g]at h;cases h
 | some q=>
  rw[g]at h;have A:=s q g;cases q with
  | ok d c=>
   obtain⟨ds,b,f⟩:=p9.mp (h);cases f;unfold seqD at b;split at b
   ·cases b;exact(ow A).weak λ n H r ⟨O,W,R,p⟩=>⟨O,W,R,λ v j s1 i=>by
     obtain⟨a,b,f⟩:=i.walkS (R.hid.mono s1);exact⟨a,b,⟨_,t6.seq f⟩,p _ j s1 (.list f (bY _))⟩⟩
   ·cases b;exact(ow A).weak λ n H r ⟨O,W,R,p⟩=>⟨O,W,R,λ v j s1 i=>by
     obtain⟨a,k,b,f,m⟩:=i.walkL (R.hid.mono s1);exact⟨a,b,⟨k,t6.seq f⟩,p _ j s1 (.list f m)⟩⟩
   ·cases b;exact(xy A).weak λ n H r ⟨O,W,R,p⟩=>⟨O,W,R,λ v j s1 i=>by
     obtain⟨a,k,b,f,m⟩:=i.walkT (R.hid.mono s1);exact⟨a,b,⟨k,t6.tseq f⟩,p _ j s1 (.tup f m)⟩⟩
   ·cases b
theorem kG(h:E9 i=true) : -(2^62)<=i/\i<2^62:=by
 unfold E9 at h;simpa[d6]using h
theorem rJ(h:k7 (o.map λ a=>Re.ok (.lst a) .fresh)=some b):∃a,o=some a/\b=.ok a .fresh:=by
 cases o with
 | none=>cases h
 | some a=>cases h;exact⟨a,rfl,rfl⟩
theorem CV(r:Gl X "range")(n:X.mg "range" = none)(s:∀q,d=some q->PA X [e] (dA X.D δ q))(k:t4 e=false)(h:k7 (Rs.thn d λ l=>(rngD l).map λ g=>Re.ok (.lst g) .fresh)=some f)(o:∀l,d=some (.ok l)->l.length=1) :
  PI X tg (.Call (.Name "range" p) [e] [] pos) (dI X.D δ f):=by
 cases a:d with
 | none=>rw[a]at h;cases h
 | some q=>
  rw[a]at h;have A:=s q a;cases q with
  | ok l=>
   have i:=o l a;obtain⟨g,b,y⟩:=rJ (h);cases y;unfold rngD at b;split at b
   ·rename_i j c;split at b
    ·rename_i m;cases b;rw[d6]at m;have q:=kG m.1;exact((λ t (u:PA X [e] t)=>xC r n u (w4 k)) _ A).weak λ σ H R' ⟨O,W,R,p⟩=>⟨O,W,R,λ vs z s1 x=>by
      obtain⟨v,rfl,w⟩:=x.one;exact⟨j,by rw[w.int (R.hid.mono s1)],q.1,q.2,p _ z s1 (.range _ _)⟩⟩
    ·cases b
   ·cases i
   ·cases b
theorem CW(y:Gl X "range")(w:X.mg "range" = none)(z:∀q,f=some q->PA X [e,g] (dA X.D δ q))(u:t4 e=false)(d:t4 g=false)(h:k7 (Rs.thn f λ l=>(rngD l).map λ r=>Re.ok (.lst r) .fresh)=some n)(x:∀l,f=some (.ok l)->l.length=2) :
  PI X tg (.Call (.Name "range" p) [e,g] [] pos) (dI X.D δ n):=by
 cases a:f with
 | none=>rw[a]at h;cases h
 | some q=>
  rw[a]at h;have A:=z q a;cases q with
  | ok l=>
   have s:=x l a;obtain⟨r,b,F⟩:=rJ (h);cases F;unfold rngD at b;split at b
   ·cases s
   ·rename_i i c j c';split at b
    ·rename_i m;cases b;rw[d6,d6]at m;have q:=kG m.1.1;have o:=kG m.1.2;exact((λ t (B:PA X [e,g] t)=>xD y w B (by rw[w4 u,w4 d];rfl) (w4 d)) _ A).weak λ σ H R' ⟨O,W,R,p⟩=>⟨O,W,R,λ vs I s1 E=>by
      obtain⟨v,v',rfl,C,k⟩:=E.two;exact⟨i,j,by rw[C.int (R.hid.mono s1),k.int (R.hid.mono s1)],⟨q.1,q.2,o.1,o.2⟩,p _ I s1 (.range _ _)⟩⟩
    ·cases b
   ·cases b
def cu:ge Nat->TGs
 | []=>gNil
 | i::is=>oi (bD i) (cu is)
def gT(K:Js):Tg->TG
 | .one i=>bD i
 | .many is=>gTup K is.length (cu is)
theorem RSt.setVal(R:RSt D H σ δ O W)(r:Rep D (L2.wo (O++W) H) d v)(i:Nat):RSt D H (σ.set i (some v)) (δ.set i (.val d)) O W where
 val:=λ j s h=>by
  by_cases e:j=i
  ·subst e;have c:=(by have:=(x8.mp h).1;rw[B0]at this;exact this);rw[K4 c]at h;cases h;exact⟨v,K4 (by rw[R.len];exact c),r⟩
  ·rw[p7 (Ne.symm e)]at h ⊢;exact R.val j s h
 own:=λ j l h=>by
  by_cases e:j=i
  ·subst e;have c:=(by have:=(x8.mp h).1;rw[B0]at this;exact this);rw[K4 c]at h;cases h
  ·rw[p7 (Ne.symm e)]at h ⊢;exact R.own j l h
 inj:=λ j k a f q b g n m=>by
  have ne:∀{j:Nat} {f:DV},(δ.set i (.val d))[j]? = some (.own f)->j≠i:=λ {j f} b z=>by
   subst z;have c:j<δ.length:=by have:=(x8.mp b).1;rw[B0]at this;exact this
   rw[K4 c]at b;cases b
  have p:=ne b;have o:=ne g;rw[p7 (Ne.symm p)]at b n;rw[p7 (Ne.symm o)]at g m;exact R.inj j k a f q b g n m
 od:=R.od.step (Same.refl _) (jY _ (by intro d z;cases z)) (λ _ h _=>h) (λ _ _ _ h _=>h)
 len:=by rw[B0,B0];exact R.len
 hid:=R.hid
theorem kH:∀{g:ge Nat} {j:ge DV} {f:ge V} {c:St} {e a:ge Sv},RSt D H c e O W->RepL D (L2.wo (O++W) H) j f->O5 e g j=some a->(∀b,RSt D H b a O W->Q b H)->cu g f c H Q
 | [],[],f,c,e,a,R,r,h,q=>by cases h;exact⟨y9.mp r,q c R⟩
 | i::g,d::j,f,c,e,a,R,r,h,q=>by obtain⟨v,k,n,m,l⟩:=u8.mp r;exact⟨v,k,n,kH (R.setVal m i) l h q⟩
 | [],_::_,_,_,_,_,_,_,h,_=>by cases h
 | _::_,[],_,_,_,_,_,_,h,_=>by cases h
theorem fV:∀{is:ge Nat} {f:ge DV} {e c:ge Sv},O5 e is f=some c->is.length=f.length/\c.length=e.length
 | [],[],_,_,h=>by cases h;exact⟨rfl,rfl⟩
 | i::is,d::f,e,c,h=>by obtain⟨a,b⟩:=fV (is:=is) h;exact⟨by rw[n7,n7,a],by rw[b,B0]⟩
 | [],_::_,_,_,h=>by cases h
 | _::_,[],_,_,h=>by cases h
theorem kJ{D:Dm}{H:Hp}{O W:ge Ji}{Q:St->Hp->Prop}{tg:Tg}{d:DV}{x:V}{σ:St}{δ δ':ge Sv}(R:RSt D H σ δ O W)(r:Rep D (L2.wo (O++W) H) d x)(h:tg.bind d δ=some δ')(q:∀σ',RSt D H σ' δ' O W->Q σ' H):gT D.K tg x σ H Q:=by
 cases tg with
 | one i=>cases h;exact q _ (R.setVal r i)
 | many is=>
  unfold Tg.bind at h;dsimp only at h;split at h
  ·rename_i ds;obtain⟨a,xs,e1,e2,e3⟩:=C9.mp r;exact⟨a,xs,e1,t6.tseq e2,by rw[e3.length,(fV h).1],kH R e3 h q⟩
  ·cases h
theorem RSt.less(R:RSt D H σ δ' O W)(b:δ.length=δ'.length)(h:∀(i:Nat) sv,δ[i]? = some sv->sv=.no\/δ'[i]? = some sv):RSt D H σ δ O W where
 val:=λ i d e=>by
  rcases h i _ e with z | z
  ·cases z
  ·exact R.val i d z
 own:=λ i d e=>by
  rcases h i _ e with z | z
  ·cases z
  ·exact R.own i d z
 inj:=λ i j a d f e c=>by
  rcases h i _ e with z | z
  ·cases z
  ·rcases h j _ c with y | y
   ·cases y
   ·exact R.inj i j a d f z y
 od:=R.od.step (Same.refl _) (λ j d e=>by
  rcases h j _ e with z | z
  ·cases z
  ·exact⟨z,rfl⟩) (λ _ h _=>h) (λ _ _ _ h _=>h)
 len:=by rw[b];exact R.len
 hid:=R.hid
theorem CY:∀{is:ge Nat} {f:ge DV} {b a:ge Sv},O5 b is f=some a->(∀i∈is,b[i]? = some .no\/b[i]? = none)->∀(i:Nat) sv,b[i]? = some sv->sv=.no\/a[i]? = some sv
 | [],[],_,_,h,_,i,sv,e=>by cases h;exact .inr e
 | j::is,d::f,b,a,h,p,i,sv,e=>by
  by_cases c:i∈j::is
  ·rcases p i c with z | z
   ·rw[z]at e;cases e;exact .inl rfl
   ·rw[z]at e;cases e
  ·have o:j≠i:=λ z=>c (by rw[z];exact i5);have n:=λ z=>c (i7 _ z);have g:∀{is:ge Nat} {f:ge DV} {b a:ge Sv},O5 b is f=some a->i∉is->b[i]? = some sv->a[i]? = some sv:=by
    intro is
    induction is with
    | nil=>intro f b a h _ e;cases f with
     | nil=>cases h;exact e
     | cons _ _=>cases h
    | cons k is m=>intro f b a h l e;cases f with
     | nil=>cases h
     | cons d f=>
      refine m h (λ z=>l (i7 _ z)) ?_;rw[p7 (λ z=>l (by rw[z];exact i5))];exact e
   exact .inr (g h c e)
 | [],_::_,_,_,h,_,_,_,_=>by cases h
 | _::_,[],_,_,h,_,_,_,_=>by cases h
theorem rK(h:tg.bind d δ=some δ')(b:∀i∈X3 tg,δ[i]? = some .no\/δ[i]? = none):δ.length=δ'.length/\∀(i:Nat) sv,δ[i]? = some sv->sv=.no\/δ'[i]? = some sv:=by
 cases tg with
 | one j=>
  cases h;refine⟨(B0 ..).symm,λ i sv e=>?_⟩;by_cases a:i=j
  ·subst a;rcases b i (by simp[X3])with z | z
   ·rw[z]at e;cases e;exact .inl rfl
   ·rw[z]at e;cases e
  ·exact .inr (by rw[p7 (Ne.symm a)];exact e)
 | many is=>
  unfold Tg.bind at h;dsimp only at h;split at h
  ·exact⟨(fV h).2.symm,CY h b⟩
  ·cases h
theorem RSt.inner(R:RSt D H σ δ O W)(fr:ge (on Nat))(A:∀(j k i:Nat),fr[j]? = some (some i)->fr[k]? = some (some i)->j=k):RSt D H (L2.inner fr σ) (u0 fr δ) O W:=by
 have c:∀(j:Nat) sv,(u0 fr δ)[j]? = some sv->sv ≠ .no->∃i,fr[j]? = some _/\δ[i]? = some sv:=λ j sv h L=>by
  unfold u0 at h;rw[o8]at h;cases q:fr[j]? with
  | none=>rw[q]at h;cases h
  | some o=>
   rw[q]at h;cases o with
   | none=>cases h;exact absurd rfl L
   | some i=>
    refine⟨i,rfl,?_⟩;have B:δ.getD i .no=sv:=by simpa using h
    rw[p5]at B;cases z:δ[i]? with
    | none=>rw[z]at B;exact absurd B.symm L
    | some P=>
     rw[z]at B;exact congrArg some B
 have f:∀(j i:Nat) (v:V),fr[j]? = some (some i)->σ[i]? = some (some v)->(L2.inner fr σ)[j]? = some (some v):=λ j i v q e=>by unfold L2.inner;rw[o8,q];simp[e]
 refine⟨λ j d h=>?_,λ j d h=>?_,λ j k a d E S Q n s=>?_,λ j d h=>?_,?_,R.hid⟩
 ·obtain⟨i,m,p⟩:=c j _ h JI;obtain⟨v,n,s⟩:=R.val i d p;exact⟨v,f j i v m n,s⟩
 ·obtain⟨i,m,p⟩:=c j _ h JI;obtain⟨a,K,M,F,n,s⟩:=R.own i d p;exact⟨a,K,M,F,f j i _ m n,s⟩
 ·obtain⟨i,m,p⟩:=c j _ S JI;obtain⟨r,g,l⟩:=c k _ Q JI;obtain⟨b,K,M,_,I,_⟩:=R.own i d p;obtain⟨b',N,U,_,x,_⟩:=R.own r E l;have y:=f j i _ m I;have J:=f k r _ g x;rw[n]at y;rw[s]at J;cases y;cases J;have:=R.inj i r a d E p l I x;subst this;exact A j k i m g
 ·obtain⟨i,m,p⟩:=c j _ h JI;obtain⟨⟨a,o,F,n,s⟩,u⟩:=R.od i d p;refine⟨⟨a,o,F,f j i _ m n,s⟩,λ k E z w=>?_⟩;obtain⟨r,g,l⟩:=c k _ z JI;obtain⟨⟨a',_,_,C,_⟩,_⟩:=R.od r E l;rw[f k r _ g C,f j i _ m n]at w;rw[u r E l (by rw[C,n,w])]at g;exact A k j i g m
 ·unfold L2.inner u0;rw[d7,d7]
section
variable {X:Cx} {δ:ge Sv} {iter elt tgE:Jk} {ifs:ge Jk} {pos:Pos} {N':ge Str} {scope:Ju} {fr:ge (on Nat)} {tg:Tg} {ri:on Ri} {re:Re}
theorem kO{Q:VK}(w:Wk D J ds (hidW O W c) (J3 O W c) F)(X:Hid O W H H)(hc:c ≠ .weak)(R:RSt D F σ o O W)
  (hn:∀i∈X3 tg,o[i]? = some .no\/o[i]? = none) (hz:ds.length<=sizeLine) (hx:u7 g ds=some xs) (s1:Same H F)
  (step:∀d S,d∈ds->g d=some S->∃b,tg.bind d o=some b/\∀j l,Same F l->RSt D l j b O W->∀K:Bool->Hp->Prop,(S=.skip->∀m,Same l m->K false m)->(∀x,S=.item x->∀m,Same l m->K true m)->tc j l K)
  (C:∀d x,d∈ds->g d=some (.item x)->∀b,tg.bind d o=some b->∀j l,Same F l->RSt D l j b O W->∀K:VK,(∀v m,Same l m->Rep D (L2.wo (O++W) m) x v->K v m)->te j l K)
  (Y:∀v r,Same H r->Got D O W H r (.lst xs) .fresh v->Q v r) :
  jh J (gT D.K tg) tc te (λ M r=>∀p,r p=none->Q (.ref p) (upd r p (.lst M))) σ F:=by
 have ci:J3 O W c=O++W:=by cases c<;>first | rfl | exact absurd rfl hc
 rw[ci]at w;refine⟨λ i n M j r=>n=ds.length - i/\i<=ds.length/\M.length<=i/\RSt D r j o O W/\Same F r/\∃f rest,u7 g (ds.drop i)=some rest/\f++rest=xs/\RepL D (L2.wo (O++W) r) f M,
  ⟨ds.length,rfl,v9 _,v9 _,R,Same.refl _,[],xs,hx,rfl,y9.mpr rfl⟩,?_⟩
 rintro i n M σ2 l ⟨rfl,hi',hy,R2,s2,f,rest,h1,h2,r2⟩
 by_cases k:i<ds.length
 ·refine .inr ⟨w.go i l s2.wo k,K7 hy (q9 k hz),λ N m y=>?_⟩;have A:=w.same i l N m y;have y3:=w.yld i l N m _ (O++W) s2.wo s2.wo y (j6 k) λ a ha=>⟨R2.hid.ot a ha,.inl ha⟩;rw[gM k]at h1;have U:=T0 k;unfold u7 at h1;split at h1
  ·cases h1
  ·rename_i q;obtain⟨b,I,Z⟩:=step _ _ U q;refine kJ (R2.mono A) y3 I λ u L=>?_
   have h:=rK I hn;refine Z u m (s2.trans A) L _ (λ _ H4 B=>?_) (λ x z=>nomatch z);show if false=true then _ else _
   rw[e8 x0];exact⟨ds.length - (i+1),by omega,rfl,k,Nat.le_succ_of_le hy,(L.less h.1 h.2).mono B,(s2.trans A).trans B,f,rest,h1,h2,r2.mono (A.trans B).wo⟩
  ·rename_i x q;split at h1
   ·cases h1
   ·rename_i E q';cases h1;obtain⟨b,I,Z⟩:=step _ _ U q;refine kJ (R2.mono A) y3 I λ u L=>?_
    have h:=rK I hn;refine Z u m (s2.trans A) L _ (λ z=>nomatch z) (λ N z H4 B=>?_);cases z;show if true=true then _ else _
    rw[d8 rfl];refine C _ x U q b I u H4 ((s2.trans A).trans B) (L.mono B) _ λ v H5 P rv=>?_
    exact⟨ds.length - (i+1),by omega,rfl,k,by rw[o5,N8];omega,(L.less h.1 h.2).mono (B.trans P),((s2.trans A).trans B).trans P,f++[x],E,q',by rw[N9];exact h2,
     (r2.mono ((A.trans B).trans P).wo).append (RepL.one rv)⟩
 ·have e:i=ds.length:=by omega
  subst e;rw[io]at h1;cases h1;rw[A6]at h2;subst h2;have s0:=s1.trans s2;refine .inl ⟨w.stop l s2.wo,λ p hp=>Y _ _ (s0.trans (u9 hp)) ?_⟩;exact P0 (X.mono s0) hp r2
theorem PE.any{t:ι->TE}(h:∀k,PE Y e (t k)):PE Y e (λ b H Q=>∃k,t k b H Q):=λ a s b H Q I ⟨k,q⟩=>h k a s b H Q I q
theorem PTs.any{t:ι->TT}(h:∀k,PTs Y es (t k)):PTs Y es (λ b H Q=>∃k,t k b H Q):=λ a s b H Q I ⟨k,q⟩=>h k a s b H Q I q
theorem Rc.of_item(h:Rc.of r=some (.item x)):∃c,r=some (.ok x c)/\stro x c=true:=by
 unfold Rc.of at h;split at h
 ·rename_i d c;split at h
  ·rename_i m;cases h;exact⟨c,rfl,m⟩
  ·cases h
 ·cases h
theorem Rc.of_skip(h:Rc.of r=some .skip):False:=by
 unfold Rc.of at h;split at h
 ·split at h<;>cases h
 ·cases h
theorem kR{i:Nat}(h:fr[i]? = some none):(u0 fr δ)[i]? = some .no:=by
 unfold u0;rw[o8,h];rfl
def U6(X:Cx)(δ:ge Sv)(tgE iter:Jk)(ifs:ge Jk)(elt:Jk)(scope:Ju)(N':ge Str)(fr:ge (on Nat))(tg:Tg)(re:Re):Prop:=
 ∃(wi:TI) (tc:TT) (te:TE),PI X tgE iter wi/\(∀C cells s₂ H₂ fp,PTs (p8 X scope N' C cells s₂ H₂ fp) ifs tc)/\(∀C cells s₂ H₂ fp,PE (p8 X scope N' C cells s₂ H₂ fp) elt te) /\
  ∀σ H Q,dE X.D δ re σ H Q->ji fr wi (gT X.K tg) tc te σ H Q
theorem kU(b:F2 a=false):∀x,foldedSetIterable a env x=pure x:=by cases a<;>first | (intro _;rfl) | cases b
theorem U6.pe(P:U6 X δ tgE iter ifs elt scope N' fr tg re)(S:CompScope X.N N' scope X.env.scope fr)(e:X.calm=true)(f:∀C a b d fp,PG (p8 X scope N' C a b d fp) tgE (gT X.K tg))(c:F2 iter=false) :
  PE X (.ListComp elt [⟨tgE,iter,ifs,0⟩] scope pos) (dE X.D δ re):=by
 obtain⟨wi,tc,te,j,i,h,g⟩:=P;exact(zb S e j f i h (kU c)).weak g
theorem RSt.noNames(R:RSt D H σ δ O W)(fr:ge (on Nat)):RSt D H (L2.inner fr σ) (u0 fr []) O []:=by
 have c:∀(j:Nat) e,(u0 fr [])[j]? = some e->e=.no:=λ j e h=>by
  unfold u0 at h;rw[o8]at h;cases q:fr[j]? with
  | none=>rw[q]at h;cases h
  | some o=>
   rw[q]at h;cases o with
   | none=>cases h;rfl
   | some i=>cases h;rfl
 refine⟨λ j d h=>(by cases c j _ h),λ j d h=>(by cases c j _ h),λ j k a d d' f h2 e1 e2=>(by cases c j _ f),λ j d h=>(by cases c j _ h),?_,?_⟩
 ·unfold L2.inner u0;rw[d7,d7]
 ·exact⟨λ a b=>R.hid.ot a (by rw[A6]at b;exact B6 _ b),Same.refl _,λ a b=>(nomatch b),λ a b=>(nomatch b),R.hid.om⟩
theorem CZ{a:ge Sv->on Re}(S:CompScope X.N N' scope X.env.scope fr)(hc:X.calm=true)(P:∀(j k i:Nat),fr[j]? = some (some i)->fr[k]? = some (some i)->j=k)(B:∀i∈X3 tg,fr[i]? = some none)(E:∀q,ri=some q->PI X tgE iter (dI X.D δ q))
  (hG:∀C b e f fp,PG (p8 X scope N' C b e f fp) tgE (gT X.K tg)) (he:∀δ' r,a δ'=some r->∀C b e f fp,PE (p8 X scope N' C b e f fp) elt (dE X.D δ' r))
  (h:(Ri.thn ri λ n c=>if c=.weak\/j5<n.length then(if c=.weak/\n.length<=j5 then eX (u7 (λ d=>(tg.bind d (u0 fr [])).bind λ δ'=>Rc.of (a δ')) n)else none)else T9 (u7 (λ d=>(tg.bind d (u0 fr δ)).bind λ δ'=>Rc.of (a δ')) n))=some re):U6 X δ tgE iter [] elt scope N' fr tg re:=by
 cases u:ri with
 | none=>rw[u]at h;cases h
 | some q=>
  rw[u]at h;have A:=E q u;refine⟨_,_,_,A,(λ C b e f fp=>yZ),(λ C b e f fp=>PE.any (ι:={p:ge Sv×Re // a p.1=some p.2}) (t:=λ k=>dE X.D k.1.1 k.1.2) λ k=>he k.1.1 k.1.2 k.2 C b e f fp),?_⟩;cases q with
  | ok n c=>
   have l:(if c=.weak\/j5<n.length then(if c=.weak/\n.length<=j5 then eX (u7 (λ d=>(tg.bind d (u0 fr [])).bind λ δ'=>Rc.of (a δ')) n)else none)else T9 (u7 (λ d=>(tg.bind d (u0 fr δ)).bind λ δ'=>Rc.of (a δ')) n))=some re:=h;split at l
   ·split at l
    ·rename_i m;obtain⟨rfl,ml⟩:=m;unfold eX at l;split at l
     ·cases l
     ·rename_i xs N;cases l;refine λ σ H Q ⟨O,W,R,p⟩=>⟨O,W,R,λ J H1 s1 w=>?_⟩
      have w':Wk X.D J n (hidW O [] .strong) (J3 O [] .strong) H1:=(by show Wk X.D J n (O++[]) (O++[]) H1;rw[A6];exact w);have F:Hid O [] H H:=(R.noNames fr).hid;refine kO (tg:=tg) (D:=X.D) (O:=O) (W:=[]) w' F JI ((R.mono s1).noNames fr) (λ i E=>.inl (kR (B i E))) (P1 Jy) N s1 (λ d L U g=>?_) (λ d x U g δ' o s I s2 R2 K Y=>?_) (λ v H' s' g'=>p v H' s' ?_)
      ·cases o:tg.bind d (u0 fr [])with
       | none=>rw[o]at g;cases g
       | some δ'=>
        rw[o]at g;refine⟨δ',rfl,λ s I s2 R2 K k1 M=>?_⟩;cases L with
        | skip=>exact(Rc.of_skip g).elim
        | item x=>exact M x rfl I (Same.refl _)
      ·rw[o]at g;obtain⟨cl,e1,e2⟩:=Rc.of_item g;exact⟨⟨⟨δ',.ok x cl⟩,e1⟩,O,[],R2,λ v H3 y Z=>Y v H3 y (Z.stro (R2.hid.mono y) e2)⟩
      ·show Rep X.D (L2.wo O H') _ v;have:=Got.strong g' (F.mono s');rw[A6]at this;exact this
    ·cases l
   ·rename_i m;rw[not_or]at m;unfold T9 at l;split at l
    ·cases l
    ·rename_i xs N;cases l;refine λ σ H Q ⟨O,W,R,p⟩=>⟨O,W,R,λ J H1 s1 w=>?_⟩
     refine kO (tg:=tg) (D:=X.D) w R.hid m.1 ((R.mono s1).inner fr P) (λ i E=>.inl (kR (B i E))) (P1 Jy) N s1 (λ d L U g=>?_) (λ d x U g δ' o s I s2 R2 K Y=>?_) p
     ·cases o:tg.bind d (u0 fr δ)with
      | none=>rw[o]at g;cases g
      | some δ'=>
       rw[o]at g;refine⟨δ',rfl,λ s I s2 R2 K k1 M=>?_⟩;cases L with
       | skip=>exact(Rc.of_skip g).elim
       | item x=>exact M x rfl I (Same.refl _)
     ·rw[o]at g;obtain⟨cl,e1,e2⟩:=Rc.of_item g;exact⟨⟨⟨δ',.ok x cl⟩,e1⟩,O,W,R2,λ v H3 y Z=>Y v H3 y (Z.stro (R2.hid.mono y) e2)⟩
theorem Da{f:ge Sv->on Re}{l:ge Sv->on Rt}(S:CompScope X.N N' scope X.env.scope fr)(hc:X.calm=true)(I:∀(j k i:Nat),fr[j]? = some (some i)->fr[k]? = some (some i)->j=k)(F:∀i∈X3 tg,fr[i]? = some none)(L:∀q,ri=some q->PI X tgE iter (dI X.D δ q))
  (hG:∀C a b e fp,PG (p8 X scope N' C a b e fp) tgE (gT X.K tg)) (he:∀δ' r,f δ'=some r->∀C a b e fp,PE (p8 X scope N' C a b e fp) elt (dE X.D δ' r))
  (Y:∀δ' r,l δ'=some r->∀C a b e fp,PT (p8 X scope N' C a b e fp) n (dT X.D δ' r))
  (h:(Ri.thn ri λ z c=>if c=.weak\/j5<z.length then none else T9 (u7 (λ d=>(tg.bind d (u0 fr δ)).bind λ δ'=>Rc.test (l δ') (Rc.of (f δ'))) z))=some re):U6 X δ tgE iter [n] elt scope N' fr tg re:=by
 cases o:ri with
 | none=>rw[o]at h;cases h
 | some q=>
  rw[o]at h;refine⟨_,_,_,(L q o),(λ C a b e fp=>PTs.any (ι:={p:ge Sv×Rt // l p.1=some p.2}) (t:=λ k=>dT X.D k.1.1 k.1.2) λ k=>za (Y k.1.1 k.1.2 k.2 C a b e fp)),
   (λ C a b e fp=>PE.any (ι:={p:ge Sv×Re // f p.1=some p.2}) (t:=λ k=>dE X.D k.1.1 k.1.2) λ k=>he k.1.1 k.1.2 k.2 C a b e fp),?_⟩
  cases q with
  | ok z c=>
   have y:(if c=.weak\/j5<z.length then none else T9 (u7 (λ d=>(tg.bind d (u0 fr δ)).bind λ δ'=>Rc.test (l δ') (Rc.of (f δ'))) z))=some re:=h;split at y
   ·cases y
   ·rename_i m;rw[not_or]at m;unfold T9 at y;split at y
    ·cases y
    ·rename_i xs U;cases y;refine λ σ H Q ⟨O,W,R,p⟩=>⟨O,W,R,λ J H1 s1 w=>?_⟩
     refine kO w R.hid m.1 ((R.mono s1).inner fr I) (λ i L=>.inl (kR (F i L))) (P1 Jy) U s1 (λ d M Z s=>?_) (λ d x Z s δ' B E H2 s2 R2 K hK=>?_) p
     ·cases B:tg.bind d (u0 fr δ)with
      | none=>rw[B]at s;cases s
      | some δ'=>
       rw[B]at s;have g:Rc.test (l δ') (Rc.of (f δ'))=some M:=s;refine⟨δ',rfl,λ E H2 s2 R2 K P N=>?_⟩;unfold Rc.test at g;split at g
       ·rename_i q;refine⟨⟨⟨δ',.ok true⟩,q⟩,O,W,R2,λ A u=>?_⟩;cases M with
        | skip=>exact(Rc.of_skip g).elim
        | item x=>exact N x rfl A u
       ·rename_i q;cases g;exact⟨⟨⟨δ',.ok false⟩,q⟩,O,W,R2,λ A u=>P rfl A u⟩
       ·cases g
     ·rw[B]at s;have g:Rc.test (l δ') (Rc.of (f δ'))=some (.item x):=s;unfold Rc.test at g;split at g
      ·obtain⟨cl,e1,e2⟩:=Rc.of_item g;exact⟨⟨⟨δ',.ok x cl⟩,e1⟩,O,W,R2,λ v A u g3=>hK v A u (g3.stro (R2.hid.mono u) e2)⟩
      ·cases g
      ·cases g
end
theorem Inv.turnedL{ch:ge Ji}(I:JM a)(k:∀b o,b∉ch->s.heap.get? b=some o->h'.get? b=some o)(g:∀b∈ch,FpOk X a H b):Inv X a σ H {s with heap:=h',toks:=t'}:=by
 have f:∀b u,H b=some u->b∉ch:=λ b u e z=>by rw[(g b z).1]at e;cases e
 refine I.step (ch:=ch) (λ b j=>?_) (λ b o _ _ d e _=>k b o d e) (λ b o _ _ d e _=>⟨o.slots,k b o d e⟩) (λ _ _ _ _ n=>n)
  (λ b o d e=>⟨o,k b o d e⟩) (λ _ _ e=>e) (λ _ _ _ e=>e) (λ _ _ e=>e) (λ m i=>?_) (λ b u e=>?_) I.bare
 ·obtain⟨_,x,_,w,p,l⟩:=g b j;exact⟨w,x,p,l⟩
 ·obtain⟨o,y,A,h,r⟩:=i;exact⟨o,y,A,k _ o (λ z=>(g _ z).2.1 rfl) h,r⟩
 ·refine(I.hok b u e).stay (λ c v d q=>k c v ?_ q) (λ _ q=>q) (λ _ _ q=>q) (λ _ _ q=>q) λ _ _ _ _ _ q=>q;rcases d with z | z
  ·rw[z];exact f b u e
  ·exact f c _ z
def SqD(t:Bool)(K:Js)(H:Hp)(a:Ji)(xs:ge V):Prop:=match t with | false=>SqL K H a xs | true=>SqT K H a xs
theorem Same.sqd{t:Bool}{K:Js}{H H':Hp}{a:Ji}{xs:ge V}(e:Same H H')(h:SqD t K H a xs):SqD t K H' a xs:=by
 cases t
 ·exact e.seq h
 ·exact e.tseq h
theorem Inv.sqd(I:JM c)(h:SqD t X.K H a xs):∃b:ge Jg,Vals xs b/\SqK t s.heap a b.toArray:=by
 cases t
 ·obtain⟨b,d,p,_⟩:=I.list h;exact⟨b,d,p.isList⟩
 ·obtain⟨b,d,p,_⟩:=I.tuple h;exact⟨b,d,p⟩
theorem Inv.sqd_inj(I:JM b)(h:SqD t X.K H a xs)(d:SqD t X.K H a c):xs=c:=by
 cases t
 ·exact I.list_inj h d
 ·exact I.tuple_inj h d
def itK(t:Bool)(h:Jj)(ia la:Ji)(k:Nat):Prop:=match t with | false=>h.IsListIter ia la k | true=>h.IsTupleIter ia la k
theorem rM(p:itK t h b a k)(q:SqK t h a vs):sK t b a vs k h:=by
 cases t<;>exact⟨p,q⟩
theorem rN(p:sK t b a vs k h):itK t h b a k:=by
 cases t<;>exact p.1
theorem rO(p:itK t h a b k)(e:∀o,h.get? a=some o->c.get? a=some o):itK t c a b k:=by
 cases t
 ·exact Heap.IsListIter.at p e
 ·obtain⟨o,z,r⟩:=p;exact⟨o,e o z,r⟩
theorem rP(p:itK t h a c k):∃o b,h.get? a=some o/\o.data=.fields b:=by
 cases t
 ·obtain⟨o,e,_,d⟩:=p;exact⟨o,_,e,d⟩
 ·obtain⟨o,e,_,d⟩:=p;exact⟨o,_,e,d⟩
theorem SqK.lt(p:SqK t h a vs):a<h.objs.size:=by
 cases t
 ·obtain⟨o,e,_⟩:=p;exact j7 e
 ·obtain⟨o,e,_⟩:=p;exact j7 e
theorem Db:∀b∈hidW O W (Cl.meet c d),b∈hidW O W c:=by
 cases c<;>cases d<;>intro b a<;>first | exact a | exact B6 _ a
theorem Dc:∀b∈J3 O W (Cl.meet c d),b∈J3 O W c:=by
 cases c<;>cases d<;>intro b a<;>first | exact a | exact B6 _ a
theorem Dd(k:M9 d=some (t,ds))(g:Got D O W f H d c v)(e:Hid O W f H):∃a b,v=.ref a/\SqD t D.K (L2.wo (hidW O W c) H) a b/\RepL D (L2.wo (J3 O W c) H) ds b:=by
 cases d<;>cases k
 ·exact g.walkT e
 ·exact g.walkL e
section
variable {P:Jo} {w:Jn} {A:Jp} {E:Jg->Jh->Prop} {s:Jh} {n c l:Ji} {k:Nat} {vs:Jl Jg} {S:Nat->Jj->Prop} {x old:Jg}
abbrev rQ(s:Jh)(h':Jj)(n c:Ji)(k:Nat)(x:Jg)(S:Nat->Jj->Prop):Prop:=
 IsEnumOut h' n c ((k:Int)+1) x s.heap.objs.size/\S (k+1) h'/\h'.get? s.heap.objs.size=some {cls:=.type "tuple",data:=.seq #[.int k s.toks,x]} /\ h'.objs.size=s.heap.objs.size+1/\(∀b o,b≠n->b≠c->s.heap.get? b=some o->h'.get? b=some o)
theorem De{Q:Jg->Jh->Prop}(R:Src P w c l vs S)(X:IsEnum s.heap n c k old)(hS:S k s.heap)(hx:vs[k]? = some x)(J:n≠c)(d2:l≠n)(hQ:∀h',rQ s h' n c k x S->Q (.ref s.heap.objs.size) {s with heap:=h',toks:=s.toks+1}) :
  wpAny (model P w) A (Builtin.«enumerate.__next__» ⟨[.ref n],[]⟩) (λ Z s'=>∃v,Z=.done (.ret v)/\Q v s') E s:=by
 obtain⟨f,i,j,a,h⟩:=s;show wpAny _ _ (field (.ref n) 2 >>= _) _ _ _;refine d4 (D8 X rfl (x:=.ref c) rfl (d4 (R.step k x hS hx λ m r1 r=>?_)))
 replace r:Heap.SameBut c f m:=r
 have W:IsEnum m n c k old:=(r.2 n J).trans X;show wpAny _ _ (field (.ref n) 3 >>= _) _ _ ⟨m,i,j,a,h⟩;refine d4 (D8 W rfl (x:=rawInt k) rfl ?_);show wpAny _ _ (field (.ref n) 4 >>= _) _ _ ⟨m,i,j,a,h⟩;refine d4 (D8 W rfl (x:=.none) rfl ?_);show wpAny _ _ (mkInt k >>= _) _ _ ⟨m,i,j,a,h⟩;refine d4 (wpAny_mkInt ?_);show wpAny _ _ (setField (.ref n) 3 (rawInt ((k:Int)+1)) >>= _) _ _ ⟨m,i,j,a+1,h⟩;refine d4 (J5 W JN λ I U q=>?_)
 replace q:Heap.SameBut n m I:=q
 replace U:IsEnum I n c ((k:Int)+1) old:=U
 show wpAny _ _ (setField (.ref n) 4 .none >>= _) _ _ ⟨I,i,j,a+1,h⟩;refine d4 (J5 U JN λ d O p=>?_)
 replace p:Heap.SameBut n I d:=p
 replace O:IsEnum d n c ((k:Int)+1) old:=O
 show wpAny _ _ (newTuple [.int k a,x] >>= _) _ _ ⟨d,i,j,a+1,h⟩;refine d4 (iE ?_);have C:IsEnum (d.push {cls:=.type "tuple",data:=.seq #[.int k a,x]}) n c ((k:Int)+1) old:=g9 _ O;have K:d.objs.size=f.objs.size:=by rw[p.1,q.1,r.1]
 have q4:(d.push {cls:=.type "tuple",data:=.seq #[.int k a,x]}).get? f.objs.size=some {cls:=.type "tuple",data:=.seq #[.int k a,x]}:=by rw[←K];exact o4 _ rfl
 have z4:(d.push {cls:=.type "tuple",data:=.seq #[.int k a,x]}).objs.size=f.objs.size+1:=by rw[G6,K]
 have k4:∀b o,b≠n->b≠c->f.get? b=some o->(d.push {cls:=.type "tuple",data:=.seq #[.int k a,x]}).get? b=some o:=λ b o g b2 e=>
  g9 _ (p.extBut b o g (q.extBut b o g (r.extBut b o b2 e)))
 have r4:S (k+1) (d.push {cls:=.type "tuple",data:=.seq #[.int k a,x]}):=
  R.keep _ _ _ (R.ext (R.ext r1 q.extBut (Ne.symm J) d2) p.extBut (Ne.symm J) d2) (λ o e=>g9 _ e) (λ o e=>g9 _ e)
 generalize (d.push {cls:=.type "tuple",data:=.seq #[.int k a,x]})=g4 at C q4 z4 k4 r4 ⊢;have lt:n<f.objs.size:=j7 X;show wpAny _ _ (Builtin.SmallTypes.ownedTupleIsFree (.ref n) >>= _) _ _ ⟨g4,i,j,a+1,h⟩;rw[K];refine d4 ?_;unfold Builtin.SmallTypes.ownedTupleIsFree;refine d4 (D8 C rfl (x:=.none) rfl (d9 ?_));simp only[if_true];refine d4 (au (d4 (D8 C rfl (x:=old) rfl (d4 (J5 C JN λ H N B=>?_)))))
 replace B:Heap.SameBut n g4 H:=B
 replace N:IsEnum H n c ((k:Int)+1) x:=N
 show wpAny _ _ (Builtin.SmallTypes.ownedTupleHandOut (.ref n) (.ref f.objs.size) >>= _) _ _ ⟨H,i,j,a+1,h⟩;refine d4 ?_;unfold Builtin.SmallTypes.ownedTupleHandOut;refine d4 (J5 N JN λ Y M z=>?_)
 replace z:Heap.SameBut n H Y:=z
 replace M:IsEnumOut Y n c ((k:Int)+1) x f.objs.size:=M
 refine J5 M JN λ F L y=>?_
 replace y:Heap.SameBut n Y F:=y
 replace L:IsEnumOut F n c ((k:Int)+1) x f.objs.size:=L
 have u:∀b o,b≠n->g4.get? b=some o->F.get? b=some o:=λ b o g e=>y.extBut b o g (z.extBut b o g (B.extBut b o g e));exact d4 (wpAny_letGo (d9 ⟨_,rfl,hQ F ⟨L,R.keep _ _ _ r4 (λ o e=>u _ o (Ne.symm J) e) (λ o e=>u _ o d2 e),u _ _ (Q1 lt) q4,by rw[y.1,z.1,B.1,z4],λ b o g b2 e=>u b o g (k4 b o g b2 e)⟩⟩))
theorem Df(R:Src P w c l vs S)(d:IsEnum s.heap n c k old)(f:S k s.heap)(e:vs[k]? = some x)(i:n≠c)(h:l≠n)(g:∀b,rQ s b n c k x S->Q (some (.ref s.heap.objs.size)) {s with heap:=b,toks:=s.toks+1}) :
  wpAny (model P w) A (pyNext (.ref n)) Q E s:=by
 have T:s.TypeIs (.ref n) "enumerate":=⟨_,d,rfl⟩;unfold pyNext;exact d4 (Q0 (M3 T du (D5 du T nL (De R d f e i h λ b a=>d9 (g b a)) (ny _))))
theorem Dg(i:A.handled=none)(R:Src P w c l vs S)(a:IsEnum s.heap n c k old)(m:S k s.heap)(h:vs[k]? = none)(p:∀b,Heap.ExtBut c s.heap b->Q none {s with heap:=b}) :
  wpAny (model P w) A (pyNext (.ref n)) Q E s:=by
 have T:s.TypeIs (.ref n) "enumerate":=⟨_,a,rfl⟩;unfold pyNext;refine d4 (Q0 (M3 T du (D5 du T nL ?_ (ny _))));show wpAny _ _ (field _ 2 >>= _) _ _ _;refine d4 (D8 a rfl rfl (d4 (R.stop k i m h λ g1 e d j=>?_)));obtain⟨o,g,f⟩:=j;exact d4 (ab ⟨o,g,f⟩ bt (d9 (p _ d)))
end
open AutoSeq1 (wpAny_loadPart') in
theorem Dh(l:Ji)(vs:Jl Jg)(m:Nat)(dc:on Ji)(sl:Jl (on Jg)):Meets (Builtin.«enumerate.__new__» ⟨[.type "enumerate",.ref l],[]⟩) (λ _ R s=>s.heap.get? l=some {cls:=.type "tuple",dict:=dc,data:=.seq vs m,slots:=sl} /\
  R (.ok (.ret (.ref (zH1 s.heap true l).objs.size))) {s with heap:=(zH1 s.heap true l).push {cls:=.type "enumerate",data:=.fields #[.none,.bool false,.ref s.heap.objs.size,rawInt 0,.none,.none]}}):=
 .of_wp λ P w A R s h=>by
  obtain⟨g0,gg,gd,gt,go⟩:=s;obtain⟨q,h⟩:=h;have hsub:=sub_enumerate;have qT:Heap.IsTuple (Shared.heap ⟨g0,gg,gd,gt,go⟩) l vs:=⟨_,q,rfl,m,rfl⟩
  wp_walk using be q
  refine wpAny_stack_any λ st=>d9 ?_;split
  ·rename_i y _ _ _ _ _;cases(y==Value.type "enumerate")
   ·wp_walk using be q,dG qT
    exact⟨_,rfl,h⟩
   ·wp_walk using be q,dG qT
    exact⟨_,rfl,h⟩
  ·wp_walk using be q,dG qT
   exact⟨_,rfl,h⟩
theorem Di         (t : Bool) (q : SqK t s.heap l vs)
    (h : ∀ a, IsEnum a (s.heap.objs.size + 1) s.heap.objs.size 0 .none -> sK t s.heap.objs.size l vs 0 a -> a.objs.size = s.heap.objs.size + 2 -> (∀ b o, s.heap.get? b = some o -> a.get? b = some o) -> Q (.ref (s.heap.objs.size + 1)) { s with heap := a }) :
    wpAny (model P w) A (call (.type "enumerate") [.ref l]) Q E s := by
  cases t with
  | false => exact call_enumerate_list (q) λ a z x v k => h a z ⟨x, Heap.IsList.at (q) λ o e => k _ o e⟩ v k
  | true =>
    obtain⟨⟨y, u, r, n⟩, p, d, m, c⟩ := id (q)
    replace d : y = .type "tuple" := d
    replace c : r = .seq vs m := c
    subst d c;refine callType_new F.called_enumerate Jz (F.typeCall_enumerate_1 _) (F.newCall_enumerate_1 _) (λ f => F.args_object_init_2 f _) F.entry_enumerate_new (Dh l vs m u n) ⟨p, ?_⟩;have g : (zH1 s.heap true l).objs.size = s.heap.objs.size + 1 := G6 ..;have i := o4 (zH1 s.heap true l) (o := { cls := .type "enumerate", data := .fields #[.none, .bool false, .ref s.heap.objs.size, rawInt 0, .none, .none] }) rfl;have j : ∀ b o, s.heap.get? b = some o -> ((zH1 s.heap true l).push { cls := .type "enumerate", data := .fields #[.none, .bool false, .ref s.heap.objs.size, rawInt 0, .none, .none] }).get? b = some o := λ b o e => g9 _ (g9 _ e)
    rw [g] at i;show _ /\ _;rw [g];exact ⟨⟨_, i, rfl⟩, h _ i (zh (g9 _ (o4 _ rfl)) q j) (by rw [G6, g]) j⟩
def Ite(K:Js)(t:Bool)(a:Ji):It:=
  ⟨λ i H=>∃xs x,SqD t K H a xs/\xs[i]? = some x,
   λ i H x H'=>∃p v,x=.ref p/\H p=none/\(∀xs,SqD t K H a xs->xs[i]? = some v)/\H'=upd H p (.tup [.int i,v]),
   λ i H=>∃xs,SqD t K H a xs/\xs.length<=i⟩
theorem Dj{K:Js}(t:Bool)(d1:n≠c)(d2:l≠n)(d3:l≠c) :
  Turn P w K (.Tuple elts k pos) (Ite K t l) [n,c] n (λ i h=>(∃f,IsEnum h n c (i:Nat) f)/\itK t h c l i) where
 mem:=by simp
 obj:=λ i h st b g=>by
  obtain⟨⟨f,m⟩,r⟩:=st;simp only[g5,V8,W1]at g;rcases g with rfl | rfl
  ·exact⟨_,m,λ v q=>by cases q⟩
  ·obtain⟨o,Y,e,d⟩:=rP r;exact⟨o,e,λ v q=>by rw[d]at q;cases q⟩
 keep:=λ i h h' st q=>by obtain⟨⟨f,m⟩,r⟩:=st;exact⟨⟨f,q n JN _ m⟩,rO r λ o e=>q c JN o e⟩
 item:=by
  intro X R N S Z i j s C H E I B st Q;subst R N S;obtain⟨⟨f,m⟩,r⟩:=st;obtain⟨Y,x,A,M⟩:=Q;obtain⟨L,J,p⟩:=I.sqd A;obtain⟨u,hu,ru⟩:=J.get M;refine Df (ph t d3) m (rM r p) (x:=u) (by simpa using hu) d1 d2 λ h' a=>⟨_,rfl,?_⟩
  obtain⟨a1,a2,a3,a4,a5⟩:=a;refine wpAny_letOwnedTupleGo_enum a1 λ U O F=>?_
  have z:s.heap.objs.size≠n:=Q1 (j7 m);have keep:∀b o,b∉[n,c]->s.heap.get? b=some o->U.get? b=some o:=λ b o g e=>F.extBut _ _ (λ q=>g (by simp[q])) (a5 b o (λ q=>g (by simp[q])) (λ q=>g (by simp[q])) e);have I1:Inv X j C H {s with heap:=U,toks:=s.toks+1}:=I.turnedL (t':=s.toks+1) keep B;have y:H s.heap.objs.size=none:=I.hok.fresh (f8 _);have W:=I.fpOk (f8 _) y;have h0:X.s₀.heap.get? s.heap.objs.size=none:=Z4 I.sz;have I2:Inv X j C (upd H s.heap.objs.size (.tup [.int i,x])) {s with heap:=U,toks:=s.toks+1}:=I1.track y h0 W.2.1 (λ n c e=>W.2.2.2.2.1 n c e) (λ q hq=>W.2.2.2.2.2 q hq)
   ⟨by show(2:Nat)<=sizeLine;decide,[.int i s.toks,u],.cons ⟨_,rfl⟩ (.cons ru .nil),_,(F.extBut _ _ z a3),⟨rfl,rfl⟩,_,rfl⟩
  refine⟨.ref s.heap.objs.size,_,I2,rfl,⟨_,x,rfl,y,λ xs' e=>by rw[I.sqd_inj e A];exact M,rfl⟩,⟨⟨_,by simpa using O⟩,rO (rN a2) λ o e=>F.extBut _ _ (Ne.symm d1) e⟩,λ b g=>?_⟩;have lt:b≠s.heap.objs.size:=by
   simp only[g5,V8,W1]at g;rcases g with rfl | rfl
   ·exact Ne.symm z
   ·obtain⟨o,_,e,_⟩:=rP r;exact o6 (j7 e)
  rw[j3 lt];exact(B b g).1
 done:=by
  intro X R N S Z i j s C H E I B st Q;subst R N S;obtain⟨⟨f,m⟩,r⟩:=st;obtain⟨Y,A,M⟩:=Q;obtain⟨L,J,p⟩:=I.sqd A;have e1:=J.length;exact Dg (I.ok.hd Z) (ph t d3) m (rM r p) (by simp;omega) λ h' a=>⟨rfl,I.turnedL (t':=s.toks) (ch:=[n,c]) (λ b o g e=>a b o (λ q=>g (by simp[q])) e) B⟩
 self:=λ _ _ _ _ _ st h=>by obtain⟨⟨f,m⟩,_⟩:=st;exact wpAny_pyIter_enum m h
theorem kW:∀(k:Nat) (a:ge DV),(enuD k a).length=a.length
 | _,[]=>rfl
 | k,x::a=>by rw[enuD,n7,kW _ a,n7]
theorem rR:∀{k:Nat} {a:ge DV} {i:Nat} {d:DV},(enuD k a)[i]? = some d->∃x,a[i]? = some x/\d=.tup [.int ((k+i:Nat):Int),x]
 | _,[],_,_,h=>by simp[enuD]at h
 | k,x::a,0,d,h=>by simp[enuD]at h;exact⟨x,rfl,h.symm⟩
 | k,x::a,i+1,d,h=>by rw[enuD,nz]at h;obtain⟨y,c,b⟩:=rR h;exact⟨y,by simpa using c,by rw[b,show k+1+i=k+(i+1)from by omega]⟩
theorem Wk.enum(h:SqD t D.K (L2.wo k c) a xs)(r:RepL D (L2.wo j c) ds xs):Wk D (Ite D.K t a) (enuD 0 ds) k j c where
 go:=λ i H s u=>by rw[kW]at u;exact⟨xs,xs[i]'(by rw[r.length];omega),t6.sqd (s.sqd h),j6 _⟩
 same:=λ i H x A y=>by obtain⟨p,v,_,b,_,e⟩:=y;rw[e];exact u9 b
 yld:=λ i H x A d O2 s o y e g=>by obtain⟨p,v,ex,b,n,w⟩:=y;obtain⟨d1,q,rfl⟩:=rR e;obtain⟨v1,m,l⟩:=r.get q;have f:=n xs (t6.sqd (s.sqd h));rw[m]at f;cases f;subst w;refine C9.mpr ⟨p,_,ex,SqT.of (by rw[i8 (λ z=>(g p z).1 b)];exact v6),?_⟩;exact u8.mpr ⟨_,_,rfl,u6.mpr (by rw[T5]),RepL.one (l.mono ((kC o g).trans (u9 b).wo))⟩
 stop:=λ H s=>⟨xs,t6.sqd (s.sqd h),by rw[kW,r.length];exact f8 _⟩
theorem kX(h:a<n):n+1≠n/\a≠n+1/\a≠n:=by omega
theorem Dk:bootBuiltins "enumerate" = some (.type "enumerate"):=by decide +kernel
theorem Dl(E:Gl X "enumerate")(C:X.mg "enumerate" = none)(F:PA X [e] o)(hs:t4 e=false) :
  PI X (.Tuple elts k tpos) (.Call (.Name "enumerate" p) [e] [] pos) (λ i H R=>o i H λ n g=>∃t a,n=[.ref a]/\(∃m,SqD t X.K g a m)/\R (Ite X.K t a) g):=by
 intro b s i H R I h;refine Call_ (W4 I E C Dk (db (thn (F pos b s i H _ I h) λ us s1 ⟨n,g,f,y,z⟩=>?_) (by rw[w4 hs]) (cq [] JN)));obtain⟨t,a,J,⟨m,B⟩,q⟩:=z;subst J;obtain⟨u,rfl,x⟩:=y.one;cases x;obtain⟨A,rv,p1⟩:=f.sqd B;have j:=p1.lt;refine Di t p1 λ h' l w z6 v=>?_
 refine wpAny_pyIter_enum l ⟨s1.heap.objs.size+1,[s1.heap.objs.size+1,s1.heap.objs.size],_,_,g,rfl,(f.kept v),
  Dj t (kX j).1 (kX j).2.1 (kX j).2.2,⟨⟨_,l⟩,rN w⟩,λ c r=>?_,q⟩
 have d:s1.heap.objs.size<=c:=by
  simp[g5,V8,W1]at r;rcases r with rfl | rfl
  ·exact V7 ..
  ·exact f8 _
 exact f.fpOk d (f.hok.fresh d)
theorem Do(u:Gl X "enumerate")(s:X.mg "enumerate" = none)(j:t4 e=false)(v:∀q,i=some q->PE X e (dE X.D δ q))
  (h:k7 (Re.thn i λ x c=>eW x c)=some g):PI X (.Tuple elts k d) (.Call (.Name "enumerate" p) [e] [] pos) (dI X.D δ g):=by
 cases b:i with
 | none=>rw[b]at h;cases h
 | some q=>
  rw[b]at h;have A:=v q b;cases q with
  | ok C F=>
   have f:k7 (eW C F)=some g:=h;unfold eW at f;split at f
   ·rename_i o E r;cases f;exact((λ n (w:PE X e n)=>Dl u s (T7 w W5 (w4 j)) j) _ A).weak λ σ H R' ⟨O,W,R,p⟩=>⟨O,W,R,λ x I s1 y=>by
     obtain⟨a,m,B,l,z⟩:=Dd r y (R.hid.mono s1);exact⟨o,a,by rw[B],⟨m,t6.sqd l⟩,p _ I s1 (.enum ((M1 Db).sqd l) (z.mono (M1 Dc)))⟩⟩
   ·cases f
theorem rS{l:ge Jg}{ns:ge Int}(h:IntsAre l ns):∀i,i<ns.length->∃t,l.getD i .none=.int (ns.getD i 0) t:=by
 induction h with
 | nil=>intro i hi;exact absurd hi (Nat.not_lt_zero _)
 | cons n t _ ih=>
  intro i hi;cases i with
  | zero=>exact⟨t,rfl⟩
  | succ i=>exact ih i (by simpa using hi)
theorem cw{X:Cx}{pins:ge (Ji×Obj)}{H H':Hp}{b:Ji}(f:FpOk X pins H b)(h:H' b=none):FpOk X pins H' b:=⟨h,f.2⟩
theorem rT{st:SortSt}(I:JM pins)(u:FpOk X pins H D)(r:FpOk X pins H kS)(i:kS≠D)(n:s.heap.get? kS=some (seqObj "list" a e))(p:s.heap.get? D=some (seqObj "list" #[] l))(hz:a.size<=64)(hl:(putIx .none ix us).length<=64)
  (m:(arrOf st).map (·.2)=(putIx .none ix us).toArray) (j:failedOf st=none)
  (h:∀g c,Inv X pins σ H g->g.heap.get? D=some (seqObj "list" (putIx .none ix us).toArray c)->P (.done (.ret .none)) g):wpAny JE A (ksk_tail D false l (.ref kS) st) P E s:=by
 unfold ksk_tail;dsimp only;refine d4 (bx n rfl ?_ (by rw[G8];omega) (v9 _));have s1:=G4 s.heap kS (Obj.mapSeq λ _=>(#[]:Jl Jg));have d:=(s1.2 D i.symm).trans p;refine d4 (wpAny_letGo ?_);refine d4 (seqEpoch_at d rfl ?_);rw[m];simp[K6,if_false];refine d4 (bx d rfl ?_ (v9 _) (by rw[r3,G8];omega));rw[j];simp[bne_self_eq_false,K6,if_false];refine d9 (h _ _ (I.turnedL (ch:=[kS,D]) (λ b o f q=>?_) λ b f=>?_) (get?_update_seq d λ _=>(putIx Value.none ix us).toArray))
 ·have k:b≠kS:=λ z=>f (by rw[z];exact i5 ..);rw[(G4 _ D _).2 b (λ z=>f (by rw[z];exact i7 _ (i5 ..))),s1.2 b k];exact q
 ·rcases g5.mp f with rfl | f
  ·exact r
  ·rw[r9.mp f];exact u
theorem Dp(I:JM pins)(F:FpOk X pins H D)(B:FpOk X pins H kS)(v:kS≠D)(y:s.heap.get? kS=some (seqObj "list" a e))(z:s.heap.get? D=some (seqObj "list" #[] L))(w:IntsAre a.toList kz)(b:kz.length=us.length)(x:us.length<64)(k:O4 kz=some ix)
  (h:∀d c,Inv X pins σ H d->d.heap.get? D=some (seqObj "list" (putIx .none ix us).toArray c)->ix.length=us.length->P (.done (.ret .none)) d):wpAny JE A (ksk_end D false us.toArray L (.ref kS) a) P E s:=by
 have o:a.toList.length=us.length:=by rw[w.length,b]
 have f:a.size=us.length:=by rw[←o,w6]
 have item:∀i,(PySem.W.kas_item (a.toList.toArray.zip us.toArray) i).2=us.getD i .none:=λ i=>by
  unfold PySem.W.kas_item;rw[R8,p5];by_cases n:i<us.length
  ·rw[K3 (by simp[f];omega)];simp[j6 n]
  ·rw[K5 (by simp;omega),S4 Jy];rfl
 unfold ksk_end;dsimp only;simp only[K6,if_false];unfold O4 at k;by_cases m:us.toArray.size<2
 ·rw[d8 m,d8 m];rw[r3]at m;rw[d8 Jy]at k;cases k;refine d4 (d9 ?_);rw[StateT.run_pure];refine d4 (d9 ?_);dsimp;have K:putIx Value.none (JJ kz.length) us=us:=by unfold putIx;apply List.ext_getElem (by simp[b]);intro i R m;simp[j6 m]
  refine rT I F B v y z Jy (by rw[K];omega) ?_ rfl λ d c J g=>h d c J g (by simp[b]);rw[K];show(a.zip us.toArray).map (·.2)=us.toArray;apply Array.ext (by simp[f]);intro i R m;simp
 ·rw[e8 m,e8 m];rw[r3]at m;rw[e8 Jy]at k;obtain⟨p,M,r⟩:=p9.mp k;rw[ksk_kind w (by rw[f];omega)];refine d4 (d9 ?_);have W:a.zip us.toArray=a.toList.toArray.zip us.toArray:=by simp
  rw[W];refine d4 (B1 (PySem.W.kat_run (Q:=λ l d=>ix.length=us.length/\(arrOf l).map (·.2)=(putIx .none ix us).toArray/\failedOf l=none/\d=s) (G:=λ q d=>q=p/\d=s)
   o Jy x (λ q l d a1 a2 Z Y=>?_) (qa (λ i j C n N O=>?_) ⟨rfl,rfl⟩ _ (by rw[←b];exact M))) ?_ λ _ _ e=>e)
  ·obtain⟨rfl,rfl⟩:=Y;refine⟨by rw[←r,w6];exact a1,?_,Z,rfl⟩;rw[a2,←r];apply Array.ext';unfold putIx;simp only[Array.toList_map,k6];exact D2 λ i _=>item i
  ·show wpAny _ A _ C _ s;obtain⟨t,U⟩:=rS w i n;obtain⟨u,S⟩:=rS w j N;rw[U,S];exact PySem.W.kat_lt_int O
  ·rintro⟨⟨⟩,l⟩ d ⟨b1,b2,b3,rfl⟩
   dsimp;exact rT I F B v y z Jy (by unfold putIx;rw[d7];omega) b2 b3 λ d c J g=>h d c J g b1
theorem Dq(I:JM pins)(fD:FpOk X pins H D)(fk:FpOk X pins H kS)(hne:kS≠D)(hk:s.heap.get? kS=some (seqObj "list" #[] 0))(hD:s.heap.get? D=some (seqObj "list" #[] e1))(rv:Vals vs us)(hlen:kz.length=us.length)(h64:us.length<64)(hix:O4 kz=some ix)
  (turn:∀(i:Nat) (v:V) (u:Jg) (k:Int),vs[i]? = some v->RelV v u->kz[i]? = some k->∀pins' s' H',Inv X pins' σ H' s'->Same H H'->wpAny JE A (call (.ref f) [u]) (EP X pins' σ (λ w H''=>w=.int k/\Same H' H'')) (λ _ _=>False) s')
  (h:∀s' H' c,Inv X pins σ H' s'->Same H H'->H' D=none->s'.heap.get? D=some (seqObj "list" (putIx .none ix us).toArray c)->ix.length=us.length->P (.done (.ret .none)) s'):wpAny JE A (ksk_rest D (.ref f) false us.toArray e1 (.ref kS)) P E s:=by
 unfold ksk_rest;refine d4 (au ?_)
 first
  | rw[List.forIn_toArray]
  | (rw[←Array.forIn_toList];simp only[List.toList_toArray])
  | rw[←Array.forIn_toList]
 refine d4 (ksk_fold (λ i s'=>∃H' kA e,Inv X pins σ H' s'/\Same H H'/\H' D=none/\H' kS=none/\s'.heap.get? kS=some (seqObj "list" kA e)/\s'.heap.get? D=some (seqObj "list" #[] e1)/\IntsAre kA.toList (kz.take i)) us 0 s
  ⟨H,#[],0,I,Same.refl H,fD.1,fk.1,hk,hD,by simpa using IntsAre.nil⟩ ?step ?done)
 case step=>
  rintro j x s' hx ⟨H',kA,e,I',sm,nD,nk,gk,gD,hi⟩
  simp only[T5]at hi ⊢;have hj:j<us.length:=(x8.mp hx).1;obtain⟨k,hkj⟩:∃k,kz[j]? = some k:=⟨_,j6 Jy⟩;have hvj:j<vs.length:=by rw[rv.length];exact hj
  obtain⟨v,hv⟩:∃v,vs[j]? = some v:=⟨_,j6 hvj⟩;obtain⟨u,hu,ru⟩:=rv.get hv;rw[hx]at hu;cases hu;have hz:kA.size<=us.length:=by have h1:=hi.length;rw[w6,E6]at h1;omega
  have Ip:=I'.pinned (fp:=[kS,D]) (λ b hb=>by
   rcases g5.mp hb with rfl | hb
   ·exact cw fk nk
   ·rw[r9.mp hb];exact cw fD nD) (λ b hb=>by
   rcases g5.mp hb with rfl | hb
   ·exact⟨_,gk,λ v z=>by cases z⟩
   ·rw[r9.mp hb];exact⟨_,gD,λ v z=>by cases z⟩)
  refine d4 (Q0 (B1 (turn j v x k hv ru hkj _ s' H' Ip sm) (λ y s'' he=>?_) λ _ _ hF=>hF.elim));obtain⟨w,H'',I'',r,rfl,sm'⟩:=he;obtain⟨t,rfl⟩:=r;dsimp only;obtain⟨qk,nk',_⟩:=I''.pin _ (v4 _ (v4 _ (aw (i5 ..) gk)));obtain⟨qD,nD',_⟩:=I''.pin _ (v4 _ (v4 _ (aw (i7 _ (i5 ..)) gD)));have s1:=G4 s''.heap kS (Obj.mapSeq (·.push (.int k t)));have ek:kz.take (j+1)=kz.take j++[k]:=by rw[List.take_add_one,hkj];simp
  have ea:(kA.push (Value.int k t)).toList=kA.toList++[Value.int k t]:=by simp
  refine d4 (bx qk rfl ?_ (by rw[G8];omega) (e9 (Nat.le_of_eq (Array.size_push ..)) (by rw[G8];omega)));refine d9 ⟨rfl,H'',kA.push (.int k t),_,I''.unpinned.turnedL (t':=s''.toks) (ch:=[kS]) (λ b o hb q=>?_) (λ b hb=>?_),sm.trans sm',nD',nk',get?_update_seq qk (·.push (.int k t)),(s1.2 D (Ne.symm hne)).trans qD,by rw[ea,ek];exact ksk_snoc hi⟩
  ·rw[s1.2 b λ z=>hb (by rw[z];exact i5 ..)];exact q
  ·rw[r9.mp hb];exact cw fk nk'
 case done=>
  rintro s' ⟨H',kA,e,I',sm,nD,nk,gk,gD,hi⟩
  have hi':IntsAre kA.toList kz:=(by rw[dt Jy]at hi;exact hi);refine d4 (eM gk rfl ?_);exact Dp I' (cw fD nD) (cw fk nk) hne gk gD hi' hlen h64 hix λ s2 c J g hl=>h s2 H' c J sm nD g hl
theorem Dr(I:JM pins)(Y:SqL X.K H a vs)(R:kz.length=vs.length)(h64:vs.length<64)(N:O4 kz=some ix)
  (turn:∀(i:Nat) (v:V) (u:Jg) (k:Int),vs[i]? = some v->RelV v u->kz[i]? = some k->∀p K y,Inv X p σ y K->Same H y->wpAny JE X.A.in1.in1 (call (.ref f) [u]) (EP X p σ (λ w P=>w=.int k/\Same y P)) (λ _ _=>False) K)
  (h:∀y q,Same H y->y q=none->Q (.ref q) (upd y q (.lst (putIx .non ix vs)))):wpAny JE X.A (call (.builtin "sorted") [.ref a] [(Str.ofString "key",.ref f)]) (EP X pins σ Q) E s:=by
 obtain⟨m,L,U,zl⟩:=I.list Y;have W:=L.length;refine call_function_entry_kw kind_sorted plain_sorted entry_sorted (ksk_s1 _ _) ?_
 unfold Builtin.«sorted»;refine d4 (d9 ?_);refine d4 (collect_list U.isList ?_ (by rw[G8];omega));refine d4 (iH ?_ (by rw[G8];omega));have z:((s.heap.push (seqObj "list" #[] 0)).update s.heap.objs.size (Obj.mapSeq (· ++ m.toArray))).objs.size=s.heap.objs.size+1:=(by rw[Heap.size_update,eN]);have r:(((s.heap.push (seqObj "list" #[] 0)).update s.heap.objs.size (Obj.mapSeq (· ++ m.toArray))).push (seqObj "list" m.toArray 0)).get? (s.heap.objs.size+1)=some (seqObj "list" m.toArray 0):=(by rw[←z];exact o4 _ rfl);have keep:∀b o,s.heap.get? b=some o->(((s.heap.push (seqObj "list" #[] 0)).update s.heap.objs.size (Obj.mapSeq (· ++ m.toArray))).push (seqObj "list" m.toArray 0)).get? b=some o:=λ b o q=>by have x:b<s.heap.objs.size:=j7 q;rw[Heap.get?_push_ne _ _ _ (by rw[z];exact o6 (K8 x)),Heap.get?_update_ne _ _ _ _ (o6 x),Heap.get?_push_ne _ _ _ (o6 x)];exact q
 show wpAny _ _ _ _ _ {s with heap:=((s.heap.push (seqObj "list" #[] 0)).update s.heap.objs.size (Obj.mapSeq (· ++ m.toArray))).push _};rw[z];refine d4 (C7 (wpAny_call_entry_kw slot_list_sort ⟨_,r,rfl⟩ entry_list_sort ?body (ksk_l1 _ _)))
 case body=>
  rw[ksk_t1];unfold ksk_tree;refine d4 (eM r rfl ?_);refine d4 (bx r rfl ?_ (by rw[r3,G8];omega) (v9 _));generalize O:((s.heap.push (seqObj "list" #[] 0)).update s.heap.objs.size (Obj.mapSeq (· ++ m.toArray))).push _=C at r keep ⊢;have M:C.objs.size=s.heap.objs.size+2:=by rw[←O,eN,z]
  have s1:=G4 C (s.heap.objs.size+1) (Obj.mapSeq λ _=>(#[]:Jl Jg));obtain⟨S,A⟩:∃S,(C.update (s.heap.objs.size+1) (Obj.mapSeq λ _=>(#[]:Jl Jg))).get? (s.heap.objs.size+1)=some _:=⟨_,get?_update_seq r λ _=>#[]⟩;refine d4 (seqEpoch_at A rfl ?_);refine d4 (iE ?_ (by show m.length<=_;rw[G8];omega));refine d4 (iH ?_ (v9 _));refine C7 ?_;have B:((C.update (s.heap.objs.size+1) (Obj.mapSeq λ _=>(#[]:Jl Jg))).push (seqObj "tuple" m.toArray 0)).objs.size=s.heap.objs.size+3:=by rw[eN,Heap.size_update,M]
  have I1:Inv X pins σ H {s with heap:=((C.update (s.heap.objs.size+1) (Obj.mapSeq λ _=>(#[]:Jl Jg))).push (seqObj "tuple" m.toArray 0)).push (seqObj "list" #[] 0)}:=I.kept (t':=s.toks) λ b o q=>by have x:b<s.heap.objs.size:=j7 q;refine g9 _ (g9 _ ?_);rw[s1.2 b (o6 (K8 x))];exact keep b o q
  have F:∀n,H (s.heap.objs.size+n)=none:=λ n=>I.hok.fresh (V7 _ _);refine Dq I1 (I.fpOk (Q4 _) (F 1)) (by rw[B];exact I.fpOk (V7 _ _) (F 3)) (by rw[B];exact Q1 (Nat.add_lt_add_left Jz _)) (o4 _ rfl)
   (g9 _ (g9 _ A)) L Jy Jy N turn λ K y c J sm nD g Z=>⟨_,rfl,?_⟩
  refine d9 ⟨_,rfl,.ref _,upd y (s.heap.objs.size+1) _,?_,rfl,h y _ sm nD⟩;refine J.track nD ?_ (I.fpOk (H':=H) (Q4 _) (F 1)).2.1 (I.fpOk (H':=H) (Q4 _) (F 1)).2.2.2.2.1 (I.fpOk (H':=H) (Q4 _) (F 1)).2.2.2.2.2 ⟨by unfold putIx;rw[d7,Z,G8];omega,putIx .none ix m,c,L.putIx ix,g⟩;exact Z4 (e9 I.sz (Q4 _))
section
variable {X:Cx} {δ:ge Sv} {ea bd:Jk} {pos p lp kp:Pos} {re:Re} {k:Nat} {x:Str} {pr:Jv} {sc:Ju} {c P:Ji} {m:LamD} {cs:ge DV} {fr:ge Nat} {pins:ge (Ji×Obj)} {σ:St} {H:Hp} {s:Jh} {O W:ge Ji} {f:Ji}
theorem Ds(I:JM pins)(L:LamAt X sc c P)(T:LamTx m.N (m.N.take m.np) sc)(hcor:X5 m pr bd sc=true)(hN:m.N.length=m.np+fr.length)(hslot:∀(j i:Nat),fr[j]? = some i->∃y,m.N[m.np+j]? = some y/\X.N[i]? = some y/\(X.env.kindOf y=some .cell\/X.env.kindOf y=some .free))
  (hcap:capD δ fr=some cs) (R:RSt X.D H σ δ O W) (lf:M0 H (X.env.qual ++ "<lambda>") pr bd sc (n9 X.env.cells sc.names []) f):Rep X.D (L2.wo (O++W) (trC ((n9 X.env.cells sc.names []).map (·.2)) s.heap H)) (.lam m cs) (.ref f):=by
 generalize hl:(n9 X.env.cells sc.names []).map (·.2)=l;have Ce:=Cells.of (sc:=sc) I (L.has I.ok);rw[hl]at Ce;have S:=T.full I (L.has I.ok);rw[hl]at S;obtain⟨ws,w1,w2,w3⟩:=rG R hcap;have same:=Ce.same;have hdA:=R.hid.hdA;have ou:∀{b:Ji} {o:Obj} {u:HO},H b=some (.frz o u)->b∉O++W:=λ {b o u} e z=>by obtain⟨o',q1,q2⟩:=hdA b z;rw[e]at q1;cases q1;cases q2
 have oc:∀{b:Ji},b∈l->b∉O++W:=λ {b} hb z=>by obtain⟨o',q1,q2⟩:=hdA b z;rw[Ce.none b hb]at q1;cases q1
 refine jV.mpr ⟨f,pr,bd,sc,X.env.qual ++ "<lambda>",n9 X.env.cells sc.names [],l,ws,rfl,?_,hcor,S,w2.mono same.wo,by rw[hN,w1],λ c hc=>?_,λ i y v h1 h2=>?_⟩
 ·obtain⟨c',oc',u,vs,t,pm,ctv,h1,h2,h3⟩:=lf;exact⟨c',oc',u,vs,t,pm,ctv,by rw[i8 (ou h1)];exact same _ _ h1,by rw[i8 (ou h2)];exact same _ _ h2,h3⟩
 ·obtain⟨o,v,g,d'⟩:=Ce.cel c hc;exact⟨o,v,by rw[i8 (oc hc)];exact fT hc g,d'⟩
 ·have hi:i<fr.length:=by rw[←w1];exact(x8.mp h2).1
  have hj:fr[i]? = some fr[i]:=j6 hi;obtain⟨y',q1,q2,q3⟩:=hslot i _ hj;rw[h1]at q1;cases q1;have hv:=w3 i _ v hj h2;obtain⟨mm,hn',hl'⟩:=I.loc;obtain⟨u,rv,lk⟩:=hl' _ y v q2 hv (.inr q3);rcases lk with⟨k1,_⟩ | ⟨k1,cc,k2,o,k3,k4⟩
  ·have k1:X.env.kindOf y=some .local:=k1;rcases q3 with q3 | q3<;>(rw[q3]at k1;cases k1)
  ·have hfre:(y,NameKind.free)∈sc.names:=D1 (T.fre (m.np+i) y (by rw[E6];exact e9 (Nat.min_le_left _ _) (V7 _ _)) h1);have hcl:=rD (L.has I.ok) hfre k2;have hcc:cc∈l:=S.mem y cc hcl;exact⟨cc,o,u,hcl,by rw[i8 (oc hcc)];exact fT hcc k3,k4,rv⟩
theorem Dt{F:Nat->ge DV->on Ou}(I:JM h)(lo:aH X.prog X.w X.K X.mg X.base fn bl cl k (F B2))(hr:RoomL k A)(hA:A.frames=X.A.frames)(h1:m.fn=fn)(h2:m.bl=bl)(h3:m.cl=cl)
  (L:LamAt X sc c P) (T:LamTx m.N (m.N.take m.np) sc) (B:∀{h:ge (Ji×Obj)} {σ:ge (on V)} {H:Hp} {s:Jh},Inv X h σ H s->∀c∈(n9 X.env.cells sc.names []).map (·.2),X.base.get? c=none/\c∉frs X.stack) (C:X5 m S bd sc=true) (hN:m.N.length=m.np+fr.length) (x:∀(j i:Nat),fr[j]? = some i->∃y,m.N[m.np+j]? = some y/\X.N[i]? = some y/\(X.env.kindOf y=some .cell\/X.env.kindOf y=some .free))
  (E:capD δ fr=some cs) (R:RSt X.D H σ δ O W) (lf:M0 H (X.env.qual ++ "<lambda>") S bd sc (n9 X.env.cells sc.names []) f) (Z:Rep X.D (L2.wo (O++W) H) d v) (Y:RelV v u) (hF:F B2 [.lam m cs,d]=some (.v (.int n) false)) :
  wpAny JE A (call (.ref f) [u]) (EP X h σ (λ w Q=>w=.int n/\Same H Q)) (λ _ _=>False) s:=by
 have lamR:=Ds I L T C hN x E R lf;generalize U:(n9 X.env.cells sc.names []).map (·.2)=l at lamR;have J:=Cells.of I (L.has I.ok);rw[U]at J;have M:=B I;rw[U]at M;have same:=J.same;have q:=I.env0;have e1:Env0 X.prog X.w X.K X.mg X.base A X.stack s H:=⟨hA.trans q.frames,q.mod,q.bs,q.bsz,q.funs,q.frf,q.hok,q.bare⟩;refine wpAny_call (Q2 (lo A X.stack s _ [u] [v] (λ v K=>Same (trC l s.heap H) K/\v=.int n) (λ _ _ _=>False) (O++W) f m cs [d] _ hr (Env0.trC J (λ c N=>(M c N).1) (λ c N=>(M c N).2) e1) (.cons Y .nil) (λ a ha=>?_) h1 h2 h3 lamR (RepL.one (Z.mono same.wo)) hF λ v K sm g=>⟨sm,u6.mp g⟩) λ r s' p=>?_)
 ·obtain⟨o,q1,q2⟩:=R.hid.hdA a ha;exact⟨o,same _ _ q1,q2⟩
 ·cases r with
  | error e=>exact(p:False).elim
  | ok fl=>
   cases fl with
   | ret u=>
    refine I.after (CE.trC J p (λ v K sm z=>⟨z.2,λ b o e=>?_⟩) λ v K z=>z.1);rw[i8 λ w=>by rw[J.none b w]at e;cases e];exact sm _ _ (same _ _ e)
   | next=>exact False.elim p
   | brk=>exact False.elim p
   | cont=>exact False.elim p
theorem rV:∀{b:ge DV} {a:ge Int},Q6 F mm b=some a->a.length=b.length/\∀(i:Nat) d n,b[i]? = some d->a[i]? = some n->F B2 [mm,d]=some (.v (.int n) false)
 | [],a,h=>by cases h;exact⟨rfl,λ i d n h=>by cases h⟩
 | d::r,a,h=>by
  unfold Q6 at h;split at h
  ·rename_i n e;obtain⟨l,m,rfl⟩:=p9.mp h;obtain⟨j,g⟩:=rV m;refine⟨by rw[n7,n7,j],λ i o k f c=>?_⟩;cases i with
   | zero=>cases f;cases c;exact e
   | succ i=>exact g i o k f c
  ·cases h
def QK(X:Cx)(δ:ge Sv)(F:Nat->ge DV->on Ou)(m:LamD)(cs:ge DV)(pr:Jv)(bd:Jk)(sc:Ju)(σ:St)(Q:VK):ge V->Hp->Prop:=λ vs H1=>∃va,vs=[va]/\∀f H2,Same H1 H2->H1 f=none->M0 H2 (X.env.qual ++ "<lambda>") pr bd sc (n9 X.env.cells sc.names []) f ->
 ∃O W a xs ds ks ix,va=V.ref a/\RSt X.D H2 σ δ O W/\SqL X.K H2 a xs/\RepL X.D (L2.wo (O++W) H2) ds xs/\ds.length<64/\Q6 F (.lam m cs) ds=some ks/\O4 ks=some ix/\∀H' q,Same H2 H'->H' q=none->Q (.ref q) (upd H' q (.lst (L2.putIx .non ix xs)))
theorem Du(lo:aH X.prog X.w X.K X.mg X.base fn bl cl k (F B2))(hr:Room k X.A)(h1:m.fn=fn)(h2:m.bl=bl)(h3:m.cl=cl)(hg:Gl X "sorted")(hm:X.mg "sorted" = none)(E:t4 ea=false)
  (L:LamAt X sc c P) (S:defaultsOf pr X.env=([],[])) (T:LamTx m.N (m.N.take m.np) sc) (N:∀{b:ge (Ji×Obj)} {d:ge (on V)} {H:Hp} {s:Jh},Inv X b d H s->∀c∈(n9 X.env.cells sc.names []).map (·.2),X.base.get? c=none/\c∉frs X.stack) (U:X5 m pr bd sc=true) (hN:m.N.length=m.np+fr.length) (B:∀(j i:Nat),fr[j]? = some i->∃y,m.N[m.np+j]? = some y/\X.N[i]? = some y/\(X.env.kindOf y=some .cell\/X.env.kindOf y=some .free))
  (Y:capD δ fr=some cs) (ha:PE X ea (dE X.D δ ra)) (h:(Re.thn (some ra) λ x cx=>srtL F (.lam m cs) x cx)=some re):PE X (.Call (.Name "sorted" p) [ea] [⟨some "key",.Lambda pr bd sc lp,kp⟩] pos) (dE X.D δ re):=by
 have C:∀{ta:TE},PE X ea ta->PE X (.Call (.Name "sorted" p) [ea] [⟨some "key",.Lambda pr bd sc lp,kp⟩] pos) (λ d H Q=>iT ta tNil d H (QK X δ F m cs pr bd sc d Q)):=λ {ta} A=>by
  intro b s d H Q I h;refine bj (W4 I hg hm boot_sorted ?_ Jz Jz);refine PyProof.Rows.callWith_kw (thn (T7 A (W5 (X:=X)) (w4 E) pos b s d H _ I h) λ us s1 ⟨vs,H1,I1,r1,q1⟩=>?_) (by rw[w4 E];rfl) (by rw[w4 E];rfl);obtain⟨va,rfl,q1⟩:=q1;refine thn (yj (nm:=some "key") (kpos:=kp) (CQ (bd:=bd) (lp:=lp) L S) (yi (X:=X)) pos b s1 d H1 (λ ws g=>∃f,ws=[.ref f]/\M0 g (X.env.qual ++ "<lambda>") pr bd sc (n9 X.env.cells sc.names []) f/\∃O W a r o M K,va=V.ref a/\RSt X.D g d δ O W/\SqL X.K g a r/\RepL X.D (L2.wo (O++W) g) o r/\o.length<64/\Q6 F (.lam m cs) o=some M/\O4 M=some K/\∀H' q,Same g H'->H' q=none->Q (.ref q) (upd H' q (.lst (L2.putIx .non K r)))) I1
   (λ f g sm hn lf=>⟨f,rfl,lf,q1 f g sm hn lf⟩)) λ ws s2 t0=>?_;obtain⟨zs,g,I2,rz,f,e,lf,O,W,a,r,o,M,K,e',R,sq,rl,a3,hk,J,hq⟩:=t0
  subst e e';obtain⟨u1,rfl,a1⟩:=L5 r1;obtain⟨u2,rfl,a0⟩:=L5 rz;obtain rfl:u1=Value.ref a:=a1;obtain rfl:u2=Value.ref f:=a0;show wpAny _ X.A _ _ X.xe s2;obtain⟨k1,k2⟩:=rV hk;refine Dr I2 sq (by rw[k1,rl.length]) (by rw[rl.length];exact a3) J (λ i v u n hv ru hn a2 s' H' I' sm=>?_) hq;have hi:i<o.length:=by rw[←rl.length];exact(x8.mp hv).1
  have hd:=j6 hi;obtain⟨v',e1,rp⟩:=rl.get hd;rw[hv]at e1;cases e1;exact Dt I' lo hr.toL2 rfl h1 h2 h3 L T N U hN B Y (R.mono sm) (lf.mono sm) (rp.mono sm.wo) ru (k2 i _ n hd hn)
 cases ra with
 | ok dx cx=>
  have l:srtL F (.lam m cs) dx cx=some re:=h;unfold srtL at l;split at l
  ·rename_i o;split at l
   ·rename_i z;obtain⟨M,hk,l⟩:=p6.mp l;obtain⟨K,J,rfl⟩:=p9.mp l;refine(C ha).weak λ d H Q ⟨O,W,R,p⟩=>⟨O,W,R,λ va H1 s1 g1=>⟨va,rfl,λ f g s2 hn lf=>?_⟩⟩
    have w:=s1.trans s2;obtain⟨a,r,e1,e2,e3⟩:=g1.lstC (R.hid.mono s1);have Z:RepL X.D (L2.wo (O++W) H1) o r:=by
     cases cx with
     | strong=>exact e3
     | fresh=>exact e3
     | weak=>cases z.1
     | top=>exact e3
    refine⟨O,W,a,r,o,M,K,e1,R.mono w,SqL.of (s2 _ _ e2),Z.mono s2.wo,z.2,hk,J,λ H' q sm hq=>p _ _ ((w.trans sm).trans (u9 hq)) ?_⟩;exact P0 (R.hid.mono (w.trans sm)) hq ((Z.mono (s2.trans sm).wo).putIx K)
   ·cases l
  ·cases l
end
noncomputable def dEnd(D:Dm)(H0:Hp)(O:ge Ji)(Dn:Ends):Out->Prop
 | .nx δ=>∀σ H W,RSt D H σ δ O W->(∀a∈W,H0 a=none)->Same H0 H->Dn.nx σ H
 | .rt d fr=>∀v H,Same H0 H->GotR D O H0 H d fr v->Dn.rt v H
def dS(D:Dm)(δ:ge Sv)(o:Out):TS:=λ Dn σ H=>∃H0 O W,RSt D H σ δ O W/\(∀a∈W,H0 a=none)/\(∀a∈O,H0 a≠none)/\Same H0 H/\dEnd D H0 O Dn o
theorem Dv:PSs X [] (dS X.D δ (.nx δ)):=xj.weak λ Dn a H ⟨H0,O,W,R,b,fo,sm,k⟩=>k a H W R b sm
theorem Dw{rest:ge Jq}(g:PS X c (dS X.D δ (.nx δ1)))(f:PSs X rest (dS X.D δ1 o)):PSs X (c::rest) (dS X.D δ o):=
 (oa g f).weak λ Dn σ H ⟨d,O,W,R,h,fo,sm,k⟩=>⟨d,O,W,R,h,fo,sm,λ e H' i j b a=>⟨d,O,i,j,b,fo,a,k⟩⟩
theorem Dx{rest:ge Jq}(b:PS X a (dS X.D δ (.rt d fr))):PSs X (a::rest) (dS X.D δ (.rt d fr)):=
 (oa b iQ).weak λ Dn σ H ⟨c,O,W,R,fr,fo,sm,k⟩=>⟨c,O,W,R,fr,fo,sm,k⟩
theorem Dy(n:∀q,e=some q->PT X c (dT X.D δ q))(r:∀q,l=some q->PSs X body (dS X.D δ q))(p:∀q,j=some q->PSs X d (dS X.D δ q))(h:(Rt.thnS δ e λ k=>if k then l else j)=some o):PS X (.If c body d pos) (dS X.D δ o):=by
 cases a:e with
 | none=>rw[a]at h;cases h
 | some q=>
  rw[a]at h;have C:=n q a;cases q with
  | ok b=>
   cases b with
   | true=>
    have f:=h;exact(og C (r o f) iQ).weak λ u m H ⟨i,O,W,R,g,fo,sm,k⟩=>⟨O,W,R,λ s s1=>iteT ⟨i,O,W,R.mono s1,g,fo,sm.trans s1,k⟩⟩
   | false=>
    have f:=h;exact(og C iQ (p o f)).weak λ u m H ⟨i,O,W,R,g,fo,sm,k⟩=>⟨O,W,R,λ s s1=>iteF ⟨i,O,W,R.mono s1,g,fo,sm.trans s1,k⟩⟩
theorem Dz(w:∀q,j=some q->PE X e (dE X.D δ q))(h:(Re.thnS δ j λ d c=>some (retD d c))=some o):PS X (.Return (some e) pos) (dS X.D δ o):=by
 cases f:j with
 | none=>rw[f]at h;cases h
 | some q=>
  rw[f]at h;have A:=w q f;cases q with
  | ok d cl=>
   have x:=h;cases x;refine(oe A).weak λ J σ H ⟨I,O,W,R,y,fo,sm,k⟩=>⟨O,W,R,λ v F s1 g=>(k:dEnd X.D I O J _) v F (sm.trans s1) ?_⟩;cases l:frD d cl with
   | false=>exact g.weak (R.hid.mono s1)
   | true=>
    unfold frD at l;split at l
    ·obtain⟨p,i,E,s,r,n,C,B⟩:=g;exact⟨p,i,E,s,r,sm.free n,C,B.mono (M1 λ b m=>by rcases g5.mp m with z | z;exact g5.mpr (.inl z);exact i7 _ (B6 _ z))⟩
    ·obtain⟨a,i,s,u,r,n⟩:=g;exact⟨a,i,_,s,rfl,y a u,t6 _ _ r,n.mono (M1 λ b m=>by rcases g5.mp m with z | z;rw[z];exact v4 _ u;exact B6 _ z)⟩
    ·cases l
theorem cA(h:N2 v=false):swapsWith v t l env=pure false:=by
 cases v<;>first | rfl | cases h
theorem DA(i:∀q,b=some q->PE X e (dE X.D δ q))(f:N2 e=false)(h:(Re.thnS δ b λ _ _=>some (.nx δ))=some o):PS X (.Expr e pos) (dS X.D δ o):=by
 cases a:b with
 | none=>rw[a]at h;cases h
 | some q=>
  rw[a]at h;have A:=i q a;cases q with
  | ok d cl=>cases h;exact(iP A (cA f)).weak λ Dn c H ⟨H0,O,W,R,j,fo,sm,k⟩=>⟨O,W,R,λ v l s1 g=>k c l W (R.mono s1) j (sm.trans s1)⟩
theorem cC:b∈O++p::W↔b∈p::(O++W):=by
 simp[A5,g5];constructor
 ·rintro(h | h | h)
  ·exact .inr (.inl h)
  ·exact .inl h
  ·exact .inr (.inr h)
 ·rintro(h | h | h)
  ·exact .inr (.inl h)
  ·exact .inl h
  ·exact .inr (.inr h)
theorem G2{l:ge c}(h:(l.set i a)[j]? = some b)(d:a≠b):j≠i:=λ z=>by
 subst z;have e:j<l.length:=by have:=(x8.mp h).1;rw[B0]at this;exact this
 rw[K4 e]at h;exact d (A9 h)
theorem X9{l:ge c}(h:(l.set i a)[i]? = some b):i<l.length/\a=b:=by
 have d:=(by have:=(x8.mp h).1;rw[B0]at this;exact this);rw[K4 d]at h;exact⟨d,A9 h⟩
theorem RSt.alloc(R:RSt D H σ δ O W)(s:Same H H')(E:H p=none)(g:H' p=some (.lst xs))(r:RepL D (L2.wo (p::(O++W)) H') ds xs)(i:Nat) :
  RSt D H' (σ.set i (some (.ref p))) (δ.set i (.own (.lst ds))) O (p::W):=by
 have f:Same _ (L2.wo (O++p::W) H'):=λ b o e=>by obtain⟨F,e⟩:=x6 e;rw[i8 (λ z=>by rcases g5.mp (cC.mp z)with z | z;exact A0 e E z;exact F z)];exact s b o e
 refine⟨λ j d h=>?_,λ j I h=>?_,λ j k a y Z S Q w u=>?_,R.od.step f (jY _ (by intro d z;cases z)) (λ _ h _=>i7 _ h) (λ a N _ h _=>s _ _ h),by rw[B0,B0];exact R.len,⟨λ a n=>?_,Same.refl _,λ a n=>?_,λ a n=>?_,R.hid.omS s⟩⟩
 ·have c:=G2 h JI;rw[p7 (Ne.symm c)]at h ⊢;obtain⟨v,w,u⟩:=R.val j d h;exact⟨v,w,u.mono f⟩
 ·by_cases c:j=i
  ·subst c;obtain⟨P,e⟩:=X9 h;cases e;exact⟨p,xs,ds,rfl,K4 (by rw[R.len];exact P),i5,g,r.mono (M1 λ b F=>cC.mp F)⟩
  ·rw[p7 (Ne.symm c)]at h ⊢;obtain⟨a,A,x,Y,w,u,X,U⟩:=R.own j I h;exact⟨a,A,x,Y,w,i7 _ u,s _ _ X,U.mono f⟩
 ·have l:∀{j:Nat} {y:DV},(δ.set i (.own (.lst ds)))[j]? = some _->(σ.set i (some (.ref p)))[j]? = some (some (V.ref a))->(j=i/\a=p)\/(j≠i/\δ[j]? = some (.own y)/\σ[j]? = some (some (V.ref a))/\a≠p):=λ {j y} h e=>by
   by_cases c:j=i
   ·subst c;obtain⟨_,z⟩:=X9 e;cases z;exact .inl ⟨rfl,rfl⟩
   ·rw[p7 (Ne.symm c)]at h e;refine .inr ⟨c,h,e,λ z=>?_⟩;obtain⟨a',A,x,_,M,_,L,_⟩:=R.own j y h;rw[e]at M;cases M;rw[z,E]at L;cases L
  rcases l S w with⟨J,B⟩ | ⟨J,B,z3,z4⟩<;>rcases l Q u with⟨K,C⟩ | ⟨K,C,y3,y4⟩
  ·rw[J,K]
  ·exact absurd B y4
  ·exact absurd C z4
  ·exact R.inj j k a y Z B C z3 y3
 ·rcases g5.mp (cC.mp n)with z | z
  ·rw[z,g];intro q;cases q
  ·intro q;exact R.hid.ot a z (s.free q)
 ·rcases g5.mp n with z | z
  ·exact⟨_,by rw[z];exact g,rfl⟩
  ·obtain⟨A,q,m⟩:=R.hid.wl a z;exact⟨A,s _ _ q,m⟩
 ·rcases g5.mp n with z | z
  ·intro q;exact R.hid.ot p (B6 _ (by rw[←z];exact q)) E
  ·exact R.hid.dj a z
theorem RSt.write(R:RSt D H σ δ O W)(y:δ[i]? = some (.own (.lst ds)))(B:σ[i]? = some (some (.ref a)))(r:RepL D (L2.wo (O++W) H) l f) :
  RSt D (upd H a (.lst f)) σ (δ.set i (.own (.lst l))) O W:=by
 obtain⟨a',xs,Z,e0,K,J,Y,e4⟩:=R.own i _ y;rw[B]at K;cases K;have g:Same _ (L2.wo (O++W) (upd H a (.lst f))):=λ b o e=>by obtain⟨u,e⟩:=x6 e;rw[i8 u,j3 λ z=>u (by rw[z];exact v4 _ J)];exact e
 have hl:=(x8.mp y).1;refine⟨λ j d h=>?_,λ j p h=>?_,λ j k b I d2 X U s w=>?_,R.od.step g (Bo (by intro d z;cases z)) (λ _ h _=>h) (λ b S _ h m=>by rw[j3 (λ z=>by rw[z,Y]at h;cases h;cases m)];exact h),by rw[B0];exact R.len,⟨λ b u q=>?_,Same.refl _,λ b u=>?_,R.hid.dj,R.hid.omW (by assumption)⟩⟩
 ·have n:=G2 h JI;rw[p7 (Ne.symm n)]at h;obtain⟨v,s,w⟩:=R.val j d h;exact⟨v,s,w.mono g⟩
 ·by_cases n:j=i
  ·subst n;obtain⟨_,e⟩:=X9 h;cases e;exact⟨a,f,l,rfl,B,J,v6,r.mono g⟩
  ·rw[p7 (Ne.symm n)]at h;obtain⟨b,A,C,Q,s,w,P,N⟩:=R.own j p h;refine⟨b,A,C,Q,s,w,?_,N.mono g⟩;rw[j3 λ z=>n (R.inj j i a p _ h y (by rw[←z];exact s) B)];exact P
 ·have x:∀{j:Nat} {I:DV},(δ.set i (.own (.lst l)))[j]? = some _->∃d0,δ[j]? = some (.own d0):=λ {j I} h=>by
   by_cases n:j=i
   ·subst n;exact⟨_,y⟩
   ·rw[p7 (Ne.symm n)]at h;exact⟨I,h⟩
  obtain⟨F,M⟩:=x X;obtain⟨E,L⟩:=x U;exact R.inj j k b F E M L s w
 ·by_cases c:b=a
  ·rw[c,v6]at q;cases q
  ·rw[j3 c]at q;exact R.hid.ot b u q
 ·by_cases c:b=a
  ·exact⟨_,by rw[c];exact v6,rfl⟩
  ·obtain⟨A,q,m⟩:=R.hid.wl b u;exact⟨A,by rw[j3 c];exact q,m⟩
theorem Y0(h:Same c H)(d:c a=none):Same c (upd H a o):=λ b u e=>by
 rw[j3 (A0 e d)];exact h b u e
theorem rW{own:Bool}(h:(if own then bK i δ d cl else(if stro d cl then some (.nx (δ.set i (.val d)))else none))=some o)
  (R:RSt D H σ δ O W) (fr:∀a∈W,c a=none) (sm:Same c H) (k:dEnd D c O j o):∀v e,Same H e->Got D O W H e d cl v->j.nx (σ.set i (some v)) e:=λ v b s1 g=>by
 cases own with
 | true=>
  simp only[if_true]at h;unfold bK at h;split at h
  ·cases h;obtain⟨p,xs,ds,s,r,f,q,n⟩:=g;subst s r;exact k _ b (p::W) (R.alloc s1 f q n i) (λ a l=>by
    rcases g5.mp l with z | z
    ·rw[z];exact sm.free f
    ·exact fr a z) (sm.trans s1)
  ·split at h
   ·cases h;exact k _ b W ((R.mono s1).setVal (O8.mpr (O8.mp (g.weak (R.hid.mono s1)))) i) fr (sm.trans s1)
   ·cases h
 | false=>
  simp only[K6,if_false]at h;split at h
  ·rename_i m;cases h;exact k _ b W ((R.mono s1).setVal (g.stro (R.hid.mono s1) m) i) fr (sm.trans s1)
  ·cases h
theorem rX{X:Cx}{δ:ge Sv}{o:Out}{e:Jk}{pos pos':Pos}{ra:on Re}{i:Nat}{x:Str}{own:Bool}(hN:X.N.Nodup)(hi:X.N[i]? = some x)(hx:Loc X.env.scope x)(hf:X.fn x=true\/X.env.scope.names.lookup x=some .local)(ha:∀q,ra=some q->PE X e (dE X.D δ q))(hc:swapsWith e (some (.Name x pos')) pos.line X.env=pure false)
  (h:(Re.thnS δ ra λ d c=>if own then bK i δ d c else(if stro d c then some (.nx (δ.set i (.val d)))else none))=some o):PS X (.Assign [.Name x pos'] e pos) (dS X.D δ o):=by
 cases hra:ra with
 | none=>rw[hra]at h;cases h
 | some q=>
  rw[hra]at h;have A:=ha q hra;cases q with
  | ok d cl=>exact(iR hN hi hx A hc hf).weak λ Dn σ H ⟨H0,O,W,R,fr,fo,sm,k⟩=>⟨O,W,R,rW h R fr sm k⟩
theorem DB{X:Cx}{δ:ge Sv}{o:Out}{pos pos':Pos}{i:Nat}{x:Str}{own:Bool}{tgE iter elt:Jk}{ifs:ge Jk}{scope:Ju}{N':ge Str}{fr:ge (on Nat)}{tg:Tg}{re:Re}(S:CompScope X.N N' scope X.env.scope fr)(hc:X.calm=true)(hN:X.N.Nodup)(hi:X.N[i]? = some x)(hx:X.env.scope.names.lookup x=some .local)
  (P:U6 X δ tgE iter ifs elt scope N' fr tg re) (hG:∀C cells s₂ H₂ fp,PG (p8 X scope N' C cells s₂ H₂ fp) tgE (gT X.K tg)) (hset:F2 iter=false) {cpos:Pos} (hsw:swapsWith (.ListComp elt [⟨tgE,iter,ifs,0⟩] scope cpos) (some (.Name x pos')) pos.line X.env=pure true)
  (h:(Re.thnS δ (some re) λ d c=>if own then bK i δ d c else(if stro d c then some (.nx (δ.set i (.val d)))else none))=some o):PS X (.Assign [.Name x pos'] (.ListComp elt [⟨tgE,iter,ifs,0⟩] scope cpos) pos) (dS X.D δ o):=by
 obtain⟨wi,tc,te,h1,h2,h3,h4⟩:=P;refine(zc S hc hN hi hx h1 hG h2 h3 hsw (kU hset)).weak λ Dn σ H ⟨H0,O,W,R,fr,fo,sm,k⟩=>?_
 unfold tAsg;refine h4 σ H _ ⟨O,W,R,?_⟩;cases re with
 | ok d cl=>exact rW h R fr sm k
theorem DC(hv:PE X (.Name x b) (tVar i))(I:∀q,r=some q->PE X e (dE X.D δ q))(s:t4 e=false)(n:(j.endLine==f.line)=true)
  (h:(match δ[i]? with
   | some (.own (.lst p))=>Re.thnS δ r λ d c=>if stro d c/\p.length<j5 then some (.nx (δ.set i (.own (.lst (p++[d])))))else none
   | _=>none)=some o):PS X (.Expr (.Call (.Attribute (.Name x b) "append" j) [e] [] f) pos) (dS X.D δ o):=by
 split at h
 ·rename_i p y;cases l:r with
  | none=>rw[l]at h;cases h
  | some q=>
   rw[l]at h;have A:=I q l;cases q with
   | ok d cl=>
    have u:(if stro d cl/\p.length<j5 then some (Out.nx (δ.set i (.own (.lst (p++[d])))))else none)=some o:=h;split at u
    ·rename_i m;cases u;exact((λ t (J:PE X e t)=>iP (oV gS PySem.F.slot_list_append PySem.F.type_list_append yN hv (T7 J W5 (w4 s)) rfl (by rw[w4 s];rfl) n (w4 s) rfl) rfl) _ A).weak λ Dn F H ⟨H0,O,W,R,z,fo,sm,k⟩=>by obtain⟨a,w,M,L,E,K,C,B⟩:=R.own i _ y;cases L;refine⟨.ref a,E,.inl ⟨rfl,w,SqL.of C⟩,O,W,R,λ v H1 s1 g=>?_⟩;refine⟨a,w,v,rfl,rfl,s1 _ _ C,by rw[B.length];exact q9 m.2 Jz,?_⟩;exact k F _ W ((R.mono s1).write y E ((B.mono s1.wo).append (RepL.one (g.stro (R.hid.mono s1) m.1)))) z (Y0 (sm.trans s1) (z a K))
    ·cases u
 ·cases h
theorem DD(hv:PE X (.Name x b) (tVar i))(U:∀q,z=some q->PE X e (dE X.D δ q))(Q:∀q,w=some q->PE X l (dE X.D δ q))(E:L8 l=false)
  (h:(match δ[i]? with
   | some (.own (.lst s))=>Re.thnS δ z λ d c=>Re.thnS δ w λ k _=>(match k with
    | .int k=>(match A1 s.length k with
     | some j=>if stro d c then some (.nx (δ.set i (.own (.lst (s.set j d)))))else none
     | none=>none)
    | _=>none)
   | _=>none)=some o):PS X (.Assign [.Subscript (.Name x b) l f] e pos) (dS X.D δ o):=by
 have sub:∀v,assign (.Subscript (.Name x b) l f) X.env v=(do
   let ov ←holding [v] (eval (.Name x b) X.env)
   let iv ←holding [v,ov] (eval l X.env)
   standAt f
   holding [v,ov,iv] (setItem ov iv v)
   release [v,ov,iv] []):=by cases l<;>first | (intro _;rfl) | cases E
 have C:=λ t N (Z:PE X e t) (Y:PE X l N)=>ol (pos:=pos) Z (xo hv Y yH sub) (by cases e<;>rfl) (by cases e<;>rfl) rfl;split at h
 ·rename_i s F;cases p:z with
  | none=>rw[p]at h;cases h
  | some q=>
   rw[p]at h;have A:=U q p;cases q with
   | ok d cl=>
    cases n:w with
    | none=>rw[n]at h;cases h
    | some q=>
     rw[n]at h;have B:=Q q n;cases q with
     | ok dk ck=>
      have r:(match(generalizing:=false) dk with
       | .int k=>(match A1 s.length k with
        | some j=>if stro d cl then some (Out.nx (δ.set i (.own (.lst (s.set j d)))))else none
        | none=>none)
       | _=>none)=some o:=h
      split at r
      ·rename_i P;split at r
       ·rename_i j S;split at r
        ·rename_i m;cases r;exact(C _ _ A B).weak λ Dn L H ⟨H0,O,W,R,I,fo,sm,k⟩=>⟨O,W,R,λ v H1 s1 g=>by
          have u:=R.mono s1;obtain⟨a,M,ds0,e0,K,e2,e3,J⟩:=u.own i _ F;cases e0;refine⟨.ref a,K,O,W,u,λ y H2 s2 g2=>?_⟩;have R2:=u.mono s2;refine⟨a,M,P,j,rfl,g2.int (u.hid.mono s2),s2 _ _ e3,by rw[J.length];exact S,?_⟩;exact k L _ W (R2.write F K (RepL.set ((g.mono s2).stro ((R.hid.mono s1).mono s2) m) j (J.mono s2.wo))) I (Y0 ((sm.trans s1).trans s2) (I a e2))⟩
        ·cases r
       ·cases r
      ·cases r
 ·cases h
theorem Got.seq(g:Got D O W n H d c v)(m:Hid O W n H)(o:c=.strong\/c=.fresh)(f:M9 d=some (b,k)):∃a e,v=.ref a/\(SqL D.K H a e\/SqT D.K H a e)/\RepL D (L2.wo (O++W) H) k e:=by
 have l:c ≠ .weak:=by rcases o with z | z<;>(rw[z];intro q;cases q)
 unfold M9 at f;split at f
 ·cases f;obtain⟨a,e,j,i,h⟩:=g.items m l;exact⟨a,e,j,.inl (SqL.of i),h⟩
 ·cases f;obtain⟨a,e,j,i,h⟩:=g.itemsT m l;exact⟨a,e,j,.inr i,h⟩
 ·cases f
theorem DE(hv:PE X (.Name x f) (tVar i))(P:∀q,y=some q->PE X e (dE X.D δ q))(z:t4 e=false)(p:(l.endLine==j.line)=true)
  (h:(match δ[i]? with
   | some (.own (.lst u))=>Re.thnS δ y λ d c=>if c=.strong\/c=.fresh then(match M9 d with
    | some (_,s)=>if u.length+s.length<=j5 then some (.nx (δ.set i (.own (.lst (u++s)))))else none
    | none=>none)else none
   | _=>none)=some o):PS X (.Expr (.Call (.Attribute (.Name x f) "extend" l) [e] [] j) pos) (dS X.D δ o):=by
 split at h
 ·rename_i u E;cases n:y with
  | none=>rw[n]at h;cases h
  | some q=>
   rw[n]at h;have A:=P q n;cases q with
   | ok d cl=>
    have r:(if cl=.strong\/cl=.fresh then(match M9 d with
     | some (_,s)=>if u.length+s.length<=j5 then some (Out.nx (δ.set i (.own (.lst (u++s)))))else none
     | none=>none)else none)=some o:=h
    split at r
    ·rename_i B;split at r
     ·rename_i b s N;split at r
      ·rename_i m;cases r;exact((λ t (Q:PE X e t)=>iP (oV gS PySem.F.slot_list_extend PySem.F.type_list_extend Ah hv (T7 Q W5 (w4 z)) rfl (by rw[w4 z];rfl) p (w4 z) rfl) rfl) _ A).weak λ Dn M H ⟨H0,O,W,R,F,fo,sm,k⟩=>by obtain⟨a,C,ds0,Z,L,Y,K,J⟩:=R.own i _ E;cases Z;refine⟨.ref a,L,.inl ⟨rfl,C,SqL.of K⟩,O,W,R,λ v H1 s1 g=>?_⟩;obtain⟨a2,w,U,S,I⟩:=g.seq (R.hid.mono s1) B N;refine⟨a,a2,C,w,rfl,by rw[U],s1 _ _ K,S,by rw[J.length,I.length];exact e9 m Jz,?_⟩;exact k M _ W ((R.mono s1).write E L ((J.mono s1.wo).append I)) F (Y0 (sm.trans s1) (F a Y))
      ·cases r
     ·cases r
    ·cases r
 ·cases h
theorem DF(h:jU v=true):swappedStores [.Tuple b k p] v env=pure none:=by
 cases q:K0 v with
 | none=>cases v<;>first | rfl | cases q
 | some a=>
  obtain⟨k2,p2,rfl⟩:=bU q;have c:a.all _=true:=h;unfold swappedStores;simp only[c]
  repeat (first | rfl | split)
theorem DG(B:PG X (.Tuple m kk n) (gSeq X.K is.length (cu is)))(C:∀q,p=some q->PE X e (dE X.D δ q))(E:N2 e=false)(y:jU e=true)
  (h:(Re.thnS δ p λ d c=>if c=.strong\/c=.fresh then(match M9 d with
   | some (_,i)=>(O5 δ is i).map Out.nx
   | none=>none)else none)=some o):PS X (.Assign [.Tuple m kk n] e pos) (dS X.D δ o):=by
 cases a:p with
 | none=>rw[a]at h;cases h
 | some q=>
  rw[a]at h;have A:=C q a;cases q with
  | ok d cl=>
   have f:(if cl=.strong\/cl=.fresh then(match M9 d with
    | some (_,i)=>(O5 δ is i).map Out.nx
    | none=>none)else none)=some o:=h
   split at f
   ·rename_i r;split at f
    ·rename_i b i z;obtain⟨w,s,x⟩:=p9.mp f;subst x;exact((λ t (F:PE X e t)=>ol F B (by show swapsWith e (some (.Tuple m kk n)) pos.line X.env=pure false;exact cA E) (DF y) rfl) _ A).weak λ Dn σ H ⟨H0,O,W,R,I,fo,sm,k⟩=>⟨O,W,R,λ v N s1 g=>by
      obtain⟨L,l,K,J,u⟩:=g.seq (R.hid.mono s1) r z;exact⟨L,l,K,J,by rw[u.length,(fV s).1],kH (R.mono s1) u s λ j M=>k j N W M I (sm.trans s1)⟩⟩
    ·cases f
   ·cases f
theorem DH(h:asIv o=some a):o=some (.val (.int a)):=by
 cases o with
 | none=>cases h
 | some sv=>cases sv with
  | val d=>rw[u5 h]
  | _=>cases h
theorem DI(s:X.N.Nodup)(m:X.N[i]? = some x)(l:Loc X.env.scope x)(n:X.fn x=true\/X.env.scope.names.lookup x=some .local)(p:∀q,f=some q->PE X e (dE X.D δ q))(hv:δ[i]? = some (JH a))(h:(Re.thnS δ f λ d _=>(asI d).bind λ b=>some (Out.nx (δ.set i (JH (a+b)))))=some o):PS X (.AugAssign (.Name x pos') .Add e pos) (dS X.D δ o):=by
 cases c:f with
 | none=>rw[c]at h;cases h
 | some q=>
  rw[c]at h;have A:=xp (pos:=pos) (pos':=pos') s m l (p q c) xq n;cases q with
  | ok d cl=>
   obtain⟨b,r,h⟩:=p6.mp (h);obtain rfl:=u5 r;cases h;refine A.weak λ Dn σ H t0=>?_;obtain⟨H0,O,W,R,u,fo,sm,k⟩:=t0
   obtain⟨v,j,w⟩:=R.val i _ hv;rw[u6.mp w]at j;exact⟨.int a,j,O,W,R,λ v y s1 g=>by
     have:=g.int (R.hid.mono s1);subst this;exact⟨a,b,rfl,rfl,k _ y W ((R.mono s1).setVal (u6.mpr rfl) i) u (sm.trans s1)⟩⟩
theorem PSs.any{t:ι->TS}(h:∀k,PSs X body (t k)):PSs X body (λ D b H=>∃k,t k D b H):=λ a s b H D I ⟨k,q⟩=>h k a s b H D I q
theorem PT.any{t:ι->TT}(h:∀k,PT X e (t k)):PT X e (λ b H Q=>∃k,t k b H Q):=λ a s b H Q I ⟨k,q⟩=>h k a s b H Q I q
structure Lp(H0 H1:Hp)(O W:List Addr):Prop where
 out:∀{H:Hp},Same (L2.wo W H1) H->Same H0 H
 outW:∀{a:Addr},L2.wo W H1 a=none->H0 a=none
 in1:∀a∈W,L2.wo W H1 a=none
 in2:∀a∈O,L2.wo W H1 a≠none
 wsame:∀{H:Hp},Same (L2.wo W H1) H->Same (L2.wo (O++W) H1) (L2.wo (O++W) H)
theorem Lp.mk'(fr:∀a∈W,d a=none)(fo:∀a∈O,d a≠none)(sm:Same d g):Lp d g O W where
 out:=λ {H} s b u e=>s b u (by
  rw[i8 λ z=>by rw[fr b z]at e;cases e];exact sm b u e)
 outW:=λ {a} q=>by
  by_cases z:a∈W
  ·exact fr a z
  ·rw[i8 z]at q;exact sm.free q
 in1:=λ a c=>aB c
 in2:=λ a c=>by rw[i8 λ z=>fo a c (fr a z)];intro q;exact fo a c (sm.free q)
 wsame:=λ {H} s b u e=>by obtain⟨f,e⟩:=x6 e;rw[i8 f];exact s b u (by rwa [i8 λ z=>f (v4 _ z)])
theorem Lp.gotR(L:Lp b a O W)(g:GotR D O (L2.wo W a) H d fr v):GotR D O b H d fr v:=by
 cases fr with
 | false=>exact g
 | true=>
  obtain⟨p,c,k,j,i,h,f,e⟩:=g;exact⟨p,c,k,j,i,L.outW h,f,e⟩
theorem DJ(hp:PassesOwn JE X.A X.env X.xe)(hc:X.calm=true)(hi:∀q,ri=some q->PI X u j (dI X.D δ q))(hG:PG X u (gT X.K tg))(hb:∀δ' o,f δ'=some o->PSs X body (dS X.D δ' o))(M:F2 j=false)
  (h:(Ri.thnS δ ri λ l c=>if c=.strong\/c=.fresh then m7 tg f l δ else none)=some o):PS X (.For u j body [] pos) (dS X.D δ o):=by
 have B:PSs X body (λ D E H=>∃k:{p:ge Sv×Out // f p.1=some p.2},dS X.D k.1.1 k.1.2 D E H):=PSs.any λ k=>hb k.1.1 k.1.2 k.2;cases C:ri with
 | none=>rw[C]at h;cases h
 | some q=>
  rw[C]at h;have A:=hi q C;cases q with
  | ok l c=>
   have h':(if c=.strong\/c=.fresh then m7 tg f l δ else none)=some o:=h;split at h'
   ·rename_i m;refine(xF hp hc A hG B (kU M)).weak λ Dn E H ⟨H0,O,W,R,fr,fo,sm,k⟩=>⟨O,W,R,λ J I s1 w=>?_⟩
    have R1:=R.mono s1;have L:=Lp.mk' fr fo (sm.trans s1);have w:Wk X.D J l (O++W) (O++W) I:=(by rcases m with m | m<;>subst m<;>exact w);refine⟨λ i n E H=>n=l.length - i/\i<=l.length/\∃b F,m7 tg f (l.drop i) b=some o/\RSt X.D H E b O F/\(∀a∈F,L2.wo W I a=none)/\Same (L2.wo W I) H,
     ⟨l.length,rfl,v9 _,δ,W,h',R1,L.in1,t6⟩,?_⟩
    rintro i n S P ⟨rfl,hi,b,W2,hgo,R2,b1,b2⟩
    by_cases s:i<l.length
    ·refine .inr ⟨w.go i P (L.wsame b2) s,λ E H=>∃b F,m7 tg f _ b=some o/\RSt X.D H E b O F/\_/\Same (L2.wo W I) H,
      λ U H' q=>⟨l.length - (i+1),by omega,rfl,s,q⟩,λ x H3 y=>?_⟩
     have Y:=w.same i P x H3 y;have y3:=w.yld i P x H3 _ (O++W2) (L.wsame b2) (L.wsame b2) y (j6 s) λ a Q=>⟨R2.hid.ot a Q,by
      rcases A5.mp Q with z | z
      ·exact .inl (B6 _ z)
      ·have q:=b1 a z;by_cases hw:a∈W
       ·exact .inl (v4 _ hw)
       ·rw[i8 hw]at q;exact .inr q⟩
     rw[gM s]at hgo;unfold m7 at hgo;split at hgo
     ·cases hgo
     ·rename_i K a2;refine kJ (R2.mono Y) y3 a2 λ σ3 R3=>?_
      split at hgo
      ·rename_i r a1;exact⟨⟨⟨K,.nx r⟩,a1⟩,L2.wo W I,O,W2,R3,b1,L.in2,b2.trans Y,λ U H' F R' N Z=>⟨r,F,hgo,R',N,Z⟩⟩
      ·rename_i a0;refine⟨⟨⟨K,o⟩,hgo⟩,L2.wo W I,O,W2,R3,b1,L.in2,b2.trans Y,?_⟩;cases o with
       | nx r=>exact absurd hgo (a0 r)
       | rt d N=>exact λ v H' s' g=>k v H' (L.out s') (L.gotR g)
    ·have e:i=l.length:=by omega
     subst e;rw[io]at hgo;cases hgo;exact .inl ⟨w.stop P (L.wsame b2),k S P W2 R2 (λ a Q=>L.outW (b1 a Q)) (L.out b2)⟩
   ·cases h'
theorem DK(J:PassesOwn JE X.A X.env X.xe)(K:∀δ' r,e δ'=some r->PT X c (dT X.D δ' r))(M:∀δ' o,f δ'=some o->PSs X body (dS X.D δ' o))(h:J9 e f n δ=some o):PS X (.While c body [] pos) (dS X.D δ o):=by
 have B:PSs X body (λ D j H=>∃k:{p:ge Sv×Out // f p.1=some p.2},dS X.D k.1.1 k.1.2 D j H):=PSs.any λ k=>M k.1.1 k.1.2 k.2;have T:PT X c (λ j H Q=>∃k:{p:ge Sv×Rt // e p.1=some p.2},dT X.D k.1.1 k.1.2 j H Q):=PT.any λ k=>K k.1.1 k.1.2 k.2;refine(xt J T B).weak λ Dn j H t0=>?_;obtain⟨H0,O,W,R,P,fo,sm,k⟩:=t0;have L:=Lp.mk' P fo sm;refine⟨λ m j w=>∃b u,J9 e f m b=some o/\RSt X.D w j b O u/\(∀a∈u,L2.wo W H a=none)/\Same (L2.wo W H) w,⟨n,δ,W,h,R,L.in1,t6⟩,?_⟩
 rintro m A w ⟨b,W2,hgo,R2,b1,b2⟩
 cases m with
 | zero=>cases hgo
 | succ m=>
  unfold J9 at hgo;split at hgo
  ·cases hgo
  ·rename_i l;cases hgo;refine⟨⟨⟨b,.ok false⟩,l⟩,O,W2,R2,λ x s=>iteF ?_⟩;exact k A x W2 (R2.mono s) (λ a N=>L.outW (b1 a N)) (L.out (b2.trans s))
  ·rename_i l;refine⟨⟨⟨b,.ok true⟩,l⟩,O,W2,R2,λ x s=>iteT ?_⟩;refine⟨λ j w=>∃b u,J9 e f m b=some o/\RSt X.D w j b O u/\_/\Same _ w,λ C x q=>⟨m,P8 m,q⟩,?_⟩;split at hgo
   ·rename_i i y;exact⟨⟨⟨b,.nx i⟩,y⟩,L2.wo W H,O,W2,R2.mono s,b1,L.in2,b2.trans s,λ C x u S z E=>⟨i,u,hgo,S,z,E⟩⟩
   ·rename_i F;refine⟨⟨⟨b,o⟩,hgo⟩,L2.wo W H,O,W2,R2.mono s,b1,L.in2,b2.trans s,?_⟩;cases o with
    | nx i=>exact absurd hgo (F i)
    | rt d z=>exact λ v x I g=>k v x (L.out I) (L.gotR g)
section
variable {κ:Type} [DecidableEq κ]
noncomputable def valV(kvs:ge (κ×V))(k:κ):on V:=(kvs.find? λ kv=>decide (kv.1=k)).map (·.2)
noncomputable def putK(kvs:ge (κ×V))(k:κ)(v:V):ge (κ×V):=
 if(kvs.any λ kv=>decide (kv.1=k))=true then kvs.map (λ kv=>if kv.1=k then(kv.1,v)else kv)else kvs++[(k,v)]
theorem cD{k:κ}(e:p.1=k):valV (p::r) k=some p.2:=by simp[valV,ag,e]
theorem cF{k:κ}(e:¬p.1=k):valV (p::r) k=valV r k:=by simp[valV,ag,e]
theorem fW(k:κ):∀a:ge (κ×V),(a.any λ b=>decide (b.1=k))=(valV a k).isSome
 | []=>rfl
 | p::r=>by
  rw[G7];by_cases e:p.1=k
  ·simp only[cD e,t8 e,iL,Option.isSome_some]
  ·rw[cF e,x4 e,Bool.false_or];exact fW k r
theorem rY(a:ge (κ×V))(k:κ)(v:V):(putK a k v).length<=a.length+1:=by
 unfold putK;split
 ·rw[d7];omega
 ·rw[o5,n7,ee];omega
theorem DL{k:κ}(v:V)(h:valV a k=none):putK a k v=a++[(k,v)]:=by
 unfold putK;rw[fW,h];exact e8 Jz
theorem RelO.isSome_eq(r:RelO o u):o.isSome=u.isSome:=by
 cases o with
 | none=>cases u with
  | none=>rfl
  | some _=>exact(r).elim
 | some _=>cases u with
  | none=>exact(r).elim
  | some _=>rfl
theorem KV.val(r:KV a vs)(k:κ):RelO (valV a k) (valueAt vs k):=by
 unfold KV at r
 induction r with
 | nil=>exact True.intro
 | @cons p q ps qs h t ih=>
  obtain⟨d,f⟩:=h;by_cases e:p.1=k
  ·have c:=d.symm.trans e;have b:valueAt (q::qs) k=some q.2:=by simp[valueAt,ag,c]
   rw[cD e,b];exact f
  ·have c:¬q.1=k:=λ z=>e (d.trans z);have b:valueAt (q::qs) k=valueAt qs k:=by simp[valueAt,ag,c]
   rw[cF e,b];exact ih
theorem KV.any(r:KV a vs)(k:κ):(a.any λ b=>decide (b.1=k))=vs.any λ b=>decide (b.1=k):=by
 unfold KV at r
 induction r with
 | nil=>rfl
 | cons h t c=>rw[G7,G7,c,h.1]
theorem KV.repl(r:KV b vs)(k:κ)(d:RelV y u) :
  KV (b.map λ a=>if a.1=k then(a.1,y)else a) (vs.map λ a=>if a.1=k then(a.1,u)else a):=by
 unfold KV at r ⊢
 induction r with
 | nil=>exact .nil
 | @cons p q ps qs h t ih=>
  rw[t9,t9];refine .cons ?_ ih;obtain⟨c,f⟩:=h;by_cases e:p.1=k
  ·rw[d8 e,d8 (c.symm.trans e)];exact⟨c,d⟩
  ·rw[e8 e,e8 (λ z=>e (c.trans z))];exact⟨c,f⟩
theorem KV.put(r:KV a vs)(k:κ)(b:RelV y u):KV (putK a k y) (stored vs k u):=by
 unfold putK stored;rw[r.any k];by_cases e:(vs.any λ c=>decide (c.1=k))=true
 ·rw[d8 e,d8 e];exact r.repl k b
 ·rw[e8 e,e8 e];exact Paired.snoc r ⟨rfl,b⟩
theorem KV.keys{a:ge (κ×V)}(r:KV a vs):a.map (·.1)=vs.map (·.1):=by
 unfold KV at r
 induction r with
 | nil=>rfl
 | cons h t b=>rw[t9,t9,b,h.1]
theorem KV.length(r:KV a vs):a.length=vs.length:=eC r
end
theorem fX(r:RelV (kV k) u):(D9 P w).is k u=true:=by
 cases k with
 | inl i=>obtain⟨t,e⟩:=(r);subst e;exact wO P w i t
 | inr x=>obtain⟨t,e⟩:=(r);subst e;exact wP P w x t
theorem fY:∀{a:ge Key} {us:ge Jg},Vals (a.map kV) us->ItemsAre (D9 P w) a us
 | [],_,r=>by rw[bz]at r;cases r;exact .nil
 | k::a,_,r=>by
  rw[t9]at r;cases r with
  | cons h t=>exact .cons (fX h) (fY t)
abbrev KT(H:Hp):ge (ge Key×V)->ge (ge Key×Ji×Jg)->Prop:=Paired λ p q=>p.1=q.1/\H q.2.1=some (.tup (p.1.map kV))/\RelV p.2 q.2.2
theorem KT.val(r:KT H a xs)(k:ge Key):RelO (valV a k) ((atKey xs k).map (·.2)):=by
 induction r with
 | nil=>exact True.intro
 | @cons p q ps qs h t ih=>
  obtain⟨d,_,f⟩:=h;by_cases e:p.1=k
  ·have c:=d.symm.trans e;have b:atKey (q::qs) k=some q.2:=by simp[atKey,ag,c]
   rw[cD e,b];exact f
  ·have c:¬q.1=k:=λ z=>e (d.trans z);have b:atKey (q::qs) k=atKey qs k:=by simp[atKey,ag,c]
   rw[cF e,b];exact ih
theorem KT.repl(r:KT H a xs)(k:ge Key)(f:RelV y u) :
  KT H (a.map λ c=>if c.1=k then(c.1,y)else c) (xs.map (putAt k u)):=by
 induction r with
 | nil=>exact .nil
 | @cons p q ps qs h t ih=>
  rw[t9,t9];refine .cons ?_ ih;obtain⟨b,d,g⟩:=h;unfold putAt;by_cases e:p.1=k
  ·rw[d8 e,d8 (b.symm.trans e)];exact⟨b,d,f⟩
  ·rw[e8 e,e8 (λ z=>e (b.trans z))];exact⟨b,d,g⟩
theorem KT.put(r:KT H a xs)(k:ge Key)(d:H b=some (.tup (k.map kV)))(c:RelV y u) :
  KT H (putK a k y) (storedH xs k b u):=by
 have e:(a.any λ kv=>decide _)=(atKey xs k).isSome:=(by rw[fW,(r.val k).isSome_eq,Option.isSome_map]);unfold putK storedH;rw[e];by_cases q:(atKey xs k).isSome=true
 ·rw[d8 q,d8 q];exact r.repl k c
 ·rw[e8 q,e8 q];exact Paired.snoc r ⟨rfl,d,c⟩
theorem KT.keeps(r:KT H a xs)(d:∀b c,H b=some (.tup c)->H' b=some (.tup c)):KT H' a xs:=
 Paired.mapP r λ _ _ z=>⟨z.1,d _ _ z.2.1,z.2.2⟩
theorem kY(ok:HOk P w H h)(e:Rd H a u):p4 P w H h a u:=e.ok ok
theorem fZ(ok:HOk P w H h)(e:Rd H a (.dK b)):b.length<=sizeLine/\(a==sysModules)=false/\∃vs,KV b vs/\h.DictOf (D9 P w) a vs:=
 show p4 P w H h a (.dK b)from kY ok e
theorem DM(ok:HOk P w H h)(e:H a=some (.dK b)):b.length<=sizeLine/\(a==sysModules)=false/\∃vs,KV b vs/\h.DictOf (D9 P w) a vs:=fZ ok (.inl e)
theorem gb(ok:HOk P w H h)(e:H a=some (.tup (c.map kV))):(tupleKind (D9 P w)).is h c a:=by
 obtain⟨_,b,r,o,g,f,n,d⟩:=(show p4 P w H h a (.tup _)from ok a _ e);exact⟨o,b.toArray,n,g,f.1,d,by simpa using fY r⟩
theorem aK(ok:HOk P w H h)(e:Rd H a (.dT b)):b.length<=sizeLine/\(a==sysModules)=false /\
  ∃xs,KT H b xs/\h.DictOfH (tupleKind (D9 P w)) a xs:=by
 obtain⟨z,y,xs,r,o,n,s,j,i,g,f,d⟩:=(show p4 P w H h a (.dT b)from kY ok e);refine⟨z,y,xs,r,o,n,s,j,i,g,f,λ x c=>?_,d⟩;have all:∀{l:ge _} {m:ge _},KT H l m->∀x∈m,(tupleKind (D9 P w)).is h x.1 x.2.1:=by
  intro l m q
  induction q with
  | nil=>intro x c;exact nomatch c
  | @cons p q ps qs hq t ih=>
   intro x c;rcases g5.mp c with e | c
   ·subst e;exact gb ok (by rw[←hq.1];exact hq.2.1)
   ·exact ih x c
 exact all r x c
theorem DN(ok:HOk P w H h)(e:H a=some (.dT b)):b.length<=sizeLine/\(a==sysModules)=false /\
  ∃xs,KT H b xs/\h.DictOfH (tupleKind (D9 P w)) a xs:=aK ok (.inl e)
def DGet(H:Hp)(a:Ji)(y:V)(r:on V):Prop:=
 (∃kvs k,Rd H a (.dK kvs)/\y=kV k/\r=valV kvs k)\/∃kvs k b,Rd H a (.dT kvs)/\y=.ref b/\H b=some (.tup (k.map kV))/\r=valV kvs k
def DPut(H:Hp)(a:Ji)(y v:V)(H':Hp):Prop:=
 (∃kvs k,H a=some (.dK kvs)/\y=kV k/\kvs.length<sizeLine/\H'=upd H a (.dK (putK kvs k v))) \/
 ∃kvs k b,H a=some (.dT kvs)/\y=.ref b/\H b=some (.tup (k.map kV))/\kvs.length<sizeLine/\H'=upd H a (.dT (putK kvs k v))
theorem DGet.k{k:Key}(e:H a=some (.dK b)):DGet H a (kV k) (valV b k):=.inl ⟨b,k,.inl e,rfl,rfl⟩
theorem DPut.k{k:Key}(e:H a=some (.dK b))(c:b.length<sizeLine):DPut H a (kV k) v (upd H a (.dK (putK b k v))):=.inl ⟨b,k,e,rfl,c,rfl⟩
theorem DPut.t{k:ge Key}(e:H a=some (.dT c))(f:H b=some (.tup (k.map kV)))(d:c.length<sizeLine) :
  DPut H a (.ref b) v (upd H a (.dT (putK c k v))):=.inr ⟨c,k,b,e,rfl,f,d,rfl⟩
theorem Inv.big(I:JM a):sysModules<s.heap.objs.size:=by
 exact eL Jz ((I.mod.glob.keeps I.bk).lt)
theorem rZ(x:A.units+1<cLine)(I:JM c)(g:DGet H a y (some v))(w:RelV y u)(h:∀i r,Inv X c σ H r->RelV v i->Q i r) :
  wpAny JE A (getItem (.ref a) u) Q E s:=by
 rcases g with⟨j,k,e,o,l⟩ | ⟨j,k,b,e,o,eb,l⟩
 ·subst o;obtain⟨z,hd,vs,f,q⟩:=fZ I.hok e;obtain⟨i,m,d⟩:=RelO.some_of (by rw[l];exact f.val k);exact wpAny_getItem_of (fX w) q.mapOf m (h i _ (I.tok _) d)
 ·subst o;cases(w);obtain⟨z,hd,xs,f,q⟩:=aK I.hok e;obtain⟨i,m,d⟩:=RelO.some_of (by rw[l];exact f.val k);obtain⟨p,B,n⟩:=p9.mp m;refine wpAny_getItem_heap (dL x) (gb I.hok eb) q B ?_;rw[n];exact h i _ (I.tok _) d
theorem DO(p:A.units+1<cLine)(I:JM c)(g:DGet H a y o)(n:RelV y u)(h:∀m,Inv X c σ H m->Q (.bool (!o.isSome)) m) :
  wpAny JE A (compareOp .NotIn u (.ref a)) Q E s:=by
 rcases g with⟨f,k,e,i,l⟩ | ⟨f,k,b,e,i,eb,l⟩
 ·subst i;obtain⟨z,hd,vs,d,j⟩:=fZ I.hok e;refine wpAny_notIn_of (fX n) hd j.mapOf ?_;rw[←(d.val k).isSome_eq,←l];exact h _ (I.tok _)
 ·subst i;cases(n);obtain⟨z,hd,xs,d,j⟩:=aK I.hok e;refine wpAny_notIn_heap (dL p) (gb I.hok eb) hd j ?_;have q:=(d.val k).isSome_eq;rw[Option.isSome_map]at q;rw[←q,←l];exact h _ (I.tok _)
theorem se(I:JM c)(f:Mut (H a))(hs:Heap.SameBut a s.heap d)(g:∃q,d.get? a=some q)(new:p4 X.prog X.w (upd H a e) d a e) :
  Inv X c σ (upd H a e) {s with heap:=d,toks:=t'}:=
 I.write f (.inl rfl) (λ b q h z=>(hs.2 b h).trans z) g new
theorem DP(z:b.length<=sizeLine)(hd:(a==sysModules)=false)(c:KV b vs)(e:d.DictOf (D9 P w) a vs) :
  p4 P w H' d a (.dK b):=⟨z,hd,vs,c,e⟩
theorem DQ(N:A.units+1<cLine)(I:JM j)(g:DPut H a y v H')(B:RelV y u)(C:RelV v r)(h:∀x,Inv X j σ H' x->Q () x) :
  wpAny JE A (setItem (.ref a) u r) Q E s:=by
 rcases g with⟨f,k,e,o,l,p⟩ | ⟨f,k,b,e,o,eb,l,p⟩
 ·subst o p;obtain⟨z,hd,L,d,w⟩:=DM I.hok e;have M:L.length<=sizeLine:=by rw[←d.length];exact z
  have n:(putK f k v).length<=sizeLine:=by have:=rY f k v;omega
  refine wpAny_setItem_pairs (fX B) w λ F i hs=>h _ ?_;have O:∃q,F.get? a=some q:=let ⟨q,_,_,m,_⟩:=i;⟨q,m⟩;exact se I (by rw[e];exact True.intro) hs O (DP n hd (d.put k C) i)
 ·subst o p;cases(B);obtain⟨z,hd,K,d,w⟩:=DN I.hok e;have M:K.length<=sizeLine:=by rw[←eC d];exact z
  have n:(putK f k v).length<=sizeLine:=by have:=rY f k v;omega
  refine wpAny_setItem_heap (dL N) (gb I.hok eb) w λ F i hs=>h _ ?_;obtain⟨q,W,Y,m,U,S,R,_,P⟩:=i;refine se I (by rw[e];exact True.intro) hs ⟨q,m⟩ ⟨n,hd,_,(d.put k eb C).keeps λ c ys J=>?_,q,W,Y,m,U,S,R,P⟩;rw[j3 (wQ J e (λ z=>nomatch z))];exact J
def NoSl(i:Jk):Prop:=∀ov iv,subscripted i false ov iv=operate [ov,iv] (getItem ov iv)
theorem sh
  (p:typeLookup (.type T) "__getitem__" = pure (some (.builtin n))) (hs:NoSl a)
  (h:wpAny JG A (eval b env) (λ o f=>wpAny JG A (eval a env) (λ i c=>c.TypeIs o T/\wpAny JG A (getItem o i) Q E c) E f) E s) :
  wpAny JG A (eval (.Subscript b a pos) env) Q E s:=by
 refine Subscript_ (B1 h (λ o f j=>B1 j (λ i c d=>?_) λ _ _ x=>x) λ _ _ x=>x);obtain⟨m,d⟩:=d;unfold subscriptTail;refine d4 ?_;rw[getitemInPython_of_ne m.not_modules];refine d4 (iw m p ?_);have l:wpAny JG A (subscripted a false o i) (λ r e=>wpAny JG A (letTemporaryGo b o r >>= λ _=>pure r) Q E e) E c:=by rw[hs o i];exact wpAny_operating (B1 d (λ r e g=>d4 (wpAny_letTemporaryGo (d9 g))) λ _ _ x=>x)
 first
  | exact d9 (d4 l)
  | exact d4 _
  | exact d4 l
theorem si(I:JM c)(g:DGet H a y o):s.TypeIs (.ref a) "dict":=by
 rcases g with⟨d,k,e,_,_⟩ | ⟨d,k,b,e,_,_,_⟩
 ·obtain⟨_,_,vs,_,f⟩:=fZ I.hok e;exact f.typeIs
 ·obtain⟨_,_,xs,_,f⟩:=aK I.hok e;exact f.typeIs
noncomputable def DR(td ty:TE):TE:=λ σ H Q=>td σ H λ x H1=>ty σ H1 λ y H2=>∃a v,x=.ref a/\DGet H2 a y (some v)/\Q v H2
noncomputable def DS(ty td:TE):TE:=λ σ H Q=>ty σ H λ y H1=>td σ H1 λ x H2=>∃a o,x=.ref a/\DGet H2 a y o/\Q (.bl (!o.isSome)) H2
noncomputable def DT(td ty tv:TE):TS:=λ D σ H=>tv σ H λ v H1=>td σ H1 λ x H2=>ty σ H2 λ y H3=>∃a H4,x=.ref a/\DPut H3 a y v H4/\D.nx σ H4
theorem sj(q:X.A.units+1<cLine)(r:PE X o f)(w:PE X i e)(hs:NoSl i):PE X (.Subscript o i pos) (DR f e):=by
 intro b s d H Q I h;refine sh PySem.F.slot_dict_getitem.lookup hs (thn (r b s d H _ I h) λ u s1 ⟨x,C,A,m,p⟩=>thn (w b s1 d C _ A p) λ iv s2 t0=>?_);obtain⟨y,B,j,l,a,v,ex,g,n⟩:=t0;subst ex;obtain rfl:u=Value.ref a:=m;exact⟨si j g,rZ q j g l λ w' s3 z c=>⟨v,B,z,c,n⟩⟩
theorem DU(n:X.A.units+1<cLine)(q:PE X i d)(p:PE X o e):PC X .NotIn i o (DS d e):=by
 intro b s c H Q I h;refine thn (q b s c H _ I h) λ iv s1 ⟨y,A,w,f,m⟩=>thn (p b s1 c A _ w m) λ u s2 t0=>?_;obtain⟨x,z,v,j,a,ov,ex,g,l⟩:=t0
 subst ex;obtain rfl:u=Value.ref a:=j;exact DO n v g f λ s3 r=>⟨.bl _,z,r,rfl,l⟩
theorem sn(z:X.A.units+1<cLine)(A:PE X o j)(B:PE X i e)(hv:PE X b f)(hs:swapsWith b (some (.Subscript o i pos')) pos.line X.env=pure false) :
  PS X (.Assign [.Subscript o i pos'] b pos) (DT j e f):=by
 intro c s d H D I h;refine wpAny_Assign_Subscript (thn (hv c s d H _ I h) λ r s1 ⟨v,M,J,n,w⟩=>thn (A c s1 d M _ J w) λ u s2 ⟨x,L,F,m,q⟩=>thn (B c s2 d L _ F q) λ iv s3 ⟨y,H3,E,l,a,K,ex,g,p⟩=>?_) hs;subst ex;obtain rfl:u=Value.ref a:=m;exact DQ z E g l n λ s4 C=>⟨d,K,C,p⟩
theorem DW(h:Jj)(a:sysModules<h.objs.size):p4 P w H (h.push {cls:=.type "dict",data:=.dict #[]}) h.objs.size (.dK []):=
 ⟨v9 _,A4.mpr (Ne.symm (o6 a)),[],.nil,Heap.DictOf.new h⟩
theorem DX(h:Jj)(a:sysModules<h.objs.size):p4 P w H (h.push {cls:=.type "dict",data:=.dict #[]}) h.objs.size (.dT []):=
 ⟨v9 _,A4.mpr (Ne.symm (o6 a)),[],.nil,_,#[],0,o4 _ rfl,⟨rfl,rfl,rfl⟩,rfl,rfl,bu⟩
def DY:TE:=λ _ H Q=>∀p,H p=none->Q (.ref p) (upd H p (.dK []))
def DZ:TE:=λ _ H Q=>∀p,H p=none->Q (.ref p) (upd H p (.dT []))
theorem Ea:PE X (.Dict [] [] pos) DY:=λ a s σ H Q I h=>
 wpAny_Dict_empty ⟨.ref s.heap.objs.size,_,I.laid (λ _ _ q=>g9 _ q) (f8 _) (DW s.heap I.big),rfl,h _ (I.hok.fresh (f8 _))⟩
theorem Eb:PE X (.Dict [] [] pos) DZ:=λ a s σ H Q I h=>
 wpAny_Dict_empty ⟨.ref s.heap.objs.size,_,I.laid (λ _ _ q=>g9 _ q) (f8 _) (DX s.heap I.big),rfl,h _ (I.hok.fresh (f8 _))⟩
theorem RSt.growD(R:RSt D H σ δ O W)(l:H p=none)(w:mutO i=true):RSt D (upd H p i) σ δ O (p::W):=by
 have s:Same H (upd H p i):=u9 l;have c:Same _ (L2.wo (O++(p::W)) _):=λ b o e=>by
  obtain⟨x,e⟩:=x6 e;rw[i8 λ z=>?_]
  ·exact s b o e
  ·rcases g5.mp (cC.mp z)with z | z
   ·rw[z,l]at e;cases e
   ·exact x z
 refine⟨λ j d h=>?_,λ j d h=>?_,R.inj,R.od.step c (λ j d h=>⟨h,rfl⟩) (λ _ h _=>i7 _ h) (λ a _ _ h _=>s _ _ h),R.len,⟨λ a f=>?_,Same.refl _,λ a f=>?_,λ a f=>?_,R.hid.omS s⟩⟩
 ·obtain⟨v,r,n⟩:=R.val j d h;exact⟨v,r,n.mono c⟩
 ·obtain⟨a,g,u,B,r,n,A,y⟩:=R.own j d h;exact⟨a,g,u,B,r,i7 _ n,s _ _ A,y.mono c⟩
 ·rcases g5.mp (cC.mp f)with z | z
  ·rw[z,v6];intro q;cases q
  ·intro q;exact R.hid.ot a z (s.free q)
 ·rcases g5.mp f with z | z
  ·exact⟨_,by rw[z];exact v6,w⟩
  ·obtain⟨g,q,m⟩:=R.hid.wl a z;exact⟨g,s _ _ q,m⟩
 ·rcases g5.mp f with z | z
  ·intro q;exact R.hid.ot p (B6 _ (by rw[←z];exact q)) l
  ·exact R.hid.dj a z
theorem RSt.setOd(R:RSt D H σ δ O W)(E:p∈W)(s:OdOk D (L2.wo (O++W) H) A r)(F:H p=some r)(c:∀(j:Nat) d,δ[j]? = some (.od d)->σ[j]? ≠ some (some (.ref p))):RSt D H (σ.set i (some (.ref p))) (δ.set i (.od A)) O W:=by
 refine⟨λ j d h=>?_,λ j d h=>?_,λ j k a L K n m l g=>?_,λ j d h=>?_,by rw[B0,B0];exact R.len,R.hid⟩
 ·have b:=G2 h JI;rw[p7 (Ne.symm b)]at h ⊢;exact R.val j d h
 ·have b:=G2 h JI;rw[p7 (Ne.symm b)]at h ⊢;exact R.own j d h
 ·have C:=G2 n JI;have B:=G2 m JI;rw[p7 (Ne.symm C)]at n l;rw[p7 (Ne.symm B)]at m g;exact R.inj j k a L K n m l g
 ·by_cases b:j=i
  ·subst b;obtain⟨v,e⟩:=X9 h;cases e;have y:_[j]? = some (some (V.ref p)):=K4 (by rw[R.len];exact v);refine⟨⟨p,r,s,y,E,F⟩,λ k x q w=>?_⟩;by_cases f:k=j
   ·exact f
   ·rw[p7 (Ne.symm f)]at q w;exact absurd (w.trans y) (c k x q)
  ·rw[p7 (Ne.symm b)]at h;obtain⟨⟨a,o,J,l,g,I⟩,u⟩:=R.od j d h;refine⟨⟨a,o,J,by rw[p7 (Ne.symm b)];exact l,g,I⟩,λ k x q w=>?_⟩;rw[p7 (Ne.symm b)]at w;by_cases f:k=i
   ·subst f;obtain⟨v,_⟩:=X9 q;rw[K4 (by rw[R.len];exact v)]at w;exact absurd w.symm (c j d h)
   ·rw[p7 (Ne.symm f)]at q w;exact u k x q w
theorem RSt.writeOd(R:RSt D H σ δ O W)(U:δ[i]? = some (.od d))(X:σ[i]? = some (some (.ref p)))(F:p∈W)(hH:H p=some P)(J:dicO P=true)(y:OdOk D (L2.wo (O++W) H) A B):RSt D (upd H p B) σ (δ.set i (.od A)) O W:=by
 have f:Same _ (L2.wo (O++W) (upd H p B)):=λ b o e=>by obtain⟨x,e⟩:=x6 e;rw[i8 x,j3 λ z=>x (by rw[z];exact v4 _ F)];exact e
 have E:∀{b:Ji} {s:ge V},H b=some (.lst s)->b≠p:=λ {b s} h z=>by rw[z,hH]at h;cases h;cases J
 refine⟨λ j d h=>?_,λ j d h=>?_,λ j k a A d2 l g C K=>?_,λ j d h=>?_,by rw[B0];exact R.len,⟨λ b x q=>?_,Same.refl _,λ b x=>?_,R.hid.dj,R.hid.omW F⟩⟩
 ·have r:=G2 h JI;rw[p7 (Ne.symm r)]at h;obtain⟨v,l,g⟩:=R.val j d h;exact⟨v,l,g.mono f⟩
 ·have r:=G2 h JI;rw[p7 (Ne.symm r)]at h;obtain⟨b,s,L,Z,l,g,N,Y⟩:=R.own j d h;exact⟨b,s,L,Z,l,g,by rw[j3 (E N)];exact N,Y.mono f⟩
 ·have n1:=G2 l JI;rw[p7 (Ne.symm n1)]at l;rw[p7 (Ne.symm (G2 g JI))]at g;exact R.inj j k a A d2 l g C K
 ·have Q:∀{k:Nat} {M:DV},(δ.set i (.od A))[k]? = some (.od M)->∃d0,δ[k]? = some (.od d0):=λ {k M} q=>by
   by_cases S:k=i
   ·subst S;exact⟨_,U⟩
   ·rw[p7 (Ne.symm S)]at q;exact⟨_,q⟩
  obtain⟨dj,n⟩:=Q h;obtain⟨⟨a,o,e0,C,K,e3⟩,u⟩:=R.od j dj n;refine⟨?_,λ k M q w=>by obtain⟨dk,I⟩:=Q q;exact u k dk I w⟩;by_cases r:j=i
  ·subst r;obtain⟨hl,e⟩:=X9 h;cases e;exact⟨p,B,y.mono f,X,F,v6⟩
  ·rw[p7 (Ne.symm r)]at h;rw[n]at h;cases h;refine⟨a,o,e0.mono f,C,K,?_⟩;rw[j3 λ z=>r ((R.od i _ U).2 j _ n (by rw[C,X,z]))];exact e3
 ·by_cases c:b=p
  ·rw[c,v6]at q;cases q
  ·rw[j3 c]at q;exact R.hid.ot b x q
 ·by_cases c:b=p
  ·exact⟨_,by rw[c];exact v6,y.mut⟩
  ·obtain⟨s,q,m⟩:=R.hid.wl b x;exact⟨s,by rw[j3 c];exact q,m⟩
section
variable {X:Cx} {δ:ge Sv} {o:Out} {e ek ed ea:Jk} {pos pos' npos spos apos cpos:Pos} {ra rb rc:on Re} {i:Nat} {x:Str} {re:Re}
theorem Ec(L:ge ((Int×Int)×Int)):(oeK L).map (λ p=>DKey.t p.1)=L.map λ p=>.t [.inl p.1.1,.inl p.1.2]:=by
 unfold oeK;rw[k6];rfl
theorem Ed(L:ge ((Int×Int)×Int)):RepL D H (L.map λ p=>.int p.2) ((oeK L).map (·.2)):=by
 unfold oeK;rw[k6]
 induction L with
 | nil=>exact y9.mpr rfl
 | cons p r a=>exact u8.mpr ⟨_,_,rfl,u6.mpr rfl,a⟩
def dkO:HO->Bool
 | .dK _=>true
 | .dT _=>true
 | _=>false
theorem Ee(hv:PE X (.Name x npos) (tVar i)):PE X (.Name x npos) (λ k H Q=>∃a o,k[i]? = some (some (.ref a))/\H a=some o/\dkO o=true/\∀c,Q (.ref a) (upd H a (.frz c o))):=by
 intro g s k H Q I h;obtain⟨a,o,y,f,d,q⟩:=h;refine thn (hv g s k H (λ v j=>v=.ref a/\j=H) I ⟨_,y,rfl,rfl⟩) λ u s1 t0=>?_;obtain⟨v,j,n,r1,w,r⟩:=t0
 subst w r;have ok:=n.hok _ _ f;obtain⟨c,z5⟩:∃c,s1.heap.get? a=some c:=by
  cases o with
  | dK m=>obtain⟨_,_,_,_,c,_,_,e,_⟩:=ok;exact⟨c,e⟩
  | dT m=>obtain⟨_,_,_,_,c,_,_,e,_⟩:=ok;exact⟨c,e⟩
  | _=>cases d
 have l:p4 X.prog X.w (upd j a (.frz c o)) s1.heap a o:=by
  refine ok.stay (λ _ _ _ e=>e) (λ b e=>?_) (λ b p e=>?_) (λ b p e=>?_) λ b _ _ _ _ e=>?_
  ·rw[j3 λ z=>by rw[z,f]at e;cases e;cases d];exact e
  ·rw[j3 λ z=>by rw[z,f]at e;cases e;cases d];exact e
  ·rw[j3 λ z=>by rw[z,f]at e;cases e;cases d];exact e
  ·rw[j3 λ z=>by rw[z,f]at e;cases e;cases d];exact e
 exact⟨.ref a,upd j a (.frz c o),n.write (by rw[f];cases o<;>first | trivial | cases d) (.inl rfl) (λ b u hb e=>e) ⟨c,z5⟩ ⟨z5,l⟩,r1,q c⟩
theorem kZ{o:HO}(h:OdOk D H d o)(hd:isDc d=true):∃L,d=.tup [oeD L]/\o=.dT (oeK L):=by
 rcases h with h | ⟨vs,kvs,e,_⟩
 ·exact h
 ·rw[e]at hd;cases hd
theorem Ef (hv : PE X (.Name x npos) (tVar i)) (h : (match δ[i]? with
   | some (.od d) => if isDc d then some (Out.rt (unT d) false) else none
   | _ => none) = some o) : PS X (.Return (some (.Name x npos)) pos) (dS X.D δ o) := by
 split at h
 ·rename_i d g;split at h
  rotate_left
  ·cases h
  rename_i a;cases h;refine (oe (Ee hv)).weak λ Dn σ H ⟨H0, O, W, R, j, fo, sm, k⟩ => ?_
  obtain ⟨⟨p, ob, n, m, b, l⟩, u⟩ := R.od i _ g;obtain ⟨L, e, c⟩ := kZ n a;subst e c;refine ⟨p, _, m, l, rfl, λ f => k _ _ (Y0 sm (j p b)) ?_⟩;show Rep X.D _ _ _;exact O9.mpr (.inr ⟨p, f, oeK L, rfl, by rw [i8 (R.hid.dj p b)]; exact v6, Ec L, Ed L⟩)
 ·cases h
theorem lg(h:L8 ek=false):NoSl ek:=λ ov iv=>by cases ek<;>first | rfl | cases h
def lh(K:Js)(H:Hp)(a:Ji)(y:V)(r:on V):Prop:=DGet H a y r\/∃kvs k b,Rd H a (.dT kvs)/\y=.ref b/\SqT K H b (k.map kV)/\r=valV kvs k
theorem Eg(I:JM c)(e:SqT X.K H a (ks.map kV)):(tupleKind (D9 X.prog X.w)).is s.heap ks a:=by
 rcases e with h | ⟨o,b,n,g,f,d,_,h5⟩
 ·obtain⟨_,b,r,o,g,f,n,d⟩:=(show p4 X.prog X.w H s.heap a (.tup _)from kY I.hok h);exact⟨o,b.toArray,n,g,f.1,d,by simpa using fY r⟩
 ·exact⟨o,b,n,I.kIn a o g,f.1,d,fY h5⟩
theorem Eh{E:Jg->Jh->Prop}(o:A.units+1<cLine)(I:JM c)(g:lh X.K H a y (some v))(n:RelV y u)(h:∀d m,Inv X c σ H m->RelV v d->Q d m) :
  wpAny JE A (getItem (.ref a) u) Q E s:=by
 rcases g with g | ⟨kvs,k,b,e,ey,eb,l⟩
 ·exact rZ o I g n h
 ·subst ey;cases(n);obtain⟨z,hd,xs,i,w⟩:=aK I.hok e;obtain⟨d,q,f⟩:=RelO.some_of (by rw[l];exact i.val k);obtain⟨p,r,j⟩:=p9.mp q;refine wpAny_getItem_heap (dL o) (Eg I eb) w r ?_;rw[j];exact h d _ (I.tok _) f
theorem Ei{o:on V}(I:JM c)(g:lh X.K H a y o):s.TypeIs (.ref a) "dict":=by
 rcases g with g | ⟨kvs,k,b,e,ey,eb,l⟩
 ·exact si I g
 ·obtain⟨_,_,xs,_,d⟩:=aK I.hok e;exact d.typeIs
noncomputable def Ej(K:Js)(td ty:TE):TE:=λ σ H Q=>td σ H λ x H1=>ty σ H1 λ y H2=>∃a v,x=.ref a/\lh K H2 a y (some v)/\Q v H2
theorem Ek{e:TE}(m:X.A.units+1<cLine)(o:PE X ea e)(p:PE X ek ty)(n:NoSl ek):PE X (.Subscript ea ek pos) (Ej X.K e ty):=by
 intro b s d H Q I h;refine sh PySem.F.slot_dict_getitem.lookup n (thn (o b s d H _ I h) λ u s1 ⟨x,z,r,j,l⟩=>thn (p b s1 d z _ r l) λ iv s2 t0=>?_);obtain⟨y,w,f,i,a,v,ex,g,k⟩:=t0;subst ex;obtain rfl:u=Value.ref a:=j;exact⟨Ei f g,Eh m f g i λ w' s3 q c=>⟨v,w,q,c,k⟩⟩
theorem El(h:Rep D H (.tup [.int a,.int b]) v):∃p,v=.ref p/\SqT D.K H p (([.inl a,.inl b]:ge Key).map kV):=by
 obtain⟨p,xs,j,c,i⟩:=C9.mp h;obtain⟨v1,vs,rfl,r1,g⟩:=u8.mp i;obtain⟨v2,d,rfl,f,e⟩:=u8.mp g;rw[u6.mp r1,u6.mp f,y9.mp e]at c;exact⟨p,j,c⟩
end
noncomputable def kP(p:Int×Int):ge Key:=[.inl p.1,.inl p.2]
theorem gc(h:kP p=kP q):p=q:=by
 unfold kP at h;obtain⟨a,b⟩:=p;obtain⟨c,d⟩:=q;simp at h;rw[h.1,h.2]
noncomputable def putP(L:ge ((Int×Int)×Int))(k:Int×Int)(z:Int):ge ((Int×Int)×Int):=if(L.any λ p=>decide (p.1=k))=true then L.map (λ p=>if p.1=k then(p.1,z)else p)else L++[(k,z)]
theorem Em(L:ge ((Int×Int)×Int))(k:Int×Int)(z:Int):putK (oeK L) (kP k) (.int z)=oeK (putP L k z):=by
 have e:((oeK L).any λ a=>decide (a.1=kP k))=L.any λ p=>decide (p.1=k):=by
  unfold oeK;rw[T6]
  congr 1
  funext p
  show decide (kP p.1=kP k)=decide _;by_cases h:p.1=k
  ·rw[t8 (by rw[h]),t8 h]
  ·rw[x4 (λ z=>h (gc z)),x4 h]
 unfold putK putP;rw[e];split
 ·unfold oeK;rw[k6,k6];apply D2;intro p _;show(if kP p.1=kP k then(kP p.1,V.int z)else(kP p.1,V.int p.2))=(kP (if p.1=k then(p.1,z)else p).1,V.int (if p.1=k then(p.1,z)else p).2);by_cases h:p.1=k
  ·rw[d8 (by rw[h]),d8 h]
  ·rw[e8 (λ z=>h (gc z)),e8 h]
 ·unfold oeK;rw[t5];rfl
noncomputable def kD(p:Int×Int):DKey:=.t [.inl p.1,.inl p.2]
theorem li(h:kD p=kD q):p=q:=gc (DKey.t.inj h)
theorem En(L:ge ((Int×Int)×Int))(k:Int×Int)(z:Int):putD (kD k) (.int z) (L.map λ p=>kD p.1) (L.map λ p=>.int p.2)=((putP L k z).map (λ p=>kD p.1),(putP L k z).map (λ p=>.int p.2)):=by
 have e:(kD k∈L.map λ p=>kD p.1)↔(L.any λ p=>decide (p.1=k))=true:=by
  rw[f9,J6];constructor
  ·rintro⟨p,c,b⟩;exact⟨p,c,by rw[D4];exact li b⟩
  ·rintro⟨p,c,b⟩;exact⟨p,c,by rw[D4.mp b]⟩
 unfold putD putP;by_cases h:(L.any λ p=>decide (p.1=k))=true
 ·rw[d8 (e.mpr h),d8 h,k6,k6];refine Prod.ext ?_ ?_
  ·apply D2;intro p _;show kD p.1=kD (if p.1=k then(p.1,z)else p).1;split<;>rfl
  ·show List.map _ _=_;rw[List.zip_map_left,List.zip_map_right];have:∀(L:ge ((Int×Int)×Int)),List.zip L L=L.map λ p=>(p,p):=by
    intro L
    induction L with
    | nil=>rfl
    | cons a r d=>rw[List.zip_cons_cons,d];rfl
   rw[this,k6,k6,k6];apply D2;intro p _;show(if kD p.1=kD k then DV.int z else DV.int p.2)=DV.int (if p.1=k then(p.1,z)else p).2;by_cases h:p.1=k
   ·rw[d8 (by rw[h]),d8 h]
   ·rw[e8 (λ z=>h (li z)),e8 h]
 ·rw[e8 (λ z=>h (e.mp z)),e8 h,t5,t5];rfl
theorem Eo(n:X.N.Nodup)(g:X.N[i]? = some x)(f:Loc X.env.scope x)(l:X.fn x=true\/X.env.scope.names.lookup x=some .local)(h:some (Out.nx (δ.set i (.od (.tup [.dct [] []]))))=some o):PS X (.Assign [.Name x b] (.Dict [] [] pos') pos) (dS X.D δ o):=by
 cases h;refine(iR n g f Eb rfl l).weak λ Dn σ H ⟨H0,O,W,R,r,fo,sm,k⟩=>λ p c=>?_
 exact k _ _ _ ((R.growD c rfl).setOd (i5 ..) (.inl ⟨[],rfl,rfl⟩) v6 λ j d q w=>by
   obtain⟨⟨a,o,_,s,_,e⟩,_⟩:=R.od j d q;rw[s]at w;cases w;rw[c]at e;cases e) (λ a m=>by
  rcases g5.mp m with z | z
  ·rw[z];exact sm.free c
  ·exact r a z) (sm.trans (u9 c))
theorem Ep(h:E1 (kD k) (L.map λ p=>kD p.1) (L.map λ p=>.int p.2)=some (.int v)):valV (oeK L) (kP k)=some (.int v):=by
 induction L with
 | nil=>cases h
 | cons p r c=>
  have b:(if kD p.1=kD k then some (DV.int p.2)else E1 (kD k) _ _)=some _:=h;show valV ((kP p.1,V.int p.2)::oeK r) (kP k)=_;by_cases a:p.1=k
  ·rw[d8 (by rw[a])]at b;cases b;rw[cD (by rw[a])]
  ·rw[e8 (λ z=>a (li z))]at b;rw[cF (λ z=>a (gc z))];exact c b
theorem Er(hu:X.A.units+1<cLine)(hv:PE X (.Name x f) (tVar i))(he:∀q,I=some q->PE X e (dE X.D δ q))(hk:∀q,F=some q->PA X es (dA X.D δ q))(hc:N2 e=false)
  (h:(match δ[i]? with
   | some (.od (.tup [.dct J C]))=>Re.thnS δ I λ d _=>Rs.thnS δ F λ l=>(dppD i δ J C l d).map Out.nx
   | _=>none)=some o):PS X (.Assign [.Subscript (.Name x f) (.Tuple es x1 r) s] e pos) (dS X.D δ o):=by
 split at h
 ·rename_i J C Z;cases m:I with
  | none=>rw[m]at h;cases h
  | some q=>
   rw[m]at h;have A:=he q m;cases q with
   | ok d cl=>
    cases j:F with
    | none=>rw[j]at h;cases h
    | some U=>
     rw[j]at h;have B:=hk U j;cases U with
     | ok l=>
      obtain⟨δ',n,h2⟩:=p9.mp h;cases h2;unfold dppD at n;split at n
      ·rename_i a ca b cb z;split at n
       ·rename_i Y;cases n;refine((λ t t' (hA:PE X e t) (hB:PA X es t')=>sn hu hv (oE hB) hA (cA hc)) _ _ A B).weak λ Dn σ H ⟨H0,O,W,R,fr,fo,sm,k⟩=>⟨O,W,R,λ v H1 s1 g=>?_⟩
        obtain⟨⟨p,ob,e0,e1,e2,e3⟩,u⟩:=R.od i _ Z;obtain⟨L,S,eo⟩:∃L,DV.tup _=.tup _/\ob=.dT _:=kZ e0 rfl;subst eo;obtain⟨Q,P⟩:J=L.map (λ p=>kD p.1)/\C=L.map _:=DV.dct.inj (eD (DV.tup.inj S)).1;subst Q P;refine⟨.ref p,e1,O,W,R.mono s1,λ vs2 H2 s2 g2=>?_⟩;have N:=g.int (R.hid.mono s1);obtain⟨w1,w2,ew,g3,g4⟩:=g2.two;have w:=(R.mono s1).hid.mono s2;have M:=g3.int w;have K:=g4.int w;subst N M K ew;refine⟨by show(2:Nat)<=sizeLine;decide,λ q hq=>?_⟩;have E:Same H2 (upd H2 q (.tup [.int a,.int b])):=u9 hq;have y:=E _ _ (s2 _ _ (s1 _ _ e3));rw[d7]at Y;refine⟨p,_,rfl,DPut.t (k:=kP (a,b)) y v6 (by unfold oeK;rw[d7];exact q9 Y Jz),?_⟩;rw[Em];have pe:=En L (a,b) z;unfold kD at pe k;rw[pe]at k;exact k σ _ W ((((R.mono s1).mono s2).mono E).writeOd Z e1 e2 y rfl (.inl ⟨_,rfl,rfl⟩)) fr (Y0 (((sm.trans s1).trans s2).trans E) (fr p e2))
       ·cases n
      ·cases n
 ·cases h
theorem Es(C:X.A.units+1<cLine)(hv:PE X (.Name x a) (tVar i))(E:∀q,rb=some q->PE X l (dE X.D δ q))(hs:L8 l=false)
  (h:(match δ[i]? with
   | some (.od (.tup [.dct j g]))=>Re.thn rb λ y _=>dgpD j g y
   | _=>none)=some m):PE X (.Subscript (.Name x a) l pos) (dE X.D δ m):=by
 split at h
 ·rename_i j g F;cases b:rb with
  | none=>rw[b]at h;cases h
  | some r=>
   rw[b]at h;have B:=E r b;cases r with
   | ok dk ck=>
    have e:dgpD j g dk=some m:=h;unfold dgpD at e;split at e
    ·rename_i U S;split at e
     ·rename_i v n;cases e;refine((λ w (I:PE X l w)=>Ek C hv I (lg hs)) _ B).weak λ σ H Q t0=>?_;obtain⟨O,W,R,p⟩:=t0
      obtain⟨⟨s,A,P,N,e2,M⟩,u⟩:=R.od i _ F;obtain⟨L,o,K⟩:∃L,DV.tup _=.tup _/\A=.dT _:=kZ P rfl;subst K;obtain⟨d,c⟩:j=L.map _/\g=L.map _:=DV.dct.inj (eD (DV.tup.inj o)).1;subst d c;refine⟨.ref s,N,O,W,R,λ v2 Y s2 J=>?_⟩;obtain⟨z,d,c⟩:=El (J.all (R.hid.mono s2));exact⟨s,.int v,rfl,.inr ⟨oeK L,_,z,.inl (s2 _ _ M),d,c,(Ep (k:=(U,S)) n).symm⟩,p _ Y s2 v7⟩
     ·cases e
    ·cases e
 ·cases h
def Kp(a:Ji)(h h':Jj):Prop:=∀b o,b≠a->h.get? b=some o->h'.get? b=some o
theorem Kp.of(x:Heap.SameBut a h c):Kp a h c:=λ b o n e=>x.extBut b o n e
theorem Kp.trans(x:Kp a h h')(y:Kp a h' c):Kp a h c:=λ b o n e=>y b o n (x b o n e)
theorem Kp.push(x:Kp a h c)(d:Obj):Kp a h (c.push d):=λ b o n e=>g9 _ (x b o n e)
section
variable {prog:Jo} {w:Jn} {A:Jp} {E:Jg->Jh->Prop} {s:Jh} {d it:Ji} {i ep:Nat} {od:Obj} {es:Jl DictEntry} {ok ov:Jg}
theorem Et(hd:(d==sysModules)=false):MeetsIn prog w (Builtin.«dict.items» ⟨[.ref d],[]⟩) (λ _ R s=>s.TypeIs (.ref d) "dict" /\
  R (.ok (.ret (.ref s.heap.objs.size))) {s with heap:=s.heap.push {cls:=.type "dict_items",data:=.fields #[.ref d]}}):=.of_wp λ A R s q=>by
 have a:¬((d==sysModules)=true):=by rw[hd];exact x0
 unfold Builtin.«dict.items» Builtin.Dict.noArgs Builtin.Dict.showsAll;refine d4 (d4 (nR q.1 (d9 ?_)));show wpAny _ _ _ _ _ s;rw[e8 a];exact d4 (d9 (d4 (B7 (d9 ⟨_,rfl,q.2⟩))))
theorem Eu(hv:s.heap.IsItemsView v d)(c:s.heap.get? d=some b)(a:b.data=.dict es ep)
  (q:Q (.ref s.heap.objs.size) {s with heap:=s.heap.push {cls:=.type "dict_itemiterator",data:=.fields #[.none,.bool false,.ref d,.int 0 0,.int es.size 0,.int ep 0,.none,.none]}}):wpAny JG A (pyIter (.ref v)) Q E s:=by
 obtain⟨_,f,_,e⟩:=id hv;refine dP hv.typeIs nM (D5 nM hv.typeIs F.entry_dict_items_iter ?_ (F.args_dict_items_iter_1 _));unfold Builtin.«dict_items.__iter__» Builtin.Dict_items.dictOf Builtin.Dict_items.newIterator;refine d4 (d9 (d4 (d4 (D8 f e rfl (d9 (d4 (d4 (dQ c a (d4 (eg c a ?_))))))))));rw[show Builtin.Dict_items.ownsTuple "dict_itemiterator" = true from by decide];exact B7 (d9 ⟨_,rfl,"dict_itemiterator",_,⟨_,o4 _ rfl,rfl⟩,F.slot_dict_itemiterator_next.lookup,q⟩) (by show(8:Nat)<=_;rw[G8];omega)
theorem so{ov:Jg}(P:A.handled=none)(c:IsItemIter s.heap it d i es.size ep ok ov)(g:s.heap.get? d=some u)(k:u.data=.dict es ep)
  (e:∀en h',es[i]? = some en->IsItemIterOut h' it d (i+1) es.size ep en.key en.val s.heap.objs.size->h'.get? s.heap.objs.size=some {cls:=.type "tuple",data:=.seq #[en.key,en.val]} -> Kp it s.heap h'->Q (some (.ref s.heap.objs.size)) {s with heap:=h'})
  (f:∀h',es[i]? = none->Kp it s.heap h'->Q none {s with heap:=h'}):wpAny JG A (pyNext (.ref it)) Q E s:=by
 have ty:∀{h:Jj} {j:Nat} {x y:Jg},IsItemIter h it d j es.size ep x y->Shared.TypeIs {s with heap:=h} (.ref it) "dict_itemiterator":=λ z=>⟨_,z,rfl⟩;have o:Builtin.Dict_items.ownsTuple "dict_itemiterator" = true:=by decide
 have O:¬((Value.ref d==Value.none)=true):=x0;unfold pyNext;refine d4 (Q0 (M3 (ty c) mT (D5 mT (ty c) F.entry_dict_itemiterator_next ?_ (F.args_dict_itemiterator_next_1 _))));refine d4 (d9 (d4 (d4 (d4 (gJ (ty c) (d9 (d4 (ah c rfl ?_))))))));simp only[o,if_true];show wpAny _ _ (if(Value.ref d==Value.none)=true then _ else _) _ _ s;rw[e8 O];refine d4 (d9 (d4 (dQ g k ?_)));rw[e8 JN];refine d4 (d9 (d4 (eg g k ?_)));rw[e8 JN];refine d9 ?_;dsimp only;rw[e8 (show ¬((i:Int)<0) by omega),v5];cases B:es[i]? with
 | none=>
  dsimp only;refine d4 (d4 (gJ (ty c) (d9 ?_)));simp only[o,if_true];refine d4 (J5 c JN λ l r s1=>d4 ?_);unfold newExc newTuple;refine d4 (B7 (d4 (m:=firstArgMember _ _) (ak (a:=Value.none) (by first | rfl | (simp only[firstArgMember];rfl)) (B7 (wpAny_raiseNew_none P (d4 (ab (T:="StopIteration") (b:=true) ⟨_,o4 _ rfl,rfl⟩ bt (d9 ?_)))) (by size_fits)))) (by size_fits));exact f _ B (((Kp.of s1).push _).push _)
 | some en=>
  dsimp only;refine d4 (d4 (gJ (ty c) (d9 (d4 (gU (ty c) ?_)))));simp only[o,if_true];refine d4 (J5 c JN λ l r s1=>?_);have p:IsItemIter l it d (i+1) es.size ep ok ov:=by unfold IsItemIter;rw[show((i+1:Nat):Int)=(i:Int)+1 by omega];exact r
  refine d4 (C7 (d4 (gU (ty p) (d4 (gU (ty p) ?_)))));show wpAny _ _ _ _ _ {s with heap:=l};unfold Builtin.Dict_items.pairFromOwner Builtin.Dict_items.ownedTupleIsFree;have sz:=s1.1;have n:IsItemIter (l.push {cls:=.type "tuple",data:=.seq #[en.key,en.val]}) it d (i+1) es.size ep ok ov:=g9 _ p;have J:(l.push {cls:=.type "tuple",data:=.seq #[en.key,en.val]}).get? s.heap.objs.size=some {cls:=.type "tuple",data:=.seq #[en.key,en.val]}:=by rw[←sz];exact o4 _ rfl
  refine d4 (iE (d4 (d4 (D8 n rfl (x:=.none) rfl (d9 ?_)))));simp only[if_true];refine d4 (D8 n rfl (x:=ok) rfl (d4 (D8 n rfl (x:=ov) rfl ?_)));refine d4 (J5 n JN λ h3 I N=>d4 (J5 I JN λ h4 H M=>d4 (J5 H JN λ h5 C L=>d4 (J5 C JN λ R q K=>?_))));have v:=(((Kp.of N).trans (.of M)).trans (.of L)).trans (.of K);refine d4 (wpAny_letGo (d9 (d9 ⟨_,rfl,d9 ?_⟩)));rw[sz]at q ⊢;exact e en R B q (v _ _ (Ne.symm (o6 (j7 c))) J) (((Kp.of s1).push _).trans v)
def aL(h:Jj)(it d:Ji)(i n ep:Nat):Prop:=h.get? it=some {cls:=.type "dict_keyiterator",dict:=none,data:=.fields #[.ref d,.int i 0,.int n 0,.int ep 0],slots:=#[]}
theorem Ev(f:(d==sysModules)=false)(b:s.TypeIs (.ref d) "dict")(c:s.heap.get? d=some od)(a:od.data=.dict es ep)
  (q:Q (.ref s.heap.objs.size) {s with heap:=s.heap.push {cls:=.type "dict_keyiterator",data:=.fields #[.ref d,.int 0 0,.int es.size 0,.int ep 0]}}):wpAny JG A (pyIter (.ref d)) Q E s:=by
 have e:¬((d==sysModules)=true):=by rw[f];exact x0
 refine dP b F.slot_dict_iter (D5 F.slot_dict_iter b F.entry_dict_iter ?_ (F.args_dict_iter_1 _));unfold Builtin.«dict.__iter__» Builtin.Dict.dictSlotNone Builtin.Dict.showsAll;refine d4 (d4 (nR b (d9 ?_)));show wpAny _ _ ((if _=true then _ else _) >>= _) _ _ s;rw[e8 e];exact d4 (d9 (d4 (dQ c a (d4 (eg c a (d4 (B7 (d9 ⟨_,rfl,"dict_keyiterator",_,⟨_,o4 _ rfl,rfl⟩,F.slot_dict_keyiterator_next.lookup,q⟩))))))))
theorem sr(u:A.handled=none)(c:aL s.heap it d i es.size ep)(k:s.heap.get? d=some od)(l:od.data=.dict es ep)
  (e:∀en g,es[i]? = some en->aL g it d (i+1) es.size ep->Kp it s.heap g->Q (some en.key) {s with heap:=g})
  (f:∀g,es[i]? = none->Kp it s.heap g->Q none {s with heap:=g}):wpAny JG A (pyNext (.ref it)) Q E s:=by
 have ty:∀{h:Jj} {j:Nat},aL h it d j es.size ep->Shared.TypeIs {s with heap:=h} (.ref it) "dict_keyiterator":=λ z=>⟨_,z,rfl⟩;have m:Builtin.Dict_items.ownsTuple "dict_keyiterator" = false:=by decide
 have r:¬((Value.ref d==Value.none)=true):=x0;unfold pyNext;refine d4 (Q0 (M3 (ty c) mV (D5 mV (ty c) F.entry_dict_keyiterator_next ?_ (F.args_dict_keyiterator_next_1 _))));refine d4 (d9 (d4 (d4 (d4 (gK (ty c) (d9 (d4 (ah c rfl ?_))))))));simp only[m,K6,if_false];show wpAny _ _ (if(Value.ref d==Value.none)=true then _ else _) _ _ s;rw[e8 r];refine d4 (d9 (d4 (dQ k l ?_)));rw[e8 JN];refine d4 (d9 (d4 (eg k l ?_)));rw[e8 JN];refine d9 ?_;dsimp only;rw[e8 Jy,v5];cases p:es[i]? with
 | none=>
  dsimp only;refine d4 (d4 (gK (ty c) (d9 ?_)));simp only[m,K6,if_false];refine d4 (J5 c JN λ n o s1=>d4 ?_);unfold newExc newTuple;refine d4 (B7 (d4 (ak (by first | rfl | (simp only[firstArgMember];rfl)) (B7 (wpAny_raiseNew_none u (d4 (ab ⟨_,o4 _ rfl,rfl⟩ bt (d9 ?_)))) (by size_fits)))) (by size_fits));exact f _ p (((Kp.of s1).push _).push _)
 | some en=>
  dsimp only;refine d4 (d4 (gK (ty c) (d9 (d4 (nS (ty c) ?_)))));simp only[m,K6,if_false];refine d4 (J5 c JN λ n o s1=>?_);have q:aL n it d (i+1) es.size ep:=by unfold aL;rw[show((i+1:Nat):Int)=(i:Int)+1 by omega];exact o
  refine d4 (C7 (d4 (nS (ty q) ?_)));exact d9 (d9 ⟨_,rfl,d9 (e en n p q (.of s1))⟩)
end
def ItP(a:Ji)(ob:Obj)(qs:ge Ji)(kvs:ge (ge Key×V)):It:=
  ⟨λ i H=>H a=some (.frz ob (.dT kvs))/\∃k v,kvs[i]? = some (k,v),
   λ i H x H'=>∃p q k v,x=.ref p/\H p=none/\kvs[i]? = some (k,v)/\qs[i]? = some q/\H q=some (.tup (k.map kV))/\H'=upd H p (.tup [.ref q,v]),
   λ i H=>H a=some (.frz ob (.dT kvs))/\kvs.length<=i⟩
theorem Ew(r:KT H c xs):∀{i:Nat} {k:ge Key} {v:V},c[i]? = some (k,v)->∃b u,xs[i]? = some (k,b,u)/\H b=some (.tup (k.map kV))/\RelV v u:=by
 induction r with
 | nil=>intro i k v h;cases h
 | cons p t e=>
  intro i k v h;cases i with
  | zero=>
   obtain⟨p1,p2,p3⟩:=p;rename_i a b _ _;obtain⟨a1,a2⟩:=a;obtain⟨b1,g,f⟩:=b;cases h;have d:=p1;subst d;exact⟨g,f,rfl,p2,p3⟩
  | succ i=>exact e h
theorem KT.length(r:KT H a xs):a.length=xs.length:=by
 induction r with
 | nil=>rfl
 | cons _ _ b=>rw[n7,n7,b]
theorem lj(I:JM b)(h:H a=some (.frz c (.dT d)))(hd:c.data=.dict es ep) :
  s.heap.get? a=some c/\(a==sysModules)=false/\c.ExactDict/\∃xs,KT H d xs/\es.toList=xs.map (entryOfKey (tupleKind (D9 X.prog X.w))):=by
 obtain⟨e,z1,j,xs,i,o,m,n,g,l,f,k,y5⟩:=(show p4 X.prog X.w H s.heap a (.frz c _)from I.hok _ _ h);rw[e]at g;cases g;rw[hd]at f;cases f;exact⟨e,j,l,xs,i,k⟩
def su(es:Jl DictEntry)(qs:ge Ji):Prop:=es.toList.map (·.key)=qs.map Value.ref
theorem Ex{K:Js}(hd:ob.data=.dict es ep)(M:su es C) :
  Turn P w K (.Tuple elts k pos) (ItP a ob C F) [it] it (λ i h=>∃ok ov,IsItemIter h it a i es.size ep ok ov) where
 mem:=by simp
 obj:=λ i h st b d=>by obtain⟨ok,ov,g⟩:=st;rw[r9]at d;subst d;exact⟨_,g,λ v q=>by cases q⟩
 keep:=λ i h y st q=>by obtain⟨ok,ov,g⟩:=st;exact⟨ok,ov,q it JN _ g⟩
 item:=by
  intro X S J U R i j s Z H E I x st O;subst S J U;obtain⟨ok,ov,g⟩:=st;obtain⟨W,k0,v0,r⟩:=O;obtain⟨B,z2,z4,xs,A,z⟩:=lj I W hd;obtain⟨b,u,hu,d,ru⟩:=Ew A r;have Q:es[i]? = some (entryOfKey (tupleKind (D9 X.prog X.w)) (k0,b,u)):=by rw[entry_at z,hu];rfl
  have L:C[i]? = some b:=by
   have h1:(es.toList.map (·.key))[i]? = some (.ref b):=by rw[o8,F6,Q];rfl
   rw[M,o8]at h1;obtain⟨c,e1,e2⟩:=p9.mp h1;cases e2;exact e1
  refine so (I.ok.hd R) g B hd (λ en y f b2 b3 b5=>?_) (λ y p _=>by rw[Q]at p;cases p);rw[Q]at f;cases f;refine⟨_,rfl,?_⟩;refine wpAny_letOwnedTupleGo_items b2 λ h2 N t2=>?_;have m:=Q1 (j7 g);have I1:=I.turnedL (t':=s.toks) (λ b o d e=>t2.extBut _ _ (λ q=>d (by simp[q])) (b5 b o (λ q=>d (by simp[q])) e)) x;have l:=I.hok.fresh (f8 _);have Y:=I.fpOk (f8 _) l;have I2:Inv X j Z (upd H s.heap.objs.size (.tup [.ref b,v0])) {s with heap:=h2}:=I1.track l (Z4 I.sz) Y.2.1 (λ n c e=>Y.2.2.2.2.1 n c e) (λ q M=>Y.2.2.2.2.2 q M)
   ⟨by show(2:Nat)<=sizeLine;decide,[.ref b,u],.cons rfl (.cons ru .nil),_,(t2.extBut _ _ m b3),⟨rfl,rfl⟩,_,rfl⟩
  refine⟨.ref s.heap.objs.size,_,I2,rfl,⟨_,b,k0,v0,rfl,l,r,L,d,rfl⟩,⟨_,_,N⟩,λ b d=>?_⟩;rw[r9]at d;subst d;rw[j3 (Ne.symm m)];exact(x b JN).1
 done:=by
  intro X S J U R i j s Z H E I x st O;subst S J U;obtain⟨ok,ov,g⟩:=st;obtain⟨W,r⟩:=O;obtain⟨B,z2,z4,xs,A,z⟩:=lj I W hd;have hl:es.size<=i:=by rw[size_of_entries z,←A.length];exact r
  exact so (I.ok.hd R) g B hd (λ en y f _ _ _=>by rw[K5 hl]at f;cases f) λ y _ a=>⟨rfl,I.turnedL (t':=s.toks) (ch:=[it]) (λ b o d e=>a b o (λ q=>d (by simp[q])) e) x⟩
 self:=λ _ _ _ _ _ st h=>by obtain⟨ok,ov,g⟩:=st;exact PySem.W.kcp_self g h
theorem Wk.itemsP{K:ge Ji}(h:L2.wo K g a=some (.frz C (.dT b)))(e:b=oeK L)(P:∀q∈B,∃n,g q=some (.tup n))(R:Hdn J g):Wk D (ItP a C B b) (L.map λ p=>.tup [.tup [.int p.1.1,.int p.1.2],.int p.2]) K J g:=by
 subst e;have Q:(oeK L).length=L.length:=by unfold oeK;rw[d7]
 have c:∀(i:Nat),(oeK L)[i]? = (L[i]?).map λ p=>(kP p.1,V.int p.2):=λ i=>by unfold oeK;rw[o8];rfl
 refine⟨λ i H s I=>?_,λ i H x U y=>?_,λ i H x U d M s s' y e F=>?_,λ H s=>?_⟩
 ·rw[d7]at I;exact⟨t6 _ _ (s _ _ h),kP L[i].1,.int L[i].2,by rw[c,j6 I];rfl⟩
 ·obtain⟨p,q,k,v,_,f,_,_,_,e⟩:=y;rw[e];exact u9 f
 ·obtain⟨p,q,k,v,ex,f,j,N,r,S⟩:=y;rw[o8]at e;rw[c]at j;cases E:L[i]? with
  | none=>rw[E]at e;cases e
  | some O=>
   rw[E]at e j;cases e;cases j;have l:q∉M:=λ z=>by
    obtain⟨n,w⟩:=P q (S5 N);rcases(F q z).2 with u | u
    ·obtain⟨o,A,m⟩:=R q u;rw[w]at A;cases A;cases m
    ·rw[w]at u;cases u
   subst S;have r1:Rep D (L2.wo M (upd H p (.tup [.ref q,.int O.2]))) _ _:=
    C9.mpr ⟨q,_,rfl,SqT.of (by rw[i8 l,j3 (A0 r f)];exact r),u8.mpr ⟨_,_,rfl,u6.mpr rfl,RepL.one (u6.mpr rfl)⟩⟩
   exact C9.mpr ⟨p,_,ex,SqT.of (by rw[i8 (λ z=>(F p z).1 f)];exact v6),u8.mpr ⟨_,_,rfl,r1,RepL.one (u6.mpr rfl)⟩⟩
 ·exact⟨t6 _ _ (s _ _ h),by rw[d7,Q];exact f8 _⟩
theorem Ey(he:PE X e S)(n:attributeBase e "items" X.env (eval e X.env)=eval e X.env)(j:(apos.endLine==pos.line)=true) :
  PI X (.Tuple elts k tpos) (.Call (.Attribute e "items" apos) [] [] pos) (λ C H R=>S C H λ x g=>∃a f d,x=.ref a/\g a=some (.frz f (.dT d))/\∀U:ge Ji,(∀q∈U,∃F,g q=some (.tup F))->R (ItP a f U d) g):=by
 intro u s C H R I h;refine nu n j (thn (he u s C H _ I h) λ v s1 t0=>?_);obtain⟨x,g,B,r1,a,f,d,e1,L,q⟩:=t0;subst e1;cases r1;obtain⟨i,w,A,N,E⟩:∃i w A,s1.heap.get? a=some i/\i.data=.dict w A:=by obtain⟨r,z1,Q,xs,P,o,w,A,y1,y2,y3,y4⟩:=(show p4 X.prog X.w g s1.heap a (.frz f (.dT d))from B.hok _ _ L);exact⟨o,w,A,y1,y3⟩
 have yo:i=f:=(by obtain⟨r,_⟩:=(show p4 X.prog X.w g s1.heap a (.frz f (.dT d))from B.hok _ _ L);rw[r]at N;cases N;rfl);subst yo;obtain⟨r,Q,O,xs,P,Z⟩:=lj B L E;have J:s1.TypeIs (.ref a) "dict":=⟨i,r,O.1⟩;have nD:∀b,Value.ref a=.ref b->∃f,s1.heap.get? b=some f/\f.dict=none:=λ b q=>by cases q;exact⟨i,r,O.2.1⟩
 refine⟨"dict","dict.items",PySem.F.plainAttrs_dict,nA,PySem.F.type_dict_items,J,nD,ba rfl (PySem.evalArgs_none ?_)⟩;refine call_meetsIn nA J PySem.F.entry_dict_items (PySem.F.args_dict_items_1 _) (Et Q) ⟨J,?_⟩;have W:∀b o,s1.heap.get? b=some o->(s1.heap.push {cls:=.type "dict_items",data:=.fields #[.ref a]}).get? b=some o:=λ b o e=>g9 _ e;have M:=B.kept (t':=s1.toks) W;refine Eu ⟨_,o4 _ rfl,rfl,rfl⟩ (W _ _ r) E ?_;refine⟨_,[_],_,ItP a i _ d,g,rfl,M.kept (t':=s1.toks) λ b o e=>g9 _ e,Ex (elts:=elts) (k:=k) (pos:=tpos) E ((by unfold su;rw[Z,k6,k6];rfl)),⟨.none,.none,o4 _ rfl⟩,λ c Y=>?_,q _ λ b hb=>?_⟩
 ·rw[r9]at Y;subst Y;exact M.fpOk (f8 _) (M.hok.fresh (f8 _))
 ·obtain⟨y,hy,rfl⟩:=f9.mp hb;have all:∀{l:ge (ge Key×V)} {m:ge _},KT g l m->∀x∈m,∃F,g x.2.1=some (.tup F):=by
   intro l m q
   induction q with
   | nil=>intro x K;exact nomatch K
   | cons p t ih=>
    intro x K;rcases g5.mp K with z | z
    ·rw[z];exact⟨_,p.2.1⟩
    ·exact ih x z
  exact all P y hy
theorem Ez(h:kvp? ks vs=some L){a:ge (Key×V)}(e:a.map (λ p=>dKey p.1)=ks):L=[]/\a=[]:=by
 cases a with
 | nil=>
  subst e;cases vs with
  | nil=>cases h;exact⟨rfl,rfl⟩
  | cons _ _=>cases h
 | cons p a=>
  subst e;obtain⟨k,v⟩:=p;cases k<;>cases vs<;>cases h
theorem EA:∀{ks:ge DKey} {d:ge DV} {L:ge ((Int×Int)×Int)},kvp? ks d=some L->∀{D:Dm} {H:Hp} {c:ge (ge Key×V)},c.map (λ p=>DKey.t p.1)=ks->RepL D H d (c.map (·.2))->c=oeK L:=by
 intro ks
 induction ks with
 | nil=>
  intro d L h D H c e r;cases c with
  | nil=>cases d with
   | nil=>cases h;rfl
   | cons _ _=>cases h
  | cons _ _=>cases e
 | cons l ks m=>
  intro d L h D H c e r;unfold kvp? at h;split at h
  ·exact absurd (by assumption:l::ks=[]) (ip _ _)
  ·rename_i a b j v g q;cases q;obtain⟨L',o,n⟩:=p9.mp h;subst n;cases c with
   | nil=>cases e
   | cons p c=>
    obtain⟨k,i⟩:=p;obtain⟨w,ws,y,x,u⟩:=u8.mp r;cases y;have f:=eD e;rw[m o f.2 u,show k=[.inl a,.inl b]from DKey.t.inj f.1,show i=.int v from u6.mp x];rfl
  ·cases h
theorem EB(i:attributeBase e "items" X.env (eval e X.env)=eval e X.env)(g:(d.endLine==pos.line)=true)(F:∀q,r=some q->PE X e (dE X.D δ q))
  (h:k7 (Re.thn r λ x c=>itmD x c)=some o):PI X (.Tuple elts k j) (.Call (.Attribute e "items" d) [] [] pos) (dI X.D δ o):=by
 cases f:r with
 | none=>rw[f]at h;cases h
 | some q=>
  rw[f]at h;have A:=F q f;cases q with
  | ok K M=>
   have b:k7 (itmD K M)=some o:=h;unfold itmD at b;split at b
   ·rename_i ks B;split at b
    ·rename_i u;obtain⟨rfl,s⟩:=u;cases m:kvp? ks B with
     | none=>rw[m]at b;cases b
     | some L=>
      rw[m]at b;cases b;exact((λ C (I:PE X e C)=>Ey I i g) _ A).weak λ σ H R' ⟨O,W,R,p⟩=>⟨O,W,R,λ x N s1 J=>by
       rcases O9.mp (J)with⟨a,w,l,z,v,n,y⟩ | ⟨a,w,l,z,v,n,y⟩
       ·obtain⟨rfl,rfl⟩:=Ez m n;subst n;cases s
       ·exact⟨a,w,l,z,t6 _ _ v,λ qs E=>p _ N s1 (Wk.itemsP v (EA m n y) E (R.hid.mono s1).hdA)⟩⟩
    ·cases b
   ·cases b
theorem sw(h:dKey k=.i n):k=.inl n:=by
 cases k with
 | inl j=>cases h;rfl
 | inr j=>cases h
theorem sx(k:Int)(a:ge (Key×V)):(valV a (.inl k)).isSome=decide (DKey.i k∈a.map λ p=>dKey p.1):=by
 rw[←fW,J7,J6,C6,f9];constructor
 ·rintro⟨p,c,b⟩;exact⟨p,c,by rw[Z9 b];rfl⟩
 ·rintro⟨p,c,b⟩;exact⟨p,c,t8 (sw b)⟩
theorem ll:∀{a:ge (Key×V)} {b:ge DV},RepL D H b (a.map (·.2))->E1 (.i k) (a.map λ p=>dKey p.1) b=some d->∃v,valV a (.inl k)=some v/\Rep D H d v
 | [],b,r,h=>by cases b<;>cases h
 | _::a,[],r,h=>by cases h
 | (f,g)::a,m::b,r,h=>by
  obtain⟨w,ws,l,j,i⟩:=u8.mp r;cases l;have c:(if dKey f=.i k then some m else E1 (.i k) _ b)=some d:=h;by_cases e:f=.inl k
  ·subst e;rw[d8 (show dKey _=.i k from rfl)]at c;cases c;rw[cD rfl];exact⟨g,rfl,j⟩
  ·rw[e8 (λ z=>e (sw z))]at c;rw[cF e];exact ll i c
theorem sy:∀{c:ge (ge Key×V)} {b:ge DV},E1 (.i k) (c.map λ p=>DKey.t p.1) b=none
 | [],b=>by cases b<;>rfl
 | a::l,[]=>rfl
 | a::l,v::b=>by show(if DKey.t a.1=.i k then some v else E1 (.i k) _ b)=none;rw[e8 (λ z=>by cases z)];exact sy
section
variable {X:Cx} {δ:ge Sv} {o:Out} {e ek ea:Jk} {pos pos' npos spos:Pos} {ra rb:on Re} {i:Nat} {x:Str} {re:Re}
theorem gf{o:HO}(h:OdOk D H (.dct b vs) o):∃a,b=a.map (λ p=>dKey p.1)/\o=.dK a/\RepL D H vs (a.map (·.2)):=by
 rcases h with⟨L,z,_⟩ | ⟨vs',a,z,e,r⟩
 ·cases z
 ·cases z;exact⟨a,rfl,e,r⟩
theorem EC(m:X.N.Nodup)(f:X.N[i]? = some x)(e:Loc X.env.scope x)(g:X.fn x=true\/X.env.scope.names.lookup x=some .local)(h:some (Out.nx (δ.set i (.od (.dct [] []))))=some o):PS X (.Assign [.Name x npos] (.Dict [] [] pos') pos) (dS X.D δ o):=by
 cases h;refine(iR m f e Ea rfl g).weak λ Dn σ H ⟨H0,O,W,R,n,fo,sm,k⟩=>λ p b=>?_
 exact k _ _ _ ((R.growD b rfl).setOd (i5 ..) (.inr ⟨[],[],rfl,rfl,y9.mpr rfl⟩) v6 λ j d q w=>by
   obtain⟨⟨a,o,_,r,_,c⟩,_⟩:=R.od j d q;rw[r]at w;cases w;rw[b]at c;cases c) (λ a l=>by
  rcases g5.mp l with z | z
  ·rw[z];exact sm.free b
  ·exact n a z) (sm.trans (u9 b))
theorem ED(M:X.A.units+1<cLine)(hv:PE X (.Name x npos) (tVar i))(Q:∀q,ra=some q->PE X e (dE X.D δ q))(P:∀q,rb=some q->PE X ek (dE X.D δ q))(S:N2 e=false)(h:dplS δ i rb ra δ[i]? = some o):PS X (.Assign [.Subscript (.Name x npos) ek spos] e pos) (dS X.D δ o):=by
 unfold dplS at h;split at h
 ·rename_i ks K C;cases b:ra with
  | none=>rw[b]at h;cases h
  | some q=>
   cases f:rb with
   | none=>rw[b,f]at h;cases q;cases h
   | some z=>
    rw[b,f]at h;have A:=Q q b;have B:=P z f;cases q with
    | ok d c=>cases z with
     | ok y cy=>
      obtain⟨l,L,w⟩:=p6.mp (h);obtain rfl:=u5 L;split at w
      ·rename_i s;cases w;refine(sn M hv B A (cA S)).weak λ Dn J H ⟨H0,O,W,R,E,fo,sm,k⟩=>⟨O,W,R,λ v H1 s1 g=>?_⟩
       obtain⟨⟨p,ob,Z,I,F,Y⟩,u⟩:=R.od i _ C;obtain⟨a,rfl,rfl,r⟩:=gf Z;refine⟨.ref p,I,O,W,R.mono s1,λ v2 H2 s2 U=>?_⟩;have m:=U.int ((R.mono s1).hid.mono s2);subst m;have j:=s2 _ _ (s1 _ _ Y);have N:valV a (.inl l)=none:=by have:=sx l a;rw[x4 s.2.1]at this;exact Option.not_isSome_iff_eq_none.mp (by rw[this];decide)
       have n:a.length<j5:=by have:=s.2.2;rw[d7]at this;exact this
       refine⟨p,_,rfl,DPut.k (k:=.inl l) j (q9 n Jz),?_⟩;rw[DL v N];refine k J _ W (((R.mono s1).mono s2).writeOd C I F j rfl (.inr ⟨K++[d],a++[_],?_,rfl,?_⟩)) E (Y0 ((sm.trans s1).trans s2) (E p F))
       ·rw[t5];rfl
       ·rw[t5];exact(r.mono (s1.trans s2).wo).append (RepL.one ((g.stro (R.hid.mono s1) s.1).mono s2.wo))
      ·cases w
 ·cases h
theorem EF(n:X.A.units+1<cLine)(hv:PE X (.Name x npos) (tVar i))(o:∀q,rb=some q->PE X ek (dE X.D δ q))(hs:L8 ek=false)(h:dglE rb δ[i]? = some re):PE X (.Subscript (.Name x npos) ek pos) (dE X.D δ re):=by
 unfold dglE at h;split at h
 ·rename_i ks vs s;cases a:rb with
  | none=>rw[a]at h;cases h
  | some b=>
   rw[a]at h;have B:=o b a;cases b with
   | ok y cy=>
    obtain⟨l,m,h⟩:=p6.mp (h);obtain rfl:=u5 m;obtain⟨d,hd,rfl⟩:=p9.mp h;refine(sj n hv B (lg hs)).weak λ σ H Q t0=>?_;obtain⟨O,W,R,p⟩:=t0
    obtain⟨⟨f,ob,A,z,e2,w⟩,u⟩:=R.od i _ s;obtain⟨j,rfl,rfl,r⟩:=gf A;refine⟨.ref f,z,O,W,R,λ v2 C s2 v=>?_⟩;have c:=v.int (R.hid.mono s2);subst c;obtain⟨e,g,b⟩:=ll r hd;exact⟨f,e,rfl,by rw[←g];exact DGet.k (k:=.inl l) (s2 _ _ w),p _ C s2 (b.mono s2.wo:Rep X.D _ d e)⟩
 ·cases h
theorem EG(l:X.A.units+1<cLine)(hv:PE X (.Name x npos) (tVar i))(m:∀q,rb=some q->PE X ek (dE X.D δ q))(h:ninE rb δ[i]? = some re):(∃b,re=.ok (.bl b) .strong)/\∃t,PC X .NotIn ek (.Name x npos) t/\∀σ H Q,dE X.D δ re σ H Q->t σ H Q:=by
 unfold ninE at h;split at h
 ·rename_i ks vs n;cases a:rb with
  | none=>rw[a]at h;cases h
  | some d=>
   rw[a]at h;have B:=m d a;cases d with
   | ok y cy=>
    obtain⟨g,j,h⟩:=p6.mp (h);obtain rfl:=u5 j;cases h;refine⟨⟨_,rfl⟩,_,DU l B hv,λ σ H Q ⟨O,W,R,p⟩=>⟨O,W,R,λ v2 z s2 o=>?_⟩⟩;obtain⟨⟨e,ob,w,v,e2,s⟩,u⟩:=R.od i _ n;obtain⟨f,rfl,rfl,r⟩:=gf w;have c:=o.int (R.hid.mono s2);subst c;refine⟨.ref e,v,e,_,rfl,DGet.k (k:=.inl g) (s2 _ _ s),?_⟩;rw[sx];exact p _ z s2 R5
 ·cases h
theorem EH(J:X.A.units+1<cLine)(L:∀q,ra=some q->PE X ea (dE X.D δ q))(K:∀q,rb=some q->PE X ek (dE X.D δ q))(hs:L8 ek=false)(h:(Re.thn ra λ x c=>Re.thn rb λ y _=>dixC x c y)=some re):PE X (.Subscript ea ek pos) (dE X.D δ re):=by
 cases b:ra with
 | none=>rw[b]at h;cases h
 | some q=>
  cases i:rb with
  | none=>rw[b,i]at h;cases q;cases h
  | some l=>
   rw[b,i]at h;have A:=L q b;have B:=K l i;cases q with
   | ok C N=>cases l with
    | ok y cy=>
     have e:dixC C N y=some re:=h;unfold dixC at e;split at e
     ·rename_i n;subst n;obtain⟨⟨ks,vs⟩,hd,e⟩:=p6.mp e;obtain⟨F,I,e⟩:=p6.mp e;obtain rfl:=u5 I;obtain⟨d,f,rfl⟩:=p9.mp e;cases C<;>cases hd;refine(sj J A B (lg hs)).weak λ σ H Q ⟨O,W,R,p⟩=>⟨O,W,R,λ v H1 s1 g=>⟨O,W,R.mono s1,λ v2 P s2 M=>?_⟩⟩
      have m:=M.int ((R.mono s1).hid.mono s2);subst m;rcases O9.mp g with⟨a,s,j,z,w,o,u⟩ | ⟨a,s,j,z,w,o,u⟩
      ·subst o;obtain⟨r,E,l⟩:=ll u f;exact⟨a,r,z,.inl ⟨j,.inl F,.inr ⟨s,s2 _ _ (x6 w).2⟩,rfl,E.symm⟩,p _ P (s1.trans s2) (l.mono s2.wo:Rep X.D _ d r)⟩
      ·subst o;rw[sy]at f;cases f
     ·cases e
theorem RSt.freezeD(R:RSt D H σ δ O W)(U:δ[i]? = some (.od (.dct E vs)))(N:σ[i]? = some (some (.ref a)))(K:a∈W)(Z:H a=some (.dK f))(Y:E=f.map λ p=>dKey p.1)(X:RepL D (L2.wo (O++W) H) vs (f.map (·.2))) :
  ∃P,(∀b∈P,b∈W)/\RSt D (upd H a (.frz A (.dK f))) σ (δ.set i (.val (.dct E vs))) O P:=by
 have s:∀b∈W.filter (λ b=>decide (b≠a)),b∈W/\b≠a:=λ b c=>⟨(j2.mp c).1,Z9 (j2.mp c).2⟩;have sub:∀b∈O++W.filter (λ b=>decide (b≠a)),b∈O++W:=λ b c=>by
  rcases A5.mp c with z | z
  ·exact B6 _ z
  ·exact v4 _ (s b z).1
 have F:a∉O++W.filter (λ b=>decide (b≠a)):=λ z=>by
  rcases A5.mp z with z | z
  ·exact R.hid.dj a K z
  ·exact(s a z).2 rfl
 have g:Same (L2.wo (O++W) H) (L2.wo (O++W.filter λ b=>decide (b≠a)) (upd H a (.frz A (.dK f)))):=λ b o e=>by obtain⟨c,e⟩:=x6 e;rw[i8 λ z=>c (sub b z),j3 λ z=>c (by rw[z];exact v4 _ K)];exact e
 have ne:∀{b:Ji},b≠a->upd H a (.frz A (.dK f)) b=H b:=λ h=>j3 h;refine⟨W.filter λ b=>decide (b≠a),λ b c=>(s b c).1,⟨λ j d h=>?_,λ j M h=>?_,λ j k b d1 d2 J I l n=>?_,λ j d h=>?_,by rw[B0];exact R.len,
  ⟨λ b c q=>?_,Same.refl _,λ b c=>?_,λ b c=>R.hid.dj b (s b c).1,R.hid.omW K⟩⟩⟩
 ·by_cases r:j=i
  ·subst r;obtain⟨_,e⟩:=X9 h;cases e;exact⟨.ref a,N,O9.mpr (.inl ⟨a,A,f,rfl,by rw[i8 F];exact v6,Y.symm,X.mono g⟩)⟩
  ·rw[p7 (Ne.symm r)]at h;obtain⟨v,l,n⟩:=R.val j d h;exact⟨v,l,n.mono g⟩
 ·have r:=G2 h JI;rw[p7 (Ne.symm r)]at h;obtain⟨b,B,L,C,l,n,x,Q⟩:=R.own j M h;have c:b≠a:=λ z=>by rw[z,Z]at x;cases x
  exact⟨b,B,L,C,l,j2.mpr ⟨n,t8 c⟩,by rw[ne c];exact x,Q.mono g⟩
 ·rw[p7 (Ne.symm (G2 J JI))]at J;rw[p7 (Ne.symm (G2 I JI))]at I;exact R.inj j k b d1 d2 J I l n
 ·have r:=G2 h JI;rw[p7 (Ne.symm r)]at h;obtain⟨⟨b,o,C,l,n,x⟩,u⟩:=R.od j d h;have c:b≠a:=λ z=>r ((R.od i _ U).2 j _ h (by rw[l,N,z]));refine⟨⟨b,o,C.mono g,l,j2.mpr ⟨n,t8 c⟩,by rw[ne c];exact x⟩,λ k d' q w=>?_⟩;have S:=G2 q JI;rw[p7 (Ne.symm S)]at q;exact u k d' q w
 ·by_cases y:b=a
  ·rw[y,v6]at q;cases q
  ·rw[ne y]at q;exact R.hid.ot b (sub b c) q
 ·obtain⟨B,q,m⟩:=R.hid.wl b (s b c).1;exact⟨B,by rw[ne (s b c).2];exact q,m⟩
theorem EI{rest:ge Jq}(f:frdS δ i δ[i]? = some (.nx δ'))(h:PSs X rest (dS X.D δ' o)):PSs X rest (dS X.D δ o):=by
 unfold frdS at f;split at f
 ·rename_i ks vs m;cases f;intro c s j H K I q;obtain⟨J,O,W,R,p,fo,sm,k⟩:=q;obtain⟨⟨a,x,B,A,v,g⟩,u⟩:=R.od i _ m;obtain⟨y,rfl,rfl,r⟩:=gf B;have ok:=I.hok _ _ g;obtain⟨d,l⟩:∃d,s.heap.get? a=some d:=by obtain⟨_,_,_,_,d,_,_,e,_⟩:=ok;exact⟨d,e⟩
  have F:Inv X c j (upd H a (.frz d _)) s:=I.write (by rw[g];trivial) (.inl rfl) (λ b u n e=>e) ⟨d,l⟩ ⟨l,((by refine ok.stay (λ _ _ _ e=>e) (λ b e=>?_) (λ b w e=>?_) (λ b w e=>?_) λ b _ _ _ _ e=>?_<;>(rw[j3 λ z=>by rw[z,g]at e;cases e];exact e)))⟩;obtain⟨C,hs,E⟩:=R.freezeD m A v g rfl r;exact h c s j _ K F ⟨J,O,C,E,λ b n=>p b (hs b n),fo,Y0 sm (p a v),k⟩
 ·cases f
theorem EJ(r:KV a xs){k:Key}(h:a[i]? = some (k,v)):∃u,xs[i]? = some (k,u):=by
 have e:=congrArg (λ l=>l[i]?) r.keys;simp only[o8,h,D7]at e;cases b:xs[i]? with
 | none=>rw[b]at e;cases e
 | some q=>rw[b]at e;cases e;exact⟨q.2,rfl⟩
noncomputable def ItKi(a:Ji)(ob:Obj)(kvs:ge (Key×V)):It:=
  ⟨λ i H=>H a=some (.frz ob (.dK kvs))/\∃n v,kvs[i]? = some (.inl n,v),
   λ i H x H'=>∃n v,x=.int n/\kvs[i]? = some (.inl n,v)/\H'=H,
   λ i H=>H a=some (.frz ob (.dK kvs))/\kvs.length<=i⟩
theorem lm(I:JM b)(h:H a=some (.frz c (.dK d)))(hd:c.data=.dict es ep) :
  s.heap.get? a=some c/\(a==sysModules)=false/\c.ExactDict/\∃xs,KV d xs/\Pairs (D9 X.prog X.w) es.toList xs:=by
 obtain⟨e,z1,j,xs,i,o,n,p,g,m,f,_,l,_⟩:=(show p4 X.prog X.w H s.heap a (.frz c _)from I.hok _ _ h);rw[e]at g;cases g;rw[hd]at f;cases f;exact⟨e,j,m,xs,i,l⟩
theorem EK{K:Js}(hd:O.data=.dict es ep) :
  Turn P w K tg (ItKi a O B) [it] it (λ i h=>aL h it a i es.size ep) where
 mem:=by simp
 obj:=λ i h d b g=>by rw[r9]at g;subst g;exact⟨_,d,λ v q=>by cases q⟩
 keep:=λ i h y d q=>q it JN _ d
 item:=by
  intro X J C L m i j s W H E I x d F;subst J C L;obtain⟨M,p,v0,r⟩:=F;obtain⟨A,Z,Y,xs,z,n⟩:=lm I M hd;obtain⟨u,R⟩:=EJ z r;refine sr (I.ok.hd m) d A hd (λ en y f U b5=>?_) (λ y l _=>by
   have Q:=(x8.mp R).1;rw[←n.length,w6]at Q;rw[K3 Q]at l;cases l)
  obtain⟨t0,ek⟩:∃t,en.key=.int p t:=by
   have q:=(n.get? (by rw[F6];exact f) R).1;rcases O1 (show W3 (.inl p) en.key=true from q)with⟨i',t',N,S⟩ | ⟨_,_,N,S⟩
   ·cases N;exact⟨t',S⟩
   ·cases N
  rw[ek];refine⟨_,rfl,eP U rfl rfl Jz ?_⟩;exact⟨.int p,H,(I.turnedL (λ b o g e=>b5 b o (λ q=>g (by simp[q])) e) x),⟨_,rfl⟩,⟨p,v0,rfl,r,rfl⟩,U,λ c m=>(x c m).1⟩
 done:=by
  intro X J C L m i j s W H E I x d F;subst J C L;obtain⟨M,r⟩:=F;obtain⟨A,Z,Y,xs,z,n⟩:=lm I M hd;have hl:es.size<=i:=by rw[←w6,n.length,←z.length];exact r
  exact sr (I.ok.hd m) d A hd (λ en y f _ _=>by rw[K5 hl]at f;cases f) λ y _ a=>⟨rfl,I.turnedL (λ b o g e=>a b o (λ q=>g (by simp[q])) e) x⟩
 self:=λ _ _ _ _ _ d h=>wpAny_pyIter_keyiter ⟨_,d,rfl,rfl⟩ h
theorem sA:∀{c:ge (Key×V)} {l:ge Int},keyI (c.map λ p=>dKey p.1)=some l->l.length=c.length/\∀(i:Nat) n,l[i]? = some n->∃v,c[i]? = some (.inl n,v)
 | [],l,h=>by cases h;exact⟨rfl,λ i n q=>by cases q⟩
 | (.inr x,v)::c,l,h=>by cases h
 | (.inl m,v)::c,l,h=>by
  obtain⟨r,d,rfl⟩:=p9.mp (h);obtain⟨a,b⟩:=sA d;refine⟨by rw[n7,n7,a],λ i n q=>?_⟩;cases i with
  | zero=>cases q;exact⟨v,rfl⟩
  | succ i=>exact b i n q
theorem Wk.keysI{o:Hp}(h:L2.wo Oc o a=some (.frz g (.dK b)))(e:keyI (b.map λ p=>dKey p.1)=some l):Wk D (ItKi a g b) (l.map DV.int) Oc A o:=by
 obtain⟨z,c⟩:=sA e;refine⟨λ i H s j=>?_,λ i H x B y=>?_,λ i H x B d O2 s s' y e ho=>?_,λ H s=>?_⟩
 ·rw[d7]at j;obtain⟨v,q⟩:=c i _ (j6 j);exact⟨t6 _ _ (s _ _ h),_,v,q⟩
 ·obtain⟨n,v,_,_,e⟩:=y;rw[e];exact Same.refl _
 ·obtain⟨n,v,ex,r,eH⟩:=y;rw[o8]at e;obtain⟨m,w,u⟩:=p9.mp e;obtain⟨v',f⟩:=c i m w;rw[r]at f;cases f;subst u ex;exact u6.mpr rfl
 ·exact⟨t6 _ _ (s _ _ h),by rw[d7,z];exact f8 _⟩
theorem EL(ha:∀q,ra=some q->PE X e (dE X.D δ q))(h:k7 (Re.thn ra λ x c=>kyiD x c)=some B):PI X tg e (dI X.D δ B):=by
 cases i:ra with
 | none=>rw[i]at h;cases h
 | some q=>
  rw[i]at h;have A:=ha q i;cases q with
  | ok Q Z=>
   have z:k7 (kyiD Q Z)=some B:=h;unfold kyiD at z;cases hd:asDc Q with
   | none=>rw[hd]at z;cases z
   | some p0=>
    obtain⟨L,vs⟩:=p0;rw[hd]at z;have n:k7 (if Z=.strong/\L.isEmpty=false then(keyI L).map λ l=>Re.ok _ .strong else none)=some B:=z;split at n
    ·rename_i N;obtain⟨rfl,M⟩:=N;cases C:keyI L with
     | none=>rw[C]at n;cases n
     | some l=>
      rw[C]at n;cases n;cases Q<;>cases hd;intro w s σ H R' I ⟨O,W,R,p⟩;refine thn (A w s σ H (λ x g=>∃a f d,x=.ref a/\g a=some (.frz f (.dK d))/\R' (ItKi a f d) g) I ⟨O,W,R,λ x g s1 g1=>?_⟩) λ v s1 ⟨x,g,r,r1,a,f,d,J,j,q⟩=>?_
      ·rcases O9.mp (g1)with⟨a,f,d,J,j,P,e4⟩ | ⟨a,f,d,J,j,P,e4⟩
       ·subst P;exact⟨a,f,d,J,t6 _ _ j,p _ g s1 (Wk.keysI j C)⟩
       ·subst P;cases d with
        | nil=>cases M
        | cons y d=>cases C
      ·subst J;cases r1;obtain⟨m,E,F,S,K⟩:∃m E F,s1.heap.get? a=some m/\m.data=.dict E F:=by obtain⟨u,z1,U,xs,z3,o,E,F,y1,y2,y3,y4⟩:=(show p4 X.prog X.w g s1.heap a (.frz f _)from r.hok _ _ j);exact⟨o,E,F,y1,y3⟩
       have yo:m=f:=(by obtain⟨u,_⟩:=(show p4 X.prog X.w g s1.heap a (.frz f _)from r.hok _ _ j);rw[u]at S;cases S;rfl);subst yo;obtain⟨u,U,z4,xs,z3,z7⟩:=lm r j K;refine Ev U ⟨m,u,z4.1⟩ u K ?_;refine⟨_,[_],_,ItKi a m d,g,rfl,r.kept λ b o e=>g9 _ e,EK K,o4 _ rfl,λ c Y=>?_,q⟩;rw[r9]at Y;subst Y;exact r.fpOk (f8 _) (r.hok.fresh (f8 _))
    ·cases n
end
structure Good(sg:Sg)(G:Gs)(F:Nat->List DV->Option Ou)(X:Cx):Prop where
 N:X.N=sg.N
 nd:X.N.Nodup
 vis:∀x,visB sg x=true->Vis X.env.scope x
 glo:∀x,gloB sg x=true->Gl X x
 loc:∀x,locB sg x=true->Loc X.env.scope x/\(X.fn x=true\/X.env.scope.names.lookup x=some .local)
 lcl:∀x,sg.sc.lookup x=some .local->X.env.scope.names.lookup x=some .local
 cel:∀x,(sg.sc.lookup x=some .cell\/sg.sc.lookup x=some .free)->X.env.scope.names.lookup x=some .cell\/X.env.scope.names.lookup x=some .free
 calm:X.calm=true
 hu:X.A.units+64<cLine
 fns:∀f x,sg.fn[f]? = some x->∃k fa fd ps,Room k X.A/\X.mg x=some (.ref fa)/\PySem.W.keepIn X.K (.ref fa)=true/\M7 X.K fd ps []/\(∀ds o,F f ds=some o->ds.length=ps.length) /\
  FnOk X.prog X.w X.K X.mg X.base CX0 k fa fd ps (spF X.D ps.length (F f))
 blt:∀x∈sg.bl,X.mg x=none
 con:∀x d,G.con.lookup x=some d->∃u v,X.mg x=some u/\RelV v u/\∀H,Rep X.D H d v
 own:sg.lp=true->PassesOwn JE X.A X.env X.xe
 st:sg.top=true->X.stack=X.env::X.outer/\X.env.frame=some X.env.locals/\X.ex=[]
 lms:G.fnl.isEmpty=false->(G.fnl=sg.fn/\G.bll=sg.bl/\G.cll=sg.cl)/\(∃k,Room k X.A/\aH X.prog X.w X.K X.mg X.base sg.fn sg.bl sg.cl k (F B2))/\(sg.top=true->∃c P,X.env.code=.ref c/\(∀h:Heap,X.K.In h->PySem.W.CodeHd h c P)/\(P,X.env.qual ++ "<lambda>")∈v3 X.K)
theorem aM:∀{l:ge Str},U2 l=true->l.Nodup
 | [],_=>bu
 | x::r,h=>by unfold U2 at h;rw[d6]at h;refine L0.mpr ⟨λ z=>?_,aM h.2⟩;have:=h.1;rw[J4.mpr z]at this;cases this
theorem cG(g:Good m G F X)(h:X4 m f fr sc tg=true):CompScope X.N f sc X.env.scope fr/\(∀(j k i:Nat),fr[j]? = some (some i)->fr[k]? = some (some i)->j=k)/\∀i∈X3 tg,fr[i]? = some none:=by
 unfold X4 at h;simp only[d6,t7,f7]at h;obtain⟨⟨⟨⟨⟨⟨B,A⟩,o⟩,z⟩,n⟩,w⟩,v⟩:=h;have d:∀(j i:Nat),fr[j]? = some _->∃x,f[j]? = some x/\m.N[i]? = some x/\(x,NameKind.free)∈sc.names:=λ j i e=>by
  have l:j<f.length:=by rw[←n];exact (x8.mp e).1
  have r:(some i,f[j])∈fr.zip f:=(by refine S5 (i:=j) ?_;rw[gO];exact⟨e,j6 l⟩);have q:=w _ r;simp only[d6,f7,J4]at q;exact⟨_,j6 l,q.1,q.2⟩
 refine⟨⟨A,aM o,aM z,n,λ j i e=>?_,λ y s u=>?_⟩,λ j k i E C=>?_,B⟩
 ·obtain⟨x,a,b,c⟩:=d j i e;exact⟨x,a,by rw[g.N];exact b,c⟩
 ·have q:=v y s;rw[d8 u]at q;simp only[E7,f7]at q;exact g.cel _ q
 ·obtain⟨x,a,b,_⟩:=d j i E;obtain⟨x',H,p,_⟩:=d k i C;rw[b]at p;cases p;exact iN (aM o) a H
theorem Y1(g:Good j G F X)(h:X4 j i fr sc tg=true)(C:Ji)(b:ge (Str×Ji))(c:Jh)(d:Hp)(fp:ge Ji):Good ⟨i,sc.names,j.fn,j.bl,j.cl,false,false⟩ G F (p8 X sc i C b c d fp):=by
 obtain⟨S,_,_⟩:=cG g h;have f:∀x,(p8 X sc i C b c d fp).env.scope.names.lookup x=(sc.names.lookup x).map λ k=>if(k==NameKind.free&&X.env.scope.kind == .function&&X.env.kindOf x==some .cell)=true then NameKind.cell else k:=λ x=>jg
 have one:∀x k,sc.names.lookup x=some k->k ≠ .free->(p8 X sc i C b c d fp).env.scope.names.lookup x=some k:=λ x k e l=>by rw[f,e,D7,e8];intro z;simp only[d6,f7]at z;exact l z.1.1
 have two:∀x,sc.names.lookup x=some .free->(p8 X sc i C b c d fp).env.scope.names.lookup x=some .cell\/(p8 X sc i C b c d fp).env.scope.names.lookup x=some .free:=λ x e=>by
  rw[f,e,D7];split
  ·exact .inl rfl
  ·exact .inr rfl
 refine⟨rfl,S.nd,λ x a=>?_,λ x a=>?_,λ x a=>?_,λ x a=>one x _ a JI,λ x a=>?_,g.calm,g.hu,g.fns,g.blt,g.con,(λ z=>nomatch z),(λ z=>nomatch z),(λ z=>⟨(g.lms z).1,(g.lms z).2.1,λ w=>nomatch w⟩)⟩
 ·unfold visB at a;simp only[E7,f7]at a;rcases a with(a | a) | a
  ·exact .inl (one x _ a JI)
  ·exact .inr (.inl (one x _ a JI))
  ·exact .inr (two x a)
 ·unfold gloB at a;rw[f7]at a;exact one x _ a JI
 ·unfold locB at a;simp only[E7,f7]at a;rcases a with a | a
  ·exact⟨.inl (one x _ a JI),.inr (one x _ a JI)⟩
  ·exact⟨.inr (one x _ a JI),.inl (by show(sc.names.lookup x==some .cell)=true;rw[a];rfl)⟩
 ·rcases a with a | a
  ·exact .inl (one x _ a JI)
  ·exact two x a
theorem N6(g:Good a G F X)(h:K1 a i x=true):X.N[i]? = some x/\Vis X.env.scope x/\(x==("__debug__" : Str))=false/\(x==("__classdict__" : Str))=false:=by
 unfold K1 at h;simp only[d6,f7,eO,ne_eq]at h;obtain⟨⟨⟨e,d⟩,c⟩,b⟩:=h;exact⟨by rw[g.N];exact e,g.vis x d,A4.mpr c,A4.mpr b⟩
theorem aN(g:Good a G F X)(h:bltB a x f=true):(∃p,f=.Name x p)/\Gl X x/\X.mg x=none:=by
 unfold bltB at h;simp only[d6,f7,J4]at h;obtain⟨⟨d,c⟩,b⟩:=h;exact⟨Q9 d,g.glo x c,g.blt x b⟩
theorem lq(g:Good b G F X):∀(is:ge Nat) (es:ge Jk),es.length=is.length->((is.zip es).all λ p=>match F8 p.2 with | some x=>b.N[p.1]? == some x&&locB b x | none=>false)=true ->
  PGs X es (cu is)/\(assignEach es X.env).length=is.length/\(assignEach es X.env).findIdx? (·.1)=none
 | [],[],_,_=>⟨xm,rfl,rfl⟩
 | [],_::_,h,_=>by cases h
 | _::_,[],h,_=>by cases h
 | i::is,e::es,c,h=>by
  rw[List.zip_cons_cons,List.all_cons,d6]at h;obtain⟨a,d⟩:=h;obtain⟨A,B,C⟩:=lq g is es (by simpa using c) d;split at a
  ·rename_i x q;obtain⟨p,rfl⟩:=Q9 q;simp only[d6,f7]at a;have l:=g.loc x a.2;refine⟨xn (oh g.nd (by rw[g.N];exact a.1) l.1 l.2) A rfl,?_,?_⟩
   ·show(assignEach es X.env).length+1=is.length+1;rw[B]
   ·show(_::assignEach es X.env).findIdx? (·.1)=none;rw[List.findIdx?_cons,C];rfl
  ·cases a
theorem cH(g:Good b G F X)(h:tgOk b tg a=true):PG X a (gT X.K tg):=by
 cases tg with
 | one i=>
  unfold tgOk at h;dsimp only at h;split at h
  ·rename_i x q;obtain⟨p,rfl⟩:=Q9 q;simp only[d6,f7]at h;have l:=g.loc x h.2;exact oh g.nd (by rw[g.N];exact h.1) l.1 l.2
  ·cases h
 | many c=>
  unfold tgOk at h;dsimp only at h;split at h
  ·rename_i d q;obtain⟨k,p,rfl⟩:=bU q;rw[d6,d6,f7]at h;obtain⟨A,B,C⟩:=lq g c d h.1.1 h.2;exact oj g.calm A B C
  ·cases h
section
variable (G:Gs) (F:Nat->ge DV->on Ou)
def SE(m:ME):Prop:=∀{sg:Sg} {X:Cx} {e:Jk} {δ:ge Sv} {r:Re},Good sg G F X->corE sg false m e=true->evE G F m δ=some r->PE X e (dE X.D δ r)
def ST(m:ME):Prop:=∀{sg:Sg} {X:Cx} {e:Jk} {δ:ge Sv} {r:Rt},Good sg G F X->corE sg false m e=true->tstD (evE G F m δ)=some r->PT X e (dT X.D δ r)
def SI(m:ME):Prop:=∀{sg:Sg} {X:Cx} {e tg:Jk} {δ:ge Sv} {r:Ri},Good sg G F X->corE sg true m e=true->(isZp m=true->(K0 tg).isSome=true)->k7 (evE G F m δ)=some r->PI X tg e (dI X.D δ r)
def SEs(ms:ge ME):Prop:=∀{sg:Sg} {X:Cx} {es:ge Jk} {δ:ge Sv} {r:Rs},Good sg G F X->r6 sg ms es=true->evEs G F ms δ=some r->PA X es (dA X.D δ r)
def SAnd(ms:ge ME):Prop:=∀{sg:Sg} {X:Cx} {es:ge Jk} {δ:ge Sv} {pos:Pos},Good sg G F X->r6 sg ms es=true ->
 (∀r,J8 G F ms δ=some r->PE X (.BoolOp .And es pos) (dE X.D δ r))/\(∀r,tstD (J8 G F ms δ)=some r->PW X (.BoolOp .And es pos) (dT X.D δ r))
def SOr(ms:ge ME):Prop:=∀{sg:Sg} {X:Cx} {es:ge Jk} {δ:ge Sv} {pos:Pos},Good sg G F X->r6 sg ms es=true ->
 (∀r,evOr G F ms δ=some r->PE X (.BoolOp .Or es pos) (dE X.D δ r))/\(∀r,tstD (evOr G F ms δ)=some r->PW X (.BoolOp .Or es pos) (dT X.D δ r))
def S1(m:ME):Prop:=SE G F m/\ST G F m/\SI G F m
end
theorem S1.of(h:SE G F m)(hw:∀b e,corE b true m e=corE b false m e)(i:∀b e env,corE b false m e=true->∀a,isTrue e env a=(do let v ←a;standAt e.pos;holding [v] (truthy v))):S1 G F m:=
 ⟨h,λ {b X e f r} g c q=>BQ (λ z d=>h g c d) (i b e X.env c) q,λ {b X e tg f r} g c _ q=>rH (λ z d=>h g (by rw[←hw];exact c) d) q⟩
theorem S1.of2(h:SE G F m)(c:ST G F m)(hw:∀a e,corE a true m e=corE a false m e):S1 G F m:=
 ⟨h,c,λ {a X e tg δ r} g d _ q=>rH (λ z b=>h g (by rw[←hw];exact d) b) q⟩
noncomputable def sB:Jk->Bool
 | .UnaryOp .Not _ _=>false | .BoolOp _ _ _=>false | .IfExp _ _ _ _=>false | .Compare _ _ _ _=>false
 | _=>true
theorem A3(h:sB e=true)(env:Env):∀b,isTrue e env b=(do let v ←b;standAt e.pos;holding [v] (truthy v)):=by
 cases e with
 | UnaryOp o a p=>cases o<;>first | (intro _;rfl) | cases h
 | BoolOp _ _ _=>cases h
 | IfExp _ _ _ _=>cases h
 | Compare _ _ _ _=>cases h
 | _=>intro _;rfl
section
variable {G:Gs} {F:Nat->ge DV->on Ou} {a b c:ME}
theorem EM:S1 G F (.var i):=by
 refine .of (λ {c X e δ r} g a h=>?_) (λ _ _=>rfl) (λ c e b a=>?_)
 ·refine E2 a λ x p a=>?_;obtain⟨k,j,f,d⟩:=N6 g a;exact Bq k j f d h
 ·exact E2 a λ x p _=>A3 rfl b
theorem gh(f:∀a w e,corE a w m e=true->aA e=some k)(l:∀δ,evE G F m δ=some (.ok d .strong))(hw:∀a e,corE a true m e=corE a false m e)
  (i:∀{X:Cx} {δ:ge Sv} {j:Nat} {pos:Pos} a e,corE a false m e=true->PE X (.Constant k j pos) (dE X.D δ (.ok d .strong))):S1 G F m:=by
 refine .of (λ {a X e δ r} g b h=>?_) hw (λ a e c b=>?_)
 ·obtain⟨j,p,rfl⟩:=qH (f a false e b);rw[l]at h;cases h;exact i a _ b
 ·obtain⟨j,p,rfl⟩:=qH (f a false e b);exact A3 rfl c
theorem EN:S1 G F (.int i):=gh (λ sg w e h=>f7.mp h) (λ δ=>rfl) (λ _ _=>rfl) λ _ _ _=>Br
theorem s_bl:S1 G F (.bl i):=gh (λ sg w e h=>f7.mp h) (λ δ=>rfl) (λ _ _=>rfl) λ _ _ _=>Bs
theorem EO:S1 G F .non:=gh (λ sg w e h=>f7.mp h) (λ δ=>rfl) (λ _ _=>rfl) λ _ _ _=>Bu
theorem EQ:S1 G F (.str i):=gh (λ sg w e h=>f7.mp (C5.mp h).1) (λ δ=>rfl) (λ _ _=>rfl) λ _ _ h=>Bt (e9 (Z9 (C5.mp h).2) Jz)
theorem ER:S1 G F (.glb x):=by
 refine .of (λ {c X e δ r} g a h=>?_) (λ _ _=>rfl) (λ c e b a=>?_)
 ·have a:(F8 e==some x&&gloB c x&&x != "__debug__")=true:=a;simp only[d6,f7,eO,ne_eq]at a;obtain⟨p,rfl⟩:=Q9 a.1.1;obtain⟨d,k,j⟩:=p9.mp h;cases j;obtain⟨u,v,m,f,i⟩:=g.con x d k;exact(wZ (g.glo x a.1.2) m f (A4.mpr a.2)).weak λ σ H Q ⟨O,W,R,p⟩=>p v H (Same.refl H) (i _)
 ·obtain⟨p,rfl⟩:=Q9 (f7.mp (C5.mp (C5.mp a).1).1);exact A3 rfl b
theorem ES(k:S1 G F a)(j:S1 G F b):S1 G F (.bin op a b):=by
 refine .of (λ {i X e δ r} g c h=>?_) (λ _ _=>rfl) (λ i e f c=>?_)
 ·refine qi c λ ea o eb p c=>?_;simp only[d6,f7]at c;obtain⟨⟨n,m⟩,l⟩:=c;subst n;exact BB (λ z d=>k.1 g m d) (λ z d=>j.1 g l d) h
 ·exact qi c λ _ _ _ p _=>A3 rfl f
theorem ET(k:S1 G F a):S1 G F (.neg a):=by
 refine .of (λ {i X e δ r} g b h=>?_) (λ _ _=>rfl) (λ i e d b=>?_)
 ·refine fB b λ o ea p b=>?_;simp only[d6,f7]at b;obtain⟨c,f⟩:=b;subst c;exact BC (λ z j=>k.1 g f j) h
 ·refine fB b λ _ _ p b=>?_;simp only[d6,f7]at b;obtain⟨c,f⟩:=b;subst c;exact A3 rfl d
theorem EU(i:S1 G F a):S1 G F (.not a):=by
 refine .of2 (λ {k X e j r} g b h=>?_) (λ {k X e j r} g b h=>?_) (λ _ _=>rfl)
 ·refine fB b λ o l p b=>?_;simp only[d6,f7]at b;obtain⟨f,d⟩:=b;subst f;exact BS (λ z c=>i.1 g d c) h
 ·refine fB b λ o l p b=>?_;simp only[d6,f7]at b;obtain⟨f,d⟩:=b;subst f;exact BW (λ z c=>i.2.1 g d c) h
theorem EV(m:S1 G F a)(l:S1 G F b):S1 G F (.cmp op a b):=by
 refine .of2 (λ {q X e n r} g c h=>?_) (λ {q X e n r} g c h=>?_) (λ _ _=>rfl)
 ·refine jP c λ u o s p c=>?_;simp only[d6,f7,q0]at c;obtain⟨⟨⟨k,j⟩,i⟩,f⟩:=c;subst k;exact BK g.hu (λ z d=>m.1 g j d) (λ z d=>l.1 g i d) f h
 ·refine jP c λ u o s p c=>?_;simp only[d6,f7,q0]at c;obtain⟨⟨⟨k,j⟩,i⟩,f⟩:=c;subst k;exact BN g.hu (λ z d=>m.1 g j d) (λ z d=>l.1 g i d) f h
theorem EW(v:S1 G F a)(u:S1 G F b)(j:S1 G F c):S1 G F (.chain op k a b c):=by
 refine .of2 (λ {x X e w r} g f h=>?_) (λ {x X e w r} g f h=>?_) (λ _ _=>rfl)
 ·refine qt f λ C o y B A p f=>?_;simp only[d6,f7,q0]at f;obtain⟨⟨⟨⟨⟨s,i⟩,q⟩,n⟩,m⟩,l⟩:=f;subst s i;exact BO g.hu (λ z d=>v.1 g q d) (λ z d=>u.1 g n d) (λ z d=>j.1 g m d) l h
 ·refine qt f λ C o y B A p f=>?_;simp only[d6,f7,q0]at f;obtain⟨⟨⟨⟨⟨s,i⟩,q⟩,n⟩,m⟩,l⟩:=f;subst s i;exact BP g.hu (λ z d=>v.1 g q d) (λ z d=>u.1 g n d) (λ z d=>j.1 g m d) l h
theorem s_ix(k:S1 G F a)(j:S1 G F b):S1 G F (.ix a b):=by
 refine .of (λ {i X e δ r} g c h=>?_) (λ _ _=>rfl) (λ i e f c=>?_)
 ·refine E3 c λ ea eb p c=>?_;simp only[d6,q0]at c;obtain⟨⟨n,m⟩,l⟩:=c;exact BF (λ z d=>k.1 g n d) (λ z d=>j.1 g m d) l h
 ·exact E3 c λ _ _ p _=>A3 rfl f
theorem s_sl(m:S1 G F a)(l:S1 G F b)(i:S1 G F c):S1 G F (.sl a b c):=by
 refine .of (λ {k X e δ r} g d h=>?_) (λ _ _=>rfl) (λ k e j d=>?_)
 ·refine E3 d λ ea es p d=>?_;refine Be d λ _ _ p2 d=>?_;simp only[d6]at d;obtain⟨⟨q,o⟩,n⟩:=d;exact BI (λ z f=>m.1 g q f) (λ z f=>l.1 g o f) (λ z f=>i.1 g n f) h
 ·exact E3 d λ _ _ p _=>A3 rfl j
theorem EX(k:S1 G F a)(j:S1 G F b):S1 G F (.slf a b):=by
 refine .of (λ {i X e δ r} g c h=>?_) (λ _ _=>rfl) (λ i e f c=>?_)
 ·refine E3 c λ ea es p c=>?_;refine Bc c λ _ p2 c=>?_;simp only[d6]at c;obtain⟨m,l⟩:=c;exact BG (λ z d=>k.1 g m d) (λ z d=>j.1 g l d) h
 ·exact E3 c λ _ _ p _=>A3 rfl f
theorem EY(k:S1 G F a)(j:S1 G F b):S1 G F (.slt a b):=by
 refine .of (λ {i X e δ r} g c h=>?_) (λ _ _=>rfl) (λ i e f c=>?_)
 ·refine E3 c λ ea es p c=>?_;refine Bd c λ _ p2 c=>?_;simp only[d6]at c;obtain⟨m,l⟩:=c;exact BH (λ z d=>k.1 g m d) (λ z d=>j.1 g l d) h
 ·exact E3 c λ _ _ p _=>A3 rfl f
theorem aO:∀{a:Sg} {b:ge ME} {es:ge Jk},r6 a b es=true->es.any t4=false
 | _,[],[],_=>rfl
 | _,[],_::_,h=>by unfold r6 at h;cases h
 | _,_::_,[],h=>by unfold r6 at h;cases h
 | a,m::b,e::es,h=>by unfold r6 at h;simp[d6,q0]at h;rw[G7,h.1.2,aO h.2];rfl
theorem EZ{c:ge ME}(i:SEs G F c):S1 G F (.lst c):=by
 refine .of (λ {d X e δ r} g a h=>?_) (λ _ _=>rfl) (λ d e b a=>?_)
 ·refine qm a λ es p a=>?_;exact Cd (λ z f=>i g a f) h
 ·exact qm a λ _ p _=>A3 rfl b
theorem Fa{c:ge ME}(i:SEs G F c):S1 G F (.tup c):=by
 refine .of (λ {d X e δ r} g a h=>?_) (λ _ _=>rfl) (λ d e b a=>?_)
 ·refine jC a λ es k p a=>?_;exact Cf (λ z f=>i g a f) h
 ·exact jC a λ _ k p _=>A3 rfl b
theorem Fb(w:SEs G F i):S1 G F (.call f i):=by
 refine .of (λ {l X e δ r} g a h=>?_) (λ _ _=>rfl) (λ l e d a=>?_)
 ·refine N5 a λ ef B m a=>?_;rw[d6,d6]at a;obtain⟨⟨b,A⟩,j⟩:=a;refine E2 b λ x p b=>?_;simp only[d6,f7,eO,ne_eq]at b;obtain⟨k,fa,fd,ps,o,q,u,v,s,fo⟩:=g.fns f x b.1.1;cases B with
  | nil=>cases A
  | cons y ys=>
   have c:=aO j;rw[G7,S6]at c;exact Ck fo s o (g.glo x b.1.2) q u v (λ z n=>w g j n) (A4.mpr b.2) c.1 c.2 h
 ·exact N5 a λ _ _ _ _=>A3 rfl d
theorem s_bi(E:SEs G F l):S1 G F (.bi f l):=by
 refine .of (λ {B X e H r} g j h=>?_) (λ _ _=>rfl) (λ B e x j=>?_)
 ·refine N5 j λ ef L J j=>?_;rw[d6,d6]at j;obtain⟨⟨K,u⟩,a⟩:=j;obtain⟨⟨p,rfl⟩,c,b⟩:=aN g K;cases L with
  | nil=>cases u
  | cons y I=>
   have d:r6 B l _=true->(∀q,evEs G F l H=some q->PA X _ _)/\t4 y=false/\I.any t4=false:=λ z=>by have i:=aO z;rw[G7,S6]at i;exact⟨λ w n=>E g z n,i.1,i.2⟩
   cases f with
   | len=>obtain⟨A,s1,s2⟩:=d a;exact cr Cp c b boot_len Jz Jz A s1 s2 h
   | min=>obtain⟨A,s1,s2⟩:=d a;exact cr (Cq g.calm) c b boot_min Jz Jz A s1 s2 h
   | max=>obtain⟨A,s1,s2⟩:=d a;exact cr (Cr g.calm) c b boot_max Jz Jz A s1 s2 h
   | sum=>obtain⟨A,s1,s2⟩:=d a;exact cr (Cs g.calm) c b Cu Jz Jz A s1 s2 h
   | int=>obtain⟨A,s1,s2⟩:=d a;exact kr CA c b boot_int Jz Jz A s1 s2 h
   | tuple=>obtain⟨A,s1,s2⟩:=d a;exact kr CC c b boot_tuple Jz Jz A s1 s2 h
   | list=>obtain⟨A,s1,s2⟩:=d a;exact kr CB c b boot_list Jz Jz A s1 s2 h
   | all=>obtain⟨A,s1,s2⟩:=d a;exact cr (Ct g.calm) c b Cv Jz Jz A s1 s2 h
   | sset=>
    have a:=a
    clear d
    revert u;refine N4 a λ e1 a=>N5 a λ M v C a=>λ u=>?_
    rw[d6,d6]at a;obtain⟨⟨p',rfl⟩,s,o⟩:=aN g a.1.1;cases v with
    | nil=>cases a.1.2
    | cons y' m=>
     have i:=aO a.2;rw[G7,S6]at i;cases m with
     | nil=>exact Cz g.calm c b s o (λ w n=>E g a.2 n) i.1 h
     | cons y2 yr=>
      have z:=f7.mp a.1.2;simp at z
 ·exact N5 j λ _ _ _ _=>A3 rfl x
theorem Fc(h:T8.contains x=true):∃t,aG x=some t:=by
 have a:∀x∈T8,∃t,aG x=some t:=by
  intro x b;simp only[T8,g5,V8,W1]at b;rcases b with rfl | rfl | rfl | rfl | rfl | rfl
  ·exact⟨"int",by decide +kernel⟩
  ·exact⟨"bool",by decide +kernel⟩
  ·exact⟨"str",by decide +kernel⟩
  ·exact⟨"list",by decide +kernel⟩
  ·exact⟨"tuple",by decide +kernel⟩
  ·exact⟨"dict",by decide +kernel⟩
 exact a x (J4.mp h)
theorem Fd:∀x∈T8,x ≠ "__name__" /\ (x==("__debug__" : Str))=false:=by
 intro x a;simp[T8,g5,V8,W1]at a;rcases a with rfl | rfl | rfl | rfl | rfl | rfl<;>exact⟨by decide +kernel,by decide +kernel⟩
def Fe:V->ge V->Hp->VK->Prop:=λ x xs H Q=>∃i,x=.int i/\xs=[]/\Q (.int (ay i)) H
theorem Ff(i:Int):((Builtin.Int.intBits i:Nat):Int)=ay i:=by
 unfold Builtin.Int.intBits ay;by_cases h:i=0
 ·subst h;rfl
 ·rw[e8 (by grind),e8 h];rfl
theorem Fg:MtR X "int.bit_length" Fe:=by
 intro a s σ H x xs v us Q I b c h;obtain⟨i,rfl,rfl,q⟩:=h;obtain⟨t,rfl⟩:=(b);cases c;exact PyProof.Rows.call_int_bit_length ⟨.int _,H,I.tok _,by rw[←Ff];exact⟨_,rfl⟩,q⟩
theorem Fh(C:S1 G F a):S1 G F (.meth m a es):=by
 refine .of (λ {z X e w r} g b h=>?_) (λ _ _=>rfl) (λ z e s b=>?_)
 ·refine jR b λ ef A b=>?_;refine bQ b λ k n u b=>?_;simp only[d6,f7]at b;obtain⟨⟨⟨⟨K,J⟩,f⟩,I⟩,h5⟩:=b;subst K;have o:attributeBase k (qI m) X.env (eval k X.env)=eval k X.env:=by
   rw[E7]at f;rcases f with f | f
   ·obtain⟨y,l⟩:=V3.mp f;obtain⟨B,rfl⟩:=Q9 l;rfl
   ·obtain⟨⟨a1,o1,b1⟩,l⟩:=V3.mp f;obtain⟨B,rfl⟩:=Bj l;rfl
  have h:(if m=.bitLength then Re.thn _ (λ x _=>mtD m x)else none)=some r:=h;cases m with
  | bitLength=>
   rw[d8 rfl]at h;cases c:evE G F a w with
   | none=>rw[c]at h;cases h
   | some q=>
    rw[c]at h;cases q with
    | ok d dc=>
     have j:mtD .bitLength d=some r:=h;unfold mtD at j;split at j
     ·rename_i i _;cases j;exact((λ t (E:PE X k t)=>yL PySem.F.plainAttrs_int PySem.F.slot_int_bit_length PySem.F.type_int_bit_length Fg E o (by rw[f7];exact I)) _ (C.1 g J c)).weak λ σ H Q ⟨O,W,R,p⟩=>⟨O,W,R,λ v M s1 L=>by
       have hv:=L.int (R.hid.mono s1);subst hv;exact⟨rfl,i,rfl,rfl,p _ M s1 v7⟩⟩
     ·cases j
  | index=>rw[e8 Jz]at h;cases h
  | get=>rw[e8 Jz]at h;cases h
 ·exact jR b λ _ _ _=>A3 rfl s
theorem Fi(o:S1 G F a)(m:S1 G F b):S1 G F (.idx a b):=by
 refine .of (λ {j X e δ r} g c h=>?_) (λ _ _=>rfl) (λ j e f c=>?_)
 ·refine bT c λ ef eb k c=>?_;refine bQ c λ ea n i c=>?_;simp only[d6,f7,q0]at c;obtain⟨⟨⟨⟨⟨w,v⟩,u⟩,s⟩,q⟩,p⟩:=c;subst w;obtain⟨y,l⟩:=V3.mp u;obtain⟨np,rfl⟩:=Q9 l;exact Cj g.hu (λ z d=>o.1 g v d) (λ z d=>m.1 g q d) rfl (by rw[f7];exact s) (w4 p) h
 ·exact bT c λ _ _ _ _=>A3 rfl f
theorem Fj(k:S1 G F a)(j:S1 G F b):S1 G F (.dix a b):=by
 refine .of (λ {i X e δ r} g c h=>?_) (λ _ _=>rfl) (λ i e f c=>?_)
 ·refine E3 c λ ea eb p c=>?_;simp only[d6,q0]at c;obtain⟨⟨n,m⟩,l⟩:=c;exact EH (K7 Jy g.hu) (λ z d=>k.1 g n d) (λ z d=>j.1 g m d) l h
 ·exact E3 c λ _ _ p _=>A3 rfl f
theorem Fk(m:S1 G F b):S1 G F (.dgp i b):=by
 refine .of (λ {f X e δ r} g a h=>?_) (λ _ _=>rfl) (λ f e d a=>?_)
 ·refine E3 a λ ob ek p a=>?_;simp only[d6,q0]at a;obtain⟨⟨c,o⟩,n⟩:=a;refine E2 c λ x np c=>?_;obtain⟨s1,s2,k,j⟩:=N6 g c;exact Es (K7 Jy g.hu) (M6 s1 s2 k j) (λ z l=>m.1 g o l) n h
 ·exact E3 a λ _ _ p _=>A3 rfl d
theorem sC:∀{a:ge (Str×Nat)},a.lookup x=some f->(x,f)∈a
 | [],h=>by cases h
 | (y,g)::a,h=>by
  rw[D6]at h;split at h
  ·rename_i q;cases h;rw[f7.mp q];exact i5 ..
  ·exact i7 _ (sC h)
theorem Fm(J:SEs G F j):S1 G F (.callv i xs j):=by
 refine .of (λ {n X e m r} g a h=>?_) (λ _ _=>rfl) (λ n e d a=>?_)
 ·refine N5 a λ ef M s a=>?_;rw[d6,d6,d6]at a;obtain⟨⟨⟨c,L⟩,K⟩,l⟩:=a;refine E2 c λ x p c=>?_;obtain⟨s1,s2,q,o⟩:=N6 g c;cases M with
  | nil=>cases K
  | cons y ys=>
   have b:=aO l;rw[G7,S6]at b;have h:eY F xs _ m[i]? = some r:=h;unfold eY at h;split at h
   ·rename_i u E;split at h
    ·rename_i f H;obtain⟨k,fa,fd,ps,w,A,C,I,B,fo⟩:=g.fns f u (f7.mp (t7.mp L _ (sC H)));exact Cn fo B w (M6 s1 s2 q o) A C I E (λ z v=>J g l v) b.1 b.2 h
    ·cases h
   ·cases h
 ·exact N5 a λ _ _ _ _=>A3 rfl d
theorem Fn(h:bV pr ps=true):defaultsOf pr env=([],[]):=qK h λ _ _=>rfl
theorem Fo(w:S1 G F a):S1 G F (.isi a i):=by
 refine .of (λ {j X e δ r} g b h=>?_) (λ _ _=>rfl) (λ j e d b=>?_)
 ·refine qy b λ ef ea et k b=>?_;simp only[d6,q0]at b;obtain⟨⟨⟨⟨B,A⟩,y⟩,h4⟩,c⟩:=b;obtain⟨⟨p,rfl⟩,v,u⟩:=aN g B;split at c
  ·rename_i t;simp only[d6,f7,J4]at c;obtain⟨⟨⟨q,o⟩,n⟩,f⟩:=c;obtain⟨p',rfl⟩:=Q9 q;obtain⟨T,x⟩:=Fc (J4.mpr f);obtain⟨m,l⟩:=Fd t f;exact CJ x v u (g.glo t o) (g.blt t n) m l (λ z s=>w.1 g A s) y h
  ·cases c
 ·exact qy b λ _ _ _ _ _=>A3 rfl d
theorem lr:∀{a:ge ME} {b:ge Sv} {l:ge (DV×Cl)},evEs G F a b=some (.ok l)->l.length=a.length
 | [],_,_,h=>by unfold evEs at h;cases h;rfl
 | m::a,b,l,h=>by
  unfold evEs at h;split at h
  ·cases h
  ·split at h
   ·cases h
   ·rename_i l' q;cases h;rw[n7,n7,lr q]
theorem sD:∀{b:Sg} {a:ge ME} {es:ge Jk},r6 b a es=true->a.length=es.length
 | _,[],[],_=>rfl
 | _,[],_::_,h=>by unfold r6 at h;cases h
 | _,_::_,[],h=>by unfold r6 at h;cases h
 | b,m::a,e::es,h=>by unfold r6 at h;simp[d6]at h;rw[n7,n7,sD h.2]
theorem Fp(s:SEs G F d):S1 G F (.rng d):=by
 refine⟨λ {n X e m r} g a h=>?_,λ {n X e m r} g a h=>?_,λ {n X e tg m r} g a _ h=>?_⟩
 ·cases(a:false=true)
 ·cases(a:false=true)
 ·refine N5 (C5.mp a).2 λ ef x w a=>?_;rw[d6,D4]at a;obtain⟨a,j⟩:=a;rw[d6]at a;obtain⟨⟨p,rfl⟩,q,o⟩:=aN g a.1;have f:=sD a.2;have c:=aO a.2;cases x with
  | nil=>
   exfalso;cases d with
   | nil=>cases(h:none=some r)
   | cons _ _=>cases f
  | cons y v=>
   rw[G7,S6]at c;cases v with
   | nil=>exact CV q o (λ z i=>s g a.2 i) c.1 h λ l k=>by rw[lr k,f];rfl
   | cons z u=>
    cases u with
    | nil=>
     have b:=c.2;rw[G7,S6]at b;exact CW q o (λ z i=>s g a.2 i) c.1 b.1 h λ l k=>by rw[lr k,f];rfl
    | cons _ _=>simp at j
theorem Fq(s:S1 G F a):S1 G F (.enu a):=by
 refine⟨λ {d X e c r} g b h=>?_,λ {d X e c r} g b h=>?_,λ {d X e j c r} g b n h=>?_⟩
 ·cases(b:false=true)
 ·cases(b:false=true)
 ·refine bT (C5.mp b).2 λ ef ea l b=>?_;simp only[d6,q0]at b;obtain⟨⟨w,v⟩,u⟩:=b;obtain⟨⟨p,rfl⟩,q,o⟩:=aN g w;have t:=n rfl;cases f:K0 j with
  | none=>rw[f]at t;cases t
  | some i=>
   obtain⟨k,tp,rfl⟩:=bU f;exact Do q o u (λ z m=>s.1 g v m) h
theorem Fs(w:S1 G F a):S1 G F (.itm a):=by
 refine⟨λ {d X e c r} g b h=>?_,λ {d X e c r} g b h=>?_,λ {d X e o c r} g b u h=>?_⟩
 ·cases(b:false=true)
 ·cases(b:false=true)
 ·refine jR (C5.mp b).2 λ ef p b=>?_;refine bQ b λ q n m b=>?_;simp only[d6]at b;obtain⟨⟨⟨B,A⟩,y⟩,j⟩:=b;have v:=f7.mp B;subst v;cases i:F8 q with
  | none=>rw[i]at j;cases j
  | some x=>
   obtain⟨np,rfl⟩:=Q9 i;have t:=u rfl;cases f:K0 o with
   | none=>rw[f]at t;cases t
   | some l=>
    obtain⟨k,tp,rfl⟩:=bU f;exact EB rfl y (λ z s=>w.1 g A s) h
theorem Ft{sg:Sg}{X:Cx}{e:Jk}{δ:ge Sv}{r:Re}{tg:Tg}{fr:ge (on Nat)}{cp:CParts}{tn:ge Str}(ha:S1 G F a)(hb:S1 G F b)(g:Good sg G F X)(hemp:cp.ifs=[])
  (h2:corE sg true b cp.it=true) (hz:isZp b=true->(K0 cp.tg).isSome=true) (h4:X4 sg (F3 sg tn fr) fr cp.sc tg=true) (h5:tgOk ⟨F3 sg tn fr,cp.sc.names,sg.fn,sg.bl,sg.cl,false,false⟩ tg cp.tg=true) (h6:corE ⟨F3 sg tn fr,cp.sc.names,sg.fn,sg.bl,sg.cl,false,false⟩ false a cp.elt=true)
  (h:evE G F (.comp a tg b fr) δ=some r):U6 X δ cp.tg cp.it cp.ifs cp.elt cp.sc (F3 sg tn fr) fr tg r:=by
 obtain⟨S,nd,sl⟩:=cG g h4;rw[hemp];exact CZ S g.calm nd sl (λ z hz'=>hb.2.2 g h2 hz hz') (λ C cells s₂ H₂ fp=>cH (Y1 g h4 C cells s₂ H₂ fp) h5) (λ δ' r' hr C cells s₂ H₂ fp=>ha.1 (Y1 g h4 C cells s₂ H₂ fp) h6 hr) h
theorem Fu{sg:Sg}{X:Cx}{e cd:Jk}{δ:ge Sv}{r:Re}{tg:Tg}{fr:ge (on Nat)}{cp:CParts}{tn:ge Str}(ha:S1 G F a)(hb:S1 G F b)(hcc:S1 G F c)(g:Good sg G F X)(hemp:cp.ifs=[cd])
  (h2:corE sg true b cp.it=true) (hz:isZp b=true->(K0 cp.tg).isSome=true) (h4:X4 sg (F3 sg tn fr) fr cp.sc tg=true) (h5:tgOk ⟨F3 sg tn fr,cp.sc.names,sg.fn,sg.bl,sg.cl,false,false⟩ tg cp.tg=true) (h6:corE ⟨F3 sg tn fr,cp.sc.names,sg.fn,sg.bl,sg.cl,false,false⟩ false a cp.elt=true)
  (h7:corE ⟨F3 sg tn fr,cp.sc.names,sg.fn,sg.bl,sg.cl,false,false⟩ false c cd=true) (h:evE G F (.compi a tg b c fr) δ=some r):U6 X δ cp.tg cp.it cp.ifs cp.elt cp.sc (F3 sg tn fr) fr tg r:=by
 obtain⟨S,nd,sl⟩:=cG g h4;rw[hemp];exact Da S g.calm nd sl (λ z hz'=>hb.2.2 g h2 hz hz') (λ C cells s₂ H₂ fp=>cH (Y1 g h4 C cells s₂ H₂ fp) h5) (λ δ' r' hr C cells s₂ H₂ fp=>ha.1 (Y1 g h4 C cells s₂ H₂ fp) h6 hr)
  (λ δ' r' hr C cells s₂ H₂ fp=>hcc.2.1 (Y1 g h4 C cells s₂ H₂ fp) h7 hr) h
def Y2(G:Gs)(F:Nat->ge DV->on Ou)(m:ME):Prop:=∀{sg:Sg} {X:Cx} {e:Jk} {δ:ge Sv} {r:Re},Good sg G F X->corE sg false m e=true->evE G F m δ=some r ->
 ∃(cp:CParts) (N':ge Str) (fr:ge (on Nat)) (tg:Tg) (p:Pos),e=.ListComp cp.elt [⟨cp.tg,cp.it,cp.ifs,0⟩] cp.sc p/\CompScope X.N N' cp.sc X.env.scope fr/\U6 X δ cp.tg cp.it cp.ifs cp.elt cp.sc N' fr tg r /\
  (∀C cells s₂ H₂ fp,PG (p8 X cp.sc N' C cells s₂ H₂ fp) cp.tg (gT X.K tg))/\F2 cp.it=false
theorem Y2.s1(h:Y2 G F m)(hw:∀a e,corE a true m e=corE a false m e)(f:∀a e,corE a false m e=true->sB e=true):S1 G F m:=by
 refine .of (λ {a X e δ r} g b q=>?_) hw (λ a e c b=>?_)
 ·obtain⟨cp,N',fr,tg,p,rfl,S,P,i,d⟩:=h g b q;exact P.pe S g.calm i d
 ·exact A3 (f a e b) c
theorem sE(m:S1 G F a)(l:S1 G F b):Y2 G F (.comp a tg b fr):=by
 intro sg X e δ r g k h;refine fI k λ f p k=>?_
 simp only[d6,q0,E7]at k;obtain⟨⟨⟨s,q,o⟩,n⟩,c⟩:=k;obtain⟨tn,_,c⟩:=x3 c;simp only[d6]at c;refine⟨f,_,fr,tg,p,rfl,(cG g c.1.1).1,Ft (e:=.ListComp f.elt [⟨f.tg,f.it,f.ifs,0⟩] f.sc p) m l g (List.isEmpty_iff.mp s) q (λ z=>?_) c.1.1 c.1.2 c.2 h,λ C d i j u=>cH (Y1 g c.1.1 C d i j u) c.1.2,n⟩;rcases o with w | w
 ·rw[z]at w;cases w
 ·exact w
theorem sF(q:S1 G F a)(o:S1 G F b)(m:S1 G F c):Y2 G F (.compi a tg b c fr):=by
 intro sg X e δ r g l h;refine fI l λ i p l=>?_
 simp only[d6,q0,E7]at l;obtain⟨⟨⟨v,u⟩,s⟩,d⟩:=l;obtain⟨tn,_,d⟩:=x3 d;obtain⟨ec,n,d⟩:=Aw d;simp only[d6]at d;refine⟨i,_,fr,tg,p,rfl,(cG g d.1.1.1).1,Fu (e:=.ListComp i.elt [⟨i.tg,i.it,i.ifs,0⟩] i.sc p) q o m g n v (λ z=>?_) d.1.1.1 d.1.1.2 d.1.2 d.2 h,λ C f j k x=>cH (Y1 g d.1.1.1 C f j k x) d.1.1.2,s⟩;rcases u with w | w
 ·rw[z]at w;cases w
 ·exact w
theorem Fv(g:S1 G F a)(f:S1 G F b):S1 G F (.comp a tg b fr):=Y2.s1 (λ {c X e δ r}=>sE g f) (λ _ _=>rfl) λ c e d=>fI d λ _ _ _=>rfl
theorem Fw(i:S1 G F a)(h:S1 G F b)(d:S1 G F c):S1 G F (.compi a tg b c fr):=Y2.s1 (λ {f X e δ r}=>sF i h d) (λ _ _=>rfl) λ f e g=>fI g λ _ _ _=>rfl
theorem Fx(ha:S1 G F a):S1 G F (.srtk a N f H fr):=by
 refine .of (λ {sg X e C r} g d h=>?_) (λ _ _=>rfl) (λ sg e Q d=>?_)
 ·obtain⟨ht,d⟩:=C5.mp d;refine qB d λ ef ea kn el kp pos d=>?_
  simp only[d6,f7,q0]at d;obtain⟨⟨⟨⟨c1,c2⟩,c4⟩,c5⟩,d⟩:=d;refine AM d λ pr bd E lp d=>?_
  subst c2;obtain⟨⟨px,rfl⟩,O,M⟩:=aN g c1;rw[d6]at d;obtain⟨B,c9⟩:=d;have a0:=B;unfold qL at B;simp only[d6,f7,q0,t7,eO,ne_eq,D4]at B;obtain⟨⟨⟨⟨⟨⟨⟨⟨⟨⟨⟨Z,l2⟩,l3⟩,l4⟩,l5⟩,l6⟩,l7⟩,l8⟩,l9⟩,q⟩,K⟩,J⟩:=B;have h:bJ G F (evE G F a C) N f H (capD C fr)=some r:=h;unfold bJ at h;split at h
  ·rename_i cs u;split at h
   ·cases h
   ·rename_i L;obtain⟨⟨W,U,S⟩,⟨k,hr,x⟩,wt⟩:=g.lms (by simpa using L);obtain⟨c,P,k1,k2,k3⟩:=wt ht;have m:∀y∈E.names,y.2=NameKind.free->X.env.kindOf y.1=some .cell/\X.fn y.1=true:=λ y l p=>by
     have z:=J y l;rw[d8 (by rw[p])]at z;have R:=f7.mp z;have x:=g.loc y.1 (by unfold locB;rw[R];rfl);have nl:X.env.scope.names.lookup y.1≠some .local:=λ w=>by rcases g.cel y.1 (.inl R)with v | v<;>(rw[w]at v;cases v)
     refine⟨?_,x.2.elim id λ w=>absurd w nl⟩;exact x.1.elim (λ w=>absurd w nl) id
    have T:LamTx N (N.take f) E:=by
     have Y:(N.take f).length=f:=by rw[E6];omega
     refine⟨l2,l3,l4,aM l5,by rw[Y],l8,l9,λ i y h1 h2=>q y ?_⟩;rw[Y]at h1;refine S5 (i:=i - f) ?_;rw[bo,show f+(i - f)=i by omega];exact h2
    have n:∀(j i:Nat),fr[j]? = some i->∃y,N[f+j]? = some y/\X.N[i]? = some y/\X.env.kindOf y=some .cell:=λ j i A=>by
     have hjl:=(x8.mp A).1;have s:f+j<N.length:=by omega
     have l:(N.drop f)[j]? = some N[f+j]:=by rw[bo,j6 s]
     have hz:(i,N[f+j])∈fr.zip (N.drop f):=S5 (i:=j) (by rw[gO];exact⟨A,l⟩);have q1:=K _ hz;have q2:=q _ (S5 l);exact⟨_,j6 s,by rw[g.N];exact q1,(m _ (D1 q2) rfl).1⟩
    cases o:evE G F a C with
    | none=>rw[o]at h;cases h
    | some ra=>
     rw[o]at h;exact Du (fr:=fr) (P:=P) (c:=c) x hr W U S O M c5 ⟨k1,λ I=>k2 _ I.kIn,λ I=>I.tabs _ k3,λ y l p=>.inl (m y l p).1⟩ (Fn Z) T (λ I=>CP I (λ y l p=>I.ok.has y.1 (.inl (m y l p).1)) λ y l p=>(m y l p).2) ((by unfold X5;rw[d6];refine⟨Z,?_⟩;show corE ⟨N,E.names,G.fnl,G.bll,G.cll,false,false⟩ false H bd=true;rw[W,U,S];exact c9)) l7 (λ j i A=>let ⟨y,a,b,c⟩:=n j i A;⟨y,a,b,.inl c⟩) u (ha.1 g c4 o) h
  ·cases h
 ·obtain⟨_,d⟩:=C5.mp d;exact qB d λ _ _ _ _ _ _ _=>A3 rfl Q
theorem Fy(i:S1 G F c)(o:S1 G F a)(n:S1 G F b):S1 G F (.ite c a b):=by
 refine .of2 (λ {s X e q r} g f h=>?_) (λ {s X e q r} g f h=>?_) (λ _ _=>rfl)
 ·refine ql f λ u w v p f=>?_;simp only[d6]at f;obtain⟨⟨m,l⟩,j⟩:=f;exact Ca (λ z d=>i.2.1 g m d) (λ z d=>o.1 g l d) (λ z d=>n.1 g j d) h
 ·refine ql f λ u w v p f=>?_;simp only[d6]at f;obtain⟨⟨m,l⟩,j⟩:=f;exact BZ (λ z d=>i.2.1 g m d) (λ z d=>o.2.1 g l d) (λ z d=>n.2.1 g j d) h
theorem Fz(n:S1 G F b):S1 G F (.dgl i b):=by
 refine .of (λ {f X e δ r} g a h=>?_) (λ _ _=>rfl) (λ f e d a=>?_)
 ·refine E3 a λ ob ek p a=>?_;simp only[d6,q0]at a;obtain⟨⟨c,q⟩,o⟩:=a;refine E2 c λ x np c=>?_;obtain⟨s1,s2,l,j⟩:=N6 g c;exact EF (K7 Jy g.hu) (M6 s1 s2 l j) (λ z m=>n.1 g q m) o h
 ·exact E3 a λ _ _ p _=>A3 rfl d
theorem FA(I:S1 G F b):S1 G F (.nin i b):=by
 have s:∀{l:Sg} {X:Cx} {e:Jk} {j:ge Sv} {m:Re},Good l G F X->corE l false (.nin i b) e=true->evE G F (.nin i b) j=some m->(∃k,m=.ok (.bl k) .strong)/\∃u x n p t,e=.Compare u _ [.Name x n] p/\PC X .NotIn u (.Name x n) t/\∀v H Q,dE X.D j m v H Q->t v H Q:=λ {l X e j m} g a h=>by refine jP a λ u o eo p a=>?_;simp only[d6,f7]at a;obtain⟨⟨K,y⟩,J⟩:=a;subst K;refine E2 y λ x n y=>?_;obtain⟨s1,s2,B,A⟩:=N6 g y;obtain⟨q,t,C,w⟩:=EG (K7 Jy g.hu) (M6 s1 s2 B A) (λ z E=>I.1 g J E) h;exact⟨q,_,_,_,_,t,rfl,C,w⟩
 refine .of2 (λ {l X e j r} g a h=>?_) (λ {l X e j r} g a h=>?_) (λ _ _=>rfl)
 ·obtain⟨_,u,x,n,p,t,rfl,C,w⟩:=s g a h;exact(xb C rfl).weak w
 ·cases f:evE G F _ j with
  | none=>rw[f]at h;cases h
  | some m=>
   rw[f]at h;obtain⟨⟨k,L⟩,u,x,n,p,t,rfl,C,w⟩:=s g a f;exact(xc C rfl).weak λ v H Q z=>w v H _ (kh (λ d c q=>by rw[L]at q;cases q;exact⟨_,rfl⟩) h z)
theorem FB(i:S1 G F a):S1 G F (.kyi a):=by
 refine⟨λ {d X e c r} g b h=>?_,λ {d X e c r} g b h=>?_,λ {d X e tg c r} g b ht h=>?_⟩
 ·cases(C5.mp (C5.mp b).1).1
 ·cases(C5.mp (C5.mp b).1).1
 ·exact EL (λ z f=>i.1 g (C5.mp b).2 f) h
theorem FC:SEs G F []:=λ {sg X b δ r} g a h=>by
 cases b with
 | nil=>unfold evEs at h;cases h;exact Cb
 | cons _ _=>unfold r6 at a;cases a
theorem FE(j:S1 G F a)(i:SEs G F d):SEs G F (a::d):=λ {sg X f δ r} g b h=>by
 cases f with
 | nil=>unfold r6 at b;cases b
 | cons e f=>
  unfold r6 at b;simp only[d6,q0]at b;unfold evEs at h;exact Cc b.1.2 (λ z c=>j.1 g b.1.1 c) (λ z c=>i g b.2 c) h
theorem FF:SAnd G F []:=λ {sg X es δ a} g hc=>⟨λ r h=>(by unfold J8 at h;cases h),λ r h=>(by unfold J8 at h;cases h)⟩
theorem FG:SOr G F []:=λ {sg X es δ a} g hc=>⟨λ r h=>(by unfold evOr at h;cases h),λ r h=>(by unfold evOr at h;cases h)⟩
theorem FH(i:S1 G F a)(n:SAnd G F f):SAnd G F (a::f):=λ {l X d k j} g b=>by
 cases d with
 | nil=>unfold r6 at b;cases b
 | cons e d=>
  unfold r6 at b;simp only[d6,q0]at b;cases f with
  | nil=>
   cases d with
   | nil=>
    refine⟨λ r h=>?_,λ r h=>?_⟩
    ·unfold J8 at h;exact nY (i.1 g b.1.1 h)
    ·unfold J8 at h;exact xf (i.2.1 g b.1.1 h)
   | cons _ _=>have:=b.2;unfold r6 at this;cases this
  | cons m f=>
   cases d with
   | nil=>have:=b.2;unfold r6 at this;cases this
   | cons e' d=>
    have B:=@n l X _ k j g b.2;refine⟨λ r h=>?_,λ r h=>?_⟩
    ·unfold J8 at h;exact BU (λ z c=>i.1 g b.1.1 c) (λ z c=>B.1 z c) h
    ·unfold J8 at h;exact BX (λ z c=>i.2.1 g b.1.1 c) (λ z c=>B.2 z c) h
theorem FJ(i:S1 G F a)(n:SOr G F f):SOr G F (a::f):=λ {l X d k j} g b=>by
 cases d with
 | nil=>unfold r6 at b;cases b
 | cons e d=>
  unfold r6 at b;simp only[d6,q0]at b;cases f with
  | nil=>
   cases d with
   | nil=>
    refine⟨λ r h=>?_,λ r h=>?_⟩
    ·unfold evOr at h;exact nY (i.1 g b.1.1 h)
    ·unfold evOr at h;exact xg (i.2.1 g b.1.1 h)
   | cons _ _=>have:=b.2;unfold r6 at this;cases this
  | cons m f=>
   cases d with
   | nil=>have:=b.2;unfold r6 at this;cases this
   | cons e' d=>
    have B:=@n l X _ k j g b.2;refine⟨λ r h=>?_,λ r h=>?_⟩
    ·unfold evOr at h;exact BV (λ z c=>i.1 g b.1.1 c) (λ z c=>B.1 z c) h
    ·unfold evOr at h;exact BY (λ z c=>i.2.1 g b.1.1 c) (λ z c=>B.2 z c) h
theorem FK(f:SAnd G F d):S1 G F (.and d):=by
 refine .of2 (λ {j X e i r} g a h=>?_) (λ {j X e i r} g a h=>?_) (λ _ _=>rfl)
 ·refine fF a λ o k p a=>?_;simp only[d6,f7]at a;obtain⟨c,b⟩:=a;subst c;exact(f g b).1 r h
 ·refine fF a λ o k p a=>?_;simp only[d6,f7]at a;obtain⟨c,b⟩:=a;subst c;exact((f g b).2 r h).pt
theorem s_or(f:SOr G F d):S1 G F (.or d):=by
 refine .of2 (λ {j X e i r} g a h=>?_) (λ {j X e i r} g a h=>?_) (λ _ _=>rfl)
 ·refine fF a λ o k p a=>?_;simp only[d6,f7]at a;obtain⟨c,b⟩:=a;subst c;exact(f g b).1 r h
 ·refine fF a λ o k p a=>?_;simp only[d6,f7]at a;obtain⟨c,b⟩:=a;subst c;exact((f g b).2 r h).pt
end
section
variable {G:Gs} {F:Nat->ge DV->on Ou}
mutual
theorem snd:∀m:ME,S1 G F m
 | .var _=>EM
 | .int _=>EN
 | .bl _=>s_bl
 | .str _=>EQ
 | .non=>EO
 | .glb _=>ER
 | .bin _ a b=>ES (snd a) (snd b)
 | .neg a=>ET (snd a)
 | .not a=>EU (snd a)
 | .cmp _ a b=>EV (snd a) (snd b)
 | .chain _ _ a b c=>EW (snd a) (snd b) (snd c)
 | .and es=>FK (sG es)
 | .or es=>s_or (sH es)
 | .lst es=>EZ (sndL es)
 | .tup es=>Fa (sndL es)
 | .ix a b=>s_ix (snd a) (snd b)
 | .sl a b c=>s_sl (snd a) (snd b) (snd c)
 | .slf a b=>EX (snd a) (snd b)
 | .slt a b=>EY (snd a) (snd b)
 | .call _ es=>Fb (sndL es)
 | .bi _ es=>s_bi (sndL es)
 | .isi a _=>Fo (snd a)
 | .meth _ a _=>Fh (snd a)
 | .comp a _ b _=>Fv (snd a) (snd b)
 | .compi a _ b c _=>Fw (snd a) (snd b) (snd c)
 | .idx a b=>Fi (snd a) (snd b)
 | .rng es=>Fp (sndL es)
 | .enu a=>Fq (snd a)
 | .itm a=>Fs (snd a)
 | .dix a b=>Fj (snd a) (snd b)
 | .dgp _ b=>Fk (snd b)
 | .callv _ _ es=>Fm (sndL es)
 | .srtk a _ _ _ _=>Fx (snd a)
 | .ite a b c=>Fy (snd a) (snd b) (snd c)
 | .dgl _ b=>Fz (snd b)
 | .nin _ b=>FA (snd b)
 | .kyi a=>FB (snd a)
theorem sndL:∀ms:ge ME,SEs G F ms
 | []=>FC
 | a::ms=>FE (snd a) (sndL ms)
theorem sG:∀ms:ge ME,SAnd G F ms
 | []=>FF
 | a::ms=>FH (snd a) (sG ms)
theorem sH:∀ms:ge ME,SOr G F ms
 | []=>FG
 | a::ms=>FJ (snd a) (sH ms)
end
end
section
variable (G:Gs) (F:Nat->ge DV->on Ou) (fu:Nat)
def SS(m:MS):Prop:=∀{sg:Sg} {X:Cx} {st:Jq} {δ:ge Sv} {o:Out},Good sg G F X->corS sg m st=true->evS G F fu m δ=some o->PS X st (dS X.D δ o)
def SSs(ms:ge MS):Prop:=∀{sg:Sg} {X:Cx} {sts:ge Jq} {δ:ge Sv} {o:Out},Good sg G F X->F9 sg ms sts=true->evSs G F fu ms δ=some o->PSs X sts (dS X.D δ o)
end
theorem FL(h:qM e=true):Y2 G F e:=by
 cases e with
 | comp a _ b _=>exact sE (snd a) (snd b)
 | compi a _ b c _=>exact sF (snd a) (snd b) (snd c)
 | _=>cases h
theorem FM:SS G F fu (.set i own e):=by
 intro sg X st u o g c h;refine X2 c λ t v w c=>?_
 refine E2 c λ x pt c=>?_;simp only[d6,f7,E7,q0]at c;obtain⟨⟨⟨E,C⟩,s⟩,d⟩:=c;have l:=g.loc x C;have q:X.N[i]? = some x:=by rw[g.N];exact E
 have h:Re.thnS u _ _=some o:=h;cases hv:N2 v with
 | false=>exact rX g.nd q l.1 l.2 (λ z j=>(snd e).1 g s j) (cA hv) h
 | true=>
  rcases d with d | B
  ·rw[hv]at d;cases d
  ·cases m:evE G F e u with
   | none=>rw[m]at h;cases h
   | some r=>
    obtain⟨a,N',fr,tg,p,rfl,S,P,A,y⟩:=FL B g s m;cases f:(X.env.blockKind == .function&&X.env.kindOf x==some .local&&pt.line==(Expr.ListComp a.elt [⟨a.tg,a.it,a.ifs,0⟩] a.sc p).pos.line && !_)with
    | false=>
     have b:=(by show(pure (X.env.blockKind == .function&&X.env.kindOf x==some .local&&pt.line==(Expr.ListComp a.elt [⟨a.tg,a.it,a.ifs,0⟩] a.sc p).pos.line && !(a.sc.names.any λ (n,k)=>n==x&&(k == .local||k == .cell))):Sem Bool)=pure false;rw[f]);exact rX g.nd q l.1 l.2 (λ z j=>(snd e).1 g s j) b h
    | true=>
     have b:=(by show(pure (X.env.blockKind == .function&&X.env.kindOf x==some .local&&pt.line==(Expr.ListComp a.elt [⟨a.tg,a.it,a.ifs,0⟩] a.sc p).pos.line && !(a.sc.names.any λ (n,k)=>n==x&&(k == .local||k == .cell))):Sem Bool)=pure true;rw[f]);rw[m]at h;have d:X.env.kindOf x=some .local:=by simp only[d6,f7]at f;exact f.1.1.2
     exact DB S g.calm g.nd q d P A y b h
theorem FN:SS G F fu (.app i e):=by
 intro sg X st δ o g a h;refine jJ a λ v k a=>?_
 refine bT a λ ef ea c a=>?_;refine bQ a λ ob n d a=>?_;simp only[d6,q0]at a;obtain⟨⟨⟨⟨s,b⟩,r⟩,q⟩,p⟩:=a;refine E2 b λ x np b=>?_;obtain⟨s1,s2,j,f⟩:=N6 g b;have m:=f7.mp s;subst m;exact DC (M6 s1 s2 j f) (λ z l=>(snd e).1 g r l) q p h
theorem FO:SS G F fu (.ext i e):=by
 intro sg X st δ o g a h;refine jJ a λ v k a=>?_
 refine bT a λ ef ea c a=>?_;refine bQ a λ ob n d a=>?_;simp only[d6,q0]at a;obtain⟨⟨⟨⟨s,b⟩,r⟩,q⟩,p⟩:=a;refine E2 b λ x np b=>?_;obtain⟨s1,s2,j,f⟩:=N6 g b;have m:=f7.mp s;subst m;exact DE (M6 s1 s2 j f) (λ z l=>(snd e).1 g r l) q p h
theorem FP:SS G F fu (.retd i):=by
 intro sg X st δ o g a h;refine qC a λ v d a=>?_
 refine E2 a λ x np a=>?_;obtain⟨s1,s2,c,b⟩:=N6 g a;exact Ef (M6 s1 s2 c b) h
theorem FQ:SS G F fu (.sett is e):=by
 intro sg X st δ o g b h;refine X2 b λ t v c b=>?_
 simp only[d6,q0]at b;obtain⟨⟨⟨a,j⟩,i⟩,f⟩:=b;unfold tgOk at a;dsimp only at a;split at a
 ·rename_i l q;obtain⟨kk,tp,rfl⟩:=bU q;rw[d6,d6,f7]at a;obtain⟨A,B,C⟩:=lq g is l a.1.1 a.2;exact DG (Af g.calm A B C) (λ z d=>(snd e).1 g j d) f i h
 ·cases a
theorem FR:SS G F fu (.aug i e):=by
 intro sg X st δ o g c h;refine Ba c λ t op v f c=>?_
 rw[d6,d6]at c;obtain⟨⟨n,b⟩,m⟩:=c;cases f7.mp n;refine E2 b λ x p b=>?_
 rw[d6]at b;have l:=g.loc x b.2;obtain⟨a,d,h⟩:=p6.mp h;exact DI g.nd (by rw[g.N];exact f7.mp b.1) l.1 l.2 (λ z j=>(snd e).1 g m j) (DH d) h
theorem FT:SS G F fu (.sel i):=by
 intro sg X st δ o g a h;refine X2 a λ t v b a=>?_
 refine E2 a λ x np a=>?_;refine qz a λ _ a=>?_;rw[d6,f7]at a;obtain⟨d,c⟩:=g.loc x a.2;exact EC g.nd (by rw[g.N];exact a.1) d c h
theorem FU:SS G F fu (.dpl i k e):=by
 intro sg X st δ o g a h;refine X2 a λ t v j a=>?_
 refine E3 a λ ob ek sp a=>?_;simp only[d6,q0]at a;obtain⟨⟨⟨⟨c,n⟩,h3⟩,m⟩,l⟩:=a;refine E2 c λ x np c=>?_;obtain⟨s1,s2,f,d⟩:=N6 g c;exact ED (K7 Jy g.hu) (M6 s1 s2 f d) (λ z b=>(snd e).1 g m b) (λ z b=>(snd k).1 g n b) l h
theorem FV:SS G F fu (.frd i):=by
 intro sg X st δ o g a h;cases a
theorem FW:SS G F fu (.sep i):=by
 intro sg X st δ o g a h;refine X2 a λ t v b a=>?_
 refine E2 a λ x np a=>?_;refine qz a λ _ a=>?_;rw[d6,f7]at a;obtain⟨d,c⟩:=g.loc x a.2;exact Eo g.nd (by rw[g.N];exact a.1) d c h
theorem FX:SS G F fu (.dpp i ks e):=by
 intro sg X st δ o g a h;refine X2 a λ t v k a=>?_
 refine E3 a λ ob ek sp a=>?_;simp only[d6,q0]at a;obtain⟨⟨⟨d,c⟩,m⟩,l⟩:=a;refine E2 d λ x np d=>?_;obtain⟨s1,s2,j,f⟩:=N6 g d;refine jC c λ es tk tp c=>?_;exact Er (K7 Jy g.hu) (M6 s1 s2 j f) (λ z b=>(snd e).1 g m b) (λ z b=>sndL ks g c b) l h
theorem FY:SS G F fu (.seti i k e):=by
 intro sg X st δ o g a h;refine X2 a λ t v j a=>?_
 refine E3 a λ ob ek sp a=>?_;simp only[d6,q0]at a;obtain⟨⟨⟨c,n⟩,m⟩,l⟩:=a;refine E2 c λ x np c=>?_;obtain⟨s1,s2,f,d⟩:=N6 g c;exact DD (M6 s1 s2 f d) (λ z b=>(snd e).1 g l b) (λ z b=>(snd k).1 g n b) m h
theorem FZ:SS G F fu (.exp e):=by
 intro sg X st δ o g a h;refine jJ a λ _ _ a=>?_
 simp only[d6,q0]at a;exact DA (λ z b=>(snd e).1 g a.1 b) a.2 h
theorem Ga:SS G F fu (.ret e):=by
 intro sg X st δ o g a h;refine qC a λ _ _ a=>?_
 exact Dz (λ z b=>(snd e).1 g a b) h
theorem Gb:SS G F fu .unk:=by
 intro sg X st δ o g hc h;cases h
theorem Gc(i:SSs G F fu a)(f:SSs G F fu b):SS G F fu (.iff c a b):=by
 intro sg X st δ o g d h;refine AU d λ _ _ _ _ d=>?_
 simp only[d6]at d;exact Dy (λ z e=>(snd c).2.1 g d.1.1 e) (λ z e=>i g d.1.2 e) (λ z e=>f g d.2 e) h
theorem t_fo(f:SSs G F fu body):SS G F fu (.fo tg e body):=by
 intro sg X st δ o g a h;refine Bg a λ _ _ _ _ a=>?_
 simp only[d6,q0,E7]at a;obtain⟨⟨⟨⟨n,m⟩,l,k⟩,j⟩,i⟩:=a;exact DJ (g.own n) g.calm (λ z c=>(snd e).2.2 g l (λ w=>by
  rcases k with q | q
  ·rw[w]at q;cases q
  ·exact q) c) (cH g m) (λ b o' d=>f g i d) j h
theorem t_wh(f:SSs G F fu body):SS G F fu (.wh c body):=by
 intro sg X st δ o g a h;refine Bh a λ _ _ _ a=>?_
 simp only[d6]at a;exact DK (g.own a.1.1) (λ b r d=>(snd c).2.1 g a.1.2 d) (λ b o' e=>f g a.2 e) h
noncomputable def Gd:MS->Bool
 | .frd _=>true
 | _=>false
theorem Ge:SSs G F fu []:=by
 intro sg X c δ o g d h;cases c with
 | nil=>unfold evSs at h;cases h;exact Dv
 | cons a b=>unfold F9 at d;cases d
theorem Gf(n:SSs G F fu c):SSs G F fu (.frd i::c):=by
 intro l X b a o g f h;have e:F9 l c b=true:=by unfold F9 at f;exact f
 unfold evSs at h;have d:evS G F fu (.frd i) a=frdS a i a[i]?:=rfl;rw[d]at h;split at h
 ·rename_i j q;exact EI q (n g e h)
 ·rename_i q;exfalso;unfold frdS at h q;split at h
  ·rename_i ks vs m;rw[m]at q;exact q _ rfl
  ·cases h
theorem E4(l:SS G F fu m)(p:SSs G F fu f)(k:Gd m=false):SSs G F fu (m::f):=by
 intro j X a δ o g e h;cases a with
 | nil=>
  exfalso;cases m<;>first | (cases k;done) | (unfold F9 at e;cases e)
 | cons n a=>
  have b:corS j m n=true/\F9 j f a=true:=(by cases m<;>first | (cases k;done) | (unfold F9 at e;rw[d6]at e;exact e));unfold evSs at h;split at h
  ·rename_i c q;exact Dw (l g b.1 q) (p g b.2 h)
  ·rename_i i;cases o with
   | nx c=>exact absurd h (i c)
   | rt d fr=>exact Dx (l g b.1 h)
section
variable {G:Gs} {F:Nat->ge DV->on Ou} {fu:Nat}
mutual
theorem sndS:∀m:MS,SS G F fu m
 | .set _ _ _=>FM
 | .app _ _=>FN
 | .sett _ _=>FQ
 | .aug _ _=>FR
 | .ext _ _=>FO
 | .seti _ _ _=>FY
 | .exp _=>FZ
 | .ret _=>Ga
 | .iff _ a b=>Gc (z0 a) (z0 b)
 | .fo _ _ body=>t_fo (z0 body)
 | .wh _ body=>t_wh (z0 body)
 | .sep _=>FW
 | .dpp _ _ _=>FX
 | .retd _=>FP
 | .unk=>Gb
 | .sel _=>FT
 | .dpl _ _ _=>FU
 | .frd _=>FV
theorem z0:∀ms:ge MS,SSs G F fu ms
 | []=>Ge
 | .frd _::ms=>Gf (z0 ms)
 | .set i o e::ms=>E4 (sndS (.set i o e)) (z0 ms) rfl
 | .app i o::ms=>E4 (sndS (.app i o)) (z0 ms) rfl
 | .sett i o::ms=>E4 (sndS (.sett i o)) (z0 ms) rfl
 | .aug i o::ms=>E4 (sndS (.aug i o)) (z0 ms) rfl
 | .sel i::ms=>E4 (sndS (.sel i)) (z0 ms) rfl
 | .dpl i k o::ms=>E4 (sndS (.dpl i k o)) (z0 ms) rfl
 | .ext i o::ms=>E4 (sndS (.ext i o)) (z0 ms) rfl
 | .seti i k o::ms=>E4 (sndS (.seti i k o)) (z0 ms) rfl
 | .exp e::ms=>E4 (sndS (.exp e)) (z0 ms) rfl
 | .ret e::ms=>E4 (sndS (.ret e)) (z0 ms) rfl
 | .iff c a b::ms=>E4 (sndS (.iff c a b)) (z0 ms) rfl
 | .fo t i b::ms=>E4 (sndS (.fo t i b)) (z0 ms) rfl
 | .wh c b::ms=>E4 (sndS (.wh c b)) (z0 ms) rfl
 | .retd i::ms=>E4 (sndS (.retd i)) (z0 ms) rfl
 | .sep i::ms=>E4 (sndS (.sep i)) (z0 ms) rfl
 | .dpp i k e::ms=>E4 (sndS (.dpp i k e)) (z0 ms) rfl
 | .unk::ms=>E4 (sndS .unk) (z0 ms) rfl
end
end
structure FunD(K:PySem.W.Frag)(x qual:Str)(st:Stmt)(f:Addr)(fd:FuncData):Prop where
 ex:∃(oc:Value) (od:Option Addr) (dV kV doc pm:Value) (an:Option Addr) (cdv ct:Value) (osl:Array (Option Value)),
  fd=PySem.W.fnOf x qual (M5 st) (G9 st) (x2 st) dV kV doc pm an cdv ct/\K.lookup f=some ⟨oc,od,.func fd,osl⟩/\PySem.W.codeIn K cdv qual=true
theorem FunD.okX{K:Js}(F:FunD K x a d f fd)(S:FnScope N ps (x2 d))(g:∀vs H Q E,e vs H Q E->vs.length=ps.length)
  (c:∀(b:Jg),fd.code=b->∀(A:Jp) (outer:ge Env) (s:Jh) (H:Hp) (vs:ge V) (Q:VK) (E:XK),Room k (A.deeper (envOfC a (x2 d) s.heap.objs.size f b))->e vs H Q E ->
   ∃t,PSs (cxD P w K mg base N a (x2 d) f b A outer s H) (G9 d) t/\t {nx:=λ _ o=>Q .non o,rt:=Q} (start N vs) H):FnOk P w K mg base CX0 (k+1) f fd ps e:=by
 obtain⟨oc,od,dV,kV,n,pm,an,b,ct,j,rfl,l,i⟩:=F.ex;exact yl l i S g λ A outer s H vs Q E m h=>c b rfl A outer s H vs Q E m h
theorem RSt.start(m:n=N.length)(r:RepL D (L2.wo O H) ds vs)(k:Hdn O H):RSt D H (L2.start N vs) (j8 n ds) O []:=by
 subst m;have c:∀(i:Nat) b,(j8 N.length ds)[i]? ≠ some (.own b):=λ i b h=>by
  unfold j8 at h;by_cases e:i<(ds.map Sv.val).length
  ·rw[P6 e,o8]at h;cases q:ds[i]? with
   | none=>rw[q]at h;cases h
   | some d=>rw[q]at h;cases h
  ·rw[S0 Jy,dg]at h;split at h<;>cases h
 have g:∀(i:Nat) b,(j8 N.length ds)[i]? ≠ some (.od b):=λ i b h=>by
  unfold j8 at h;by_cases e:i<(ds.map Sv.val).length
  ·rw[P6 e,o8]at h;cases q:ds[i]? with
   | none=>rw[q]at h;cases h
   | some d=>rw[q]at h;cases h
  ·rw[S0 Jy,dg]at h;split at h<;>cases h
 refine⟨λ i d h=>?_,λ i b h=>absurd h (c i b),λ i j a p d2 h=>absurd h (c i p),λ i d h=>absurd h (g i d),?_,⟨λ a f=>k.ne a (by simpa using f),Same.refl _,λ a f=>(nomatch f),λ a f=>(nomatch f),k⟩⟩
 ·unfold j8 at h;by_cases e:i<(ds.map Sv.val).length
  ·rw[P6 e,o8]at h;cases q:ds[i]? with
   | none=>rw[q]at h;cases h
   | some d'=>
    rw[q]at h;cases h;obtain⟨v,l,o⟩:=r.get q;refine⟨v,?_,by rw[A6];exact o⟩;unfold L2.start;rw[P6 (by rw[d7];exact(x8.mp l).1),o8,l];rfl
  ·rw[S0 Jy,dg]at h;split at h<;>cases h
 ·unfold L2.start j8;rw[o5,o5,d7,d7,gW,gW,r.length]
noncomputable def dqB(x:Str):Bool:=!av (x ++ ".<locals>." ++ "plan_of")
structure Stands(K:PySem.W.Frag)(mg:Str->Option Value)(fn bl cl:List Str)(d:FD)(x:Str)(fa:Addr)(fd:FuncData)(ps:List Str):Prop where
 mg:mg x=some (.ref fa)
 kp:PySem.W.keepIn K (.ref fa)=true
 bi:M7 K fd ps []
 np:d.np=ps.length
 ex:∃qual st N,qual=x/\FunD K x qual st fa fd/\FnScope N ps (x2 st)/\d.n=N.length/\F9 ⟨N,(x2 st).names,fn,bl,cl,true,true⟩ d.body (G9 st)=true/\dqB x=true
theorem Gg(hd:T[f]? = some d)(e:d.np=n)(q:run G T fu k f ds=some o):ds.length=n:=by
 cases k with
 | zero=>cases q
 | succ k=>
  have b:(match T[f]? with | none=>if f=B2 then lamR _ ds else none | some c=>if ds.length=c.np then Ou.of (evSs G _ fu c.body _)else none)=some o:=q;rw[hd]at b;have a:(if ds.length=d.np then Ou.of (evSs G _ fu d.body _)else none)=some o:=b;split at a
  ·rename_i z;rw[z,e]
  ·cases a
theorem sI{K:Js}(v:T.length=fn.length)(r:∀(i:Nat) d x,T[i]? = some d->fn[i]? = some x->∃b fd ps,Stands K mg fn bl cl d x b fd ps)
  (m:∀(i:Nat) d x b fd ps,T[i]? = some d->fn[i]? = some x->Stands K mg fn bl cl d x b fd ps->FnOk P w K mg base CX0 k b fd ps (spF ⟨K,mg⟩ ps.length (run G T fu k i))) (s:Room k A) (f:Nat) (y:Str) (n:fn[f]? = some y) :
  ∃p b fd ps,Room p A/\mg y=some (.ref b)/\PySem.W.keepIn K (.ref b)=true/\M7 K fd ps []/\(∀ds o,run G T fu k f ds=some o->ds.length=ps.length)/\FnOk P w K mg base CX0 p b fd ps (spF ⟨K,mg⟩ ps.length (run G T fu k f)):=by
 have u:f<T.length:=by rw[v];exact(x8.mp n).1
 obtain⟨l,c⟩:∃l,T[f]? = some l:=⟨_,j6 u⟩;obtain⟨h,g,e,j⟩:=r f l y c n;exact⟨k,h,g,e,s,j.mg,j.kp,j.bi,λ ds o q=>Gg c j.np q,m f l y h g e c n j⟩
theorem Gh{K:Js}(hT:T.length=fn.length)(hs:∀(i:Nat) d x,T[i]? = some d->fn[i]? = some x->∃fa fd ps,Stands K mg fn bl cl d x fa fd ps)(b5:∀x∈bl,mg x=none)
  (a0:∀x d,G.con.lookup x=some d->∃u v,mg x=some u/\RelV v u/\∀H,Rep ⟨K,mg⟩ H d v) (Z:G.fnl=fn/\G.bll=bl/\G.cll=cl) (b6:T.length<=jn)
  (b2:∀(i:Nat) d x fa fd ps,T[i]? = some d->fn[i]? = some x->Stands K mg fn bl cl d x fa fd ps->FnOk P w K mg B CX0 k fa fd ps (spF ⟨K,mg⟩ ps.length (run G T fu k i))) (b1:aH P w K mg B fn bl cl k (run G T fu k B2)):aH P w K mg B fn bl cl (k+1) (run G T fu (k+1) B2):=by
 intro A F s H us X Q E O f m cs L d hr e0 r hO m1 m2 m3 rp rl hF hq;have a1:(match T[B2]? with | none=>if B2=B2 then lamR (evE G (JK k)) (.lam m cs::L)else none | some fd=>if(DV.lam m cs::L).length=fd.np then Ou.of (evSs G (JK k) fu fd.body (j8 fd.n (.lam m cs::L)))else none)=some (.v d false):=hF;rw[(S4 (e9 b6 Jz))]at a1;have j:=a1;rw[d8 rfl]at j;unfold lamR at j;dsimp only at j;split at j
 ·rename_i a4;obtain⟨n1,n2,n3,n4⟩:=a4;split at j
  ·rename_i d' b4;split at j
   ·rename_i nl;cases j;obtain⟨f',pr,bd,sc,q,a5,l,W,e1,lf,p,S,rc,b0,a9,a8⟩:=jV.mp rp;cases e1;have a7:=lf.mono t6;have a6:∀c∈l,∃o v,H c=some (.frz o (.own c))/\s.heap.get? c=some o/\o.data=.cell v:=λ c hc=>by obtain⟨o,v,U,M⟩:=a9 c hc;have g:=(x6 U).2;exact⟨o,v,g,(e0.hok c _ g).1,M⟩
    unfold X5 at p;rw[d6]at p;have Y:=rl.length;have C:(m.N.take m.np).length=m.np:=by rw[E6];omega
    have b3:us.length=(m.N.take m.np).length:=by rw[←r.length,Y,C];exact n1
    have hlw:=rc.length;have J:∀c∈l,∃o,H c=some (.frz o (.own c)):=λ c hc=>by obtain⟨o,_,g,_⟩:=a6 c hc;exact⟨o,g⟩
    have b7:Hdn O (L2.wo l H):=λ a ha=>by obtain⟨o,U,M⟩:=hO a ha;refine⟨o,?_,M⟩;rw[i8 λ z=>by obtain⟨o',g⟩:=J a z;rw[U]at g;cases g;cases M];exact U
    refine CN (ws:=W) (vs:=X) S (⟨a6⟩) hr.ok e0 a7 (λ pm c' ctv=>Bm p.1 b3) (by rw[Y,C];exact n1) r (by rw[C];exact b0) (λ i x v h1 h2=>?_) λ c'=>?_
    ·rw[C]at h1;obtain⟨c,o,u,U,M,g3,g4⟩:=a8 i x v h1 h2;have g:=(x6 M).2;exact⟨c,u,U,⟨o,(e0.hok c _ g).1,g3⟩,g4⟩
    ·have I:Room k (A.deeper (PySem.W.envX q sc s.heap.objs.size f (.ref c') a5)):=hr.deeper _;have g4:Good ⟨m.N,sc.names,fn,bl,cl,false,false⟩ G (JK k) (fU P w K mg B m.N q sc f (.ref c') a5 A F s (L2.wo l H)):=by
      refine⟨rfl,S.nd,λ y h=>?_,λ y h=>?_,λ y h=>?_,λ y h=>h,λ y h=>h,rfl,I.units,sI hT hs b2 I,b5,a0,(λ z=>nomatch z),(λ z=>nomatch z),(λ z=>⟨Z,⟨k,I,b1⟩,λ w=>nomatch w⟩)⟩
      ·unfold visB at h;simp only[E7,f7]at h;rcases h with(h | h) | h
       ·exact .inl h
       ·exact .inr (.inl h)
       ·exact .inr (.inr h)
      ·unfold gloB at h;rw[f7]at h;exact h
      ·unfold locB at h;simp only[E7,f7]at h;rcases h with h | h
       ·exact⟨.inl h,.inr h⟩
       ·exact absurd rfl (S.nocell _ (D1 h))
     have pe:=(snd m.body).1 g4 ((by have:=p.2;rw[m1,m2,m3]at this;exact this)) b4;refine⟨_,pe,O,[],?_,λ v H' sm gt=>λ a3=>?_⟩
     ·have R:=RSt.start (D:=⟨K,mg⟩) (N:=m.N) (ds:=L++cs) (vs:=X++W) (n:=m.N.length) rfl ((X8 J n3 rl).append (X8 J n4 rc)) b7;have e1:j8 m.N.length (L++cs)=(L++cs).map Sv.val:=(by unfold j8;rw[o5,show m.N.length - (L.length+cs.length)=0 by omega];exact A6 _);have e2:L2.start m.N (X++W)=(X++W).map some:=(by unfold L2.start;rw[o5,show m.N.length - (X.length+W.length)=0 by omega];exact A6 _);rw[e1,e2]at R;exact R
     ·have a2:Rep ⟨K,mg⟩ (L2.wo (O++[]) H') d v:=gt;rw[A6]at a2;refine hq v _ (λ b o e=>?_) (a2.mono λ b o e=>?_)
      ·by_cases hb:b∈l
       ·rw[ku hb];exact e
       ·rw[U5 hb];exact sm _ _ (by rw[i8 hb];exact e)
      ·obtain⟨hb,e⟩:=x6 e;rw[i8 hb,U5 λ z=>by rw[a3 b z]at e;cases e];exact e
   ·cases j
  ·cases j
 ·cases j
theorem sJ{P:Jo}{w:Jn}{K:Js}{mg:Str->on Jg}{base:Jj}{G:Gs}{T:ge FD}{fu:Nat}{fn bl cl:ge Str}(hT:T.length=fn.length)(hs:∀(i:Nat) d x,T[i]? = some d->fn[i]? = some x->∃fa fd ps,Stands K mg fn bl cl d x fa fd ps)(hbl:∀x∈bl,mg x=none)
  (hcon:∀x d,G.con.lookup x=some d->∃u v,mg x=some u/\RelV v u/\∀H,Rep ⟨K,mg⟩ H d v)
  (hlm:G.fnl.isEmpty=false->(G.fnl=fn/\G.bll=bl/\G.cll=cl)/\T.length<=jn/\∀(i:Nat) (d:FD) (x qual:Str) (st:Jq) (fa:Ji) (fd:Jr),T[i]? = some d->fn[i]? = some x->qual=x->FunD K x qual st fa fd->∃c P,fd.code=.ref c/\(∀h:Jj,K.In h->PySem.W.CodeHd h c P)/\(P,tagQ qual)∈v3 K) :
  ∀k,(∀(i:Nat) d x fa fd ps,T[i]? = some d->fn[i]? = some x->Stands K mg fn bl cl d x fa fd ps->FnOk P w K mg base CX0 k fa fd ps (spF ⟨K,mg⟩ ps.length (run G T fu k i)))/\(G.fnl.isEmpty=false->aH P w K mg base fn bl cl k (run G T fu k B2))
 | 0=>by
  refine⟨λ i d x fa fd ps h1 h2 S=>?_,λ _=>(λ A outer s H us vs Q E O f m cs ds d _ _ _ _ _ _ _ _ _ hF _=>by cases hF)⟩;refine⟨λ vs H Q E h=>?_,λ A outer s H args us vs Q E hr he hb hv h=>?_⟩
  ·obtain⟨_,_,_,_,_,_,q,_⟩:=h;cases q
  ·obtain⟨_,_,_,_,_,_,q,_⟩:=h;cases q
 | k+1=>by
  have ih:=sJ (P:=P) (w:=w) (base:=base) (fu:=fu) hT hs hbl hcon hlm k;refine⟨λ i d x fa fd ps h1 h2 S=>?_,λ z=>Gh hT hs hbl hcon (hlm z).1 (hlm z).2.1 ih.1 (ih.2 z)⟩;obtain⟨qual,st,N,hqx,F,FS,hn,hc,hdq⟩:=S.ex;refine F.okX FS (λ vs H Q E h=>?_) (λ cdv hcd A outer s H vs Q E hr h=>?_)
  ·obtain⟨O,ds,o,_,e1,e2,_⟩:=h;rw[e2.length,e1]
  ·obtain⟨O,ds,o,ho,e1,e2,e3,e4⟩:=h;have e3':(match T[i]? with | none=>if i=B2 then lamR (evE G (JK k)) ds else none | some fd=>if ds.length=fd.np then Ou.of (evSs G (JK k) fu fd.body (j8 fd.n ds))else none)=some o:=e3;rw[h1]at e3';have e3'':(if ds.length=d.np then Ou.of (evSs G (JK k) fu d.body (j8 d.n ds))else none)=some o:=e3';rw[d8 (e1.trans S.np.symm)]at e3'';have g:Good ⟨N,(x2 st).names,fn,bl,cl,true,true⟩ G (JK k) (cxD P w K mg base N qual (x2 st) fa cdv A outer s H):=by
    refine⟨rfl,FS.nd,λ y hy=>?_,λ y hy=>?_,λ y hy=>⟨?_,.inl rfl⟩,λ y hy=>hy,λ y hy=>hy,rfl,hr.units,sI hT hs ih.1 hr,hbl,hcon,λ _=>PassesOwn.leaving,λ _=>⟨rfl,rfl,rfl⟩,λ z=>⟨(hlm z).1,⟨k,hr,ih.2 z⟩,λ _=>by
      obtain⟨c,P,q1,q2,q3⟩:=(hlm z).2.2 i d x qual st fa fd h1 h2 hqx F;subst hqx;unfold dqB at hdq;rw[q0]at hdq;rw[show tagQ qual=(qual ++ ".<locals>.") ++ "<lambda>" from e8 (by rw[hdq];decide)]at q3;exact⟨c,P,hcd.symm.trans q1,q2,q3⟩⟩⟩
    ·unfold visB at hy;simp only[E7,f7]at hy;rcases hy with(hy | hy) | hy
     ·exact .inl hy
     ·exact .inr (.inl hy)
     ·exact .inr (.inr hy)
    ·unfold gloB at hy;rw[f7]at hy;exact hy
    ·unfold locB at hy;simp only[E7,f7]at hy;exact hy
   cases ho':evSs G (JK k) fu d.body (j8 d.n ds)with
   | none=>rw[ho']at e3'';cases e3''
   | some oo=>
    rw[ho']at e3'';refine⟨_,z0 d.body g hc ho',H,O,[],RSt.start hn e2 ho,(λ a ha=>(nomatch ha)),ho.ne,Same.refl H,?_⟩;cases oo with
    | nx δ=>cases e3'';exact λ σ' H' W R fr sm=>e4 .non H' sm (show Rep ⟨K,mg⟩ (L2.wo O H') .non .non by unfold Rep;rfl)
    | rt d fr=>cases e3'';exact λ v H' sm gt=>e4 v H' sm gt
noncomputable def okD(fn bl cl:ge Str)(d:FD)(N ps:ge Str)(st:Jq):Bool:=
 (x2 st).kind == .function && !(x2 st).isCoroutine && !(x2 st).isGenerator&&U2 N&&(N.take ps.length==ps) &&
 ps.all (λ x=>(x2 st).names.lookup x==some .local||(x2 st).names.lookup x==some .cell)&&(x2 st).names.all (λ y=>!(y.2 == .free)) &&
 d.n==N.length&&d.np==ps.length&&F9 ⟨N,(x2 st).names,fn,bl,cl,true,true⟩ d.body (G9 st)
section
variable {P:Jo} {w:Jn} {K:Js} {mg:Str->on Jg} {base h:Jj} {G:Gs} {T:ge FD} {fu:Nat} {fn bl cl:ge Str}
theorem Gi{kV j:Jg}(X:K.In h)(E:h.Ns mainGlobals mg)(ok:okD fn bl cl d N ps b=true)
  (a:PySem.W.nsIn K mainGlobals x=some (some (.ref f))) (l:K.lookup f=some ⟨p,o,.func (PySem.W.fnOf x x (M5 b) (G9 b) (x2 b) dV kV g pm m e j),i⟩)
  (c:PySem.W.codeIn K e x=true) (k:PySem.W.keepIn K (.ref f)=true)
  (q:M7 K (PySem.W.fnOf x x (M5 b) (G9 b) (x2 b) dV kV g pm m e j) ps [])
  (C:dqB x=true:=by decide +kernel) :
  Stands K mg fn bl cl d x f (PySem.W.fnOf x x (M5 b) (G9 b) (x2 b) dV kV g pm m e j) ps:=by
 unfold okD at ok;simp only[d6,f7,q0,t7,E7,A4]at ok;obtain⟨⟨⟨⟨⟨⟨⟨⟨⟨B,A⟩,z⟩,y⟩,w⟩,v⟩,u⟩,s⟩,r⟩,n⟩:=ok;exact⟨PySem.W.mg_of X E a,k,q,r,x,b,N,rfl,⟨p,o,dV,kV,g,pm,m,e,j,i,rfl,l,c⟩,⟨B,A,z,aM y,w,v,u⟩,s,n,C⟩
theorem gi{kV i:Jg}(X:K.In h)(s:h.Ns mainGlobals mg)(ok:okD fn bl cl d N ps g=true)
  (a:PySem.W.nsIn K mainGlobals x=some (some (.ref f))) (l:K.lookup f=some ⟨p,o,.func (PySem.W.fnOf x x (M5 g) (G9 g) (x2 g) .none kV e pm j b i),n⟩)
  (c:PySem.W.codeIn K b x=true) (k:PySem.W.keepIn K (.ref f)=true)
  (q:∀(kV e pm:Jg) (j:on Ji) (b i:Jg) (m:ge Jg),m.length=ps.length->bindArgs (PySem.W.fnOf x x (M5 g) (G9 g) (x2 g) .none kV e pm j b i) ⟨m,[]⟩=pure (ps.zip m)) (r:dqB x=true:=by decide +kernel) :
  Stands K mg fn bl cl d x f (PySem.W.fnOf x x (M5 g) (G9 g) (x2 g) .none kV e pm j b i) ps:=
 Gi X s ok a l c k (.all (q kV e pm j b i)) r
def HS(K:Js)(mg:Str->on Jg)(fn bl cl:ge Str)(T:ge FD)(fs:ge Str):Prop:=∀(i:Nat) d x,T[i]? = some d->fs[i]? = some x->∃fa fd ps,Stands K mg fn bl cl d x fa fd ps
theorem Gj:HS K mg fn bl cl [] fs:=λ i d x h=>by cases h
theorem k9(h:Stands K mg fn bl cl d x e fd ps)(t:HS K mg fn bl cl T fs):HS K mg fn bl cl (d::T) (x::fs):=λ i f c b a=>by
 cases i with
 | zero=>cases b;cases a;exact⟨_,_,_,h⟩
 | succ i=>exact t i f c b a
theorem Gk:L2.wo [] H=H:=by
 funext b
 unfold L2.wo;simp
def HC(K:Js)(mg:Str->on Jg)(c:ge (Str×DV)):Prop:=∀x d,c.lookup x=some d->∃u v,mg x=some u/\RelV v u/\∀H,Rep ⟨K,mg⟩ H d v
theorem Gm:HC K mg []:=λ x d h=>by cases h
theorem ls(h:∃u v,mg y=some u/\RelV v u/\∀H,Rep ⟨K,mg⟩ H d v)(t:HC K mg c):HC K mg ((y,d)::c):=λ x a q=>by
 rw[D6]at q;split at q
 ·rename_i e;cases q
  rwa [M4 e]
 ·exact t x a q
noncomputable def spS(K:Js):Sp:=λ vs H Q _=>∃(a:Ji) (ns:ge Int),vs=[.ref a]/\ns.length<=63/\SqS K H a (ns.map V.int)/\∀H',Q (.bl true) H'
theorem Gn(U:T.length=fn.length)(hs:HS K mg fn bl cl T fn)(y:∀x∈bl,mg x=none)
  (j:∀x d,G.con.lookup x=some d->∃u v,mg x=some u/\RelV v u/\∀H,Rep ⟨K,mg⟩ H d v) (Y:T[i]? = some d) (X:fn[i]? = some x) (S:Stands K mg fn bl cl d x l fd [p])
  (o:G.fnl.isEmpty=false->(G.fnl=fn/\G.bll=bl/\G.cll=cl)/\T.length<=jn/\∀(i:Nat) (d:FD) (x b:Str) (I:Jq) (l:Ji) (fd:Jr),T[i]? = some d->fn[i]? = some x->b=x->FunD K x b I l fd->∃c P,fd.code=.ref c/\(∀h:Jj,K.In h->PySem.W.CodeHd h c P)/\(P,tagQ b)∈v3 K)
  (n:∀ns:ge Int,ns.length<=63->run G T fu k i [.scr ns]=some (.v (.bl true) false)):FnOk P w K mg base CX0 k l fd [p] (spS K):=by
 refine⟨λ C H Q E h=>?_,λ A f s H m F C Q E J N O hv h=>?_⟩
 ·obtain⟨a,ns,rfl,_⟩:=h;rfl
 ·obtain⟨a,ns,rfl,M,W,L⟩:=h;refine Q2 (((sJ U hs y j o k).1 i d x l fd [p] Y X S).run A f s H m F _ Q E0 J N O hv ⟨[],[.scr ns],_,(λ a R=>(nomatch R)),rfl,?_,n ns M,λ v B _ g=>?_⟩) λ r s' q=>?_
  ·refine RepL.one (R4.mpr ⟨a,rfl,?_⟩);rw[Gk];exact W
  ·have z:Rep ⟨K,mg⟩ (L2.wo [] B) _ v:=g;rw[O7]at z;subst z;exact L B
  ·cases r with
   | error e=>exact(q:False).elim
   | ok Z=>cases Z<;>first | exact False.elim q | exact q
end
theorem walkE{l:PySem.W.OpenLaw}{XP:(Str->on Jg)->Jj->Prop}{K:Params->Js}(r:l.most=some 63)(g:d.params.defaults=[])(o:Room k callerA)
  (x:∀(w:Jn) (h:Jj),YP w h->(K w.params).In h) (e:∀(w:Jn) (h:Jj),YP w h->(∀p∈v3 (K w.params),(K w.params).lookup p.1=none/\h.get? p.1=some {cls:=.none,data:=.fields #[]} /\ isCodeTable h p.1)/\((v3 (K w.params)).map (·.1)).Nodup)
  (F:∀(w:Jn) (c:Str->on Jg) (j:Ji) (h:Jj),(K w.params).In h->h.Ns mainGlobals c->c d.name=some (.ref j) ->
   ∃i:Jr,(∀(s:Jh) (u:Jg),BindsTo s i ⟨[u],[]⟩ [(p,u)])/\∀b:Jj,(K w.params).In b->b.Ns mainGlobals c->FnOk l.prog w (K w.params) c b CX0 k j i [p] (spS (K w.params))) :
  PySem.W.WalkO q loose XP YP l.row.toRowW d [] (λ f m=>PySem.call f m):=
 L2.walk_of r Jz g o x e F (λ _ _ a n v A y=>⟨a,n,rfl,v,SqS.of A y,λ _=>rfl⟩) λ _ _ _ _ _ z=>z
noncomputable def sM(K:Js)(o:Obj)(c:Ji):on Ji:=match o.cls,o.data with
 | .type "code",.fields vs=>(match(vs[11]?:on Jg),(vs[18]?:on Jg),(vs[7]?:on Jg),(vs[9]?:on Jg),(vs[10]?:on Jg)with
  | some (.ref P),some (.str _ _),some (.int _ _),some (.bool _),some (.int _ _)=>if(c==P)=false/\(K.lookup P).isNone=true then some P else none
  | _,_,_,_,_=>none)
 | _,_=>none
def Go(K:Js):Bool:=K.all λ p=>match p.2.data with
 | .func fd=>(match fd.code with
  | .ref c=>(match K.lookup c with | some o=>(sM K o c).isSome | none=>true)
  | _=>true)
 | _=>true
theorem cK{vs:Jl Jg}(h:vs[i]? = some v):vs.getD i .none=v:=by
 rw[R8,h];rfl
theorem Gp{K:Js}{st:Jq}(R:Go K=true)(F:FunD K x f st W fd):∃c P,fd.code=.ref c/\(∀h:Jj,K.In h->PySem.W.CodeHd h c P)/\(P,tagQ f)∈v3 K:=by
 obtain⟨oc,od,dV,kV,Y,pm,an,w,ct,H,e,I,g⟩:=F.ex;have j:fd.code=w:=by rw[e]
 have q:=t7.mp R _ (bE I);dsimp only at q;unfold PySem.W.codeIn at g;split at g
 ·rename_i c;rw[j]at q;dsimp only at q;split at g
  ·rename_i cls Z y sl p;rw[p]at q;dsimp only at q;obtain⟨P,i⟩:=V3.mp q;unfold sM at i;split at i
   ·rename_i B A S;have u:=(by have:=S;injection this);subst u;split at i
    ·rename_i P' k E U m b C l o O N M L;split at i
     ·rename_i d;cases i;split at g
      ·rename_i a n t r hv;have Q:=f7.mp g;subst Q;have J:y[1]? = some (.str n t):=by rw[←F6,hv];rfl
       refine⟨c,P,j,λ h X=>⟨_,y,k,E,U,m,b,C,l,X _ _ p,A,rfl,o,cK o,cK O,cK N,cK M,cK L,λ z=>?_⟩,?_⟩
       ·rw[z]at d;have:=d.1;simp at this
       ·unfold v3;refine bh.mpr ⟨_,bE p,?_⟩;have v:=A;subst v;simp only[o,J,d.2,if_true]
      ·cases g
     ·cases i
    ·cases i
   ·cases i
  ·cases g
 ·cases g
theorem Gq{K:Js}(h:p∈v3 K):∃(c:Ji) (a:Obj) (vs:Jl Jg),(c,a)∈K/\a.cls=.type "code" /\ a.data=.fields vs/\vs[11]? = some (.ref p.1)/\K.lookup p.1=none:=by
 unfold v3 at h;obtain⟨⟨c,a⟩,d,e⟩:=bh.mp h;dsimp only at e;split at e
 ·rename_i vs g f;split at e
  ·rename_i P q t b k2;split at e
   ·rename_i z;cases e;exact⟨c,a,vs,d,g,f,b,ng.mp z⟩
   ·cases e
  ·cases e
 ·cases e
theorem Gr{K:Js}(f:(K.map (·.1)).Nodup)(h:(c,o)∈K):K.lookup c=some o:=by
 induction K with
 | nil=>cases h
 | cons y l g=>
  rw[t9]at f;have d:=L0.mp f;obtain⟨a,b⟩:=y;rw[D6];rcases g5.mp h with z | z
  ·cases z;rw[O0]
  ·have:c≠a:=λ e=>d.1 (by rw[←e];exact f9.mpr ⟨_,z,rfl⟩);rw[A4.mpr this];exact g d.2 z
theorem htb_of{K T:Js}(i:K.In h)(f:T.In h)(e:(K.map (·.1)).Nodup)(j:(v3 K).map (λ p=>T.lookup p.1)=(v3 K).map λ _=>some {cls:=.none,data:=.fields #[]}) :
  ∀p∈v3 K,K.lookup p.1=none/\h.get? p.1=some {cls:=.none,data:=.fields #[]} /\ isCodeTable h p.1:=λ p a=>by
 obtain⟨c,d,b,g,n,m,l,k⟩:=Gq a;exact⟨k,f _ _ (dR.mp j p a),c,d,b,i _ _ (Gr e g),n,m,l⟩
theorem in_app{K:Js}(X:PySem.W.Frag.In (T++K) h)(f:(K.map (·.1)).all (λ a=>(T.lookup a).isNone)=true):K.In h/\T.In h:=by
 have c:∀(T K:Js) a,(T++K).lookup a=(T.lookup a).or (K.lookup a):=λ T K a=>by
  induction T with
  | nil=>simp
  | cons y l d=>
   obtain⟨b,v⟩:=y;rw[List.cons_append,D6,D6];cases hb:a==b with
   | true=>rfl
   | false=>
    exact d
 refine⟨λ a o e=>X a o ?_,λ a o e=>X a o ?_⟩
 ·rw[c,ng.mp (t7.mp f a (f9.mpr ⟨_,bE e,rfl⟩)),e];rfl
 ·rw[c,e];rfl
end L2
end
noncomputable section
namespace cv
variable {α β:Type} (h:β->α->Bool)
noncomputable def wi(bs:ge β)(e:α):ge β:=bs.filter λ b=>h b e
noncomputable def lf(es:ge α)(b:β):ge α:=es.filter λ e=>!h b e
noncomputable def fst1(g:β->on (ge β)):ge β->on (ge β)
 | []=>none
 | b::bs=>match g b with
  | some c=>some (b::c)
  | none=>fst1 g bs
def cov:Nat->ge α->ge β->on (ge β)
 | _,[],_=>some []
 | 0,_::_,_=>none
 | m+1,e::es,bs=>fst1 (λ b=>cov m (lf h (e::es) b) bs) (wi h bs e)
theorem sN:∀{bs:ge β} {c:ge β},fst1 g bs=some c->∃b r,b∈bs/\g b=some r/\c=b::r
 | [],_,q=>by cases q
 | b::bs,c,q=>by
  unfold fst1 at q;split at q
  ·rename_i r e;cases q;exact⟨b,r,i5,e,rfl⟩
  ·obtain⟨h,r,f,d,a⟩:=sN q;exact⟨h,r,i7 _ f,d,a⟩
theorem lu:∀{bs:ge β},fst1 g bs=none↔∀b∈bs,g b=none
 | []=>⟨(λ _ b a=>by cases a),λ _=>rfl⟩
 | b::bs=>by
  constructor
  ·intro q c a;unfold fst1 at q;split at q
   ·cases q
   ·rename_i e;rcases g5.mp a with z | z
    ·rwa [z]
    ·exact lu.mp q c z
  ·intro q;unfold fst1;rw[q b i5];exact lu.mpr λ c a=>q c (i7 _ a)
theorem cov_ok:∀{m:Nat} {es:ge α} {bs c:ge β},cov h m es bs=some c->(∀b∈c,b∈bs)/\(∀e∈es,∃b∈c,h b e=true)/\c.length<=m
 | m,[],bs,c,q=>by
  have:c=[]:=by cases m<;>(unfold cov at q;cases q;rfl)
  subst this;exact⟨(λ _ z=>by cases z),(λ _ z=>by cases z),v9 _⟩
 | 0,_::_,_,_,q=>by unfold cov at q;cases q
 | m+1,e::es,bs,c,q=>by
  unfold cov at q;obtain⟨b,r,h1,h2,rfl⟩:=sN q;obtain⟨i1,i2,i3⟩:=cov_ok h2;have hb:=j2.mp h1;refine⟨λ b' z=>?_,λ e' z=>?_,im i3⟩
  ·rcases g5.mp z with z | z
   ·rw[z];exact hb.1
   ·exact i1 b' z
  ·by_cases hh:h b e'=true
   ·exact⟨b,i5,hh⟩
   ·obtain⟨b',p1,p2⟩:=i2 e' (j2.mpr ⟨z,by simpa using hh⟩);exact⟨b',i7 _ p1,p2⟩
theorem cov_all[DecidableEq β]:∀{m:Nat} {es:ge α} {bs c:ge β},(∀b∈c,b∈bs)->(∀e∈es,∃b∈c,h b e=true)->c.length<=m->cov h m es bs≠none
 | m,[],bs,c,_,_,_=>by cases m<;>(unfold cov;intro z;cases z)
 | 0,e::es,bs,c,_,h2,h3=>by
  obtain⟨b,p,_⟩:=h2 e i5;cases c with
  | nil=>cases p
  | cons _ _=>cases h3
 | m+1,e::es,bs,c,h1,h2,h3=>by
  obtain⟨b,p,q⟩:=h2 e i5;unfold cov;intro z;have:=lu.mp z b (j2.mpr ⟨h1 b p,q⟩);refine cov_all (c:=c.erase b) (λ b' hb=>h1 b' (List.mem_of_mem_erase hb)) (λ e' he=>?_) ?_ this
  ·obtain⟨he1,he2⟩:=j2.mp he;obtain⟨b',p',q'⟩:=h2 e' he1;have hne:b'≠b:=λ z=>by rw[z]at q';rw[q']at he2;cases he2
   exact⟨b',(gZ hne).mpr p',q'⟩
  ·have:=gQ p;omega
theorem cov_least[DecidableEq β](q:cov h m es bs=some c)(l:∀k<m,cov h k es bs=none):c.length=m:=by
 obtain⟨d,b,a⟩:=cov_ok h q;rcases dJ a with z | z
 ·exact absurd (l _ z) (cov_all h d b (f8 _))
 ·exact z
end cv
end
noncomputable section
namespace k35
open PySem L2
noncomputable def sO:FD:={n:=3,np:=3,body:=[.ret (.and [.isi (.var 0) ["int"],.not (.isi (.var 0) ["bool"]),.chain .LtE .LtE (.var 1) (.var 0) (.var 2)])]}
noncomputable def sP:FD:={n:=1,np:=1,body:=[.ret (.bi .tuple [.comp (.bi .tuple [.comp (.ix (.var 0) (.var 1)) (.one 0) (.var 1) [none,some 0]]) (.one 0) (.rng [.bi .len [.ix (.var 0) (.int 0)]]) [none,some 0]])]}
noncomputable def sQ:FD:={n:=3,np:=3,body:=[.exp (.call 3 [.var 1,.bi .len [.var 0]]),.exp (.call 3 [.var 2,.bi .len [.ix (.var 0) (.int 0)]]),.ret (.call 5 [.var 0,.call 4 [.var 1],.call 4 [.var 2]])]}
noncomputable def sR:FD:={n:=2,np:=2,body:=[.iff (.not (.call 0 [.var 0,.int 1,.bin .Sub (.bin .LShift (.int 1) (.var 1)) (.int 1)])) [.unk] []]}
noncomputable def lv:FD:={n:=1,np:=1,body:=[.ret (.compi (.var 0) (.one 0) (.rng [.meth .bitLength (.var 0) []]) (.bin .BitAnd (.bin .RShift (.var 1) (.var 0)) (.int 1)) [none,some 0])]}
noncomputable def sU:FD:={n:=3,np:=3,body:=[.ret (.bi .tuple [.comp (.bi .tuple [.comp (.ix (.ix (.var 1) (.var 2)) (.var 0)) (.one 0) (.var 1) [none,some 2,some 0]]) (.one 0) (.var 1) [none,some 2,some 0]])]}
noncomputable def sV:FD:={n:=1,np:=1,body:=[.ret (.comp (.idx (.var 1) (.var 0)) (.one 0) (.var 0) [none,some 0])]}
noncomputable def sW:FD:={n:=1,np:=1,body:=[.ret (.call 6 [.call 1 [.var 0]])]}
noncomputable def sX:FD:={n:=1,np:=1,body:=[.ret (.call 5 [.var 0,.bi .sset [.call 6 [.var 0]],.bi .sset [.call 7 [.var 0]]])]}
noncomputable def sY:FD:={n:=2,np:=1,body:=[.set 1 false (.call 8 [.var 0]),.ret (.and [.cmp .LtE (.bi .len [.var 1]) (.glb "SMALL_LINES"),.cmp .LtE (.bi .len [.ix (.var 1) (.int 0)]) (.glb "SMALL_LINES")])]}
noncomputable def sZ:FD:={n:=1,np:=1,body:=[.iff (.not (.call 9 [.var 0])) [.unk] []]}
def lw:FD:={n:=3,np:=1,body:=[.set 1 true (.lst []),.fo (.one 2) (.var 0) [.ext 1 (.var 2)],.ret (.bi .sset [.var 1])]}
noncomputable def tj:FD:={n:=3,np:=3,body:=[.ret (.cmp .Eq (.bi .len [.call 11 [.call 2 [.var 0,.var 1,.var 2]]]) (.int 1))]}
def lx:FD:={n:=5,np:=2,body:=[.set 2 true (.lst []),.fo (.one 3) (.rng [.int 1,.bin .LShift (.int 1) (.bi .len [.var 0])]) [.set 4 false (.call 14 [.var 0,.var 3,.var 1]),.iff (.and [.cmp .NotEq (.var 4) (.int 0),.cmp .Eq (.call 15 [.var 0,.var 4,.var 1]) (.var 3)]) [.app 2 (.tup [.var 3,.var 4])] []],.ret (.var 2)]}
noncomputable def tm:FD:={n:=4,np:=3,body:=[.set 3 false (.call 4 [.var 1]),.ret (.bi .sum [.compi (.bin .LShift (.int 1) (.var 0)) (.one 0) (.rng [.bi .len [.ix (.var 0) (.int 0)]]) (.bi .all [.comp (.cmp .Eq (.ix (.ix (.var 1) (.var 0)) (.var 2)) (.var 3)) (.one 0) (.var 1) [none,some 2,some 0,some 3]]) [none,some 3,some 0,some 2]])]}
noncomputable def tq:FD:={n:=4,np:=3,body:=[.set 3 false (.call 4 [.var 1]),.ret (.bi .sum [.compi (.bin .LShift (.int 1) (.var 0)) (.one 0) (.rng [.bi .len [.var 0]]) (.bi .all [.comp (.cmp .Eq (.ix (.ix (.var 1) (.var 2)) (.var 0)) (.var 3)) (.one 0) (.var 1) [none,some 2,some 0,some 3]]) [none,some 3,some 0,some 2]])]}
noncomputable def tu:FD:={n:=6,np:=2,body:=[.exp (.call 10 [.var 0]),.set 2 false (.call 13 [.var 0,.var 1]),.set 3 false (.call 17 [.var 0,.var 1,.var 2]),.set 4 false (.int 0),.set 5 true (.call 21 [.var 3,.var 2,.var 4]),.wh (.cmp .Is (.var 5) (.non)) [.aug 4 (.int 1),.set 5 true (.call 21 [.var 3,.var 2,.var 4])],.ret (.var 5)]}
def tw:FD:={n:=6,np:=3,body:=[.set 3 true (.lst []),.fo (.many [4,5]) (.enu (.var 0)) [.ext 3 (.compi (.tup [.var 1,.var 0]) (.one 0) (.rng [.bi .len [.var 5]]) (.cmp .Eq (.ix (.var 2) (.var 0)) (.var 3)) [none,some 4,some 5,some 1])],.ret (.srtk (.var 3) ["entry","blocks"] 1 (.bi .len [.call 18 [.var 1,.var 0]]) [2])]}
noncomputable def tx:FD:={n:=2,np:=2,body:=[.ret (.compi (.var 0) (.one 0) (.var 0) (.call 19 [.var 0,.var 1]) [none,some 1])]}
noncomputable def tz:FD:={n:=2,np:=2,body:=[.ret (.cmp .Eq (.bin .BitAnd (.bin .BitAnd (.bin .RShift (.ix (.var 0) (.int 0)) (.ix (.var 1) (.int 0))) (.bin .RShift (.ix (.var 0) (.int 1)) (.ix (.var 1) (.int 1)))) (.int 1)) (.int 1))]}
noncomputable def tA:FD:={n:=2,np:=2,body:=[.ret (.compi (.var 0) (.one 0) (.var 0) (.not (.call 19 [.var 1,.var 0])) [none,some 1])]}
def Y3:FD:={n:=5,np:=3,body:=[.iff (.cmp .Eq (.var 0) (.lst [])) [.ret (.lst [])] [],.iff (.cmp .Eq (.var 2) (.int 0)) [.ret (.non)] [],.fo (.one 3) (.call 18 [.var 1,.ix (.var 0) (.int 0)]) [.set 4 false (.call 21 [.call 20 [.var 0,.var 3],.var 1,.bin .Sub (.var 2) (.int 1)]),.iff (.cmp .IsNot (.var 4) (.non)) [.ret (.bin .Add (.lst [.var 3]) (.var 4))] []],.ret (.non)]}
def tE:FD:={n:=5,np:=2,body:=[.exp (.call 10 [.var 0]),.set 2 false (.bi .sset [.call 7 [.var 0]]),.set 3 true (.lst []),.fo (.one 4) (.bi .sset [.call 6 [.var 0]]) [.ext 3 (.compi (.tup [.var 1,.var 0]) (.one 0) (.var 2) (.cmp .Eq (.ix (.ix (.var 2) (.var 1)) (.var 0)) (.var 3)) [none,some 4,some 0,some 1])],.ret (.call 23 [.var 0,.var 3])]}
noncomputable def cL:FD:={n:=6,np:=2,body:=[.iff (.cmp .Eq (.var 1) (.lst [])) [.ret (.lst [])] [],.set 2 false (.ix (.var 1) (.int 0)),.set 3 false (.slf (.var 1) (.int 1)),.set 4 true (.bin .Add (.lst [.var 2]) (.call 23 [.var 0,.compi (.var 0) (.one 0) (.var 3) (.call 24 [.var 1,.var 2,.var 0]) [none,some 0,some 2]])),.set 5 true (.call 23 [.var 0,.var 3]),.ret (.ite (.cmp .GtE (.bi .len [.var 4]) (.bi .len [.var 5])) (.var 4) (.var 5))]}
noncomputable def tF:FD:={n:=4,np:=3,body:=[.set 3 false (.ix (.ix (.var 0) (.ix (.var 1) (.int 0))) (.ix (.var 1) (.int 1))),.iff (.cmp .NotEq (.ix (.ix (.var 0) (.ix (.var 2) (.int 0))) (.ix (.var 2) (.int 1))) (.var 3)) [.ret (.bl false)] [],.ret (.or [.cmp .NotEq (.ix (.ix (.var 0) (.ix (.var 1) (.int 0))) (.ix (.var 2) (.int 1))) (.var 3),.cmp .NotEq (.ix (.ix (.var 0) (.ix (.var 2) (.int 0))) (.ix (.var 1) (.int 1))) (.var 3)])]}
noncomputable def tG:FD:={n:=1,np:=1,body:=[.ret (.call 27 [.call 28 [.var 0]])]}
noncomputable def tH:FD:={n:=1,np:=1,body:=[.ret (.call 27 [.call 29 [.var 0]])]}
noncomputable def tI:FD:={n:=1,np:=1,body:=[.ret (.comp (.tup [.ix (.var 0) (.int 0),.ix (.var 0) (.int 1),.var 1]) (.many [0,1]) (.itm (.var 0)) [none,none])]}
noncomputable def tJ:FD:={n:=1,np:=1,body:=[.ret (.call 32 [.var 0,.int 0,.glb "joined_bits"])]}
noncomputable def tK:FD:={n:=1,np:=1,body:=[.ret (.call 32 [.var 0,.int 1,.glb "joined_ends"])]}
noncomputable def ly:FD:={n:=2,np:=2,body:=[.ret (.bin .Add (.int 1) (.bi .max [.var 0,.var 1]))]}
noncomputable def tL:FD:={n:=2,np:=2,body:=[.ret (.bin .Add (.var 0) (.var 1))]}
def Gu:FD:={n:=8,np:=3,body:=[.exp (.call 10 [.var 0]),.set 3 false (.call 8 [.var 0]),.sep 4,.fo (.one 5) (.rng [.int 1,.bin .LShift (.int 1) (.bi .len [.var 3])]) [.fo (.one 6) (.rng [.int 1,.bin .LShift (.int 1) (.bi .len [.ix (.var 3) (.int 0)])]) [.iff (.cmp .Eq (.bi .len [.call 11 [.call 2 [.var 3,.var 5,.var 6]]]) (.int 1)) [.dpp 4 [.var 5,.var 6] (.var 1)] [.set 7 false (.call 33 [.var 5,.var 6]),.dpp 4 [.var 5,.var 6] (.bi .min [.comp (.callv 4 [("joined_bits",30),("joined_ends",31)] [.dgp 5 (.var 2),.dgp 5 (.var 3)]) (.many [0,1,2,3]) (.var 7) [none,none,none,none,some 2,some 4]])]]],.retd 4]}
noncomputable def lz:FD:={n:=4,np:=2,body:=[.set 2 false (.comp (.tup [.str "row",.var 0,.tup [.bin .Sub (.var 1) (.var 0),.var 2],.tup [.var 0,.var 2]]) (.one 0) (.call 34 [.var 0]) [none,some 0,some 1]),.set 3 false (.comp (.tup [.str "column",.var 0,.tup [.var 1,.bin .Sub (.var 2) (.var 0)],.tup [.var 1,.var 0]]) (.one 0) (.call 34 [.var 1]) [none,some 0,some 1]),.ret (.bin .Add (.var 2) (.var 3))]}
noncomputable def tM:FD:={n:=1,np:=1,body:=[.ret (.compi (.var 0) (.one 0) (.rng [.int 1,.var 0]) (.and [.cmp .Eq (.bin .BitAnd (.var 0) (.var 1)) (.var 0),.cmp .Lt (.var 0) (.bin .Sub (.var 1) (.var 0))]) [none,some 0])]}
noncomputable def tN:FD:={n:=1,np:=1,body:=[.ret (.ix (.ix (.call 25 [.var 0]) (.neg (.int 1))) (.int 2))]}
noncomputable def tO:FD:={n:=1,np:=1,body:=[.ret (.ix (.ix (.call 26 [.var 0]) (.neg (.int 1))) (.int 2))]}
noncomputable def tP:FD:={n:=2,np:=2,body:=[.iff (.cmp .Lt (.var 1) (.bi .len [.var 0])) [.ret (.ix (.var 0) (.var 1))] [],.ret (.int 0)]}
def tQ:FD:={n:=7,np:=2,body:=[.set 2 true (.lst []),.set 3 false (.var 0),.fo (.one 4) (.rng [.var 1]) [.app 2 (.bin .Mod (.var 3) (.int 306783379)),.set 3 false (.bin .FloorDiv (.var 3) (.int 306783379))],.iff (.cmp .Gt (.var 3) (.int 0)) [.ret (.var 2)] [],.set 5 false (.bin .Add (.bin .Mod (.var 0) (.int 2147483647)) (.int 48271)),.fo (.one 4) (.rng [.var 1]) [.set 5 false (.bin .Mod (.bin .Add (.bin .Add (.bin .Mult (.var 5) (.int 48271)) (.bin .Mult (.var 4) (.var 4))) (.int 11)) (.int 2147483647)),.set 6 false (.bin .Add (.bin .Add (.bin .Mult (.bin .FloorDiv (.var 5) (.int 977)) (.int 16807)) (.bin .Mult (.var 5) (.bin .Add (.bin .Mult (.var 4) (.var 4)) (.int 7)))) (.var 4)),.seti 2 (.var 4) (.bin .FloorDiv (.bin .Mod (.var 6) (.int 2147483587)) (.int 7))],.ret (.var 2)]}
def cM:FD:={n:=10,np:=3,body:=[.set 3 false (.ix (.lst [.int 4,.int 4,.int 4,.int 4,.int 4,.int 4,.int 4,.int 5]) (.bin .Mod (.ix (.var 2) (.int 0)) (.int 8))),.set 4 false (.bin .Add (.int 1) (.bin .Mod (.ix (.var 2) (.int 1)) (.var 3))),.set 5 false (.bin .Add (.int 1) (.bin .Mod (.ix (.var 2) (.int 2)) (.var 3))),.set 6 false (.ix (.lst [.int 2,.int 3,.int 10,.int 2]) (.bin .Mod (.ix (.var 2) (.int 3)) (.int 4))),.set 7 true (.comp (.bin .Mod (.var 0) (.var 1)) (.one 0) (.call 39 [.call 38 [.var 0,.int 1],.bin .Mult (.var 4) (.var 5)]) [none,some 6]),.fo (.one 8) (.rng [.bi .min [.bin .Mult (.var 4) (.var 5),.bin .Sub (.bi .len [.var 0]) (.var 1)]]) [.seti 7 (.var 8) (.bin .Mod (.ix (.var 0) (.bin .Add (.var 1) (.var 8))) (.var 6))],.set 9 false (.comp (.sl (.var 1) (.bin .Mult (.var 0) (.var 2)) (.bin .Add (.bin .Mult (.var 0) (.var 2)) (.var 2))) (.one 0) (.rng [.var 4]) [none,some 7,some 5]),.iff (.cmp .Eq (.bin .Mod (.ix (.var 2) (.int 4)) (.int 8)) (.int 1)) [.set 9 false (.comp (.comp (.bi .int [.cmp .Eq (.var 1) (.var 0)]) (.one 0) (.rng [.var 1]) [none,some 0]) (.one 0) (.rng [.var 4]) [none,some 5])] [],.iff (.cmp .Eq (.bin .Mod (.ix (.var 2) (.int 4)) (.int 8)) (.int 2)) [.set 9 false (.comp (.comp (.bi .int [.cmp .Lt (.var 1) (.var 0)]) (.one 0) (.rng [.var 1]) [none,some 0]) (.one 0) (.rng [.var 4]) [none,some 5])] [],.iff (.cmp .Eq (.bin .Mod (.ix (.var 2) (.int 4)) (.int 8)) (.int 3)) [.set 9 false (.comp (.comp (.bin .Mod (.ix (.var 1) (.int 5)) (.int 10)) (.one 0) (.rng [.var 1]) [none,some 2]) (.one 0) (.rng [.var 4]) [none,some 5,some 2])] [],.ret (.var 9)]}
def tR:FD:={n:=7,np:=2,body:=[.set 2 false (.call 39 [.call 38 [.var 0,.int 0],.int 24]),.set 3 false (.call 40 [.var 0,.var 1,.var 2]),.fo (.one 4) (.rng [.bin .Mod (.ix (.var 2) (.int 6)) (.int 5)]) [.iff (.and [.cmp .Lt (.bi .len [.var 3]) (.int 8),.cmp .Eq (.bin .Mod (.ix (.var 2) (.bin .Add (.int 7) (.var 4))) (.int 2)) (.int 0)]) [.set 5 false (.bin .Mod (.ix (.var 2) (.bin .Add (.int 12) (.var 4))) (.bin .Add (.bi .len [.var 3]) (.int 1))),.set 3 false (.bin .Add (.bin .Add (.slt (.var 3) (.var 5)) (.lst [.ix (.var 3) (.bin .Mod (.ix (.var 2) (.bin .Add (.int 17) (.var 4))) (.bi .len [.var 3]))])) (.slf (.var 3) (.var 5)))] [.iff (.cmp .Lt (.bi .len [.ix (.var 3) (.int 0)]) (.int 8)) [.set 5 false (.bin .Mod (.ix (.var 2) (.bin .Add (.int 12) (.var 4))) (.bin .Add (.bi .len [.ix (.var 3) (.int 0)]) (.int 1))),.set 6 false (.bin .Mod (.ix (.var 2) (.bin .Add (.int 17) (.var 4))) (.bi .len [.ix (.var 3) (.int 0)])),.set 3 false (.comp (.bin .Add (.bin .Add (.slt (.var 0) (.var 1)) (.lst [.ix (.var 0) (.var 2)])) (.slf (.var 0) (.var 1))) (.one 0) (.var 3) [none,some 5,some 6])] []]],.ret (.bi .tuple [.comp (.bi .tuple [.var 0]) (.one 0) (.var 3) [none]])]}
noncomputable def lA:FD:={n:=4,np:=1,body:=[.set 1 false (.compi (.bi .list [.ix (.var 1) (.var 0)]) (.one 0) (.rng [.bi .len [.var 0]]) (.cmp .NotIn (.ix (.var 1) (.var 0)) (.slt (.var 1) (.var 0))) [none,some 0]),.set 2 false (.comp (.comp (.ix (.var 0) (.var 1)) (.one 0) (.var 1) [none,some 0]) (.one 0) (.rng [.bi .len [.ix (.var 1) (.int 0)]]) [none,some 1]),.set 3 false (.compi (.var 0) (.one 0) (.rng [.bi .len [.var 2]]) (.cmp .NotIn (.ix (.var 1) (.var 0)) (.slt (.var 1) (.var 0))) [none,some 2]),.ret (.comp (.comp (.ix (.var 1) (.var 0)) (.one 0) (.var 1) [none,some 0]) (.one 0) (.var 1) [none,some 3])]}
def tS:FD:={n:=3,np:=1,body:=[.set 1 false (.int 0),.fo (.one 2) (.var 0) [.set 1 false (.bin .BitOr (.var 1) (.bin .LShift (.int 1) (.var 2)))],.ret (.var 1)]}
noncomputable def lB:FD:={n:=7,np:=2,body:=[.set 2 false (.call 39 [.var 1,.int 3]),.set 3 false (.bin .Mod (.ix (.var 2) (.int 0)) (.bi .len [.var 0])),.set 4 false (.ix (.ix (.var 0) (.var 3)) (.bin .Mod (.ix (.var 2) (.int 1)) (.bi .len [.ix (.var 0) (.int 0)]))),.set 5 false (.compi (.var 0) (.one 0) (.rng [.bi .len [.ix (.var 0) (.int 0)]]) (.and [.cmp .Eq (.ix (.ix (.var 1) (.var 2)) (.var 0)) (.var 3),.cmp .Eq (.bin .BitAnd (.bin .RShift (.ix (.var 4) (.int 2)) (.var 0)) (.int 1)) (.int 1)]) [none,some 0,some 3,some 4,some 2]),.iff (.cmp .Eq (.var 5) (.lst [])) [.set 5 false (.lst [.bin .Mod (.ix (.var 2) (.int 1)) (.bi .len [.ix (.var 0) (.int 0)])])] [],.set 6 false (.compi (.var 0) (.one 0) (.rng [.bi .len [.var 0]]) (.cmp .Eq (.bi .len [.compi (.var 0) (.one 0) (.var 1) (.cmp .NotEq (.ix (.ix (.var 1) (.var 2)) (.var 0)) (.var 3)) [none,some 2,some 0,some 3]]) (.int 0)) [none,some 5,some 0,some 4]),.ret (.lst [.var 4,.var 6,.var 5])]}
noncomputable def lC:FD:={n:=10,np:=4,body:=[.sett [4,5,6] (.call 44 [.var 0,.var 1]),.iff (.cmp .IsNot (.call 12 [.var 0,.call 43 [.var 5],.call 43 [.var 6]]) (.bl true)) [.ret (.bl false)] [],.set 7 false (.lst [.call 43 [.var 5],.call 43 [.var 6]]),.set 8 false (.compi (.var 0) (.one 0) (.dix (.var 2) (.var 4)) (.and [.cmp .Eq (.bin .BitAnd (.ix (.var 1) (.int 0)) (.ix (.var 0) (.int 0))) (.ix (.var 1) (.int 0)),.cmp .Eq (.bin .BitAnd (.ix (.var 1) (.int 1)) (.ix (.var 0) (.int 1))) (.ix (.var 1) (.int 1))]) [none,some 7]),.set 9 false (.compi (.var 0) (.one 0) (.dix (.var 3) (.var 4)) (.and [.cmp .In (.ix (.var 0) (.int 0)) (.var 1),.cmp .In (.ix (.var 0) (.int 1)) (.var 2)]) [none,some 5,some 6]),.ret (.and [.cmp .Gt (.bi .len [.var 8]) (.int 0),.cmp .Lt (.bi .len [.var 9]) (.int 2)])]}
def gj:FD:={n:=12,np:=1,body:=[.set 1 false (.call 41 [.var 0,.int 2]),.set 2 false (.call 42 [.var 1]),.sel 3,.sel 4,.set 5 false (.int 0),.fo (.one 6) (.var 1) [.fo (.one 7) (.var 6) [.iff (.nin 3 (.var 7)) [.dpl 3 (.var 7) (.call 13 [.var 1,.var 7]),.dpl 4 (.var 7) (.call 22 [.var 1,.var 7]),.set 8 false (.bi .len [.call 16 [.var 1,.var 7]]),.set 5 false (.bin .Add (.var 5) (.var 8)),.iff (.or [.cmp .Gt (.bi .len [.dgl 4 (.var 7)]) (.var 8),.cmp .Gt (.var 8) (.bi .min [.bi .len [.var 2],.bi .len [.ix (.var 2) (.int 0)],.bi .len [.dgl 3 (.var 7)]])]) [.ret (.bl false)] [],.iff (.or [.cmp .Lt (.var 8) (.int 1),.cmp .Eq (.dgl 4 (.var 7)) (.lst [])]) [.ret (.bl false)] []] []]],.frd 3,.frd 4,.set 9 false (.call 36 [.var 1]),.set 10 false (.call 35 [.var 1]),.iff (.or [.cmp .Gt (.var 5) (.var 9),.cmp .Gt (.bi .sum [.comp (.bi .len [.dix (.var 1) (.var 0)]) (.one 0) (.kyi (.var 4)) [none,some 4]]) (.var 9),.cmp .Gt (.var 9) (.bin .LShift (.int 1) (.var 10))]) [.ret (.bl false)] [],.fo (.one 11) (.bin .Add (.lst [.call 38 [.var 0,.int 0]]) (.sl (.var 0) (.int 1) (.int 41))) [.iff (.not (.call 45 [.var 1,.var 11,.var 3,.var 4])) [.ret (.bl false)] []],.ret (.bl true)]}
def T:ge FD:=[sO,sP,sQ,sR,lv,sU,sV,sW,sX,sY,sZ,lw,tj,lx,tm,tq,tu,tw,tx,tz,tA,Y3,tE,cL,tF,tG,tH,tI,tJ,tK,ly,tL,Gu,lz,tM,tN,tO,sO,tP,tQ,cM,tR,lA,tS,lB,lC,gj]
noncomputable def fnl:ge Str:="is_int" :: "flipped" :: "cut" :: "check_cards" :: "cards_in" :: "crossing" :: "row_kinds" :: "column_kinds" :: "trimmed" :: "is_small" :: "check_small" :: "words_in" :: "is_block" :: "widest" :: "columns_with" :: "rows_with" :: "fewest_cover" :: "entries_by_choice" :: "blocks_with" :: "contains" :: "left_bare" :: "cover_within" :: "apart" :: "most_apart" :: "keep_apart" :: "bits_paper" :: "ends_paper" :: "paper" :: "bits_numbers" :: "ends_numbers" :: "joined_bits" :: "joined_ends" :: "least_numbers" :: "splits" :: "halves" :: "least_bits" :: "fewest_ends" :: "is_int" :: "_law_cell_at" :: "_law_stream" :: "_law_core" :: "_law_table" :: "_law_trimmed" :: "_law_bits" :: "_law_drawn" :: "_law_block" :: "law" :: []
noncomputable def bll:ge Str:="isinstance" :: "int" :: "bool" :: "tuple" :: "range" :: "len" :: "sorted" :: "set" :: "sum" :: "all" :: "enumerate" :: "max" :: "min" :: "list" :: []
noncomputable def cll:ge Str:="TalkError" :: "NoCard" :: "TooGreat" :: []
def G:Gs:={con:=[("SMALL_LINES",.int 5),("joined_bits",.fn "joined_bits"),("joined_ends",.fn "joined_ends")],fnl:=fnl,bll:=bll,cll:=cll}
end k35
namespace k35
open PySem L2
theorem lD(ns:ge Int)(j:Nat):∃v:Int,run G T fu (k+1) 38 [.scr ns,.int j]=some (.v (.int v) false):=by
 rw[k8 rfl rfl];unfold tP;have c:∀F,evE G F (.cmp .Lt (.var 1) (.bi .len [.var 0])) _=some _:=λ F=>b_lt (d5 rfl) (rfl:evE G F _ [.val (.scr ns),.val (.int j)]=some _)
 by_cases h:j<ns.length
 ·refine⟨ns[j],k5 (W7 (i4 ((c _).trans (by rw[t8 Jy]))) (j9 (n6 (o7 (d5 rfl) (d5 rfl) ?_))))⟩;show((A1 ns.length (j:Int)).bind λ j=>ns[j]?).map DV.int=_;unfold A1;rw[d8 (z9 j),d8 Jy,v5];show(ns[j]?).map DV.int=_;rw[j6 h];rfl
 ·exact⟨0,k5 (u4 (i4 ((c _).trans (by rw[x4 Jy]))) (j9 rfl))⟩
theorem Y4{n:Nat}(h:JA e cl (.int n))(hn:n<=1000):k7 (evE G F (.rng [e]) δ)=some (.ok (upTo 0 n) .fresh):=by
 show k7 (Rs.thn _ _)=_;rw[e7 h g7,bL];have hs:(E9 (n:Int)&&decide ((n:Int)<=(j5:Int)))=true:=by rw[d6,C6];refine⟨?_,aj (show(n:Int)<=1000 by omega) Jz⟩;unfold E9;rw[d6,C6,C6];exact⟨aj Jz (z9 n),hV (show(n:Int)<=1000 by omega) Jz⟩
 show k7 ((if E9 (n:Int)&&decide ((n:Int)<=(j5:Int))then some (upTo 0 (n:Int).toNat)else none).map λ a=>.ok _ .fresh)=_;rw[d8 hs,v5];rfl
theorem cN(h:JA e c (.lst ds)):evE G F (.bi .tuple [e]) δ=some (.ok (.tup ds) c.item):=by
 show Rs.thn _ _=_;rw[e7 h g7];rfl
theorem D0(h:JA e c (.lst ds)):evE G F (.bi .len [e]) δ=some (.ok (.int ds.length) .strong):=by
 show Rs.thn _ _=_;rw[e7 h g7];rfl
theorem K2(h:JA e c (.tup ds)):evE G F (.bi .len [e]) δ=some (.ok (.int ds.length) .strong):=by
 show Rs.thn _ _=_;rw[e7 h g7];rfl
noncomputable def iD(r:ge Int):ge DV:=r.map DV.int
def rL(rows:ge (ge Int)):DV:=.lst (rows.map λ r=>.lst (iD r))
def tT(rows:ge (ge Int)):DV:=.tup (rows.map λ r=>.tup (iD r))
def Rect(n m:Nat)(rows:ge (ge Int)):Prop:=rows.length=n/\∀r∈rows,r.length=m
noncomputable def col(rows:ge (ge Int))(j:Nat):ge Int:=rows.map λ r=>r.getD j 0
def flip(m:Nat)(rows:ge (ge Int)):ge (ge Int):=(JJ m).map (col rows)
theorem cP{j:Nat}(h:j<r.length):ixD (.tup (iD r)) (.int j)=some (.int (r.getD j 0)):=by
 have a:(j:Int)<((r.map DV.int).length:Int):=by rw[d7];exact_mod_cast h
 unfold iD;simp only[ixD,atD,A1,d8 (z9 j),d8 a,G5,v5,o8,j6 h,D7,p5,K9]
theorem lE{j:Nat}(h:j<r.length):ixD (.lst (iD r)) (.int j)=some (.int (r.getD j 0)):=by
 have a:(j:Int)<((r.map DV.int).length:Int):=by rw[d7];exact_mod_cast h
 unfold iD;simp only[ixD,atD,A1,d8 (z9 j),d8 a,G5,v5,o8,j6 h,D7,p5,K9]
noncomputable def sub(rows:ge (ge Int))(I J:ge Nat):ge (ge Int):=I.map λ i=>J.map λ j=>(rows.getD i []).getD j 0
theorem P3{i:Nat}(h:i<rows.length):ixD (tT rows) (.int i)=some (.tup (iD (rows.getD i []))):=by
 have a:(i:Int)<((rows.map λ r=>DV.tup (iD r)).length:Int):=by rw[d7];exact_mod_cast h
 simp only[tT,ixD,atD,A1,d8 (z9 i),d8 a,G5,v5,o8,j6 h,D7,p5,K9]
theorem B9{rows:ge (ge Int)}(h:i<rows.length):rows.getD i []∈rows:=by
 rw[p5,j6 h];exact T0 h
theorem lF(n:Nat):∀r:ge Int,DV.plains n (iD r)=true
 | []=>by unfold iD;simp[DV.plains]
 | a::r=>by have q:=lF n r;unfold iD at q ⊢;rw[t9];unfold DV.plains;rw[q];cases n<;>rfl
theorem Gv(hw:k7 (evE G F it δ)=some (.ok ds cl))(b:cl ≠ .weak)(hl:ds.length<=j5)
  (h:∀d∈ds,∃a c,tg.bind d (u0 fr δ)=some a/\evE G F elt a=some (.ok (f d) c)/\stro (f d) c=true):evE G F (.comp elt tg it fr) δ=some (.ok (.lst (ds.map f)) .fresh):=by
 show Ri.thn _ _=_;rw[hw,bM,e8 (by rintro(z | z);exact b z;omega),jo (λ d hd=>?_)]
 ·rfl
 ·obtain⟨a,c,i,g,e⟩:=h d hd;rw[i,G5,g];show(if stro (f d) c then some (Rc.item (f d))else none)=_;rw[d8 e]
theorem Gw(h:JA e cl (.int i))(a:i<=1000)(b : -1000<=i):k7 (evE G F (.rng [e]) δ)=some (.ok (upTo 0 i.toNat) .fresh):=by
 show k7 (Rs.thn _ _)=_;rw[e7 h g7,bL];have hs:(E9 i&&decide (i<=(j5:Int)))=true:=by rw[d6,C6];refine⟨?_,aj a Jz⟩;unfold E9;rw[d6,C6,C6];exact⟨aj Jz b,hV a Jz⟩
 show k7 ((if E9 i&&decide _ then some _ else none).map λ ds=>.ok _ .fresh)=_;rw[d8 hs];rfl
noncomputable def R6(n m:Nat)(ws:ge Int):ge (ge Int):=(JJ n).map λ j=>(ws.drop (j*m)).take m
theorem Gx(h:ws.length=n*m):Rect n m (R6 n m ws):=by
 unfold R6;refine⟨by rw[d7,o9],λ r a=>?_⟩;obtain⟨j,b,rfl⟩:=f9.mp a;rw[E6,S9,h];have:(j+1)*m<=n*m:=Nat.mul_le_mul_right m (i6.mp b);rw[am,ao]at this;omega
theorem Gy(g:JA a c (.lst ds))(e:JA b c1 (.int l))(f:JA d i (.int h)):evE G F (.sl a b d) δ=some (.ok (.lst (cutD ds (some l) (some h))) (Cl.anew c c)):=by
 show Re.thn _ _=_;rw[g,B3];show Re.thn _ _=_;rw[e,B3];show Re.thn _ _=_;rw[f];rfl
theorem Gz{m:Nat}(h:ws.length=n*m)(b:j<n):cutD (iD ws) (some ((j:Int)*m)) (some ((j:Int)*m+m))=iD ((ws.drop (j*m)).take m):=by
 have d:((j:Int)*m)=((j*m:Nat):Int):=by push_cast;rfl
 have c:((j:Int)*m+m)=((j*m+m:Nat):Int):=by push_cast;rfl
 have a:=(by have:(j+1)*m<=n*m:=Nat.mul_le_mul_right m b;rw[am,ao]at this;exact this);have len:(iD ws).length=n*m:=by unfold iD;rw[d7,h]
 unfold cutD slIx;rw[c,d];simp only[len];rw[e8 Jy,e8 Jy,v5,v5,br a,br Jy,show j*m+m - j*m=m by omega];unfold iD;rw[←eF,←T3]
theorem lG(h:j<n):A1 n (j:Int)=some j:=by
 unfold A1;rw[d8 (z9 j),d8 Jy,v5]
theorem tU{es:ge ME}(h:evEs G F es δ=some (.ok l)):evE G F (.bi .min es) δ=minD l:=by
 have e:evE G F (.bi .min es) δ=Rs.thn _ _:=rfl;rw[e,h];rfl
theorem U7(R:Rect n m rows):Rect m n (flip m rows):=by
 unfold flip;refine⟨by rw[d7,o9],λ r a=>?_⟩;obtain⟨j,hj,rfl⟩:=f9.mp a;unfold col;rw[d7,R.1]
theorem cQ{i:Nat}(h:i<rows.length):ixD (rL rows) (.int i)=some (.lst (iD (rows.getD i []))):=by
 have a:(i:Int)<((rows.map λ r=>DV.lst (iD r)).length:Int):=by rw[d7];exact_mod_cast h
 simp only[rL,ixD,atD,A1,d8 (z9 i),d8 a,G5,v5,o8,j6 h,D7,p5,K9]
theorem U8{es:ge ME}(h:evEs G F es δ=some (.ok l))(a:l.length<=j5)(hs:stros l=true):evE G F (.lst es) δ=some (.ok (.lst (l.map (·.1))) .fresh):=by
 have e:evE G F (.lst es) δ=Rs.thn _ _:=rfl;rw[e,h,bL,d8 a,hs];rfl
noncomputable def nD(l:ge Nat):ge DV:=l.map λ (j:Nat)=>DV.int (j:Int)
theorem tV{c:Type}[BEq c][LawfulBEq c]{f:c->DV}(d:∀a b,deq (f a) (f b)=(a==b))(r:c):∀{l:ge c},r∈l->L6 (f r) (l.map f)=some (l.idxOf r)
 | a::l,g=>by
  rw[t9];unfold L6;rw[d,List.idxOf_cons];cases h:(a==r)with
  | true=>rfl
  | false=>
   have i:r∈l:=by
    rcases g5.mp g with e | e
    ·subst e;simp at h
    ·exact e
   rw[tV d r i];rfl
theorem lH:∀a b:ge Int,deqs (iD a) (iD b)=(a==b)
 | [],[]=>rfl
 | [],_::_=>rfl
 | _::_,[]=>rfl
 | x::a,y::b=>by have c:=lH a b;unfold iD at c ⊢;rw[t9,t9];unfold deqs;rw[c];unfold deq;rfl
theorem GA(a b:ge Int):deq (.lst (iD a)) (.lst (iD b))=(a==b):=lH a b
theorem tX(a b:ge Int):deq (.tup (iD a)) (.tup (iD b))=(a==b):=lH a b
theorem aP:∀{l:ge DV},(∀d∈l,d.plain n=true)->DV.plains n l=true
 | [],_=>by unfold DV.plains;rfl
 | d::r,h=>by unfold DV.plains;rw[h d (i5 ..),aP λ x a=>h x (i7 _ a)];rfl
theorem tY(n:Nat)(a:ge Int):DV.plain (n+1) (.lst (iD a))=true:=lF n a
theorem lI(n:Nat)(a:ge Int):DV.plain (n+1) (.tup (iD a))=true:=lF n a
theorem GB(n:Nat)(a:Int):DV.plain n (.int a)=true:=by cases n<;>(unfold DV.plain;rfl)
theorem GC(n:Nat)(rows:ge (ge Int)):DV.plains (n+1) (rows.map λ r=>.lst (iD r))=true:=aP λ d hd=>by
 obtain⟨r,_,rfl⟩:=f9.mp hd;exact tY n r
theorem tZ(n:Nat)(rows:ge (ge Int)):DV.plains (n+1) (rows.map λ r=>.tup (iD r))=true:=aP λ d a=>by
 obtain⟨r,_,rfl⟩:=f9.mp a;exact lI n r
theorem GD{rows:ge (ge Int)}(h:r∈rows)(a:rows.length<=1000):idxD (.tup (rows.map λ r=>.tup (iD r))) (.tup (iD r))=some (.int (rows.idxOf r:Nat)):=by
 unfold idxD;dsimp;rw[lI 59,tZ 59,t8 (by rw[d7];exact e9 a Jz),tV tX r h];rfl
theorem GE(e:evE G F a δ=some (.ok x cx))(hs:seqB x=true)(c:evE G F b δ=some (.ok y cy))(h:idxD x y=some d):evE G F (.idx a b) δ=some (.ok d .strong):=by
 show Re.thn _ _=_;rw[e,B3,d8 hs,c,B3,h];rfl
theorem ua{b:Type}{h f:b->DV}:∀{l:ge b},(∀a∈l,g (h a)=some (.item (f a)))->u7 g (l.map h)=some (l.map f)
 | [],_=>rfl
 | a::r,q=>by rw[t9,t9];unfold u7;rw[q a (i5 ..)];show(match u7 g _ with | none=>none | some xs=>some _)=_;rw[ua λ x c=>q x (i7 _ c)]
theorem C3{e:Type}{l:ge e}{h f:e->DV}(hw:k7 (evE G F it δ)=some (.ok (l.map h) cl))(g:cl ≠ .weak)(hl:l.length<=j5)
  (q:∀a∈l,∃d c,tg.bind (h a) (u0 fr δ)=some d/\evE G F elt d=some (.ok (f a) c)/\stro (f a) c=true):evE G F (.comp elt tg it fr) δ=some (.ok (.lst (l.map f)) .fresh):=by
 show Ri.thn _ _=_;rw[hw,bM,e8 (by rintro(z | z);exact g z;rw[d7]at z;omega),ua (λ a i=>?_)]
 ·rfl
 ·obtain⟨d,c,m,k,j⟩:=q a i;rw[m,G5,k];show(if stro (f a) c then some (Rc.item (f a))else none)=_;rw[d8 j]
theorem ub{j:Nat}(b:rows.length<=1000)(w:k7 (evE G F (.var 1) [.val (.int (j:Int)),.val d])=some (.ok (rows.map h) .strong))(c:∀r∈rows,ixD (h r) (.int j)=some (.int (r.getD j 0))):evE G F (.comp (.ix (.var 0) (.var 1)) (.one 0) (.var 1) [none,some 0]) [.val (.int j),.val d]=some (.ok (.lst (iD (col rows j))) .fresh):=by
 rw[C3 w Jz (e9 b Jz) λ r a=>⟨[.val (h r),.val _],.strong,rfl,o7 (d5 rfl) (d5 rfl) (c r a),rfl⟩];unfold iD col;rw[k6];rfl
theorem GF(rows:ge (ge Int))(m j:Nat)(b:∀r∈rows,r.length=m)(d:j<m)(c:rows.length<=1000):evE G F (.comp (.ix (.var 0) (.var 1)) (.one 0) (.var 1) [none,some 0]) [.val (.int j),.val (tT rows)]=some (.ok (.lst (iD (col rows j))) .fresh):=ub c rfl λ r a=>cP (by rw[b r a];exact d)
theorem GG(rows:ge (ge Int))(m j:Nat)(hm:∀r∈rows,r.length=m)(hj:j<m)(a:rows.length<=1000):evE G F (.comp (.ix (.var 0) (.var 1)) (.one 0) (.var 1) [none,some 0]) [.val (.int j),.val (rL rows)]=some (.ok (.lst (iD (col rows j))) .fresh):=ub a rfl λ r hr=>lE (by grind)
theorem aQ{n:Nat}(h:JA e c (.int (n:Int)))(a:n<=1000):k7 (evE G F (.rng [e]) δ)=some (.ok ((JJ n).map λ (j:Nat)=>DV.int (j:Int)) .fresh):=by
 rw[Y4 h a];unfold L2.upTo
 congr 2
 apply D2;intro j _
 congr 1
 omega
theorem GH(rows:ge (ge Int))(n m:Nat)(R:Rect n m rows)(g:0<n)(d:n<=1000)(c:m<=1000):run G T fu (k+1) 1 [tT rows]=some (.v (tT JF) false):=by
 rw[k8 rfl rfl];have e:0<rows.length:=by rw[R.1];exact g
 have f:=K2 (F:=run G T fu k) (δ:=j8 1 [tT rows]) (o7 (a:=.var 0) (b:=.int 0) (cx:=.strong) (d5 rfl) (g6 (i:=((0:Nat):Int))) (P3 e));rw[show(iD (rows.getD 0 [])).length=m by unfold iD;rw[d7];exact R.2 _ (B9 e)]at f;have l:=C3 (tg:=.one 0) (fr:=[none,some 0]) (aQ f c) Jz (by rw[o9];exact e9 c Jz) λ j h=>
  ⟨[.val _,.val _],.strong,rfl,cN (GF rows m j R.2 (i6.mp h) (by rw[R.1];exact d)),rfl⟩
 unfold sP;refine k5 (j9 (n6 (cl:=.strong) ((cN l).trans ?_)));unfold tT flip;rw[k6];rfl
theorem uc(rows:ge (ge Int))(n m:Nat)(R:Rect n m rows)(I J:ge Nat)(o:∀i∈I,i<n)(h:∀j∈J,j<m)(d:I.length<=1000)(b:J.length<=1000):run G T fu (k+1) 5 [tT rows,.lst (nD I),.lst (nD J)]=some (.v (tT (sub rows I J)) false):=by
 rw[k8 rfl rfl];have p:=C3 (F:=run G T fu k) (δ:=j8 3 [tT rows,.lst (nD I),.lst (nD J)]) (l:=I) (f:=λ i=>.tup (iD (J.map λ j=>(rows.getD i []).getD j 0))) (elt:=.bi .tuple [.comp (.ix (.ix (.var 1) (.var 2)) (.var 0)) (.one 0) (.var 1) [none,some 2,some 0]]) (tg:=.one 0) (it:=.var 1) (fr:=[none,some 2,some 0]) rfl Jz (e9 d Jz) λ i g=>by
  refine⟨[.val (.int (i:Int)),.val (.lst (nD J)),.val (tT rows)],.strong,rfl,cN (c:=.fresh) ?_,rfl⟩;have a:i<rows.length:=by rw[R.1];exact o i g
  rw[C3 (l:=J) rfl Jz (e9 b Jz) λ j e=>⟨[.val (.int (j:Int)),.val (tT rows),.val (.int (i:Int))],.strong,rfl,o7 (o7 (cx:=.strong) (d5 rfl) (d5 rfl) (P3 a)) (d5 rfl) (cP (by rw[R.2 _ (B9 a)];exact h j e)),rfl⟩];unfold iD;rw[k6];rfl
 unfold sU;refine k5 (j9 (n6 (cl:=.strong) ((cN p).trans ?_)));unfold tT sub;rw[k6];rfl
noncomputable def kI(rows:ge (ge Int)):ge Int:=rows.map λ r=>((rows.idxOf r:Nat):Int)
theorem lJ(rows:ge (ge Int))(a:rows.length<=1000):run G T fu (k+1) 6 [tT rows]=some (.v (.lst (iD (kI rows))) true):=by
 rw[k8 rfl rfl];unfold sV;have e:=C3 (F:=run G T fu k) (δ:=j8 1 [tT rows]) (elt:=.idx (.var 1) (.var 0)) (tg:=.one 0) (it:=.var 0) (fr:=[none,some 0]) rfl Jz (e9 a Jz) (λ r b=>⟨[.val (.tup (iD r)),.val (tT rows)],.strong,rfl,GE (d5 rfl) rfl (d5 rfl) (GD b a),rfl⟩);have c:(rows.map λ r=>DV.int ((rows.idxOf r:Nat):Int))=iD (kI rows):=by unfold iD kI;rw[k6];rfl
 rw[c]at e;exact k5 (j9 (n6 e))
theorem ud(n:Nat):upTo 0 n=nD (List.range n):=by
 unfold L2.upTo nD;apply D2;intro j _;rw[Int.zero_add]
theorem lK:∀{l:ge Int},y∈insI x l↔y=x\/y∈l
 | []=>by simp[insI]
 | z::l=>by
  unfold insI;split
  ·simp
  ·rw[g5,lK,g5];constructor<;>(rintro(h | h | h)<;>simp[h])
theorem lL:∀{l:ge Int},y∈E8 l↔y∈l
 | []=>L4
 | z::l=>by unfold E8;rw[lK,lL,g5]
theorem ue{y:Int}:∀{l σ:ge Int},y∈l.foldl dk σ↔y∈σ\/y∈l
 | [],σ=>by simp
 | z::l,σ=>by
  rw[dY,ue,g5];unfold dk;split
  ·rename_i h;constructor
   ·rintro(q | q)
    ·exact .inl q
    ·exact .inr (.inr q)
   ·rintro(q | q | q)
    ·exact .inl q
    ·rw[q];exact .inl h
    ·exact .inr q
  ·rw[A5,r9,or_assoc]
theorem fj:∀{l σ:ge Int},(l.foldl dk σ).length<=σ.length+l.length
 | [],σ=>by simp
 | z::l,σ=>by
  rw[dY,n7];have:=fj (l:=l) (σ:=dk σ z);have h2:(dk σ z).length<=σ.length+1:=by unfold dk;split<;>simp
  omega
theorem lM:∀r:ge Int,ints? (iD r)=some r
 | []=>rfl
 | x::r=>by show(ints? (iD r)).map _=_;rw[lM r];rfl
theorem gl(h:evE G F e δ=some (.ok (.lst (iD r)) c))(hl:r.length<=60):evE G F (.bi .sset [e]) δ=some (.ok (.lst (iD (E8 (r.foldl dk [])))) .fresh):=by
 show Rs.thn _ _=_;rw[e7 h g7];show(match ints? (iD r)with
  | some a=>if a.length<4000/\(a.foldl dk []).length<64 then some _ else none
  | none=>none)=_
 rw[lM];have:=fj (l:=r) (σ:=[]);rw[ee]at this;exact d8 ⟨by omega,by omega⟩
theorem U9{F:Nat->ge DV->on Ou}{δ:ge Sv}{G:Gs}{a b:ME}{r:ge ME}{cx:Cl}{o:on Re}(ha:JA a cx (.bl true))(hb:evE G F (.and (b::r)) δ=o):evE G F (.and (a::b::r)) δ=o:=by
 have e:evE G F (.and (a::b::r)) δ=Re.thn (evE G F a δ) (λ x c=>andD x c (J8 G F (b::r) δ)):=rfl;have e2:evE G F (.and (b::r)) δ=J8 G F (b::r) δ:=rfl;rw[e,ha,B3,←e2,hb];rfl
theorem cR{F:Nat->ge DV->on Ou}{δ:ge Sv}{G:Gs}{a b:ME}{r:ge ME}{cx:Cl}(ha:JA a cx (.bl false)):evE G F (.and (a::b::r)) δ=some (.ok (.bl false) cx):=by
 have e:evE G F (.and (a::b::r)) δ=Re.thn (evE G F a δ) (λ x c=>andD x c (J8 G F (b::r) δ)):=rfl;rw[e,ha,B3];rfl
theorem Y5{F:Nat->ge DV->on Ou}{δ:ge Sv}{G:Gs}{a:ME}{o:on Re}(ha:evE G F a δ=o):evE G F (.and [a]) δ=o:=by
 have e:evE G F (.and [a]) δ=evE G F a δ:=rfl;rw[e,ha]
theorem gm(c:tg.bind d δ=some δ1)(b:body δ1=some (.nx a)):m7 tg body (d::r) δ=m7 tg body r a:=by
 show(match tg.bind d δ with | none=>none | some δ1=>match body δ1 with | some (.nx a)=>m7 tg body r a | o=>o)=_;rw[c];show(match body δ1 with | some (.nx a)=>m7 tg body r a | o=>o)=_;rw[b]
theorem uf:∀{a b:ge Int},a.Pairwise (· < ·)->b.Pairwise (· < ·)->(∀x,x∈a↔x∈b)->a=b
 | [],[],_,_,_=>rfl
 | [],y::b,_,_,h=>absurd ((h y).mpr (i5 ..)) JN
 | x::a,[],_,_,h=>absurd ((h x).mp (i5 ..)) JN
 | x::a,y::b,d,c,h=>by
  rw[D3]at d c;have e:x=y:=by
   rcases g5.mp ((h x).mp (i5 ..))with z | z
   ·exact z
   ·rcases g5.mp ((h y).mpr (i5 ..))with w | w
    ·exact w.symm
    ·have h1:=d.1 y w;have h2:=c.1 x z;omega
  subst e;rw[uf d.2 c.2 λ z=>?_];constructor
  ·intro q;rcases g5.mp ((h z).mp (i7 _ q))with w | w
   · exact absurd (d.1 _ q) Jy
   ·exact w
  ·intro q;rcases g5.mp ((h z).mpr (i7 _ q))with w | w
   · exact absurd (c.1 _ q) Jy
   ·exact w
theorem ug:∀{l:ge Int},l.Pairwise (· < ·)->x∉l->(insI x l).Pairwise (· < ·)
 | [],_,_=>by simp[insI]
 | y::l,h,b=>by
  rw[D3]at h;unfold insI;split
  ·rename_i q;rw[D3];refine⟨λ z a=>?_,D3.mpr h⟩;rcases g5.mp a with w | w
   ·rwa [w]
   ·have:=h.1 z w;omega
  ·rename_i q;rw[D3];refine⟨λ z a=>?_,ug h.2 λ w=>b (i7 _ w)⟩;rcases lK.mp a with w | w
   ·subst w;have:z≠y:=λ e=>b (by grind)
    omega
   ·exact h.1 z w
theorem uh:∀{l:ge Int},l.Nodup->(E8 l).Pairwise (· < ·)
 | [],_=>List.Pairwise.nil
 | x::l,h=>by
  rw[L0]at h;exact ug (uh h.2) λ z=>h.1 (lL.mp z)
theorem ui:∀{l c:ge Int},c.Nodup->(l.foldl dk c).Nodup
 | [],_,h=>h
 | x::l,c,h=>by
  rw[dY];refine ui ?_;unfold dk;split
  ·exact h
  ·rename_i q;rw[List.nodup_append];refine⟨h,by simp,λ a f b d e=>?_⟩;rw[r9]at d;subst d e;exact q f
theorem uj{l:ge Int}(a:t.Pairwise (· < ·))(h:∀x,x∈l↔x∈t):E8 (l.foldl dk [])=t:=
 uf (uh (ui bu)) a λ x=>by rw[lL,ue,←h];simp
noncomputable def nI(l:ge Nat):ge Int:=l.map λ (j:Nat)=>(j:Int)
theorem gn(l:ge Nat):iD (nI l)=nD l:=by unfold iD nI nD;rw[k6];rfl
theorem uk(p:Nat->Bool)(n:Nat):(nI ((JJ n).filter p)).Pairwise (· < ·):=by
 unfold nI;rw[List.pairwise_map];refine List.Pairwise.filter _ (List.Pairwise.imp ?_ dm);intro a b h;omega
theorem ul:x∈nI l↔∃j∈l,(j:Int)=x:=by unfold nI;rw[f9]
noncomputable def FI(rows:ge (ge Int)):ge Nat:=(JJ rows.length).filter λ r=>rows.idxOf (rows.getD r [])==r
theorem lN{rows:ge (ge Int)}(h:r∈rows):rows.idxOf r<rows.length:=mX h
theorem lO{rows:ge (ge Int)}(h:r∈rows):rows.getD (rows.idxOf r) []=r:=by
 have a:=lN h;rw[p5,j6 a,K9];exact hW a
theorem lP(rows:ge (ge Int)):E8 ((kI rows).foldl dk [])=nI (FI rows):=by
 refine uj (uk _ _) λ x=>?_;rw[ul];unfold kI FI;rw[f9];constructor
 ·rintro⟨r,a,rfl⟩
  refine⟨rows.idxOf r,j2.mpr ⟨i6.mpr (lN a),?_⟩,rfl⟩;rw[lO a,f7]
 ·rintro⟨j,b,rfl⟩
  obtain⟨d,c⟩:=j2.mp b;exact⟨rows.getD j [],B9 (i6.mp d),by rw[f7.mp c]⟩
theorem F4(h:i∈FI rows):i<rows.length:=i6.mp (j2.mp h).1
theorem aR(rows:ge (ge Int)):(FI rows).length<=rows.length:=by
 unfold FI;have:=C4 (λ r=>rows.idxOf (rows.getD r [])==r) (JJ rows.length)
 rwa [o9]at this
theorem F5(h:0<rows.length):0<(FI rows).length:=by
 refine V4 (j2.mpr ⟨i6.mpr h,?_⟩);cases rows with
 | nil=>cases h
 | cons r rs=>simp
theorem gp(rows:ge (ge Int)):(kI rows).length=rows.length:=by unfold kI;rw[d7]
theorem um(rows:ge (ge Int))(n m:Nat)(R:Rect n m rows)(c:0<n)(b:n<=1000)(a:m<=1000):run G T fu (k+2) 7 [tT rows]=some (.v (.lst (iD (kI JF))) true):=by
 rw[k8 rfl rfl];unfold sW;exact k5 (j9 (n6 (g8 (e7 (g8 rfl rfl (GH rows n m R c b a)) g7) rfl (lJ _ (by rw[(U7 R).1];exact a)))))
theorem uo(rows:ge (ge Int))(n m:Nat)(R:Rect n m rows)(g:0<n)(a:n<=60)(b:m<=60):run G T fu (k+3) 8 [tT rows]=some (.v (tT (sub rows (FI rows) JD)) false):=by
 rw[k8 rfl rfl];unfold sX;have c:=U7 R;have f:=gl (F:=run G T fu (k+2)) (δ:=[.val (tT rows)]) (e:=.call 6 [.var 0]) (g8 rfl rfl (lJ rows (by rw[R.1];omega))) (by rw[gp,R.1];exact a);have d:=gl (F:=run G T fu (k+2)) (δ:=[.val (tT rows)]) (e:=.call 7 [.var 0]) (g8 rfl rfl (um rows n m R g Jy Jy)) (by rw[gp,c.1];exact b);rw[lP,gn]at f d;have p:=uc (fu:=fu) (k:=k+1) rows n m R (FI rows) JD (λ i o=>by have:=F4 o;rw[R.1]at this;exact this) (λ j h=>by have:=F4 h;rw[c.1]at this;exact this) (by have:=aR rows;rw[R.1]at this;omega) (by have:=aR JF;rw[c.1]at this;omega);exact k5 (j9 (n6 (g8 (l:=[(tT rows,.strong),(.lst (nD (FI rows)),.fresh),(.lst (nD JD),.fresh)]) (e7 (d5 rfl) (e7 f (e7 d g7))) rfl p)))
theorem b_le(d:JA a cx (.int i))(c:JA b cy (.int j)):evE G F (.cmp .LtE a b) δ=some (.ok (.bl (decide (i<=j))) .strong):=A7 d c rfl
noncomputable def sm(a b:Nat):Bool:=decide (a<6)&&decide (b<6)
theorem GI(h:0<I.length):∃r a,sub rows I J=r::a/\r.length=J.length:=by
 cases I with
 | nil=>cases h
 | cons i I=>exact⟨_,_,rfl,by simp⟩
theorem GJ(rows:ge (ge Int))(n m:Nat)(R:Rect n m rows)(o:0<n)(f:n<=60)(g:m<=60):run G T fu (k+4) 9 [tT rows]=some (.v (.bl (sm (FI rows).length (JD).length)) false):=by
 rw[k8 rfl rfl];unfold sY;have v:=uo (fu:=fu) (k:=k) rows n m R o f g;obtain⟨r,a,y,z⟩:=GI (F5 (by rw[R.1];exact o));have p:(sub rows (FI rows) JD).length=(FI rows).length:=by unfold sub;rw[d7]
 rw[y]at v p;have x:evE G (JK (k+3)) (.bi .len [.var 1]) [.val (tT rows),.val (tT (r::a))]=some (.ok (.int (FI rows).length) .strong):=by have t:=K2 (F:=run G T fu (k+3)) (δ:=[.val (tT rows),.val (tT (r::a))]) (e:=.var 1) (ds:=(r::a).map λ r=>.tup (iD r)) (c:=.strong) rfl;rw[d7,p]at t;exact t
 have w:evE G (JK (k+3)) (.bi .len [.ix (.var 1) (.int 0)]) [.val (tT rows),.val (tT (r::a))]=some (.ok (.int (JD).length) .strong):=(by have t:=K2 (F:=run G T fu (k+3)) (δ:=[.val (tT rows),.val (tT (r::a))]) (o7 (d5 (n:=1) (d:=tT (r::a)) rfl) (g6 (i:=0)) (P3 (rows:=r::a) (i:=0) JN));rw[show(iD ((r::a).getD 0 [])).length=(JD).length by unfold iD;rw[d7];exact z]at t;exact t);have u:∀h:ge Sv,evE G (JK (k+3)) (.glb "SMALL_LINES") h=some (.ok (.int 5) .strong):=λ h=>rfl;refine k5 (f6 (j4 (d:=tT (r::a)) (cl:=.strong) (g8 (l:=[(tT rows,.strong)]) rfl rfl v) rfl) (j9 (n6 (cl:=.strong) ?_)));have b:=b_le x (u _);have j:=b_le w (u _);have B:decide (((FI rows).length:Int)<=5)=decide ((FI rows).length<6):=by rw[dU];omega
 have A:decide (((JD).length:Int)<=5)=decide ((JD).length<6):=by rw[dU];omega
 rw[B]at b;rw[A]at j;unfold sm;cases q:decide ((FI rows).length<6)with
 | true=>rw[q]at b;exact U9 b (Y5 j)
 | false=>rw[q]at b;exact cR b
theorem up{i:Type}{h f:i->DV}{p:i->Bool}:∀{l:ge i},(∀a∈l,g (h a)=some (if p a then .item (f a)else .skip))->u7 g (l.map h)=some ((l.filter p).map f)
 | [],_=>rfl
 | a::l,q=>by
  have d:=q a (i5 ..);have j:=up (g:=g) (h:=h) (f:=f) (p:=p) (l:=l) λ b k=>q b (i7 _ k);cases e:p a with
  | true=>
   rw[e]at d;show(match g (h a)with | none=>none | some .skip=>u7 g _ | some (.item x)=>match u7 g (l.map h)with | none=>none | some c=>some (x::c))=_;rw[d,Z2 e,t9];show(match u7 g (l.map h)with | none=>none | some c=>some (f a::c))=_;rw[j]
  | false=>
   rw[e]at d;show(match g (h a)with | none=>none | some .skip=>u7 g (l.map h) | some (.item x)=>match u7 g (l.map h)with | none=>none | some c=>some (x::c))=_;rw[d,Z1 (by rw[e];simp)];exact j
theorem G3{d:Type}{l:ge d}{h f:d->DV}{p:d->Bool}(e:k7 (evE G F it δ)=some (.ok (l.map h) cl))(hc:cl ≠ .weak)(hl:l.length<=j5)
  (q:∀a∈l,∃b,tg.bind (h a) (u0 fr δ)=some b/\tstD (evE G F cd b)=some (.ok (p a))/\∃c,evE G F elt b=some (.ok (f a) c)/\stro (f a) c=true):evE G F (.compi elt tg it cd fr) δ=some (.ok (.lst ((l.filter p).map f)) .fresh):=by
 show Ri.thn _ _=_;rw[e,bM,e8 (by grind),up (λ a g=>?_)]
 ·rfl
 ·obtain⟨b,m,k,c,j,i⟩:=q a g;rw[m,G5,k,j];cases p a with
  | false=>rfl
  | true=>
   show(if stro (f a) c then some _ else none)=_;rw[d8 i];rfl
noncomputable def WI(rows:ge (ge Int)):ge Nat:=(JJ 10).filter λ w=>rows.any λ r=>r.any λ x=>x==(w:Int)
theorem uq(rows:ge (ge Int))(e:∀r∈rows,∀x∈r,0<=x/\x<=9):E8 (rows.flatten.foldl dk [])=nI (WI rows):=by
 refine uj (uk _ _) λ x=>?_;rw[ul,List.mem_flatten];unfold WI;constructor
 ·rintro⟨r,b,a⟩
  have:=e r b x a;refine⟨x.toNat,j2.mpr ⟨i6.mpr Jy,J6.mpr ⟨r,b,J6.mpr ⟨x,a,?_⟩⟩⟩,by omega⟩;rw[f7];omega
 ·rintro⟨j,d,rfl⟩
  obtain⟨_,g⟩:=j2.mp d;obtain⟨r,b,f⟩:=J6.mp g;obtain⟨x,a,c⟩:=J6.mp f;rw[f7]at c;exact⟨r,b,by rw[←c];exact a⟩
theorem GK(c:δ[i]? = some (.own (.lst ds)))(h:evE G F e δ=some (.ok (.tup a) .strong))(b:ds.length+a.length<=j5):evS G F fu (.ext i e) δ=some (.nx (δ.set i (.own (.lst (ds++a))))):=by
 show(match δ[i]? with | some (.own (.lst ds))=>Re.thnS δ _ _ | _=>none)=_;rw[c];show Re.thnS δ _ _=_;rw[h];show(if Cl.strong=.strong\/Cl.strong=.fresh then(if ds.length+a.length<=j5 then some (Out.nx _)else none)else none)=_;rw[d8 (.inl rfl),d8 b]
theorem ur(t:Sv)(j:m<=8):∀(rows:ge (ge Int)) (a:ge Int) (c:Sv),(∀r∈rows,r.length=m)->a.length+rows.length*m<=1000->∃e,m7 (.one 2) (λ b=>evSs G F fu [.ext 1 (.var 2)] b) (rows.map λ r=>.tup (iD r)) [t,.own (.lst (iD a)),c]=some (.nx [t,.own (.lst (iD (a++rows.flatten))),e])
 | [],a,c,_,_=>⟨c,by rw[List.flatten_nil,A6];rfl⟩
 | r::rows,a,c,h,k=>by
  have i:=h r (i5 ..);rw[n7,am,ao]at k;obtain⟨e,g⟩:=ur t j rows (a++r) _ (λ f d=>h f (i7 _ d)) (by rw[o5,i];omega);refine⟨e,?_⟩;rw[V6,←N9,←g];refine gm rfl (f6 (GK rfl (d5 rfl) ?_) ?_)
  ·unfold iD;rw[d7,d7];exact e9 (show a.length+r.length<=1000 by omega) Jz
  ·unfold iD;rw[t5];rfl
theorem ut(m:Nat):∀n,(List.replicate n m).sum=n*m
 | 0=>by simp
 | n+1=>by rw[S8,T4,ut m n,am,ao,iJ]
theorem uu:∀{l:ge Int},(insI x l).length=l.length+1
 | []=>rfl
 | z::l=>by unfold insI;split<;>simp[uu]
theorem uv:∀{l:ge Int},(E8 l).length=l.length
 | []=>rfl
 | z::l=>by unfold E8;rw[uu,uv,n7]
theorem uw(rows:ge (ge Int))(n m:Nat)(R:Rect n m rows)(i:n<=8)(c:m<=8)(j:∀r∈rows,∀x∈r,0<=x/\x<=9):run G T fu (k+1) 11 [tT rows]=some (.v (.lst (nD (WI rows))) true):=by
 rw[k8 (fd:=lw) rfl rfl];unfold lw;have nm:n*m<=8*8:=ai i c;obtain⟨p,e⟩:=ur (fu:=fu) (.val (tT rows)) c rows [] .no R.2 (by rw[R.1];simp;omega);rw[bq]at e;have o:∀x∈rows.flatten,0<=x/\x<=9:=λ x g=>by obtain⟨r,h,g⟩:=List.mem_flatten.mp g;exact j r h x g
 have a:(rows.flatten.foldl dk []).length<64/\rows.flatten.length<4000:=by
  have u:=uq rows j;have q:=uv (l:=rows.flatten.foldl dk []);rw[u]at q;have l2:(nI (WI rows)).length<=10:=(by unfold nI WI;rw[d7];exact e9 (C4 _ _) JN);have l3:rows.flatten.length=n*m:=by
   rw[List.length_flatten];have:rows.map List.length=List.replicate n m:=by rw[List.eq_replicate_iff];refine⟨by rw[d7];exact R.1,λ b o=>?_⟩;obtain⟨r,h,rfl⟩:=f9.mp o;exact R.2 r h
   rw[this,ut]
  omega
 have s1:evE G (JK k) (.bi .sset [.var 1]) [.val (tT rows),.own (.lst (iD rows.flatten)),p]=some (.ok (.lst (nD (WI rows))) .fresh):=by
  show Rs.thn (evEs G (JK k) [.var 1] [.val (tT rows),.own (.lst (iD rows.flatten)),p]) (λ l=>eU l)=_;rw[e7 (N0 (d:=.lst (iD rows.flatten)) rfl) g7];show(match ints? (iD rows.flatten)with
   | some f=>if f.length<4000/\(f.foldl dk []).length<64 then some (Re.ok (.lst ((E8 (f.foldl dk [])).map DV.int)) .fresh)else none
   | none=>none)=_
  rw[lM];show(if rows.flatten.length<4000/\(rows.flatten.foldl dk []).length<64 then some (Re.ok (.lst (iD (E8 (rows.flatten.foldl dk [])))) .fresh)else none)=_;rw[d8 ⟨a.2,a.1⟩,uq rows j,gn]
 exact k5 (f6 (O6 rfl) (F0 (ds:=rows.map λ r=>.tup (iD r)) (cl:=.strong) rfl (.inl rfl) e (j9 (n6 s1))))
theorem ux:run G T fu (k+1) 0 [.int x,.int a,.int b]=some (.v (.bl (decide (a<=x)&&decide (x<=b))) false):=by
 rw[k8 rfl rfl];have e:evE G (JK k) (.chain .LtE .LtE (.var 1) (.var 0) (.var 2)) [.val (.int x),.val (.int a),.val (.int b)]=some (.ok (.bl (decide (a<=x)&&decide (x<=b))) .strong):=by show(match some (decide (a<=x))with | none=>none | some false=>some (Re.ok _ .strong) | some true=>(some _).map λ k=>.ok _ .strong)=_;cases decide (a<=x)<;>rfl
 exact k5 (j9 (n6 (U9 rfl (U9 rfl (Y5 e)))))
theorem cS(r o:Nat):Builtin.bitAnd r o=((r &&& o:Nat):Int):=by
 unfold Builtin.bitAnd;rw[t8 (z9 r),t8 (z9 o)];rfl
theorem GL(o i:Nat):Builtin.bitAnd ((o:Int)/2^((i:Int).toNat)) 1=if o.testBit i then 1 else 0:=by
 have e:(o:Int)/2^((i:Int).toNat)=((o/2^i:Nat):Int):=(by rfl);rw[e,show(1:Int)=((1:Nat):Int)from rfl,cS,Nat.and_one_is_mod,Nat.testBit_eq_decide_div_mod_eq];have:o/2^i%2=0\/o/2^i%2=1:=by omega
 rcases this with h | h<;>rw[h]<;>rfl
noncomputable def cs(c:Nat):ge Nat:=(JJ (c.log2+1)).filter c.testBit
theorem gq(c:Nat)(h0:0<c)(h:c<2^64):run G T fu (k+1) 4 [.int c]=some (.v (.lst (nD (cs c))) true):=by
 rw[k8 (fd:=lv) rfl rfl];have f:ay (c:Int)=((c.log2+1:Nat):Int):=by unfold ay;rw[e8 Jy,Int.natAbs_natCast];push_cast;rfl
 have hl:c.log2<64:=(bA Jy).mpr h;have a:=zx (G:=G) (F:=run G T fu k) (δ:=j8 1 [.int c]) (elt:=.var 0) (tg:=.one 0) (it:=.rng [.meth .bitLength (.var 0) []]) (fr:=[none,some 0]) (p:=λ d=>match d with | .int i=>c.testBit i.toNat | _=>false) (cl:=.fresh)
  (Y4 ((by rw[←f];rfl)) Jy) Jz (by unfold L2.upTo;rw[d7,o9];exact e9 (show c.log2+1<=64 by omega) Jz) (λ d hd=>by
   obtain⟨j,hj,rfl⟩:=pv hd;rw[show(0:Int)+(j:Int)=j by omega];refine⟨[.val (.int j),.val (.int c)],rfl,?_,rfl⟩;have l:evE G (JK k) (.bin .RShift (.var 1) (.var 0)) [.val (.int j),.val (.int c)]=some (.ok (.int ((c:Int)/2^((j:Int).toNat))) .strong):=B4 (d5 rfl) (d5 rfl) (show(if 0<=(j:Int)then some (Re.ok (.int ((c:Int)/2^((j:Int).toNat))) Cl.strong)else none)=_ from d8 (z9 j));have g:evE G (JK k) (.bin .BitAnd (.bin .RShift (.var 1) (.var 0)) (.int 1)) [.val (.int j),.val (.int c)]=some (.ok (.int (if c.testBit j then 1 else 0)) .strong):=B4 l g6 (by rw[←GL];rfl);have b:∀t:Bool,tstD (some (Re.ok (DV.int (if t=true then 1 else 0)) Cl.strong))=some (Rt.ok t):=λ t=>by cases t<;>rfl
   rw[g];refine(b _).trans ?_;show _=some (Rt.ok (c.testBit (j:Int).toNat));rw[v5])
 have e:(upTo 0 (c.log2+1)).filter (λ d=>match d with | .int i=>c.testBit i.toNat | _=>false)=nD (cs c):=by
  unfold L2.upTo nD cs;rw[List.filter_map];have:((λ d=>match d with | DV.int i=>c.testBit i.toNat | _=>false) ∘ λ (i:Nat)=>DV.int (0+(i:Int)))=c.testBit:=by
   funext j
   show c.testBit ((0:Int)+(j:Int)).toNat=_;rw[show((0:Int)+(j:Int)).toNat=j by omega]
  rw[this];apply D2;intro j _;show DV.int _=DV.int _
  congr 1
  omega
 rw[e]at a;unfold lv;exact k5 (j9 (n6 a))
theorem GM{n:Nat}(hn:n<=1000)(h:JA e cl (.int n)):evE G F (.bin .Sub (.bin .LShift (.int 1) e) (.int 1)) δ=some (.ok (.int (((2^n:Nat):Int) - 1)) .strong):=by
 refine az (cx:=.strong) (B4 g6 h ?_) g6;show(if 0<=_/\_<=1000000/\(1:Int).natAbs<2^64 then some (Re.ok _ Cl.strong)else none)=_;rw[d8 ⟨z9 n,by omega,by decide⟩,v5,Int.one_mul]
 push_cast
 rfl
theorem uy{n:Nat}(a:n<=1000)(h:run G T fu (k+1) 0 [d,.int 1,.int (((2^n:Nat):Int) - 1)]=some (.v (.bl t) false)):run G T fu (k+2) 3 [d,.int n]=if t then some (.v .non false)else none:=by
 rw[k8 rfl rfl];unfold sR;have q:=fg (g8 (δ:=j8 2 [d,.int n]) (es:=[.var 0,.int 1,.bin .Sub (.bin .LShift (.int 1) (.var 1)) _]) (e7 (d5 rfl) (e7 g6 (e7 (GM a (d5 rfl)) g7))) rfl h);cases t with
 | true=>exact pz (u4 (i4 q) rfl)
 | false=>
  show Ou.of _=_;unfold evSs;rw[(eZ (i4 q))];rfl
theorem cT(h:c<2^n)(a:j∈cs c):j<n:=by
 unfold cs at a;rw[j2]at a;by_cases q:j<n
 ·exact q
 ·have z:=bc (q9 h (x9 Jz (show n<=j by omega)));rw[z]at a;cases a.2
theorem gr(h0:0<c)(h:c<2^64):(cs c).length<=1000:=by
 have hl:=(bA Jy).mpr h;unfold cs;exact e9 (C4 _ _) (by rw[o9];omega)
theorem uz(rows:ge (ge Int))(n m a b:Nat)(R:Rect n m rows)(hn:0<n)(f:n<=64)(h:m<=64)(v:0<a)(u:a<2^n)(p:0<b)(o:b<2^m):run G T fu (k+3) 2 [tT rows,.int a,.int b]=some (.v (tT (sub rows (cs a) (cs b))) false):=by
 rw[k8 rfl rfl];obtain⟨c,rest,rfl⟩:∃c rest,rows=c::rest:=by
  cases rows with
  | nil=>have:=R.1;simp at this;omega
  | cons a b=>exact⟨a,b,rfl⟩
 have r:a<2^64:=q9 u (x9 Jz f);have l:b<2^64:=q9 o (x9 Jz h);have z:=(by have q:=K2 (F:=run G T fu (k+2)) (δ:=j8 3 [tT (c::rest),.int a,.int b]) (e:=.var 0) rfl;rw[d7,R.1]at q;exact q);have w:=(by have e:evE G (JK (k+2)) (.ix (.var 0) (.int 0)) (j8 3 [tT (c::rest),.int a,.int b])=some (.ok (.tup (iD c)) .strong):=o7 (x:=tT (c::rest)) (y:=.int 0) (d5 rfl) g6 (P3 (rows:=c::rest) (i:=0) JN);have q:=K2 e;rw[show(iD c).length=m by unfold iD;rw[d7,(R.2 c (i5 ..))]]at q;exact q);have E:=uy (fu:=fu) (k:=k) (d:=.int a) (n:=n) (t:=true) Jy (by rw[ux,t8 Jy,t8 Jy];rfl);have C:=uy (fu:=fu) (k:=k) (d:=.int b) (n:=m) (t:=true) Jy (by rw[ux,t8 Jy,t8 Jy];rfl);have g:=uc (fu:=fu) (k:=k+1) (c::rest) n m R (cs a) (cs b) (λ i B=>cT u B) (λ j A=>cT o A) (gr v r) (gr p l);unfold sQ;exact k5 (f6 (ff (g8 (e7 (d5 rfl) (e7 z g7)) rfl E)) (f6 (ff (g8 (e7 (d5 rfl) (e7 w g7)) rfl C)) (j9 (n6 (g8 (e7 (d5 rfl) (e7 (g8 (e7 (d5 rfl) g7) rfl (gq a v r)) (e7 (g8 (e7 (d5 rfl) g7) rfl (gq b p l)) g7))) rfl g)))))
noncomputable def cd(n:Nat):Nat->ge Int
 | 0=>[]
 | l+1=>((n/2^l%2:Nat):Int)::cd n l
theorem uA(h:JA e cl (.int i)):evE G F (.neg e) δ=some (.ok (.int (-i)) .strong):=by
 show Re.thn _ _=_;rw[h];rfl
noncomputable def sd(s:Bool):DV:=if s then .str "row" else .str "column"
noncomputable def hd(l:ge Nat):DV:=match l with | []=>.non | c::_=>.int c
theorem gu{c:Type}{p q:c->Bool}:∀{l:ge c},(∀x∈l,p x=true->q x=true)->(l.filter p).length<=(l.filter q).length
 | [],_=>f8 _
 | a::l,h=>by
  have e:=gu λ x f=>h x (i7 _ f);cases b:p a with
  | false=>
   rw[Z1 (by rw[b];decide)];cases d:q a with
   | false=>rw[Z1 (by rw[d];decide)];exact e
   | true=>rw[Z2 d,n7];omega
  | true=>
   rw[Z2 b,Z2 (h a (i5 ..) b),n7,n7];omega
theorem uB{b:Type}{p q r:b->Bool}:∀{l:ge b},(∀x∈l,p x=true->q x=true\/r x=true)->(l.filter p).length<=(l.filter q).length+(l.filter r).length
 | [],_=>f8 _
 | a::l,h=>by
  have ih:=uB λ x c=>h x (i7 _ c);rw[ae,ae,ae];cases f:p a<;>cases e:q a<;>cases d:r a<;>simp only[if_true,if_false,n7,K6]<;>first | omega | exact absurd ((h a (i5 ..)) f) (by rw[e,d];simp)
theorem lQ{b:Type}{p q:b->Bool}:∀{l:ge b},(l.filter p).length=(l.filter λ x=>p x&&q x).length+(l.filter λ x=>p x && !q x).length
 | []=>rfl
 | a::l=>by have ih:=lQ (p:=p) (q:=q) (l:=l);rw[ae,ae,ae];cases ep:p a<;>cases eq:q a<;>simp<;>omega
theorem uC{g:Nat->Nat}(c:g 0=0)(a:∀t,t<10->g (t+1)<=g t+1):∀N n,N<=10->n<=g N->∃t,t<=N/\g t=n
 | 0,n,_,h=>⟨0,f8 _,by omega⟩
 | N+1,n,hN,h=>by
  by_cases q:n<=g N
  ·obtain⟨t,h1,b⟩:=uC c a N n Jy q;exact⟨t,by omega,b⟩
  ·have:=a N Jy;exact⟨N+1,f8 _,by omega⟩
theorem uD:∀t,t<10->((JJ 10).filter λ w=>w==t).length<=1:=by decide
theorem V0(h:j∈cs c):c.testBit j=true:=(j2.mp h).2
theorem V1(h:c.testBit j=true):j∈cs c:=by
 refine j2.mpr ⟨i6.mpr ?_,h⟩;have a:c≠0:=by intro z;rw[z,Nat.zero_testBit]at h;cases h
 have:=(Nat.le_log2 a).mpr (gP h);omega
theorem tb5(hc:c<32)(h:c.testBit j=true):j<5:=by
 have h1:=gP h;rcases Q3 j 5 with z | z
 ·exact z
 ·have:2^5<=2^j:=x9 Jz z;omega
def Sb(h C:Nat):Prop:=0<h/\h<C/\h &&& C=h
theorem lR:∀C,C<32->∀h,h<32->h &&& C=h->∀j,j<5->(C - h).testBit j=(C.testBit j && !h.testBit j)/\(h.testBit j=true->C.testBit j=true):=by decide +kernel
theorem Sb.lt(s:Sb h C)(a:C<32):h<32:=eL s.2.1 a
theorem lS(s:Sb h C)(b:C<32)(c:j∈cs (C - h)):j∈cs C/\j∉cs h:=by
 have a:=V0 c;have d:=tb5 Jy a;rw[(lR C b h (s.lt b) s.2.2 j d).1,d6]at a;refine⟨V1 a.1,λ z=>?_⟩;rw[V0 z]at a;exact absurd a.2 Jz
theorem GN:∀R,R<32->2<=(cs R).length->∃h∈List.range 32,(0<h/\h<R/\h &&& R=h)/\2*(cs h).length<=(cs R).length+1/\2*(cs (R - h)).length<=(cs R).length+1:=by decide +kernel
theorem GO:∀e d c b a:Bool,∃h∈List.range 32,h.testBit 0=e/\h.testBit 1=d/\h.testBit 2=c/\h.testBit 3=b/\h.testBit 4=a:=by decide +kernel
theorem GP(q:Nat->Bool):∃h,h<32/\∀j,j<5->h.testBit j=q j:=by
 obtain⟨h,b,g,f,e,d,c⟩:=GO (q 0) (q 1) (q 2) (q 3) (q 4);refine⟨h,i6.mp b,λ j a=>?_⟩
 match j,a with
 | 0,_=>exact g
 | 1,_=>exact f
 | 2,_=>exact e
 | 3,_=>exact d
 | 4,_=>exact c
theorem GQ:∀C,C<32->∀h,h<32->(∀j,j<5->h.testBit j=true->C.testBit j=true)->h &&& C=h/\h<=C:=by decide +kernel
theorem tb0(e:h.testBit j=true):0<h:=by
 rcases dH h with z | z
 ·rw[z,Nat.zero_testBit]at e;cases e
 ·exact z
theorem Y6:∀c,c<32->0<c->0<(cs c).length:=by decide +kernel
abbrev Mx:=Nat->Nat->Int
def wp(f:Mx)(R C:Nat)(w:Nat):Bool:=(cs R).any λ i=>(cs C).any λ j=>f i j==(w:Int)
def wn(f:Mx)(R C:Nat):Nat:=((JJ 10).filter (wp f R C)).length
theorem R7:wp f R C w=true↔∃i j,i∈cs R/\j∈cs C/\f i j=(w:Int):=by
 unfold wp;rw[J6];constructor
 ·rintro⟨i,b,h⟩
  obtain⟨j,a,h⟩:=J6.mp h;exact⟨i,j,b,a,f7.mp h⟩
 ·rintro⟨i,j,b,a,h⟩
  exact⟨i,b,J6.mpr ⟨j,a,f7.mpr h⟩⟩
theorem GR(x:C<32)(K:(cs R).length=1)(h2:2<=wn f R C):∃h,Sb h C/\2*wn f R h<=wn f R C+1/\2*wn f R (C - h)<=wn f R C+1:=by
 obtain⟨i,hi⟩:∃i,cs R=[i]:=by
  match e:cs R,K with
  | [i],_=>exact⟨i,rfl⟩
 let g:Nat->Nat:=λ t=>((JJ 10).filter λ w=>wp f R C w&&decide (w<t)).length
 have M:g 0=0:=(by show((JJ 10).filter λ w=>wp f R C w&&decide (w<0)).length=0;rw[show(λ w=>wp f R C w&&decide (w<0))=λ _=>false from funext λ w=>by simp];simp);have L:∀t,t<10->g (t+1)<=g t+1:=λ t E=>by
  refine e9 (uB λ w _ h=>?_) (Nat.add_le_add_left (uD t E) _);rw[d6,D4]at h;by_cases z:w=t
  ·exact .inr (f7.mpr z)
  ·exact .inl (by rw[d6,D4];exact⟨h.1,by omega⟩)
 have gN:wn f R C<=g 10:=gu λ w k h=>by rw[d6,D4];exact⟨h,i6.mp k⟩
 obtain⟨t,_,E⟩:=uC M L 10 ((wn f R C+1)/2) (f8 _) Jy;have sm:wn f R C=g t+((JJ 10).filter λ w=>wp f R C w && !decide (w<t)).length:=lQ;obtain⟨h,F,v⟩:=GP λ j=>C.testBit j&&decide (f i j<(t:Int))
 obtain⟨s1,H⟩:=GQ C x h F λ j J e=>by rw[v j J,d6]at e;exact e.1
 have d:∀j,j∈cs h↔j∈cs C/\f i j<(t:Int):=λ j=>by
  constructor
  ·intro e;have l:=V0 e;rw[v j (tb5 F l),d6,D4]at l;exact⟨V1 l.1,l.2⟩
  ·rintro⟨n,m⟩
   have l:=V0 n;exact V1 (by rw[v j (tb5 x l),l,L3,D4];exact m)
 have ex:∀{p:Nat->Bool},0<((JJ 10).filter λ w=>wp f R C w&&p w).length->∃w j,p w=true/\j∈cs C/\f i j=(w:Int):=λ {p} I=>by obtain⟨w,k⟩:=V2 I;have k:=(j2.mp k).2;rw[d6]at k;obtain⟨B,j,a,b,c⟩:=R7.mp k.1;rw[hi,r9]at a;subst a;exact⟨w,j,k.2,b,c⟩
 have u:h<C:=by
  rcases Q3 h C with z | z
  ·exact z
  ·exfalso;have e:h=C:=Nat.le_antisymm H z;obtain⟨w,j,n,m,y⟩:=ex (p:=λ w=>!decide (w<t)) Jy;have:=((d j).mp (by rw[e];exact m)).2;rw[y]at this;rw[q0,nB]at n;omega
 have s:Sb h C:=⟨((by obtain⟨w,j,n,m,y⟩:=ex (by show 0<g t;omega);have:j∈cs h:=(d j).mpr ⟨m,by rw[y];have:=Z9 n;omega⟩;exact tb0 (V0 this))),u,s1⟩;refine⟨h,s,?_,?_⟩
 ·have:wn f R h<=g t:=gu λ w _ q=>by
   obtain⟨B,j,a,b,c⟩:=R7.mp q;have o:=a;rw[hi,r9]at o;subst o;obtain⟨r,A⟩:=(d j).mp b;rw[d6,D4];exact⟨R7.mpr ⟨_,j,a,r,c⟩,by rw[c]at A;omega⟩
  omega
 ·have:wn f R (C - h)<=((JJ 10).filter λ w=>wp f R C w && !decide (w<t)).length:=gu λ w _ q=>by
   obtain⟨B,j,a,b,c⟩:=R7.mp q;have o:=a;rw[hi,r9]at o;subst o;obtain⟨r,A⟩:=lS s x b;rw[d6,q0,nB];refine⟨R7.mpr ⟨_,j,a,r,c⟩,λ z=>A ((d j).mpr ⟨r,?_⟩)⟩;rw[c];omega
  omega
noncomputable def hv(R:Nat):ge Nat:=((JJ (R - 1)).map (· + 1)).filter λ h=>h &&& R==h&&decide (h<R - h)
theorem GS:∀R,R<32->∀h,h<32->0<h->h<R->h &&& R=h->((hv R).contains h||((hv R).contains (R - h)&&decide (R - (R - h)=h)))=true:=by decide +kernel
theorem GT(R:Nat)(b:R<32)(h:Nat)(a:h<32)(s:Sb h R):h∈hv R\/(R - h∈hv R/\R - (R - h)=h):=by
 have:=GS R b h a s.1 s.2.1 s.2.2;rw[E7,d6,D4]at this;rcases this with z | z
 ·exact .inl (J4.mp z)
 ·exact .inr ⟨J4.mp z.1,z.2⟩
theorem aS(q:h∈hv R):Sb h R/\h<R - h:=by
 obtain⟨c,a⟩:=j2.mp q;obtain⟨i,b,rfl⟩:=f9.mp c;rw[d6,f7,D4]at a;have:=i6.mp b;exact⟨⟨by omega,by omega,a.1⟩,a.2⟩
theorem GU(a:R<32)(c:C<32)(i:0<R)(C0:0<C)(g:2<=wn f R C):hv R≠[]\/hv C≠[]:=by
 have b:∀R,R<32->(∃h,Sb h R)->hv R≠[]:=λ R a ⟨h,s⟩ e=>by
  rcases GT R a h (s.lt a) s with z | z
  ·rw[e]at z;cases z
  ·rw[e]at z;cases z.1
 have rp:=Y6 R a i;by_cases d:2<=(cs R).length
 ·obtain⟨h,_,s,_⟩:=GN R a d;exact .inl (b R a ⟨h,s⟩)
 ·obtain⟨h,s,_⟩:=GR c Jy g;exact .inr (b C c ⟨h,s⟩)
end k35
end
noncomputable section
namespace k35
open PySem L2
variable {fu k:Nat} {F:Nat->ge DV->on Ou} {δ:ge Sv} {ds:ge DV} {cl:Cl} {N M:Nat} {R C:Nat}
theorem gw{n:Nat}(c:JA b cx (.int n))(hn:n<=1000):k7 (evE G F (.rng [.int 1,b]) δ)=some (.ok (upTo 1 (n - 1)) .fresh):=by
 show k7 (Rs.thn (evEs G F [.int 1,b] δ) (λ l=>(rngD l).map λ a=>.ok (.lst a) .fresh))=_;rw[e7 g6 (e7 c g7),bL];have hs:(E9 1&&E9 (n:Int)&&decide ((n:Int) - 1<=(j5:Int)))=true:=by rw[d6,d6,C6];refine⟨⟨by decide,?_⟩,aj (show(n:Int) - 1<=1000 by omega) Jz⟩;unfold E9;rw[d6,C6,C6];exact⟨aj Jz (z9 n),hV (show(n:Int)<=1000 by omega) Jz⟩
 show k7 ((if E9 1&&E9 (n:Int)&&decide ((n:Int) - 1<=(j5:Int))then some (upTo 1 ((n:Int) - 1).toNat)else none).map λ a=>.ok (.lst a) .fresh)=_;rw[d8 hs,show((n:Int) - 1).toNat=n - 1 by omega];rfl
theorem GV(n:Nat):upTo 1 n=((JJ n).map (· + 1)).map λ (h:Nat)=>DV.int (h:Int):=by
 unfold L2.upTo;rw[k6];apply D2;intro j _;show DV.int _=DV.int _
 congr 1
 simp only[Function.comp];omega
theorem GW{i j:Nat}(d:JA a cx (.int i))(c:JA b cy (.int j)):evE G F (.bin .BitAnd a b) δ=some (.ok (.int ((i &&& j:Nat):Int)) .strong):=B4 d c (by show some _=_;rw[cS])
theorem uE{i j:Nat}(d:JA a cx (.int i))(c:JA b cy (.int j)):evE G F (.cmp .Eq a b) δ=some (.ok (.bl (i==j)) .strong):=by
 rw[b_eq d c]
 congr 3
 rw[J7,f7,f7];omega
theorem uF(hR:R<32):run G T fu (k+1) 34 [.int R]=some (.v (.lst (nD (hv R))) true):=by
 rw[k8 rfl rfl];unfold tM;have w:=gw (F:=run G T fu k) (δ:=j8 1 [.int R]) (b:=.var 0) (n:=R) (d5 rfl) Jy;rw[GV]at w;refine k5 (j9 (n6 (G3 w Jz (by rw[d7,o9];exact e9 (show R - 1<=1000 by omega) Jz) λ h f=>?_)));refine⟨[.val (.int h),.val (.int R)],rfl,?_,.strong,d5 rfl,rfl⟩;obtain⟨i,e,rfl⟩:=f9.mp f;have:=i6.mp e;have c:=uE (F:=run G T fu k) (δ:=[.val (.int ((i+1:Nat):Int)),.val (.int R)]) (GW (a:=.var 0) (b:=.var 1) (d5 rfl) (d5 rfl)) (d5 (n:=0) rfl);have d:=b_lt (G:=G) (F:=run G T fu k) (δ:=[.val (.int ((i+1:Nat):Int)),.val (.int R)]) (d5 (n:=0) rfl) (az (a:=.var 1) (b:=.var 0) (d5 rfl) (d5 rfl));have g:decide (((i+1:Nat):Int)<(R:Int) - ((i+1:Nat):Int))=decide (i+1<R - (i+1)):=by rw[dU];omega
 rw[g]at d;cases q:((i+1) &&& R==i+1)with
 | true=>
  rw[q]at c;rw[U9 c (Y5 d)];rfl
 | false=>
  rw[q]at c;rw[cR c];rfl
theorem le4m{l:ge a}(h:l.length<=4):l.length<=j5:=e9 h Jz
abbrev Wy:=DV×Nat×(Nat×Nat)×(Nat×Nat)
noncomputable def wD(a:Wy):DV:=.tup [a.1,.int a.2.1,.tup [.int a.2.2.1.1,.int a.2.2.1.2],.tup [.int a.2.2.2.1,.int a.2.2.2.2]]
def wl(R C:Nat):ge Wy:=(hv R).map (λ h=>(.str "row",h,(R - h,C),(h,C)))++(hv C).map (λ h=>(.str "column",h,(R,C - h),(R,h)))
theorem aT(h:R<32):(hv R).length<=31:=by
 unfold hv;refine e9 (C4 ..) ?_;rw[d7,o9];omega
theorem uG{b:Nat}(h:b<a):(a:Int) - (b:Int)=((a - b:Nat):Int):=by omega
theorem GX(d:R<32)(e:C<32):run G T fu (k+2) 33 [.int R,.int C]=some (.v (.lst ((wl R C).map wD)) true):=by
 rw[k8 (fd:=lz) rfl rfl];unfold lz;have q:=g8 (G:=G) (F:=run G T fu (k+1)) (δ:=j8 4 [.int R,.int C]) (f:=34) (es:=[.var 0]) (l:=[(.int R,.strong)]) rfl rfl (uF (k:=k) (fu:=fu) d);have p:=g8 (G:=G) (F:=run G T fu (k+1)) (δ:=[.val (.int R),.val (.int C),.val (.lst ((hv R).map λ h=>wD (.str "row",h,(R - h,C),(h,C)))),.no]) (f:=34) (es:=[.var 1]) (l:=[(.int C,.strong)]) rfl rfl (uF (k:=k) (fu:=fu) e);have m:k7 (evE G (JK (k+1)) (.call 34 [.var 0]) (j8 4 [.int R,.int C]))=some (.ok ((hv R).map λ (h:Nat)=>DV.int (h:Int)) .fresh):=by rw[q];rfl
 have g:k7 (evE G (JK (k+1)) (.call 34 [.var 1]) [.val (.int R),.val (.int C),.val (.lst ((hv R).map λ h=>wD (.str "row",h,(R - h,C),(h,C)))),.no])=some (.ok ((hv C).map λ (h:Nat)=>DV.int (h:Int)) .fresh):=by rw[p];rfl
 have o:=C3 (elt:=.tup [.str "row",.var 0,.tup [.bin .Sub (.var 1) (.var 0),.var 2],.tup [.var 0,.var 2]]) (tg:=.one 0) (fr:=[none,some 0,some 1]) m Jz (e9 (aT d) Jz) λ h c=>
  ⟨[.val (.int h),.val (.int R),.val (.int C)],.strong,rfl,by
   have s:=az (G:=G) (F:=run G T fu (k+1)) (δ:=[.val (.int h),.val (.int R),.val (.int C)]) (a:=.var 1) (b:=.var 0) (i:=R) (j:=h) (d5 rfl) (d5 rfl);rw[uG (aS c).1.2.1]at s;exact W8 (e7 pE (e7 (d5 rfl) (e7 (W8 (e7 s (e7 (d5 rfl) g7)) (le4m JN) rfl) (e7 (W8 (e7 (d5 rfl) (e7 (d5 rfl) g7)) (le4m JN) rfl) g7)))) (le4m JN) rfl,rfl⟩
 have n:=C3 (elt:=.tup [.str "column",.var 0,.tup [.var 1,.bin .Sub (.var 2) (.var 0)],.tup [.var 1,.var 0]]) (tg:=.one 0) (fr:=[none,some 0,some 1]) g Jz (e9 (aT e) Jz) λ h c=>
  ⟨[.val (.int h),.val (.int R),.val (.int C)],.strong,rfl,by
   have s:=az (G:=G) (F:=run G T fu (k+1)) (δ:=[.val (.int h),.val (.int R),.val (.int C)]) (a:=.var 2) (b:=.var 0) (i:=C) (j:=h) (d5 rfl) (d5 rfl);rw[uG (aS c).1.2.1]at s;exact W8 (e7 pE (e7 (d5 rfl) (e7 (W8 (e7 (d5 rfl) (e7 s g7)) (le4m JN) rfl) (e7 (W8 (e7 (d5 rfl) (e7 (d5 rfl) g7)) (le4m JN) rfl) g7)))) (le4m JN) rfl,rfl⟩
 refine k5 (f6 (j4 o rfl) (f6 (j4 n rfl) (j9 (n6 (cl:=.fresh) ?_))));refine(B4 (d5 rfl) (d5 rfl) (show binD .Add _ _ .strong .strong=some (.ok (.lst ((wl R C).map wD)) .fresh)from ?_));show(if((hv R).map λ h=>wD (.str "row",h,(R - h,C),(h,C))).length+((hv C).map λ h=>wD (.str "column",h,(R,C - h),(R,h))).length<=j5 then _ else none)=_;rw[d8]
 ·unfold wl;rw[t5,k6,k6];rfl
 ·rw[d7,d7];exact e9 (iF (aT d) (aT e)) Jz
abbrev Tb:=ge ((Nat×Nat)×Nat)
noncomputable def kk(p:Nat×Nat):DKey:=.t [.inl (p.1:Int),.inl (p.2:Int)]
def dC(L:Tb):DV:=.dct (L.map λ p=>kk p.1) (L.map λ p=>.int (p.2:Int))
def dD(L:Tb):DV:=.tup [dC L]
theorem uH(h:kk p=kk q):p=q:=by
 unfold kk at h;obtain⟨a,b⟩:=p;obtain⟨c,d⟩:=q;simp at h;obtain⟨f,e⟩:=h;rw[Int.ofNat.inj f,Int.ofNat.inj e]
theorem uI(q:Nat×Nat):∀L:Tb,E1 (kk q) (L.map λ p=>kk p.1) (L.map λ p=>.int (p.2:Int))=(L.lookup q).map λ z=>DV.int ((z:Nat):Int)
 | []=>rfl
 | (p,z)::L=>by
  show(if kk p=kk q then some (DV.int _)else E1 (kk q) _ _)=_;rw[D6];by_cases h:p=q
  ·rw[d8 (by rw[h]),h,O0];rfl
  ·rw[e8 (λ e=>h (uH e)),uI q L,show(q==p)=false from A4.mpr (Ne.symm h)]
theorem uJ:∀{L:Tb},L.lookup q=none->kk q∉L.map λ p=>kk p.1
 | [],_,h=>by cases h
 | (p,z)::L,e,h=>by
  rw[D6]at e;split at e
  ·cases e
  ·rename_i a;rcases g5.mp h with w | w
   ·rw[uH w,O0]at a;cases a
   ·exact uJ e w
theorem uK{r c z:Nat}(b:δ[i]? = some (.od (dD L)))(h:evE G F e δ=some (.ok (.tup [.int r,.int c]) cx))(a:L.lookup (r,c)=some z):evE G F (.dgp i e) δ=some (.ok (.int z) .strong):=by
 have d:evE G F (.dgp i e) δ=(match δ[i]? with
  | some (.od (.tup [.dct ks vs]))=>Re.thn _ λ y _=>dgpD ks vs y
  | _=>none):=rfl
 rw[d,b];show Re.thn _ _=_;rw[h,B3];show(match E1 (kk (r,c)) _ (L.map λ p=>.int _)with | some (.int v)=>some _ | _=>none)=_;rw[uI,a];rfl
theorem uL{r c z:Nat}(m:δ[i]? = some (.od (dD L)))(h:JA e o (.int z))(k:JA a cx (.int r))(j:JA b cy (.int c))(f:L.lookup (r,c)=none)(g:L.length<100000):evS G F fu (.dpp i [a,b] e) δ=some (.nx (δ.set i (.od (dD (L++[((r,c),z)]))))):=by
 have n:evS G F fu (.dpp i [a,b] e) δ=(match δ[i]? with
  | some (.od (.tup [.dct kk vs]))=>Re.thnS δ _ λ d _=>Rs.thnS δ _ λ l=>(dppD i δ kk vs l d).map Out.nx
  | _=>none):=rfl
 rw[n,m];show Re.thnS δ _ _=_;rw[h];show Rs.thnS δ _ _=_;rw[e7 k (e7 j g7)];show((if(L.map λ p=>kk p.1).length<j5 then some (δ.set i (.od (.tup [.dct (putD (kk (r,c)) (.int z) (L.map λ p=>kk p.1) (L.map λ p=>.int (p.2:Int))).1 (putD (kk (r,c)) (.int z) (L.map λ p=>kk p.1) (L.map λ p=>.int (p.2:Int))).2])))else none).map Out.nx)=_;rw[d8 (by rw[d7];exact eL g Jz)];unfold putD;rw[e8 (uJ f)];unfold dD dC;rw[t5,t5];rfl
theorem uM(c:δ[i]? = some (.val (.fn x)))(a:xs.lookup x=some f)(b:evEs G F es δ=some (.ok l))(hs:(l.all λ p=>p.2 == .strong||p.2 == .fresh)=true)(h:F f (l.map (·.1))=some (.v d false)):evE G F (.callv i xs es) δ=some (.ok d .strong):=by
 show eY F xs _ δ[i]? = _;rw[c,b];show(match xs.lookup x with
   | some f=>J2 F f l
   | none=>none)=_
 rw[a];show J2 F f l=_;unfold J2;rw[h,hs];rfl
theorem uN:∀(r:ge Int) (m:Int),(minI m r=m\/minI m r∈r)/\minI m r<=m/\∀x∈r,minI m r<=x
 | [],m=>⟨.inl rfl,Int.le_refl _,λ x a=>nomatch a⟩
 | y::r,m=>by
  show(minI _ r=m\/minI _ r∈y::r)/\minI _ r<=m/\∀x∈y::r,minI _ r<=x;obtain⟨d,c,b⟩:=uN r (if y<m then y else m);by_cases q:y<m
  ·rw[d8 q]at d c b ⊢;refine⟨.inr ?_,by omega,λ x a=>?_⟩
   ·rcases d with z | z
    ·rw[z];exact i5 ..
    ·exact i7 _ z
   ·rcases g5.mp a with z | z
    ·rw[z];exact c
    ·exact b x z
  ·rw[e8 q]at d c b ⊢;refine⟨?_,c,λ x a=>?_⟩
   ·rcases d with z | z
    ·exact .inl z
    ·exact .inr (i7 _ z)
   ·rcases g5.mp a with z | z
    ·rw[z];omega
    ·exact b x z
theorem uO:∀l:ge Nat,ints? (nD l)=some (l.map λ (j:Nat)=>(j:Int))
 | []=>rfl
 | a::l=>by show(ints? (nD l)).map _=_;rw[uO l];rfl
theorem GY(h:evE G F e δ=some (.ok (.lst (nD l)) cl))(f:l≠[]):∃z∈l,(∀x∈l,z<=x)/\evE G F (.bi .min [e]) δ=some (.ok (.int (z:Nat)) .strong):=by
 cases l with
 | nil=>exact absurd rfl f
 | cons a l=>
  obtain⟨i,g,c⟩:=uN _ a;have k:evE G F (.bi .min [e]) δ=some (.ok (.int (minI a (l.map λ (j:Nat)=>(j:Int)))) .strong):=by rw[tU (e7 h g7)];show(match ints? (nD (a::l))with | some (n::r)=>some _ | _=>_)=_;rw[uO];rfl
  obtain⟨z,b,ez⟩:∃z∈a::l,minI a _=((z:Nat):Int):=by
   rcases i with q | q
   ·exact⟨a,i5 ..,q⟩
   ·obtain⟨z,b,q⟩:=f9.mp q;exact⟨z,i7 _ b,q.symm⟩
  refine⟨z,b,λ x d=>?_,by rw[k,ez]⟩;rw[ez]at g c;rcases g5.mp d with q | q
  ·rw[q];omega
  ·have:=c _ (f9.mpr ⟨x,q,rfl⟩);omega
end k35
end
noncomputable section
namespace k35
open PySem L2
theorem GZ(a b:Nat):run G T fu (k+1) 30 [.int a,.int b]=some (.v (.int ((1+max a b:Nat):Int)) false):=by
 rw[k8 rfl rfl];unfold ly;have m:evE G (JK k) (.bi .max [.var 0,.var 1]) (j8 2 [.int a,.int b])=some (.ok (.int ((max a b:Nat):Int)) .strong):=by
  show some _=_
  congr 3
  by_cases h:(b:Int)>(a:Int)
  ·rw[d8 h];omega
  ·rw[e8 h];omega
 have s:=F7 (g6 (G:=G) (i:=1)) m;rw[show(1:Int)+_=((1+max a b:Nat):Int) by omega]at s;exact k5 (j9 (n6 s))
end k35
end
noncomputable section
namespace k35
open PySem L2
variable {fu k:Nat} {F:Nat->ge DV->on Ou} {δ:ge Sv} {ds:ge DV} {cl:Cl} {R C a b:Nat} {rest:ge (ge Int)} {L:Tb}
def mf(rest:ge (ge Int)):Mx:=λ i j=>(rest.getD i []).getD j 0
theorem uP(rest:ge (ge Int))(R C:Nat):WI (sub rest (cs R) (cs C))=(JJ 10).filter (wp (mf rest) R C):=by
 unfold WI sub wp mf
 congr 1
 funext w
 rw[T6]
 congr 1
 funext i
 show((cs C).map λ j=>(rest.getD i []).getD j 0).any _=_;rw[T6];rfl
def W9(rest:ge (ge Int)):Prop:=∀r∈rest,∀x∈r,0<=x/\x<=9
theorem lT{r:ge Int}(h:j<r.length):r.getD j 0∈r:=by
 rw[p5,j6 h];exact T0 h
theorem Y7(c:Rect a b rest)(e:W9 rest)(g:i<a)(f:j<b):0<=mf rest i j/\mf rest i j<=9:=by
 have d:=B9 (by rw[c.1];exact g);exact e _ d _ (lT (by rw[c.2 _ d];exact f))
theorem P4(a:c<2^n)(h:i∈cs c):i<n:=by
 exact(Nat.pow_lt_pow_iff_right (by decide:1<2)).mp (K7 (gP (V0 h)) a)
theorem p32(h:n<=5):2^n<=32:=x9 Jz h
theorem cs5:∀c,c<32->(cs c).length<=5:=by decide +kernel
theorem Ha(f:Rect a b rest)(e:W9 rest)(h:a<=5)(g:b<=5)(l:0<R)(k:R<2^a)(n:0<C)(m:C<2^b):0<wn (mf rest) R C:=by
 have pa:=p32 h;have pb:=p32 g;obtain⟨i,d⟩:=V2 (Y6 R Jy l);obtain⟨j,c⟩:=V2 (Y6 C Jy n);have q:=Y7 f e (P4 k d) (P4 m c);unfold wn;refine V4 (a:=(mf rest i j).toNat) (j2.mpr ⟨i6.mpr Jy,R7.mpr ⟨i,j,d,c,by omega⟩⟩)
theorem Hb(e:Rect a b rest)(h:W9 rest)(A:0<a)(u:a<=5)(q:b<=5)(B:0<R)(f:R<2^a)(E:0<C)(g:C<2^b)(y:δ[3]? = some (.val (tT rest)))(w:δ[5]? = some (JH R))(v:δ[6]? = some (JH C)) :
  evE G (JK (k+3)) (.bi .len [.call 11 [.call 2 [.var 3,.var 5,.var 6]]]) δ=some (.ok (.int (wn (mf rest) R C:Nat)) .strong):=by
 have pa:=p32 u;have pb:=p32 q;have m:Rect (cs R).length (cs C).length (sub rest (cs R) (cs C)):=(by refine⟨by unfold sub;rw[d7],λ r d=>?_⟩;obtain⟨i,_,rfl⟩:=f9.mp d;rw[d7]);have c:W9 (sub rest (cs R) (cs C)):=λ r d x n=>by obtain⟨i,p,rfl⟩:=f9.mp d;obtain⟨j,o,rfl⟩:=f9.mp n;exact Y7 e h (P4 f p) (P4 g o)
 have z:=g8 (G:=G) (e7 (d5 y) (e7 (d5 w) (e7 (d5 v) g7))) rfl (uz (fu:=fu) (k:=k) rest a b R C e A Jy Jy B f E g);have l:=D0 (g8 (e7 z g7) rfl (uw _ _ _ m (e9 (cs5 R Jy) Jz) (e9 (cs5 C Jy) Jz) c));rw[uP]at l;unfold nD at l;rw[d7]at l;exact l
noncomputable def lnB:ge MS:=[.iff (.cmp .Eq (.bi .len [.call 11 [.call 2 [.var 3,.var 5,.var 6]]]) (.int 1)) [.dpp 4 [.var 5,.var 6] (.var 1)] [.set 7 false (.call 33 [.var 5,.var 6]),.dpp 4 [.var 5,.var 6] (.bi .min [.comp (.callv 4 [("joined_bits",30),("joined_ends",31)] [.dgp 5 (.var 2),.dgp 5 (.var 3)]) (.many [0,1,2,3]) (.var 7) [none,none,none,none,some 2,some 4]])]]
structure Jt where
 g:Nat
 j:Nat->Nat->Nat
 nm:Str
abbrev jE:Jt:=⟨1,λ a b=>a+b,"joined_ends"⟩
abbrev jB:Jt:=⟨0,λ a b=>1+max a b,"joined_bits"⟩
abbrev JOk(J:Jt):Prop:=J=jB\/J=jE
theorem Hc(h:JOk J)(e:δ[i]? = some (.val (.fn J.nm)))(c:evEs G (JK (k+1)) es δ=some (.ok [(.int a,.strong),(.int b,.strong)])):evE G (JK (k+1)) (.callv i [("joined_bits",30),("joined_ends",31)] es) δ=some (.ok (.int ((J.j a b:Nat):Int)) .strong):=by
 rcases h with rfl | rfl
 ·exact uM e rfl c rfl (GZ a b)
 refine uM e rfl c rfl ?_;rw[k8 rfl rfl];exact k5 (j9 (n6 (F7 (d5 (d:=.int a) rfl) (d5 (d:=.int b) rfl))))
def lnD(J:Jt)(t:DV)(rest:ge (ge Int))(L:Tb)(x y w:Sv):ge Sv:=[.val t,.val (.int J.g),.val (.fn J.nm),.val (tT rest),.od (dD L),x,y,w]
end k35
end
noncomputable section
namespace k35
open PySem L2
theorem gx{n:Nat}(h:JA e cx (.int n))(hn:n<=1000):evE G F (.bin .LShift (.int 1) e) δ=some (.ok (.int ((2^n:Nat):Int)) .strong):=B4 g6 h (by
 show(if 0<=_/\_<=1000000/\(1:Int).natAbs<2^64 then some (Re.ok _ .strong)else none)=_;rw[d8 ⟨by omega,by omega,by decide⟩,v5,Int.one_mul]
 congr 3)
def lnF:MS:=.fo (.one 6) (.rng [.int 1,.bin .LShift (.int 1) (.bi .len [.ix (.var 3) (.int 0)])]) lnB
theorem Hd:evS G F fu (.sep i) δ=some (.nx (δ.set i (.od (dD [])))):=rfl
theorem He(h:δ[i]? = some (.od (dD L))):evS G F fu (.retd i) δ=some (.rt (dC L) false):=by
 have a:evS G F fu (.retd i) δ=(match δ[i]? with
  | some (.od d)=>if isDc d then some (.rt _ false)else none
  | _=>none):=rfl
 rw[a,h];rfl
theorem lU(rows:ge (ge Int))(n m:Nat)(d:Rect n m rows)(e:0<n)(a:n<=60)(b:m<=60)(h1:(FI rows).length<=5)(h2:(JD).length<=5):run G T fu (k+5) 10 [tT rows]=some (.v .non false):=by
 rw[k8 rfl rfl];unfold sZ;have c:=g8 (G:=G) (δ:=j8 1 [tT rows]) (es:=[.var 0]) rfl rfl (GJ (fu:=fu) (k:=k) rows n m d e a b);have s:sm (FI rows).length (JD).length=true:=by unfold sm;rw[d6,D4,D4];omega
 rw[s]at c;have q:=fg c;exact pz (u4 (i4 q) rfl)
def rst(m:Nat)(rows:ge (ge Int)):ge (ge Int):=sub rows (FI rows) JD
theorem uQ:∀L:Tb,kvp? (L.map λ p=>kk p.1) (L.map λ p=>.int (p.2:Int))=some (L.map λ p=>(((p.1.1:Int),(p.1.2:Int)),(p.2:Int)))
 | []=>rfl
 | p::L=>by show(kvp? _ _).map _=_;rw[uQ L];rfl
noncomputable def tD(p:(Nat×Nat)×Nat):DV:=.tup [.int p.1.1,.int p.1.2,.int p.2]
theorem uR(L:Tb)(h:L≠[])(a:L.length<=100000):run G T fu (k+1) 27 [dC L]=some (.v (.lst (L.map tD)) true):=by
 rw[k8 rfl rfl];unfold tI;have w:k7 (evE G (JK k) (.itm (.var 0)) (j8 1 [dC L]))=some (.ok (L.map λ p=>.tup [.tup [.int p.1.1,.int p.1.2],.int p.2]) .strong):=by have b:evE G (JK k) (.itm (.var 0)) (j8 1 [dC L])=Re.thn (evE G (JK k) (.var 0) (j8 1 [dC L])) (λ x c=>itmD x c):=rfl;rw[b,d5 rfl,B3];show k7 (if Cl.strong=.strong/\(L.map λ p=>kk p.1).isEmpty=false then(kvp? _ _).map (λ l=>.ok _ .strong)else none)=_;rw[d8 ⟨rfl,by cases L with | nil=>exact absurd rfl h | cons _ _=>rfl⟩,uQ];show some _=_;rw[k6];rfl
 refine k5 (j9 (n6 (C3 w Jz (e9 a Jz) λ p hp=>?_)));refine⟨[.val _,.val _],.strong,rfl,?_,rfl⟩;exact W8 (e7 (o7 (cx:=.strong) (d5 rfl) (g6 (i:=0)) rfl) (e7 (o7 (cx:=.strong) (d5 rfl) (g6 (i:=1)) rfl) (e7 (d5 rfl) g7))) (le4m JN) rfl
theorem uS(xs:ge DV)(x:DV):ixD (.lst (xs++[x])) (.int (-1))=some x:=by
 show(A1 (xs++[x]).length (-1)).bind _=_;have e:A1 (xs++[x]).length (-1)=some xs.length:=by
  unfold A1;rw[e8 Jz,d8 (by rw[o5];simp;omega)];rw[o5]
  congr 1
  simp;omega
 rw[e,G5,S0 (f8 _),Nat.sub_self];rfl
theorem b_gt{G:Gs}{F:Nat->ge DV->on Ou}{δ:ge Sv}{a b:ME}{i j:Int}{cx cy:Cl}(ha:JA a cx (.int i))(hb:JA b cy (.int j)):evE G F (.cmp .Gt a b) δ=some (.ok (.bl (decide (j<i))) .strong):=A7 ha hb rfl
theorem cU(h1 : -(2^62)<j)(h2:j<2^62):Q5 i j=true:=by
 unfold Q5;have e1:(2:Int)^62=4611686018427387904:=Jz;have e2:(2:Int)^64=18446744073709551616:=Jz;rw[t8 (show -(2^64)<j by omega),t8 (show j<2^64 by omega)];rw[Bool.and_self,iK,iL]
abbrev sS(c n:Int)(xs:ge Int)(a b d e:Sv):ge Sv:=[.val (.int c),.val (.int n),.own (.lst (iD xs)),a,b,d,e]
theorem Hf(xs:ge Int)(x:Int):iD xs++[DV.int x]=iD (xs++[x]):=by unfold iD;rw[t5];rfl
noncomputable def s1:ge MS:=[.app 2 (.bin .Mod (.var 3) (.int 306783379)),.set 3 false (.bin .FloorDiv (.var 3) (.int 306783379))]
noncomputable def s2:ge MS:=[.set 5 false (.bin .Mod (.bin .Add (.bin .Add (.bin .Mult (.var 5) (.int 48271)) (.bin .Mult (.var 4) (.var 4))) (.int 11)) (.int 2147483647)),.set 6 false (.bin .Add (.bin .Add (.bin .Mult (.bin .FloorDiv (.var 5) (.int 977)) (.int 16807)) (.bin .Mult (.var 5) (.bin .Add (.bin .Mult (.var 4) (.var 4)) (.int 7)))) (.var 4)),.seti 2 (.var 4) (.bin .FloorDiv (.bin .Mod (.var 6) (.int 2147483587)) (.int 7))]
theorem Hg(c:Int)(n:Nat)(hn:n<=100):∃xs:ge Int,xs.length=n/\run G T fu (k+1) 39 [.int c,.int (n:Int)]=some (.v (.lst (iD xs)) true):=by
 rw[k8 (fd:=tQ) rfl rfl];have w:∀(xs:ge Int) (a b d e:Sv),k7 (evE G (JK k) (.rng [.var 1]) (sS c n xs a b d e))=some (.ok (upTo 0 n) .fresh):=λ xs a b d e=>Y4 (d5 rfl) Jy
 have U:∃g,m7 (.one 4) (λ g=>evSs G (JK k) fu s1 g) (upTo 0 n) (sS c n [] (JH c) .no .no .no)=some (.nx g)/\∃xs r b,xs.length=n/\g=sS c n xs (JH r) b .no .no:=(by refine U0 (i:=4) (I:=λ j s=>∃xs r b,xs.length=j/\s=sS c n xs (JH r) b .no .no) n 0 (λ j L s C=>?_) ⟨[],c,.no,rfl,rfl⟩;obtain⟨xs,r,b,m,rfl⟩:=C;refine⟨sS c n (xs++[r%306783379]) (JH (r/306783379)) (JH (0+(j:Int))) .no .no,?_,xs++[r%306783379],_,_,by rw[o5,m];rfl,rfl⟩;refine f6 (δ':=sS c n (xs++[r%306783379]) (JH r) (JH (0+(j:Int))) .no .no) ?_ (f6 (j4 (jq (d5 rfl) g6 Jz) rfl) rfl);have:=pA (fu:=fu) (G:=G) (F:=run G T fu k) (i:=2) (δ:=sS c n xs (JH r) (JH (0+(j:Int))) .no .no) (ds:=iD xs) rfl (B5 (d5 (n:=3) (d:=.int r) rfl) (g6 (i:=306783379)) Jz) rfl (by unfold iD;rw[d7,m];exact q9 (show j<1000 by omega) Jz);rw[Hf]at this;exact this);obtain⟨g,O,xs,r,b,K,rfl⟩:=U;have y:=b_gt (G:=G) (F:=run G T fu k) (δ:=sS c n xs (JH r) b .no .no) (d5 (n:=3) (d:=.int r) rfl) (g6 (i:=0));by_cases z:0<r
 ·rw[t8 z]at y;exact⟨xs,K,k5 (f6 (O6 (d:=.lst []) rfl) (f6 (j4 (d5 rfl) rfl) (F0 (w [] _ _ _ _) (.inr rfl) O (W7 (i4 y) (j9 (n6 (cl:=.top) (N0 rfl)))))))⟩
 ·rw[x4 z]at y;have S:∃g,m7 (.one 4) (λ g=>evSs G (JK k) fu s2 g) (upTo 0 n) (sS c n xs (JH r) b (JH (c%2147483647+48271)) .no)=some (.nx g)/\∃xs b q e,xs.length=n/\g=sS c n xs (JH r) b q e:=by
   have:=U0 (i:=4) (body:=λ g=>evSs G (JK k) fu s2 g) (I:=λ _ s=>∃xs b q e,xs.length=n/\s=sS c n xs (JH r) b (JH q) e) n 0 (λ j L s C=>?_) (δ:=sS c n xs (JH r) b (JH (c%2147483647+48271)) .no) ⟨xs,b,_,.no,K,rfl⟩
   ·obtain⟨g,M,h,B,q,o,m,Z⟩:=this;exact⟨g,M,h,B,_,o,m,Z⟩
   ·obtain⟨h,B,q,o,m,rfl⟩:=C;rw[Int.zero_add];have N:(2:Int)^62=4611686018427387904:=Jz;have jj:((j:Int)*(j:Int))<=10000:=by
     have M:j*j<=100*100:=ai Jy Jy;have:((j*j:Nat):Int)<=10000:=by omega
     rw[Int.natCast_mul]at this;exact this
    have j0:0<=(j:Int)*(j:Int):=Int.mul_nonneg (z9 j) (z9 j);obtain⟨D,x⟩:∃D,sS c n h (.val (.int r)) (.val (.int (j:Int))) (.val (.int q)) o=D:=⟨_,rfl⟩;have H:evE G (JK k) (.var 4) D=some (.ok (.int (j:Int)) .strong):=by rw[←x];exact d5 rfl
    have R:evE G (JK k) (.var 5) D=some (.ok (.int q) .strong):=by rw[←x];exact d5 rfl
    have Q:=B5 (F7 (F7 (Q8 R (g6 (i:=48271)) (cU Jy Jy)) (Q8 H H (cU Jy Jy))) (g6 (i:=11))) (g6 (i:=2147483647)) Jz;obtain⟨p,Y⟩:∃p,(q*48271+(j:Int)*(j:Int)+11)%2147483647=p:=⟨_,rfl⟩;rw[Y]at Q;obtain⟨v,l⟩:∃v,sS c n h (.val (.int r)) (.val (.int (j:Int))) (.val (.int p)) o=v:=⟨_,rfl⟩;have A:evE G (JK k) (.var 4) v=some (.ok (.int (j:Int)) .strong):=by rw[←l];exact d5 rfl
    have E:evE G (JK k) (.var 5) v=some (.ok (.int p) .strong):=by rw[←l];exact d5 rfl
    have P:=F7 (F7 (Q8 (jq E (g6 (i:=977)) Jz) (g6 (i:=16807)) (cU Jy Jy)) (Q8 E (F7 (Q8 A A (cU Jy Jy)) (g6 (i:=7))) (cU Jy Jy))) A;obtain⟨u,X⟩:∃u,p/977*16807+p*((j:Int)*(j:Int)+7)+(j:Int)=u:=⟨_,rfl⟩;rw[X]at P;refine⟨sS c n (h.set j (u%2147483587/7)) (JH r) (JH (j:Int)) (JH p) (JH u),?_,h.set j (u%2147483587/7),_,_,_,by rw[B0];exact m,rfl⟩;show evSs G (JK k) fu s2 (sS c n h (JH r) (JH (j:Int)) (JH q) o)=_;rw[x];refine f6 (δ':=v) (by rw[j4 Q rfl,←x,←l];rfl) (f6 (δ':=sS c n h (JH r) (JH (j:Int)) (JH p) (JH u)) (by rw[j4 P rfl,←l];rfl) (f6 ?_ rfl));have J:=pB (fu:=fu) (G:=G) (F:=run G T fu k) (i:=2) (k:=.var 4) (δ:=sS c n h (JH r) (JH (j:Int)) (JH p) (JH u)) (ds:=iD h) (j:=j) rfl (jq (B5 (d5 (n:=6) (d:=.int u) rfl) (g6 (i:=2147483587)) Jz) (g6 (i:=7)) Jz) (d5 rfl) rfl (lG (by unfold iD;rw[d7,m];exact L));have es:(iD h).set j (DV.int (u%2147483587/7))=iD (h.set j (u%2147483587/7)):=by unfold iD;rw[List.map_set]
    rw[es]at J;exact J
  obtain⟨g,N,h,B,q,o,W,rfl⟩:=S;exact⟨h,W,k5 (f6 (O6 (d:=.lst []) rfl) (f6 (j4 (d5 rfl) rfl) (F0 (w [] _ _ _ _) (.inr rfl) O (u4 (i4 y) (f6 (j4 (F7 (B5 (d5 rfl) g6 Jz) g6) rfl) (F0 (w xs _ _ _ _) (.inr rfl) N (j9 (n6 (cl:=.top) (N0 rfl)))))))))⟩
theorem lV(c:Int)(n:Nat)(a:n<=100):∃xs:ge Int,xs.length=n/\run G T fu (k+1) 39 [.int c,.int n]=some (.v (.lst (xs.map DV.int)) true):=Hg c n a
end k35
end
noncomputable section
namespace k35
open PySem L2
variable {fu k:Nat} {F:Nat->ge DV->on Ou} {δ:ge Sv} {ds:ge DV} {cl:Cl} {n m:Nat} {f:Nat->Nat->Int} {d:DV}
def Look(d:DV)(n m:Nat)(f:Nat->Nat->Int):Prop:=∀i,i<n->∃x,ixD d (.int (i:Int))=some x/\∀j,j<m->ixD x (.int (j:Int))=some (.int (f i j))
noncomputable def at2(rows:ge (ge Int))(i j:Nat):Int:=(rows.getD i []).getD j 0
theorem Hh(R:Rect n m rows)(h:i<n):(rows.getD i []).length=m:=R.2 _ (B9 (by rw[R.1];exact h))
theorem Hi(R:Rect n m rows):Look (tT rows) n m (at2 rows):=λ i a=>⟨_,P3 (by rw[R.1];exact a),λ j b=>cP (by rw[Hh R a];exact b)⟩
theorem cV{i j:Nat}(L:Look d n m f)(l:evE G F a δ=some (.ok d .strong))(k:JA b r (.int (i:Int)))(h:JA e q (.int (j:Int)))(g:i<n)(c:j<m):evE G F (.ix (.ix a b) e) δ=some (.ok (.int (f i j)) .strong):=by
 obtain⟨x,p,o⟩:=L i g;exact o7 (o7 l k p) h (o j c)
theorem b_ne(d:JA a cx (.int i))(c:JA b cy (.int j)):evE G F (.cmp .NotEq a b) δ=some (.ok (.bl (i != j)) .strong):=A7 d c rfl
theorem Hj(ds:ge DV)(h:Nat):cutD ds (some (h:Int)) none=ds.drop h:=by
 unfold cutD slIx;dsimp only;rw[e8 Jy,v5];by_cases q:h<=ds.length
 ·rw[br q,dt (by grind)]
 ·rw[iq Jy,io,List.take_nil,nK Jy]
theorem uT(ds:ge DV)(h:Nat):cutD ds none (some (h:Int))=ds.take h:=by
 unfold cutD slIx;dsimp only;rw[e8 Jy,v5,eB,Nat.sub_zero];by_cases q:h<=ds.length
 ·rw[br q]
 ·rw[iq Jy,List.take_length,dt Jy]
theorem lX{h:Nat}(e:JA a c (.lst ds))(d:JA b c1 (.int (h:Int))):evE G F (.slf a b) δ=some (.ok (.lst (ds.drop h)) (Cl.anew c c)):=by
 show Re.thn _ _=_;rw[e,B3];show Re.thn _ _=_;rw[d,B3,←Hj];rfl
theorem lY{h:Nat}(e:JA a c (.lst ds))(d:JA b c1 (.int (h:Int))):evE G F (.slt a b) δ=some (.ok (.lst (ds.take h)) (Cl.anew c c)):=by
 show Re.thn _ _=_;rw[e,B3];show Re.thn _ _=_;rw[d,B3,←uT];rfl
theorem Y8(d:JA a cx (.lst x))(c:JA b cy (.lst y))(h:x.length+y.length<=1000):evE G F (.bin .Add a b) δ=some (.ok (.lst (x++y)) (Cl.anew cx cy)):=
 B4 d c (d8 (e9 h Jz))
variable {fu k:Nat} {F:Nat->ge DV->on Ou} {δ:ge Sv} {ds:ge DV} {cl:Cl} {n m:Nat} {f:Nat->Nat->Int} {d:DV}
variable {rows:ge (ge Int)}
theorem Hk(rows:ge (ge Int)):(FI rows).Pairwise (· < ·):=by
 unfold FI;exact(dm).sublist List.filter_sublist
variable {fu k:Nat} {F:Nat->ge DV->on Ou} {δ:ge Sv} {ds:ge DV} {cl:Cl} {n m:Nat} {f:Nat->Nat->Int} {d:DV} {rows:ge (ge Int)}
theorem Hl(i:Nat)(rows:ge (ge Int))(n m:Nat)(R:Rect n m rows)(g:0<n)(f:n<=8)(a:m<=8)(d:δ[i]? = some (.val (rL rows))):evE G F (.comp (.comp (.ix (.var 0) (.var 1)) (.one 0) (.var 1) [none,some 0]) (.one 0) (.rng [.bi .len [.ix (.var i) (.int 0)]]) [none,some i]) δ=some (.ok (rL JF) .fresh):=by
 have c:0<rows.length:=by rw[R.1];exact g
 have b:δ.getD i .no=.val (rL rows):=by rw[p5,d];rfl
 have e:=C3 (tg:=.one 0) (fr:=[none,some i]) ((by have t:=D0 (o7 (d5 d) (g6 (F:=F) (i:=0)) (show ixD _ _=some (.lst _)from cQ c));rw[show(iD _).length=m by unfold iD;rw[d7];exact R.2 _ (B9 c)]at t;rw[Y4 t Jy,ud];rfl)) Jz (by rw[o9];exact e9 a Jz) λ j h=>by refine⟨[.val _,.val _],.fresh,?_,GG rows m j R.2 (i6.mp h) (by rw[R.1];omega),rfl⟩;show some _=_;unfold u0;simp only[t9,bz,b];rfl
 rw[e];unfold rL flip;rw[k6];rfl
theorem lZ:∀{l:ge (ge Int)} {j:Nat},l[j]? = some a->l.idxOf a<=j
 | [],j,h=>by simp at h
 | x::l,0,h=>by
  have:x=a:=by simpa using h
  subst this;rw[List.idxOf_cons_self];exact f8 _
 | x::l,j+1,h=>by
  rw[nz]at h;have q:=lZ h;rw[List.idxOf_cons];cases x==a with
  | true=>exact v9 _
  | false=>show l.idxOf a+1<=j+1;omega
theorem Hm(hl:h<rows.length)(e:evE G F a δ=some (.ok (tT rows) .strong))(c:JA b c1 (.int (h:Int))):evE G F (.slt a b) δ=some (.ok (.tup ((rows.take h).map λ r=>.tup (iD r))) .strong):=by
 show Re.thn _ _=_;rw[e,B3];show Re.thn _ _=_;rw[c,B3];show((if slIx (rows.map λ r=>DV.tup (iD r)).length 0 none=0/\slIx (rows.map λ r=>DV.tup (iD r)).length (rows.map λ r=>DV.tup (iD r)).length _=(rows.map λ r=>DV.tup (iD r)).length then none else some _).map λ d=>Re.ok d _)=_;rw[e8,uT,←T3]
 ·rfl
 ·rintro⟨_,q⟩
  unfold slIx at q;dsimp only at q;rw[e8 Jy,v5,d7]at q;omega
theorem gy{n:Nat}(h:JA e c (.int (n:Int)))(a:n<=1000):k7 (evE G F (.rng [e]) δ)=some (.ok ((JJ n).map λ (j:Nat)=>DV.int (j:Int)) .fresh):=by
 rw[Y4 h a,ud];rfl
theorem Hn{F:Nat->ge DV->on Ou}{δ:ge Sv}{e:ME}{r:ge Int}{c:Cl}(h:evE G F e δ=some (.ok (.tup (iD r)) .strong)):evE G F (.bi .list [e]) δ=some (.ok (.lst (iD r)) .fresh):=by
 show Rs.thn (evEs G F [e] δ) (λ l=>eV l)=_;rw[e7 h g7];rfl
theorem ma(h:j<m):(JF).getD j []=col rows j:=by
 unfold flip;rw[p5,o8,dB h];rfl
theorem E5:(JF).length=m:=by unfold flip;rw[d7,o9]
variable {fu k:Nat} {F:Nat->ge DV->on Ou} {δ:ge Sv} {ds:ge DV} {cl:Cl} {n m:Nat} {f:Nat->Nat->Int} {d:DV} {rows:ge (ge Int)}
theorem add1{i:Nat}(h:JA e c (.int (i:Int))):evE G F (.bin .Add e (.int 1)) δ=some (.ok (.int ((i+1:Nat):Int)) .strong):=by
 rw[show(((i+1:Nat)):Int)=_+1 by push_cast;rfl];exact F7 h g6
variable {fu k:Nat} {F:Nat->ge DV->on Ou} {δ:ge Sv} {ds:ge DV} {cl:Cl} {n m:Nat} {f:Nat->Nat->Int} {d:DV} {rows:ge (ge Int)}
theorem or_f{F:Nat->ge DV->on Ou}{δ:ge Sv}{G:Gs}{a b:ME}{r:ge ME}{cx:Cl}{o:on Re}(ha:JA a cx (.bl false))(hb:evE G F (.or (b::r)) δ=o):evE G F (.or (a::b::r)) δ=o:=by
 show Re.thn (evE G F a δ) (λ x c=>orD x c (evE G F (.or (b::r)) δ))=o;rw[ha];exact hb
theorem or_1{F:Nat->ge DV->on Ou}{δ:ge Sv}{G:Gs}{a:ME}{o:on Re}(ha:evE G F a δ=o):evE G F (.or [a]) δ=o:=by
 exact ha
variable {fu k:Nat} {F:Nat->ge DV->on Ou} {δ:ge Sv} {ds:ge DV} {cl:Cl} {n m:Nat} {f:Nat->Nat->Int} {d:DV} {rows:ge (ge Int)}
def Few(L:ge (ge Int)):Prop:=∃S:ge (ge Int),S.length<=5/\∀r∈L,r∈S
theorem uU{b:Type}[BEq b][LawfulBEq b]:∀{l S:ge b},l.Nodup->(∀x∈l,x∈S)->l.length<=S.length
 | [],_,_,_=>v9 _
 | a::l,S,h,hs=>by
  obtain⟨g,f⟩:=L0.mp h;have c:=hs a (i5 ..);have q:=uU (S:=S.erase a) f λ x d=>(gZ (λ e=>g (by grind))).mpr (hs x (i7 _ d))
  rw[gQ c]at q;have:=V4 c;rw[n7];omega
theorem uV(h:Few rows):(FI rows).length<=5:=by
 obtain⟨S,h1,k⟩:=h;have q:((FI rows).map λ r=>rows.getD r []).length<=S.length:=by
  refine uU ?_ λ x c=>?_
  ·rw[List.nodup_iff_pairwise_ne,List.pairwise_map];refine List.Pairwise.imp_of_mem (λ {a b} j g d=>?_) (Hk rows);intro e;have l:=M4 (j2.mp j).2;have e2:=M4 (j2.mp g).2;rw[e]at l;omega
  ·obtain⟨i,f,rfl⟩:=f9.mp c;exact k _ (B9 (F4 f))
 rw[d7]at q;omega
theorem uW(h:rows.length<=5):Few rows:=⟨rows,h,λ _ a=>a⟩
noncomputable def ins(a s:Nat)(l:ge Int):ge Int:=l.take a++[l.getD s 0]++l.drop a
theorem Ho:(ins a s l).length=l.length+1:=by
 unfold ins;rw[o5,o5,E6,S9,N8];omega
noncomputable def src(a s j:Nat):Nat:=if j<a then j else if j=a then s else j - 1
theorem oC(ha:a<=l.length):(ins a s l).getD j 0=l.getD (src a s j) 0:=by
 unfold ins src;simp only[p5];have lt:(l.take a).length=a:=by rw[E6];omega
 by_cases b:j<a
 ·rw[d8 b,P6 (by rw[o5,lt,N8];omega),P6 (by rw[lt];exact b),aZ b]
 ·rw[e8 b];by_cases c:j=a
  ·rw[d8 c,P6 (by rw[o5,lt,N8];omega),S0 (by rw[lt];omega),lt,c,Nat.sub_self];rfl
  ·rw[e8 c,S0 (by rw[o5,lt,N8];omega),o5,lt,N8,bo]
   congr 2
   omega
noncomputable def insR(a s:Nat)(rows:ge (ge Int)):ge (ge Int):=rows.take a++[rows.getD s []]++rows.drop a
structure Tk(n m:Nat)(rows:List (List Int)):Prop where
 n0:0<n
 n8:n<=8
 m0:0<m
 m8:m<=8
 R:Rect n m rows
 fr:Few rows
 fc:Few JF
 w9:W9 rows
theorem Tk.row(t:Tk n m rows)(hn:n<8)(ha:a<=n)(d:s<n):Tk (n+1) m (insR a s rows):=by
 have c:∀r∈insR a s rows,r∈rows:=λ r b=>by
  unfold insR at b;rcases A5.mp b with q | q
  ·rcases A5.mp q with q | q
   ·exact dv q
   ·rw[r9.mp q];exact B9 (by rw[t.R.1];exact d)
  ·exact dw q
 refine⟨by omega,by omega,t.m0,t.m8,⟨?_,λ r b=>t.R.2 r (c r b)⟩,?_,?_,λ r b=>t.w9 r (c r b)⟩
 ·unfold insR;rw[o5,o5,E6,S9,N8,t.R.1];omega
 ·obtain⟨S,f,e⟩:=t.fr;exact⟨S,f,λ r b=>e r (c r b)⟩
 ·obtain⟨S,f,e⟩:=t.fc;refine⟨S.map (ins a s),by rw[d7];exact f,λ r b=>?_⟩;obtain⟨j,g,rfl⟩:=f9.mp b;refine f9.mpr ⟨col rows j,e _ (f9.mpr ⟨j,g,rfl⟩),?_⟩;unfold col ins insR;rw[t5,t5,T3,eF]
  congr 2
  rw[p5,o8,j6 (by rw[t.R.1];exact d),List.map_singleton,p5 (l:=rows),j6 (by rw[t.R.1];exact d)];rfl
theorem Tk.colm(t:Tk n m rows)(hm:m<8)(o:a<=m)(i:s<m):Tk n (m+1) (rows.map (ins a s)):=by
 refine⟨t.n0,t.n8,by omega,by omega,⟨by rw[d7,t.R.1],λ r c=>?_⟩,?_,?_,λ r c x h=>by
  obtain⟨d,b,rfl⟩:=f9.mp c;refine t.w9 d b x ?_;unfold ins at h;rcases A5.mp h with q | q
  ·rcases A5.mp q with q | q
   ·exact dv q
   ·rw[r9.mp q];exact lT (by rw[t.R.2 d b];exact i)
  ·exact dw q⟩
 ·obtain⟨d,b,rfl⟩:=f9.mp c;rw[Ho,t.R.2 d b]
 ·obtain⟨S,g,f⟩:=t.fr;refine⟨S.map (ins a s),by rw[d7];exact g,λ r c=>?_⟩;obtain⟨d,b,rfl⟩:=f9.mp c;exact f9.mpr ⟨d,f d b,rfl⟩
 ·obtain⟨S,g,f⟩:=t.fc;refine⟨S,g,λ r c=>?_⟩;obtain⟨j,l,rfl⟩:=f9.mp c;have k:=i6.mp l;have e:col (rows.map (ins a s)) j=col rows (src a s j):=by unfold col;rw[k6];apply D2;intro r c;exact oC (by rw[t.R.2 r c];exact o)
  rw[e];refine f _ (f9.mpr ⟨src a s j,i6.mpr ?_,rfl⟩);unfold src;split
  ·omega
  ·split<;>omega
theorem md{F:Nat->ge DV->on Ou}{δ:ge Sv}{elt eo ei:ME}{fi fo:ge (on Nat)}{g:Nat->Nat->Int}(hn:evE G F eo δ=some (.ok (.int (n:Int)) .strong))(n5:n<=8)(m5:m<=8)(ho:∀r,r<n->∃δ1,(Tg.one 0).bind (.int (r:Int)) (u0 fo δ)=some δ1/\evE G F ei δ1=some (.ok (.int (m:Int)) .strong)/\∀c,c<m->∃δ2,(Tg.one 0).bind (.int (c:Int)) (u0 fi δ1)=some δ2/\evE G F elt δ2=some (.ok (.int (g r c)) .strong)) :
  evE G F (.comp (.comp elt (.one 0) (.rng [ei]) fi) (.one 0) (.rng [eo]) fo) δ=some (.ok (rL ((JJ n).map λ r=>(JJ m).map (g r))) .fresh):=by
 have e:=C3 (l:=List.range n) (h:=λ (j:Nat)=>DV.int (j:Int)) (f:=λ r=>.lst (iD ((JJ m).map (g r)))) (elt:=.comp elt (.one 0) (.rng [ei]) fi) (tg:=.one 0) (fr:=fo) (gy hn Jy) Jz (by rw[o9];exact e9 n5 Jz) λ r hr=>by
  obtain⟨δ1,h1,h2,h3⟩:=ho r (i6.mp hr);refine⟨δ1,.fresh,h1,?_,rfl⟩;have q:=C3 (F:=F) (δ:=δ1) (l:=List.range m) (h:=λ (j:Nat)=>DV.int (j:Int)) (f:=λ c=>.int (g r c)) (elt:=elt) (tg:=.one 0) (fr:=fi) (gy h2 Jy) Jz (by rw[o9];exact e9 m5 Jz) λ c hc=>by obtain⟨δ2,h4,h5⟩:=h3 c (i6.mp hc);exact⟨δ2,.strong,h4,h5,rfl⟩
  rw[q];unfold iD;rw[k6];rfl
 rw[e];unfold rL;rw[k6];rfl
theorem me(g:Nat->Nat->Int):Rect n m ((JJ n).map λ r=>(JJ m).map (g r)):=by
 refine⟨by rw[d7,o9],λ r a=>?_⟩;obtain⟨i,_,rfl⟩:=f9.mp a;rw[d7,o9]
theorem uX(h:JA e c (.bl b)):evE G F (.bi .int [e]) δ=some (.ok (.int (if b then 1 else 0)) .strong):=by
 show Rs.thn _ _=_;rw[e7 h g7];rfl
theorem top4(x:Int):∃a:Int,0<a/\a<=10/\ixD (.lst [.int 2,.int 3,.int 10,.int 2]) (.int (x%4))=some (.int a):=by
 have:x%4=0\/x%4=1\/x%4=2\/x%4=3:=by omega
 rcases this with h | h | h | h<;>rw[h]
 ·exact⟨2,by decide,by decide,rfl⟩
 ·exact⟨3,by decide,by decide,rfl⟩
 ·exact⟨10,by decide,by decide,rfl⟩
 ·exact⟨2,by decide,by decide,rfl⟩
theorem Hq(x:Int):∃a:Int,0<a/\a<=5/\ixD (.lst [.int 4,.int 4,.int 4,.int 4,.int 4,.int 4,.int 4,.int 5]) (.int (x%8))=some (.int a):=by
 have:x%8=0\/x%8=1\/x%8=2\/x%8=3\/x%8=4\/x%8=5\/x%8=6\/x%8=7:=by omega
 rcases this with h | h | h | h | h | h | h | h<;>rw[h]
 ·exact⟨4,by decide,by decide,rfl⟩
 ·exact⟨4,by decide,by decide,rfl⟩
 ·exact⟨4,by decide,by decide,rfl⟩
 ·exact⟨4,by decide,by decide,rfl⟩
 ·exact⟨4,by decide,by decide,rfl⟩
 ·exact⟨4,by decide,by decide,rfl⟩
 ·exact⟨4,by decide,by decide,rfl⟩
 ·exact⟨5,by decide,by decide,rfl⟩
variable {fu k:Nat} {F:Nat->ge DV->on Ou} {δ:ge Sv} {ds:ge DV} {cl:Cl} {n m:Nat} {f:Nat->Nat->Int} {d:DV} {rows:ge (ge Int)}
theorem P5{xs:ge Int}{i:Int}(c:0<=i)(h:i<xs.length):∃v,∀{F:Nat->ge DV->on Ou} {δ:ge Sv} {e:ME},evE G F e δ=some (.ok (.lst (xs.map DV.int)) .strong)->evE G F (.ix e (.int i)) δ=some (.ok (.int v) .strong):=by
 obtain⟨v,a⟩:=pC c h;exact⟨v,λ b=>o7 b g6 a⟩
abbrev Sc(ns xs:ge Int)(mo:Int)(n m:Nat)(tp:Int)(x y z:Sv):ge Sv:=[.val (.scr ns),.val (.int 2),.val (.lst (xs.map DV.int)),.val (.int mo),.val (.int n),.val (.int m),.val (.int tp),x,y,z]
theorem mh{g:Nat->Nat->Int}(h:∀r c,0<=g r c/\g r c<=9):W9 ((JJ n).map λ r=>(JJ m).map (g r)):=λ r b x a=>by
 obtain⟨i,_,rfl⟩:=f9.mp b;obtain⟨j,_,rfl⟩:=f9.mp a;exact h i j
theorem Hr(h:∀x∈ws,0<=x/\x<=9):W9 (R6 n m ws):=λ r b x a=>by
 obtain⟨i,_,rfl⟩:=f9.mp b;exact h x (dw (dv a))
theorem Hs(ns:ge Int)(hns:ns.length<=63)(xs:ge Int)(u:xs.length=24):∃(n m:Nat) (rows:ge (ge Int)),0<n/\n<=5/\0<m/\m<=5/\Rect n m rows/\W9 rows/\run G T fu (k+2) 40 [.scr ns,.int 2,.lst (xs.map DV.int)]=some (.v (rL rows) false):=by
 obtain⟨v1,c1⟩:=lD (fu:=fu) (k:=k) ns 1;obtain⟨a0,h0⟩:=P5 (xs:=xs) (i:=0) Jy (by rw[u];omega);obtain⟨P,h1⟩:=P5 (xs:=xs) (i:=1) Jy (by rw[u];omega);obtain⟨O,h2⟩:=P5 (xs:=xs) (i:=2) Jy (by rw[u];omega);obtain⟨a3,N⟩:=P5 (xs:=xs) (i:=3) Jy (by rw[u];omega);obtain⟨C,h4⟩:=P5 (xs:=xs) (i:=4) Jy (by rw[u];omega);obtain⟨Z,h5⟩:=P5 (xs:=xs) (i:=5) Jy (by rw[u];omega);obtain⟨p,w,mo5,X⟩:=Hq a0;obtain⟨l,B,a6,L⟩:=top4 a3;have m9:∀x:Int,0<=x%l/\x%l<=9:=λ x=>⟨eu x Jy,by have:=dM x B;omega⟩
 have b1:=eu P (b:=p) Jy;have b2:=dM P (b:=p) w;have b3:=eu O (b:=p) Jy;have b4:=dM O (b:=p) w;obtain⟨n,hn⟩:∃n:Nat,1+P%p=(n:Int):=⟨(1+P%p).toNat,by omega⟩;obtain⟨m,hm⟩:∃m:Nat,1+O%p=(m:Int):=⟨(1+O%p).toNat,by omega⟩;have U:n<=5:=by omega
 have m5:m<=5:=by omega
 have nm:n*m<=25:=ai U m5;obtain⟨v,J,R⟩:=lV (fu:=fu) (k:=k) v1 (n*m) Jy;have H:Q5 (n:Int) (m:Int)=true:=by unfold Q5;simp;omega
 have cm:=zA (G:=G) (F:=run G T fu (k+1)) (δ:=(Sc ns xs p n m l .no .no .no)) (elt:=.bin .Mod (.var 0) (.var 1)) (tg:=.one 0) (fr:=[none,some 6]) (f:=λ d=>match d with | .int x=>.int (x%l) | d=>d) (ds:=v.map DV.int) (cl:=.fresh)
  (by
   have q:=g8 (G:=G) (F:=run G T fu (k+1)) (δ:=(Sc ns xs p n m l .no .no .no)) (f:=39) (e7 (g8 (f:=38) (e7 (d5 (n:=0) (d:=.scr ns) rfl) (e7 (g6 (i:=1)) g7)) rfl c1) (e7 (Q8 (d5 (n:=4) (d:=.int n) rfl) (d5 (n:=5) (d:=.int m) rfl) H) g7)) rfl (by rw[show((n:Int)*(m:Int))=((n*m:Nat):Int) by push_cast;rfl];exact R);rw[q];rfl) Jz (by rw[d7,J];exact e9 nm Jz) (λ d hd=>by
   obtain⟨x,u,rfl⟩:=f9.mp hd;exact⟨[.val (.int x),.val (.int l)],rfl,B5 (d5 rfl) (d5 rfl) B⟩)
 rw[k6,show((λ d=>match d with | DV.int x=>DV.int (x%l) | d=>d) ∘ DV.int)=DV.int ∘ (λ x:Int=>x%l)from rfl,←k6]at cm;obtain⟨b,hb,hb1,hb2⟩:∃b:Int,(if(ns.length:Int) - 2<(n:Int)*m then(ns.length:Int) - 2 else(n:Int)*m)=b/\b<=((n*m:Nat):Int)/\b<=(ns.length:Int) - 2:=by refine⟨_,rfl,?_,?_⟩<;>split<;>push_cast<;>omega
 have Y : -1000<=b:=(by rw[←hb];have:(0:Int)<=(n:Int)*m:=Int.mul_nonneg (z9 n) (z9 m);split<;>omega);obtain⟨δ1,l1,o,z,K,A,rfl⟩:=U0 (i:=8) (I:=λ _ δ=>∃(o:ge Int) (z:Sv),o.length=n*m/\(∀x∈o,0<=x/\x<=9)/\δ=(Sc ns xs p n m l (.own (.lst (o.map DV.int))) z .no))
  (body:=λ Q=>evSs G (JK (k+1)) fu [.seti 7 (.var 8) (.bin .Mod (.ix (.var 0) (.bin .Add (.var 1) (.var 8))) (.var 6))] Q) b.toNat 0
  (λ j hj δ I=>by
   obtain⟨o,z,K,A,rfl⟩:=I;rw[show(0:Int)+(j:Int)=j by omega];have N:2+j<ns.length:=by omega
   have hv:ixD (.scr ns) (.int (2+(j:Int)))=some (.int ns[2+j]):=(by rw[show(2:Int)+(j:Int)=((2+j:Nat):Int) by push_cast;rfl];show((A1 ns.length ((2+j:Nat):Int)).bind λ j=>ns[j]?).map DV.int=_;rw[lG N,G5,j6 N];rfl);refine⟨_,f6 (pB (d:=.int (ns[2+j]%l)) (cl:=.strong) (n:=j) (cx:=.strong) (j:=j) rfl (B5 (o7 (d5 rfl) (F7 (d5 rfl) (d5 rfl)) hv) (d5 rfl) B) (d5 rfl) rfl (lG (by rw[d7,K];omega))) rfl,o.set j (ns[2+j]%l),.val (.int j),by rw[B0];exact K,λ x u=>(List.mem_or_eq_of_mem_set u).elim (A x) (λ e=>e▸m9 _),?_⟩;rw[List.map_set];rfl) ⟨v.map λ x=>x%l,.no,by rw[d7];exact J,λ x u=>by obtain⟨y,_,rfl⟩:=f9.mp u;exact m9 y,rfl⟩
 have em:evE G (JK (k+1)) (.bi .min [.bin .Mult (.var 4) (.var 5),.bin .Sub (.bi .len [.var 0]) (.var 1)]) (Sc ns xs p n m l (.own (.lst ((v.map λ x=>x%l).map DV.int))) .no .no)=some (.ok (.int b) .strong):=(by have e1:evE G (JK (k+1)) (.bi .len [.var 0]) (Sc ns xs p n m l (.own (.lst ((v.map λ x=>x%l).map DV.int))) .no .no)=some (.ok (.int ns.length) .strong):=rfl;rw[tU (e7 (Q8 (d5 (n:=4) (d:=.int n) rfl) (d5 (n:=5) (d:=.int m) rfl) H) (e7 (az e1 (d5 (n:=1) (d:=.int 2) rfl)) g7)),←hb];rfl);have rt:=Gv (F:=run G T fu (k+1)) (δ:=(Sc ns xs p n m l (.own (.lst (o.map DV.int))) z .no)) (elt:=.sl (.var 1) (.bin .Mult (.var 0) (.var 2)) (.bin .Add (.bin .Mult (.var 0) (.var 2)) (.var 2))) (tg:=.one 0) (it:=.rng [.var 4]) (fr:=[none,some 7,some 5]) (f:=λ d=>match d with | .int j=>.lst (iD ((o.drop (j.toNat*m)).take m)) | d=>d) (ds:=upTo 0 n) (cl:=.fresh)
  (Y4 (d5 rfl) Jy) Jz (by unfold L2.upTo;rw[d7,o9];exact e9 U Jz) (λ d hd=>by
   obtain⟨j,hj,rfl⟩:=pv hd;rw[show(0:Int)+(j:Int)=j by omega];have E:Q5 (j:Int) (m:Int)=true:=by unfold Q5;simp;omega
   refine⟨[.val (.int j),.own (.lst (iD o)),.val (.int m)],.fresh,rfl,?_,rfl⟩;show _=some (Re.ok (.lst (iD ((o.drop ((j:Int).toNat*m)).take m))) .fresh);rw[v5,←Gz K hj];exact Gy (N0 rfl) (Q8 (d5 rfl) (d5 rfl) E) (F7 (Q8 (d5 rfl) (d5 rfl) E) (d5 rfl)))
 have hf:(upTo 0 n).map (λ d=>match d with | .int j=>DV.lst (iD ((o.drop (j.toNat*m)).take m)) | d=>d)=(R6 n m o).map λ r=>.lst (iD r):=by unfold L2.upTo R6;rw[k6,k6];apply D2;intro j _;show DV.lst (iD ((o.drop (((0:Int)+(j:Int)).toNat*m)).take m))=_;rw[show((0:Int)+(j:Int)).toNat=j by omega];rfl
 rw[hf]at rt
 let D:DV->ge Sv:=λ r=>(Sc ns xs p n m l (.own (.lst (o.map DV.int))) z (.val r))
 have g1:∀r,evE G (JK (k+1)) (.comp (.comp (.bi .int [.cmp .Eq (.var 1) (.var 0)]) (.one 0) (.rng [.var 1]) [none,some 0]) (.one 0) (.rng [.var 4]) [none,some 5]) (D r)=some (.ok (rL ((JJ n).map λ (r:Nat)=>(JJ m).map λ (c:Nat)=>if((r:Int)==(c:Int))then(1:Int)else 0)) .fresh):=λ r=>
  md (n:=n) (m:=m) (g:=λ (r c:Nat)=>if((r:Int)==(c:Int))then 1 else 0) (d5 rfl) Jy Jy λ r hr=>⟨[.val (.int (r:Int)),.val (.int (m:Int))],rfl,d5 rfl,λ c hc=>⟨[.val (.int (c:Int)),.val (.int (r:Int))],rfl,uX (b_eq (d5 rfl) (d5 rfl))⟩⟩
 have g2:∀r,evE G (JK (k+1)) (.comp (.comp (.bi .int [.cmp .Lt (.var 1) (.var 0)]) (.one 0) (.rng [.var 1]) [none,some 0]) (.one 0) (.rng [.var 4]) [none,some 5]) (D r)=some (.ok (rL ((JJ n).map λ (r:Nat)=>(JJ m).map λ (c:Nat)=>if decide ((r:Int)<(c:Int))then(1:Int)else 0)) .fresh):=λ r=>
  md (n:=n) (m:=m) (g:=λ (r c:Nat)=>if decide ((r:Int)<(c:Int))then 1 else 0) (d5 rfl) Jy Jy λ r hr=>⟨[.val (.int (r:Int)),.val (.int (m:Int))],rfl,d5 rfl,λ c hc=>⟨[.val (.int (c:Int)),.val (.int (r:Int))],rfl,uX (b_lt (d5 rfl) (d5 rfl))⟩⟩
 have g3:∀r,evE G (JK (k+1)) (.comp (.comp (.bin .Mod (.ix (.var 1) (.int 5)) (.int 10)) (.one 0) (.rng [.var 1]) [none,some 2]) (.one 0) (.rng [.var 4]) [none,some 5,some 2]) (D r)=some (.ok (rL ((JJ n).map λ (_:Nat)=>(JJ m).map λ (_:Nat)=>Z%10)) .fresh):=λ r=>
  md (n:=n) (m:=m) (g:=λ (r c:Nat)=>Z%10) (d5 rfl) Jy Jy λ r hr=>⟨[.val (.int (r:Int)),.val (.int (m:Int)),.val (.lst (xs.map DV.int))],rfl,d5 rfl,λ c hc=>⟨[.val (.int (c:Int)),.val (.lst (xs.map DV.int))],rfl,B5 (h5 (d5 rfl)) g6 Jz⟩⟩
 have s:∀(r:DV) (j:Int),evE G (JK (k+1)) (.cmp .Eq (.bin .Mod (.ix (.var 2) (.int 4)) (.int 8)) (.int j)) (D r)=some (.ok (.bl (C%8==j)) .strong):=λ r j=>b_eq (B5 (h4 (d5 rfl)) g6 Jz) g6;obtain⟨rows,Rr,R9,tail⟩:∃rows,Rect n m rows/\W9 rows/\evSs G (run G T fu (k+1)) fu (cM.body.drop 7) (D (rL (R6 n m o)))=some (.rt (rL rows) false):=by
  unfold cM;simp only[List.drop_succ_cons,eB];by_cases M:C%8=1
  ·refine⟨_,me (λ (r c:Nat)=>if((r:Int)==(c:Int))then 1 else 0),mh λ r c=>by(split<;>decide),Q7 (i4 (by rw[s,M];rfl)) (f6 (j4 (g1 _) rfl) rfl) (u4 (i4 (show _=some (Re.ok (.bl false) .strong)from by rw[show((D (rL (R6 n m o))).set 9 _)=D _ from rfl,s,M];rfl)) (u4 (i4 (show _=some (Re.ok (.bl false) .strong)from by rw[show((D (rL (R6 n m o))).set 9 _)=D _ from rfl,s,M];rfl)) (j9 rfl)))⟩
  ·have W:(C%8==1)=false:=A4.mpr M;by_cases S:C%8=2
   ·refine⟨_,me (λ (r c:Nat)=>if decide ((r:Int)<(c:Int))then 1 else 0),mh λ r c=>by(split<;>decide),u4 (i4 (by rw[s,W])) (Q7 (i4 (by rw[s,S];rfl)) (f6 (j4 (g2 _) rfl) rfl) (u4 (i4 (show _=some (Re.ok (.bl false) .strong)from by rw[show((D (rL (R6 n m o))).set 9 _)=D _ from rfl,s,S];rfl)) (j9 rfl)))⟩
   ·have n2:(C%8==2)=false:=A4.mpr S;by_cases q3:C%8=3
    ·refine⟨_,me (λ (r c:Nat)=>Z%10),mh λ r c=>by omega,u4 (i4 (by rw[s,W])) (u4 (i4 (by rw[s,n2])) (Q7 (i4 (by rw[s,q3];rfl)) (f6 (j4 (g3 _) rfl) rfl) (j9 rfl)))⟩
    ·have n3:(C%8==3)=false:=A4.mpr q3;exact⟨_,Gx K,Hr A,u4 (i4 (by rw[s,W])) (u4 (i4 (by rw[s,n2])) (u4 (i4 (by rw[s,n3])) (j9 rfl)))⟩
 refine⟨n,m,rows,by omega,U,by omega,m5,Rr,R9,?_⟩;rw[k8 (fd:=cM) rfl rfl];unfold cM at tail ⊢;simp only[List.drop_succ_cons,eB]at tail;exact k5 (f6 (j4 (d:=.int p) (cl:=.strong) (o7 (cx:=.fresh) rfl (B5 (h0 (d5 rfl)) g6 Jz) X) rfl)
  (f6 (j4 (d:=.int n) (cl:=.strong) (by rw[←hn];exact F7 g6 (B5 (h1 (d5 rfl)) (d5 rfl) w)) rfl) (f6 (j4 (d:=.int m) (cl:=.strong) (by rw[←hm];exact F7 g6 (B5 (h2 (d5 rfl)) (d5 rfl) w)) rfl)
  (f6 (j4 (d:=.int l) (cl:=.strong) (o7 (cx:=.fresh) (x:=.lst [.int 2,.int 3,.int 10,.int 2]) rfl (B5 (N (d5 rfl)) g6 Jz) L) rfl)
  (f6 (O6 cm) (F0 (Gw em Jy Y) (.inr rfl) l1 (f6 (j4 rt rfl) tail)))))))
variable {fu k:Nat} {F:Nat->ge DV->on Ou} {δ:ge Sv} {ds:ge DV} {cl:Cl} {n m:Nat} {f:Nat->Nat->Int} {d:DV} {rows:ge (ge Int)}
theorem mi{xs:ge Int}{i:Int}(d:0<=i+j)(h:i+j<xs.length):∃v,∀{F:Nat->ge DV->on Ou} {δ:ge Sv},evE G F (.var 2) δ=some (.ok (.lst (xs.map DV.int)) .strong)->evE G F (.var 4) δ=some (.ok (.int (j:Int)) .strong)->evE G F (.ix (.var 2) (.bin .Add (.int i) (.var 4))) δ=some (.ok (.int v) .strong):=by
 obtain⟨v,a⟩:=pC d h;exact⟨v,λ c b=>o7 c (F7 g6 b) a⟩
theorem Y9(x:Int)(hn:0<n):∃a:Nat,x%(n:Int)=(a:Int)/\a<n:=by
 have q1:=eu x (b:=(n:Int)) Jy;have q2:=dM x (b:=(n:Int)) Jy;exact⟨(x%(n:Int)).toNat,by omega,by omega⟩
theorem Hu(R:Rect n m rows)(b:0<n)(h:evE G F (.var 3) δ=some (.ok (rL rows) .strong)):evE G F (.bi .len [.ix (.var 3) (.int 0)]) δ=some (.ok (.int (m:Int)) .strong):=by
 have a:0<rows.length:=by rw[R.1];exact b
 have t:=D0 (o7 h (g6) (cQ a));rw[show(iD _).length=m by unfold iD;rw[d7];exact R.2 _ (B9 a)]at t;exact t
theorem Hv(R:Rect n m rows)(h:evE G F (.var 3) δ=some (.ok (rL rows) .strong)):evE G F (.bi .len [.var 3]) δ=some (.ok (.int (n:Int)) .strong):=by
 have q:=D0 h;rw[d7,R.1]at q;exact q
abbrev S7(s p:DV)(xs:ge Int)(rows:ge (ge Int))(j:Nat)(y z:Sv):ge Sv:=[.val s,.val p,.val (.lst (xs.map DV.int)),.val (rL rows),.val (.int (j:Int)),y,z]
noncomputable def uY:ge MS:=[.iff (.and [.cmp .Lt (.bi .len [.var 3]) (.int 8),.cmp .Eq (.bin .Mod (.ix (.var 2) (.bin .Add (.int 7) (.var 4))) (.int 2)) (.int 0)]) [.set 5 false (.bin .Mod (.ix (.var 2) (.bin .Add (.int 12) (.var 4))) (.bin .Add (.bi .len [.var 3]) (.int 1))),.set 3 false (.bin .Add (.bin .Add (.slt (.var 3) (.var 5)) (.lst [.ix (.var 3) (.bin .Mod (.ix (.var 2) (.bin .Add (.int 17) (.var 4))) (.bi .len [.var 3]))])) (.slf (.var 3) (.var 5)))] [.iff (.cmp .Lt (.bi .len [.ix (.var 3) (.int 0)]) (.int 8)) [.set 5 false (.bin .Mod (.ix (.var 2) (.bin .Add (.int 12) (.var 4))) (.bin .Add (.bi .len [.ix (.var 3) (.int 0)]) (.int 1))),.set 6 false (.bin .Mod (.ix (.var 2) (.bin .Add (.int 17) (.var 4))) (.bi .len [.ix (.var 3) (.int 0)])),.set 3 false (.comp (.bin .Add (.bin .Add (.slt (.var 0) (.var 1)) (.lst [.ix (.var 0) (.var 2)])) (.slf (.var 0) (.var 1))) (.one 0) (.var 3) [none,some 5,some 6])] []]]
theorem lst1(h:evE G F e δ=some (.ok d c))(hs:stro d c=true):evE G F (.lst [e]) δ=some (.ok (.lst [d]) .fresh):=U8 (e7 h g7) (show 1<=j5 by decide) (by unfold stros;simp[hs])
theorem Hw(L:xs.length=24)(hj:j<5){d:Sv}(t:Tk n m rows):∃W X g I H,Tk W X g/\W+X<=n+m+1/\evSs G F fu uY (S7 s p xs rows j e d)=some (.nx [.val s,.val p,.val (.lst (xs.map DV.int)),.val (rL g),.val (.int (j:Int)),I,H]):=by
 obtain⟨U,h7⟩:=mi (xs:=xs) (i:=7) (j:=j) Jy (by rw[L];omega);obtain⟨v,B⟩:=mi (xs:=xs) (i:=12) (j:=j) Jy (by rw[L];omega);obtain⟨u,A⟩:=mi (xs:=xs) (i:=17) (j:=j) Jy (by rw[L];omega);have J:∀e d,evE G F (.bi .len [.var 3]) (S7 s p xs rows j e d)=some (.ok (.int (n:Int)) .strong):=λ e d=>Hv t.R (d5 rfl)
 have K:∀e d,evE G F (.bi .len [.ix (.var 3) (.int 0)]) (S7 s p xs rows j e d)=some (.ok (.int (m:Int)) .strong):=λ e d=>Hu t.R t.n0 (d5 rfl);have E:=b_lt (J e d) (g6 (i:=8));have Y:=b_eq (B5 (h7 (F:=F) (δ:=(S7 s p xs rows j e d)) (d5 rfl) (d5 rfl)) (g6 (i:=2)) Jz) (g6 (i:=0));have C:=b_lt (K e d) (g6 (i:=8));unfold uY;have w:tstD (evE G F (.and [.cmp .Lt (.bi .len [.var 3]) (.int 8),.cmp .Eq (.bin .Mod (.ix (.var 2) (.bin .Add (.int 7) (.var 4))) (.int 2)) (.int 0)]) (S7 s p xs rows j e d))=some (.ok (decide ((n:Int)<8)&&(U%2==0))):=by
  cases hd:decide ((n:Int)<8)with
  | false=>rw[hd]at E;exact i4 (cR E)
  | true=>rw[hd]at E;exact i4 (U9 E (Y5 Y))
 cases Q:decide ((n:Int)<8)&&(U%2==0)with
 | true=>
  rw[Q]at w;rw[d6,C6]at Q;obtain⟨a,O,N⟩:=Y9 v (n:=n+1) Jy;obtain⟨b,M,o⟩:=Y9 u t.n0;have R:evE G F (.bin .Mod (.ix (.var 2) (.bin .Add (.int 12) (.var 4))) (.bin .Add (.bi .len [.var 3]) (.int 1))) (S7 s p xs rows j e d)=some (.ok (.int (a:Int)) .strong):=by rw[←O];exact B5 (B (d5 rfl) (d5 rfl)) (add1 (J e d)) Jy
  have S:evE G F (.bin .Add (.bin .Add (.slt (.var 3) (.var 5)) (.lst [.ix (.var 3) (.bin .Mod (.ix (.var 2) (.bin .Add (.int 17) (.var 4))) (.bi .len [.var 3]))])) (.slf (.var 3) (.var 5))) (S7 s p xs rows j (JH (a:Int)) d)=some (.ok (rL (insR a b rows)) .fresh):=(by have ei:evE G F (.ix (.var 3) (.bin .Mod (.ix (.var 2) (.bin .Add (.int 17) (.var 4))) (.bi .len [.var 3]))) (S7 s p xs rows j (JH (a:Int)) d)=some (.ok (.lst (iD (rows.getD b []))) .strong):=(by refine o7 (cx:=.strong) (y:=.int (b:Int)) (cy:=.strong) (d5 rfl) ?_ (cQ (by rw[t.R.1];exact o));rw[←M];exact B5 (A (d5 rfl) (d5 rfl)) (J _ d) Jy);have q:=Y8 (Y8 (lY (F:=F) (δ:=(S7 s p xs rows j (JH (a:Int)) d)) (a:=.var 3) (b:=.var 5) (c:=.strong) (c1:=.strong) (ds:=rows.map λ r=>.lst (iD r)) (h:=a) (d5 rfl) (d5 rfl)) (lst1 ei rfl) (by rw[E6,d7,t.R.1];simp;have:=t.n8;omega)) (lX (F:=F) (δ:=(S7 s p xs rows j (JH (a:Int)) d)) (a:=.var 3) (b:=.var 5) (c:=.strong) (c1:=.strong) (ds:=rows.map λ r=>.lst (iD r)) (h:=a) (d5 rfl) (d5 rfl)) (by rw[o5,E6,S9,d7,t.R.1];simp;have:=t.n8;omega);rw[q];unfold rL insR;rw[t5,t5,T3,eF];rfl);exact⟨_,_,_,_,_,t.row (a:=a) (s:=b) Jy Jy o,by omega,Q7 w (f6 (j4 R rfl) (f6 (j4 S rfl) rfl)) rfl⟩
 | false=>
  rw[Q]at w;cases P:decide ((m:Int)<8)with
  | false=>
   rw[P]at C;exact⟨n,m,rows,e,d,t,by omega,fb w (u4 (i4 C) rfl) rfl⟩
  | true=>
   rw[P]at C;rw[C6]at P;obtain⟨a,O,N⟩:=Y9 v (n:=m+1) Jy;obtain⟨b,M,o⟩:=Y9 u t.m0;have R:evE G F (.bin .Mod (.ix (.var 2) (.bin .Add (.int 12) (.var 4))) (.bin .Add (.bi .len [.ix (.var 3) (.int 0)]) (.int 1))) (S7 s p xs rows j e d)=some (.ok (.int (a:Int)) .strong):=by rw[←O];exact B5 (B (d5 rfl) (d5 rfl)) (add1 (K e d)) Jy
   have S:evE G F (.comp (.bin .Add (.bin .Add (.slt (.var 0) (.var 1)) (.lst [.ix (.var 0) (.var 2)])) (.slf (.var 0) (.var 1))) (.one 0) (.var 3) [none,some 5,some 6]) (S7 s p xs rows j (JH (a:Int)) (JH (b:Int)))=some (.ok (rL (rows.map (ins a b))) .fresh):=by
    have q:=C3 (F:=F) (δ:=(S7 s p xs rows j (JH (a:Int)) (JH (b:Int)))) (l:=rows) (h:=λ r=>.lst (iD r)) (f:=λ r=>.lst (iD (ins a b r))) (tg:=.one 0) (it:=.var 3) (fr:=[none,some 5,some 6]) (cl:=.strong) rfl Jz (by rw[t.R.1];exact e9 t.n8 Jz) λ r Z=>by
     refine⟨[.val (.lst (iD r)),.val (.int (a:Int)),.val (.int (b:Int))],.fresh,rfl,?_,rfl⟩;have z:=t.R.2 r Z;have x:(iD r).length=m:=by unfold iD;rw[d7,z]
     have q:=Y8 (Y8 (lY (F:=F) (δ:=[.val (.lst (iD r)),.val (.int (a:Int)),.val (.int (b:Int))]) (a:=.var 0) (b:=.var 1) (c:=.strong) (c1:=.strong) (ds:=iD r) (h:=a) (d5 rfl) (d5 rfl)) (lst1 (o7 (a:=.var 0) (b:=.var 2) (cx:=.strong) (d5 rfl) (d5 rfl) (lE (r:=r) (j:=b) (by rw[z];exact o))) rfl) (by rw[E6,x];simp;omega)) (lX (F:=F) (δ:=[.val (.lst (iD r)),.val (.int (a:Int)),.val (.int (b:Int))]) (a:=.var 0) (b:=.var 1) (c:=.strong) (c1:=.strong) (ds:=iD r) (h:=a) (d5 rfl) (d5 rfl)) (by rw[o5,E6,S9,x];simp;omega);rw[q];unfold ins iD;rw[t5,t5,T3,eF];rfl
    rw[q];unfold rL;rw[k6];rfl
   exact⟨_,_,_,_,_,t.colm (a:=a) (s:=b) Jy Jy o,by omega,fb w (Q7 (i4 C) (f6 (j4 R rfl) (f6 (j4 ((by rw[←M];exact B5 (A (d5 rfl) (d5 rfl)) (K _ d) Jy)) rfl) (f6 (j4 S rfl) rfl))) rfl) rfl⟩
theorem Hx(a:rows.length<=8)(h:k7 (evE G F e δ)=some (.ok (rows.map λ r=>.lst (iD r)) .strong)):evE G F (.bi .tuple [.comp (.bi .tuple [.var 0]) (.one 0) e [none]]) δ=some (.ok (tT rows) .strong):=
 cN (C3 h Jz (e9 a Jz) λ r hr=>⟨[.val _],.strong,rfl,rfl,rfl⟩)
theorem Hy(ns:ge Int)(s:ns.length<=63):∃(n m:Nat) (rows:ge (ge Int)),Tk n m rows/\n+m<=14/\run G T fu (k+3) 41 [.scr ns,.int 2]=some (.v (tT rows) false):=by
 obtain⟨y,N⟩:=lD ns 0;obtain⟨l,q,B⟩:=lV y 24 Jz;obtain⟨n,m,rows,E,C,J,H,R,P,co⟩:=Hs ns s l q;obtain⟨O,M⟩:=P5 (i:=6) Jy (by rw[q];omega);obtain⟨v,r,L⟩:=Y9 O (n:=5) Jz;obtain⟨x,K,o,p,a,h,g,d,b,A,rfl⟩:=U0 (i:=4) (I:=λ i u=>∃n m rows h g d,Tk n m rows/\n+m<=10+i/\u=[.val (.scr ns),.val (.int 2),.val (.lst (l.map DV.int)),.val (rL rows),h,g,d])
  v 0
  (λ j hj u I=>by
   obtain⟨n,m,rows,h,g,d,t,A,rfl⟩:=I;rw[show(0:Int)+(j:Int)=j by omega];obtain⟨o,p,a,f,c,b,z,e⟩:=Hw (F:=run G T fu (k+2)) (fu:=fu) q (j:=j) Jy t;exact⟨_,e,o,p,a,_,f,c,b,by omega,rfl⟩) ⟨n,m,rows,.no,.no,.no,(⟨E,by omega,J,by omega,R,uW (by rw[R.1];exact C),uW (by rw[E5];exact H),P⟩),by omega,rfl⟩
 refine⟨o,p,a,b,by omega,?_⟩;rw[k8 rfl rfl];unfold tR;have w:evE G (JK (k+2)) (.bin .Mod (.ix (.var 2) (.int 6)) (.int 5)) [.val (.scr ns),.val (.int 2),.val (.lst (l.map DV.int)),.val (rL rows),.no,.no,.no]=some (.ok (.int (v:Int)) .strong):=by rw[←r];exact B5 (M (d5 rfl)) g6 Jz
 exact k5 (f6 (j4 (g8 (fr:=true) (e7 (g8 (fr:=false) (e7 (d5 rfl) (e7 g6 g7)) rfl N) (e7 g6 g7)) rfl B) rfl)
  (f6 (j4 (g8 (fr:=false) (e7 (d5 rfl) (e7 (d5 rfl) (e7 (d5 rfl) g7))) rfl co) rfl) (F0 (Y4 w Jy) (.inr rfl) K (j9 (n6 (Hx (by rw[b.R.1];exact b.n8) rfl))))))
theorem mj(e:JA a cx (.int i))(d:JA b cy (.int j))(c:0<=j):evE G F (.bin .RShift a b) δ=some (.ok (.int (i/2^j.toNat)) .strong):=
 B4 e d (d8 c)
theorem lenT(R:Rect n m rows)(h:evE G F e δ=some (.ok (tT rows) .strong)):evE G F (.bi .len [e]) δ=some (.ok (.int (n:Int)) .strong):=by
 have q:=K2 h;rw[d7,R.1]at q;exact q
theorem Hz(R:Rect n m rows)(b:0<n)(h:evE G F e δ=some (.ok (tT rows) .strong)):evE G F (.bi .len [.ix e (.int 0)]) δ=some (.ok (.int (m:Int)) .strong):=by
 have a:0<rows.length:=by rw[R.1];exact b
 have t:=K2 (o7 h (g6) (P3 a));rw[show(iD _).length=m by unfold iD;rw[d7];exact R.2 _ (B9 a)]at t;exact t
end k35
end
noncomputable section
namespace k35
open PySem L2
noncomputable def minN:ge Nat->Nat
 | []=>0
 | x::r=>if r.isEmpty then x else min x (minN r)
theorem gz:∀{l:ge Nat},l≠[]->minN l∈l/\∀x∈l,minN l<=x
 | [],h=>absurd rfl h
 | [x],_=>⟨by simp[minN],by simp[minN]⟩
 | x::y::r,_=>by
  obtain⟨c,b⟩:=gz (l:=y::r) JN;have e:minN (x::y::r)=min x _:=rfl;rw[e];refine⟨?_,λ z a=>?_⟩
  ·by_cases q:x<=minN (y::r)
   ·rw[br q];exact i5
   ·rw[iq Jy];exact i7 _ c
  ·rcases g5.mp a with q | q
   ·rw[q];exact Nat.min_le_left ..
   ·exact e9 (Nat.min_le_right ..) (b z q)
theorem HA(c:z∈l)(d:∀x∈l,z<=x):z=minN l:=by
 obtain⟨a,b⟩:=gz (l:=l) (by rintro rfl;cases c);exact Nat.le_antisymm (d _ a) (b _ c)
def stp(J:Jt)(f:Mx)(V:Nat->Nat->Nat)(R C:Nat):Nat:=if wn f R C=1 then J.g else minN ((wl R C).map λ w=>J.j (V w.2.2.1.1 w.2.2.1.2) (V w.2.2.2.1 w.2.2.2.2))
def zZ(J:Jt)(f:Mx):Nat->Nat->Nat->Nat
 | 0,_,_=>0
 | n+1,R,C=>stp J f (zZ J f n) R C
theorem mn(h:w∈wl R C):(∃g,Sb g R/\g<R - g/\w.2.2=((R - g,C),(g,C)))\/∃g,Sb g C/\g<C - g/\w.2.2=((R,C - g),(R,g)):=by
 unfold wl at h;rcases A5.mp h with q | q
 ·obtain⟨g,a,rfl⟩:=f9.mp q;exact .inl ⟨g,(aS a).1,(aS a).2,rfl⟩
 ·obtain⟨g,a,rfl⟩:=f9.mp q;exact .inr ⟨g,(aS a).1,(aS a).2,rfl⟩
theorem uZ(h:w∈wl R C):w.2.2.1.1+w.2.2.1.2<R+C/\w.2.2.2.1+w.2.2.2.2<R+C:=by
 rcases mn h with⟨g,s,_,e⟩ | ⟨g,s,_,e⟩
 ·rw[e];have:=s.1;have:=s.2.1;dsimp only;omega
 ·rw[e];have:=s.1;have:=s.2.1;dsimp only;omega
theorem vb{V:Nat->Nat->Nat}(h:∀r c,r+c<R+C->V r c=W r c):stp J f V R C=stp J f W R C:=by
 unfold stp;split
 ·rfl
 ·congr 1
  apply D2;intro w d;obtain⟨a,b⟩:=uZ d;rw[h _ _ a,h _ _ b]
theorem mq(f:Mx):∀(N n R C:Nat),n<=N->R+C<=n->zZ J f n R C=zZ J f (R+C) R C
 | 0,n,R,C,b,a=>by rw[show R+C=n by omega]
 | N+1,n,R,C,b,a=>by
  by_cases e:R+C=n
  ·rw[e]
  ·obtain⟨m,rfl⟩:∃m,n=m+1:=⟨n - 1,by omega⟩;cases hk:R+C with
   | zero=>
    obtain rfl:R=0:=by omega
    obtain rfl:C=0:=by omega
    show stp J f _ 0 0=0;unfold stp;split
    ·rename_i h;have:wn f 0 0=0:=rfl;omega
    ·rfl
   | succ k=>
    show stp J f _ R C=stp J f _ R C;exact vb λ r c h=>by rw[mq f N m r c Jy Jy,mq f N k r c Jy Jy]
def V(J:Jt)(f:Mx)(R C:Nat):Nat:=zZ J f (R+C) R C
theorem V_eq(f:Mx)(h:0<R+C):V J f R C=stp J f (V J f) R C:=by
 unfold V;cases hk:R+C with
 | zero=>omega
 | succ k=>
  show stp J f _ R C=_;exact vb λ r c h=>mq f k k r c (f8 _) Jy
noncomputable def r1(n:Nat):ge Nat:=(JJ (n - 1)).map (· + 1)
theorem aU:j∈r1 n↔0<j/\j<n:=by
 unfold r1;rw[f9];constructor
 ·rintro⟨i,h,rfl⟩;have:=i6.mp h;omega
 ·rintro⟨h1,h2⟩;exact⟨j - 1,i6.mpr Jy,by omega⟩
theorem vc(h:0<c):r1 (c+1)=r1 c++[c]:=by
 unfold r1;obtain⟨d,rfl⟩:∃d,c=d+1:=⟨c - 1,by omega⟩;rw[show d+1+1 - 1=d+1 by omega,show d+1 - 1=d by omega,dZ,t5];rfl
def ps(b r c:Nat):ge (Nat×Nat):=(r1 r).flatMap (λ i=>(r1 (2^b)).map λ j=>(i,j))++(r1 c).map λ j=>(r,j)
theorem cW:q∈ps b r c↔(0<q.1/\q.1<r/\0<q.2/\q.2<2^b)\/(q.1=r/\0<q.2/\q.2<c):=by
 unfold ps;rw[A5,dW,f9];constructor
 ·rintro(⟨i,h1,h2⟩ | ⟨j,h,rfl⟩)
  ·obtain⟨j,a,rfl⟩:=f9.mp h2;have:=aU.mp h1;have:=aU.mp a;exact .inl ⟨by omega,by omega,by omega,by omega⟩
  ·exact .inr ⟨rfl,aU.mp h⟩
 ·rintro(⟨h1,h2,a,h4⟩ | ⟨h1,h2,a⟩)
  ·exact .inl ⟨q.1,aU.mpr ⟨h1,h2⟩,f9.mpr ⟨q.2,aU.mpr ⟨a,h4⟩,rfl⟩⟩
  ·exact .inr ⟨q.2,aU.mpr ⟨h2,a⟩,by rw[←h1]⟩
theorem HB(h:0<c):ps b r (c+1)=ps b r c++[(r,c)]:=by
 unfold ps;rw[vc h,t5,N9];rfl
theorem mr(h:0<r):ps b (r+1) 1=ps b r (2^b):=by
 unfold ps;rw[vc h,List.flatMap_append];show _++[]=_;rw[A6]
 congr 1
 simp
theorem HD(b:Nat):ps b 1 1=[]:=rfl
theorem vd(n:Nat):(r1 n).length=n - 1:=by unfold r1;rw[d7,o9]
theorem mt(b:Nat):∀d,(ps b (d+1) 1).length=d*(2^b - 1)
 | 0=>by rw[HD];simp
 | d+1=>by
  have e:ps b (d+1) (2^b)=ps b (d+1) 1++(r1 (2^b)).map λ j=>(d+1,j):=by unfold ps;rw[N9];rfl
  rw[mr Jy,e,o5,d7,vd,mt b d,eK]
def tbl(J:Jt)(f:Mx)(b r c:Nat):Tb:=(ps b r c).map λ p=>(p,V J f p.1 p.2)
theorem ve{V:Nat×Nat->Nat}:∀l:ge (Nat×Nat),(l.map λ p=>(p,V p)).lookup q=if q∈l then some (V q)else none
 | []=>rfl
 | p::l=>by
  rw[t9,D6];by_cases e:q=p
  ·subst e;simp
  ·rw[show(q==p)=false from A4.mpr e];show(l.map λ p=>_).lookup q=_;rw[ve l];simp[e]
theorem mu(q:Nat×Nat):(tbl J f b r c).lookup q=if q∈ps b r c then some (V J f q.1 q.2)else none:=ve _
theorem vf(f:Mx)(b r c:Nat):(tbl J f b r c).length=(ps b r c).length:=d7 ..
theorem vg(a:b<=5)(R0:0<R)(hR:R<=32)(hC:C<=32):(ps b R C).length<=1000:=by
 have e:ps b R C=ps b R 1++(r1 C).map λ j=>(R,j):=by unfold ps;rw[N9];rfl
 obtain⟨d,rfl⟩:∃d,R=d+1:=⟨R - 1,by omega⟩;rw[e,o5,d7,vd,mt];have pb:=p32 a;have:d*(2^b - 1)<=31*31:=ai Jy Jy;omega
theorem HE(c:0<C)(a:C<2^b)(R0:0<R)(h:w∈wl R C):w.2.2.1∈ps b R C/\w.2.2.2∈ps b R C:=by
 rcases mn h with⟨g,s,_,e⟩ | ⟨g,s,_,e⟩
 ·have:=s.1;have:=s.2.1;rw[e];exact⟨cW.mpr (.inl ⟨by dsimp only;omega,by dsimp only;omega,c,a⟩),cW.mpr (.inl ⟨by dsimp only;omega,by dsimp only;omega,c,a⟩)⟩
 ·have:=s.1;have:=s.2.1;rw[e];exact⟨cW.mpr (.inr ⟨rfl,by dsimp only;omega,by dsimp only;omega⟩),cW.mpr (.inr ⟨rfl,by dsimp only;omega,by dsimp only;omega⟩)⟩
def wv(J:Jt)(f:Mx)(w:Wy):Nat:=J.j (V J f w.2.2.1.1 w.2.2.1.2) (V J f w.2.2.2.1 w.2.2.2.2)
theorem vh(h:0<C):tbl J f b R (C+1)=tbl J f b R C++[((R,C),V J f R C)]:=by
 unfold tbl;rw[HB h,t5];rfl
theorem vi(d:R<32)(e:C<32)(h:0<R)(i:0<C)(g:2<=wn f R C):wl R C≠[]:=by
 intro a;unfold wl at a;obtain⟨c,b⟩:=List.append_eq_nil_iff.mp a;rcases GU d e h i g with q | q
 ·exact q (hL.mp c)
 ·exact q (hL.mp b)
theorem HF{rest:ge (ge Int)}(O:JOk J)(t:DV)(v:Rect a b rest)(u:W9 rest)(S:0<a)(n:a<=5)(j:b<=5)(f:0<R)(A:R<2^a)(g:0<C)(s:C<2^b)(w:Sv) :
  ∃E,evSs G (JK (k+3)) fu lnB (lnD J t rest (tbl J (mf rest) b R C) (JH R) (JH C) w)=some (.nx (lnD J t rest (tbl J (mf rest) b R (C+1)) (JH R) (JH C) E)):=by
 have pa:=p32 n;have pb:=p32 j;have o:R<32:=by omega
 have p:C<32:=by omega
 have e:(tbl J (mf rest) b R C).length<100000:=by rw[vf];have:=vg (b:=b) (R:=R) (C:=C) j f Jy Jy;omega
 have x:(tbl J (mf rest) b R C).lookup (R,C)=none:=by
  rw[mu,e8 λ z=>?_];rcases cW.mp z with q | q
  ·have:=q.2.1;dsimp only at this;omega
  ·have:=q.2.2;dsimp only at this;omega
 have r:=Hb (fu:=fu) (k:=k) (δ:=lnD J t rest (tbl J (mf rest) b R C) (JH R) (JH C) w) v u S n j f A g s rfl rfl rfl;have c:=uE r (g6 (i:=((1:Nat):Int)));have B:=Ha v u n j f A g s;have d:=V_eq (J:=J) (mf rest) (R:=R) (C:=C) Jy;unfold stp at d;rw[vh g];by_cases m:wn (mf rest) R C=1
 ·rw[m]at c;rw[d8 m]at d;rw[d];exact⟨w,Q7 (i4 c) (f6 (uL (z:=J.g) rfl (d5 rfl) (d5 rfl) (d5 rfl) x e) rfl) rfl⟩
 ·have H:=A4.mpr m;rw[H]at c;rw[e8 m]at d;have P:2<=wn (mf rest) R C:=by omega
  have Q:=C3 (F:=run G T fu (k+3)) (δ:=lnD J t rest (tbl J (mf rest) b R C) (JH R) (JH C) (.val (.lst ((wl R C).map wD)))) (l:=wl R C) (h:=wD) (elt:=.callv 4 [("joined_bits",30),("joined_ends",31)] [.dgp 5 (.var 2),.dgp 5 (.var 3)]) (tg:=.many [0,1,2,3]) (it:=.var 7) (fr:=[none,none,none,none,some 2,some 4]) (cl:=.strong) rfl Jz
   (by unfold wl;rw[o5,d7,d7];exact e9 (iF (aT o) (aT p)) Jz) λ w M=>by obtain⟨K,I⟩:=HE g s f M;refine⟨[.val w.1,.val (.int w.2.1),.val _,.val _,.val (.fn J.nm),.od _],.strong,rfl,?_,rfl⟩;exact Hc (k:=k+2) O rfl (e7 (uK rfl (d5 rfl) (by rw[mu,d8 K])) (e7 (uK rfl (d5 rfl) (by rw[mu,d8 I])) g7))
  have ne:(wl R C).map (wv J (mf rest))≠[]:=λ z=>vi o p f g P (hL.mp z);obtain⟨z,L,N,y⟩:=GY ((by rw[Q];unfold nD;rw[k6];rfl)) ne;rw[HA L N,show minN ((wl R C).map (wv J (mf rest)))=V J (mf rest) R C from d.symm]at y;exact⟨_,fb (i4 c) (f6 (j4 (g8 rfl rfl (GX o p)) rfl) (f6 (uL (z:=V J (mf rest) R C) rfl y (d5 rfl) (d5 rfl) x e) rfl)) rfl⟩
theorem HG{rest:ge (ge Int)}(m:JOk J)(t:DV)(g:Rect a b rest)(f:W9 rest)(o:0<a)(l:a<=5)(i:b<=5)(q:0<R)(p:R<2^a)(y w:Sv) :
  ∃δ',m7 (.one 6) (λ δ'=>evSs G (JK (k+3)) fu lnB δ') (upTo 1 (2^b - 1)) (lnD J t rest (tbl J (mf rest) b R 1) (JH R) y w)=some (.nx δ')/\∃d c,δ'=lnD J t rest (tbl J (mf rest) b R (2^b - 1+1)) (JH R) d c:=by
 refine U0 (I:=λ j δ'=>∃d c,δ'=lnD J t rest (tbl J (mf rest) b R (j+1)) (JH R) d c) _ 1 (λ j hj δ h=>?_) ⟨y,w,rfl⟩;obtain⟨d,c,rfl⟩:=h;obtain⟨w2,e⟩:=HF m t g f o l i q p (C:=j+1) Jy Jy c;have n:(lnD J t rest (tbl J (mf rest) b R (j+1)) (JH R) d c).set 6 (JH (1+(j:Int)))=lnD J t rest (tbl J (mf rest) b R (j+1)) (JH R) (JH ((j+1:Nat):Int)) c:=by show lnD J t rest _ (JH R) (JH (1+(j:Int))) c=_;rw[show(1:Int)+_=((j+1:Nat):Int) by omega]
 exact⟨_,by rw[n];exact e,_,_,rfl⟩
theorem HH{rest:ge (ge Int)}(s:JOk J)(t:DV)(g:Rect a b rest)(q:W9 rest)(o:0<a)(r:a<=5)(n:b<=5)(x y w:Sv) :
  ∃δ',m7 (.one 5) (λ δ'=>evSs G (JK (k+3)) fu [lnF] δ') (upTo 1 (2^a - 1)) (lnD J t rest [] x y w)=some (.nx δ')/\∃f c d,δ'=lnD J t rest (tbl J (mf rest) b (2^a - 1+1) 1) f c d:=by
 have pb:=p32 n;have b1:=iz b;refine U0 (I:=λ j δ'=>∃f c d,δ'=lnD J t rest (tbl J (mf rest) b (j+1) 1) f c d) _ 1 (λ j hj δ h=>?_) ⟨x,y,w,rfl⟩;obtain⟨f,c,d,rfl⟩:=h;obtain⟨p,e,y2,w2,rfl⟩:=HG s t g q o r n (R:=j+1) Jy Jy c d;rw[show 2^b - 1+1=2^b by omega]at e;have v:(lnD J t rest (tbl J (mf rest) b (j+1) 1) f c d).set 5 (JH (1+(j:Int)))=lnD J t rest (tbl J (mf rest) b (j+1) 1) (JH ((j+1:Nat):Int)) c d:=(by show lnD J t rest (tbl J (mf rest) b (j+1) 1) (JH (1+(j:Int))) c d=_;rw[show(1:Int)+(j:Int)=((j+1:Nat):Int) by omega]);have u:tbl J (mf rest) b (j+1) (2^b)=tbl J (mf rest) b (j+1+1) 1:=by unfold tbl;rw[mr Jy]
 rw[u]at e;have l:0<rest.length:=by rw[g.1];exact o
 have m:=K2 (F:=run G T fu (k+3)) (δ:=lnD J t rest (tbl J (mf rest) b (j+1) 1) (JH ((j+1:Nat):Int)) c d) (o7 (a:=.var 3) (b:=.int 0) (cx:=.strong) (d5 rfl) (g6 (i:=((0:Nat):Int))) (P3 l));rw[show(iD (rest.getD 0 [])).length=b by unfold iD;rw[d7];exact g.2 _ (B9 l)]at m;exact⟨_,by rw[v];exact F0 (gw (gx m Jy) Jy) (.inr rfl) e rfl,_,_,_,rfl⟩
def ft(J:Jt)(m:Nat)(rows:ge (ge Int)):Tb:=tbl J (mf (rst m rows)) (JD).length (2^(FI rows).length) 1
theorem gA:Rect (FI rows).length (JD).length (rst m rows):=by
 refine⟨by unfold rst sub;rw[d7],λ r a=>?_⟩;obtain⟨i,_,rfl⟩:=f9.mp a;rw[d7]
theorem mv(a:Rect n m rows)(b:W9 rows):W9 (rst m rows):=λ r d x c=>by
 obtain⟨i,f,rfl⟩:=f9.mp d;obtain⟨j,e,rfl⟩:=f9.mp c;have:=F4 f;have:=F4 e;rw[(U7 a).1]at this;exact Y7 a b (by rw[←a.1];omega) this
theorem vj(o:JOk J)(rows:ge (ge Int))(n m:Nat)(d:Rect n m rows)(l:W9 rows)(f:0<n)(b:n<=60)(c:m<=60)(g:(FI rows).length<=5)(i:(JD).length<=5) :
  run G T fu (k+6) 32 [tT rows,.int J.g,.fn J.nm]=some (.v (dC (ft J m rows)) false):=by
 have a:=gA (m:=m) (rows:=rows);obtain⟨j,e,x',y',w',rfl⟩:=HH o _ a (mv d l) (F5 (by rw[d.1];exact f)) g i .no .no .no;have a1:=iz (FI rows).length;rw[show 2^(FI rows).length - 1+1=2^(FI rows).length by omega]at e;have pa:=p32 g;rw[k8 rfl rfl];have h:=K2 (F:=run G T fu (k+5)) (δ:=lnD J (tT rows) (rst m rows) [] .no .no .no) (e:=.var 3) rfl;rw[d7,a.1]at h;show Ou.of _=_;exact k5 (f6 (ff (g8 rfl rfl (lU rows n m d f b c g i))) (f6 (j4 (g8 rfl rfl (uo rows n m d f b c)) rfl) (f6 Hd (F0 (gw (gx h Jy) Jy) (.inr rfl) e (j9 (He rfl))))))
theorem gB(d:0<(FI rows).length)(c:0<(JD).length):∃L,ft J m rows=L++[((2^(FI rows).length - 1,2^(JD).length - 1),V J (mf (rst m rows)) (2^(FI rows).length - 1) (2^(JD).length - 1))]:=by
 unfold ft;generalize (FI rows).length=A at *;generalize (FI _).length=B at *;have a1:=e9 (by decide:2<=2^1) (x9 Jz d);have b1:=e9 (by decide:2<=2^1) (x9 Jz c);have e:=vh (J:=J) (f:=mf (rst m rows)) (b:=B) (R:=2^A - 1) (C:=2^B - 1) Jy;rw[show 2^B - 1+1=2^B by omega]at e;have a:tbl J (mf (rst m rows)) B (2^A) 1=tbl J (mf (rst m rows)) B (2^A - 1) (2^B):=by have:=mr (b:=B) (r:=2^A - 1) Jy;rw[show 2^A - 1+1=2^A by omega]at this;unfold tbl;rw[this]
 exact⟨_,a.trans e⟩
theorem vk(b:(FI rows).length<=5)(a:(JD).length<=5):(ft J m rows).length=(2^(FI rows).length - 1)*(2^(JD).length - 1)/\(ft J m rows).length<=1000:=by
 unfold ft;rw[vf];have c:=iz (FI rows).length;refine⟨?_,vg a c (p32 b) Jy⟩;have:=mt (JD).length (2^(FI rows).length - 1)
 rwa [show 2^(FI rows).length - 1+1=2^(FI rows).length by omega]at this
theorem HI(rows:ge (ge Int))(n m:Nat)(a:Rect n m rows)(j:W9 rows)(g:0<n)(b:n<=60)(l:0<m)(d:m<=60)(i:(FI rows).length<=5)(h:(JD).length<=5) :
  run G T fu (k+8) 26 [tT rows]=some (.v (.lst ((ft jE m rows).map tD)) true):=by
 have e:=vj (fu:=fu) (k:=k) (.inr rfl) rows n m a j g b d i h;rw[k8 rfl rfl];unfold tH;have c:=g8 (G:=G) (F:=run G T fu (k+7)) (δ:=j8 1 [tT rows]) (f:=29) (es:=[.var 0]) rfl rfl ((by rw[k8 rfl rfl];unfold tK;exact k5 (j9 (n6 (g8 rfl rfl e)))));obtain⟨L,o⟩:=gB (F5 (by rw[a.1];exact g)) (F5 (by rw[(U7 a).1];exact l));exact k5 (j9 (n6 (g8 (e7 c g7) rfl (uR _ (by rw[o];simp) (by have:=(vk (J:=jE) (m:=m) i h).2;omega)))))
theorem HJ(rows:ge (ge Int))(n m:Nat)(a:Rect n m rows)(h:W9 rows)(e:0<n)(b:n<=60)(f:0<m)(d:m<=60)(l:(FI rows).length<=5)(j:(JD).length<=5) :
  run G T fu (k+9) 36 [tT rows]=some (.v (.int (V jE (mf (rst m rows)) (2^(FI rows).length - 1) (2^(JD).length - 1):Nat)) false):=by
 have g:=HI (fu:=fu) (k:=k) rows n m a h e b f d l j;obtain⟨L,o⟩:=gB (F5 (by rw[a.1];exact e)) (F5 (by rw[(U7 a).1];exact f));rw[o]at g;rw[k8 rfl rfl];unfold tO;generalize 2^(FI rows).length - 1=A at *;generalize 2^(FI _).length - 1=B at *;have c:=g8 (G:=G) (δ:=j8 1 [tT rows]) (es:=[.var 0]) rfl rfl g;rw[t5]at c;exact k5 (j9 (n6 (o7 (cx:=.strong) (o7 c (uA (g6 (i:=1))) (uS _ _)) (g6 (i:=2)) rfl)))
theorem HK(rows:ge (ge Int))(n m:Nat)(a:Rect n m rows)(j:W9 rows)(g:0<n)(b:n<=60)(l:0<m)(d:m<=60)(i:(FI rows).length<=5)(h:(JD).length<=5) :
  run G T fu (k+8) 25 [tT rows]=some (.v (.lst ((ft jB m rows).map tD)) true):=by
 have e:=vj (fu:=fu) (k:=k) (.inl rfl) rows n m a j g b d i h;rw[k8 rfl rfl];unfold tG;have c:=g8 (G:=G) (F:=run G T fu (k+7)) (δ:=j8 1 [tT rows]) (f:=28) (es:=[.var 0]) rfl rfl ((by rw[k8 rfl rfl];unfold tJ;exact k5 (j9 (n6 (g8 rfl rfl e)))));obtain⟨L,o⟩:=gB (F5 (by rw[a.1];exact g)) (F5 (by rw[(U7 a).1];exact l));exact k5 (j9 (n6 (g8 (e7 c g7) rfl (uR _ (by rw[o];simp) (by have:=(vk (J:=jB) (m:=m) i h).2;omega)))))
theorem HL(rows:ge (ge Int))(n m:Nat)(a:Rect n m rows)(h:W9 rows)(e:0<n)(b:n<=60)(f:0<m)(d:m<=60)(l:(FI rows).length<=5)(j:(JD).length<=5) :
  run G T fu (k+9) 35 [tT rows]=some (.v (.int (V jB (mf (rst m rows)) (2^(FI rows).length - 1) (2^(JD).length - 1):Nat)) false):=by
 have g:=HK (fu:=fu) (k:=k) rows n m a h e b f d l j;obtain⟨L,o⟩:=gB (F5 (by rw[a.1];exact e)) (F5 (by rw[(U7 a).1];exact f));rw[o]at g;rw[k8 rfl rfl];unfold tN;generalize 2^(FI rows).length - 1=A at *;generalize 2^(FI _).length - 1=B at *;have c:=g8 (G:=G) (δ:=j8 1 [tT rows]) (es:=[.var 0]) rfl rfl g;rw[t5]at c;exact k5 (j9 (n6 (o7 (cx:=.strong) (o7 c (uA (g6 (i:=1))) (uS _ _)) (g6 (i:=2)) rfl)))
theorem vm(a b:Int):cmpD .NotEq (.int a) (.int b)=some (!(a==b)):=rfl
theorem HM(b:tg.bind d δ=some δ1)(a:body δ1=some (.rt v fr)):m7 tg body (d::r) δ=some (.rt v fr):=by
 show(match tg.bind d δ with | none=>none | some δ1=>match body δ1 with | some (.nx δ2)=>m7 tg body r δ2 | o=>o)=_;rw[b];show(match body δ1 with | some (.nx δ2)=>m7 tg body r δ2 | o=>o)=_;rw[a]
theorem HN{G:Gs}{F:Nat->ge DV->on Ou}{δ:ge Sv}{fu:Nat}{tg:Tg}{it:ME}{ds:ge DV}{cl:Cl}{body r:ge MS}{d:DV}{fr:Bool}(hw:k7 (evE G F it δ)=some (.ok ds cl))(hc:cl=.strong\/cl=.fresh)(h:m7 tg (λ δ'=>evSs G F fu body δ') ds δ=some (.rt d fr)):evSs G F fu (.fo tg it body::r) δ=some (.rt d fr):=by
 refine j9 ?_;have e:evS G F fu (.fo tg it body) δ=Ri.thnS δ (k7 (evE G F it δ)) (λ ds c=>if c=.strong\/c=.fresh then m7 tg (λ δ'=>evSs G F fu body δ') ds δ else none):=rfl;rw[e,hw,zm,d8 hc,h]
theorem mw(a0:0<a)(h:a<2^n):cs a=(JJ n).filter a.testBit:=by
 unfold cs
 have hl:=(bA Jy).mpr h
 obtain⟨d,rfl⟩:∃d,n=a.log2+1+d:=⟨n - (a.log2+1),by omega⟩
 conv=>rhs;rw[List.range_add,hY]
 have:((JJ d).map (λ x=>a.log2+1+x)).filter a.testBit=[]:=by
  rw[nN]
  intro j b
  obtain⟨x,_,rfl⟩:=f9.mp b
  rw[bc (q9 Nat.lt_log2_self (x9 Jz (V7 _ _)))]
  exact x0
 rw[this,A6]
theorem HP(r:ge Int):(iD r).length=r.length:=by unfold iD;rw[d7]
theorem HQ(R:Rect n m rows)(b:0<n)(h:JA x c (tT rows)):evE G F (.bi .len [.ix x (.int 0)]) δ=some (.ok (.int (m:Nat)) .strong):=by
 have a:0<rows.length:=by rw[R.1];exact b
 have q:=K2 (o7 h g6 (P3 a));rw[HP,R.2 _ (B9 a)]at q;exact q
theorem vn(R:Rect n m rows)(h:JA x c (tT rows)):evE G F (.bi .len [x]) δ=some (.ok (.int (n:Nat)) .strong):=by
 have q:=K2 h;rw[d7,R.1]at q;exact q
noncomputable def bs(l:ge Nat):Nat:=(l.map λ c=>2^c).sum
theorem HR(a b:ge Nat):bs (a++b)=bs a+bs b:=by unfold bs;rw[t5,List.sum_append]
theorem bs_f(p:Nat->Bool):∀n,bs ((JJ n).filter p)<2^n/\∀j,(bs ((JJ n).filter p)).testBit j=(decide (j<n)&&p j)
 | 0=>⟨by simp[bs],λ j=>by simp[bs]⟩
 | n+1=>by
  obtain⟨h1,b⟩:=bs_f p n;rw[dZ,hY,HR];by_cases a:p n=true
  ·have e:bs ([n].filter p)=2^n:=by simp[bs,a]
   rw[e];refine⟨by rw[iM];omega,λ j=>?_⟩;rw[iJ];rcases dO j n with h | h | h
   ·rw[Nat.testBit_two_pow_add_gt h,b j];simp[show j<n by omega,show j<n+1 by omega]
   ·subst h;rw[Nat.testBit_two_pow_add_eq,b j];simp[a]
   ·have:2^n+bs ((JJ n).filter p)<2^j:=by
     refine q9 Jy (x9 Jz h)
    rw[bc this];simp[show ¬j<n+1 by omega]
  ·have e:bs ([n].filter p)=0:=by simp[bs,a]
   rw[e];refine⟨by rw[iM];omega,λ j=>?_⟩;rw[Nat.add_zero,b j];rcases dO j n with h | h | h
   ·simp[show j<n by omega,show j<n+1 by omega]
   ·subst h;simp[a]
   ·simp[show ¬j<n by omega,show ¬j<n+1 by omega]
theorem Z0:bs l=0↔l=[]:=by
 cases l with
 | nil=>simp[bs]
 | cons a l=>
  have:0<2^a:=aq Jz;simp only[bs,t9,T4];constructor
  ·intro h;omega
  ·intro h;cases h
theorem cX(h:(JJ n).filter p≠[]):cs (bs ((JJ n).filter p))=(JJ n).filter p:=by
 rw[mw (Z6 λ z=>h (Z0.mp z)) (bs_f p n).1];apply bp;intro j a;rw[(bs_f p n).2 j,t8 (i6.mp a),L3]
theorem HU(b:0<S)(h:S<2^n):bs (cs S)=S:=by
 rw[mw b h];apply Nat.eq_of_testBit_eq;intro j;rw[(bs_f _ n).2 j];by_cases a:j<n
 ·rw[t8 a,L3]
 ·rw[x4 a,iB,bc (q9 h (x9 Jz Jy))]
theorem HV(a:0<S)(h:S<2^n):cs S≠[]:=λ z=>by
 have:=HU a h;rw[z]at this;simp[bs]at this;omega
section
variable (rows:ge (ge Int)) (w:Int) (n m:Nat)
def jp(I:ge Nat)(c:Nat):Bool:=I.all λ r=>mf rows r c==w
def rp(J:ge Nat)(r:Nat):Bool:=J.all λ c=>mf rows r c==w
def JL(S:Nat):ge Nat:=(JJ m).filter (jp rows w (cs S))
def RL(J:ge Nat):ge Nat:=(JJ n).filter (rp rows w J)
def good(S:Nat):Bool:=!(JL rows w m S).isEmpty&&bs (RL rows w n (JL rows w m S))==S
def pr(S:Nat):Int×Int:=((S:Int),((bs (JL rows w m S):Nat):Int))
noncomputable def al:ge Nat:=(JJ (2^n - 1)).map (· + 1)
def wdl:ge (Int×Int):=((al n).filter (good rows w n m)).map (pr rows w m)
def mp(S:Nat):Int×Int:=(((bs (RL rows w n (JL rows w m S)):Nat):Int),((bs (JL rows w m S):Nat):Int))
end
theorem mx:S∈al n↔0<S/\S<2^n:=by
 unfold al;rw[f9];constructor
 ·rintro⟨j,h,rfl⟩;rw[i6]at h;omega
 ·intro h;exact⟨S - 1,i6.mpr Jy,by omega⟩
theorem vo(f:0<S)(h:S<2^n)(hJ:JL rows w m S≠[]):∃b,0<b/\b<2^n/\bs (RL rows w n (JL rows w m S))=b/\JL rows w m b=JL rows w m S:=by
 have sub:∀r∈cs S,r∈RL rows w n (JL rows w m S):=λ r a=>by refine j2.mpr ⟨i6.mpr (cT h a),t7.mpr λ c d=>?_⟩;exact t7.mp (j2.mp d).2 r a
 have ne:RL rows w n _≠[]:=λ z=>by obtain⟨r,a⟩:=aY _ (HV f h);have:=sub r a;rw[z]at this;cases this
 refine⟨_,Z6 λ z=>ne (Z0.mp z),(bs_f _ n).1,rfl,?_⟩;have e:cs (bs (RL rows w n _))=RL rows w n _:=cX ne;unfold JL at e ⊢;rw[e];apply bp;intro c d;rw[J7];constructor
 ·intro z;refine t7.mpr λ r a=>t7.mp z r (sub r a)
 ·intro z;refine t7.mpr λ r a=>?_
  exact t7.mp (j2.mp a).2 c (j2.mpr ⟨d,z⟩)
theorem my:good rows w n m S=true↔JL rows w m S≠[]/\bs (RL rows w n (JL rows w m S))=S:=by
 unfold good;rw[d6,f7,q0,nh]
theorem vp{b:Type}{p:b->Bool}:∀l:ge b,bools? (l.map λ w=>DV.bl (p w))=some (l.map p)
 | []=>rfl
 | a::r=>by show bools? (DV.bl (p a)::r.map λ w=>DV.bl (p w))=_;unfold bools?;rw[(vp r)];rfl
theorem vq{a:Type}{p:a->Bool}{l:ge a}(h:evE G F e δ=some (.ok (.lst (l.map λ w=>DV.bl (p w))) cl)):evE G F (.bi .all [e]) δ=some (.ok (.bl (l.all p)) .strong):=by
 show Rs.thn _ _=_;rw[e7 h g7];show(bools? _).map _=_;rw[vp];show some (Re.ok _ .strong)=_;rw[List.all_map];rfl
theorem vt:∀l:ge Nat,ints? (l.map λ (x:Nat)=>DV.int (x:Int))=some (l.map λ (x:Nat)=>(x:Int))
 | []=>rfl
 | a::l=>by show(ints? _).map _=_;rw[(vt l)];rfl
theorem vv:∀l:ge Nat,(l.map λ (x:Nat)=>(x:Int)).sum=((l.sum:Nat):Int)
 | []=>rfl
 | a::l=>by rw[t9,T4,T4,vv l];rfl
theorem mz{l:ge Nat}(h:evE G F e δ=some (.ok (.lst (l.map λ (x:Nat)=>DV.int (x:Int))) c)):evE G F (.bi .sum [e]) δ=some (.ok (.int ((l.sum:Nat):Int)) .strong):=by
 show Rs.thn _ _=_;rw[e7 h g7];show(ints? _).map _=_;rw[vt,D7,vv]
theorem cY(R:Rect n m rows)(d:r<n)(f:c<m)(h:JA a c1 (tT rows))(g:JA b l (.int (r:Int)))(e:JA x j (.int (c:Int))):∃i,evE G F (.ix (.ix a b) x) δ=some (.ok (.int (mf rows r c)) i):=
 ⟨_,o7 (o7 h g (P3 (by rw[R.1];exact d))) e (cP (by rw[R.2 _ (B9 (by rw[R.1];exact d))];exact f))⟩
theorem mB{j:Nat}(hj:j<=1000)(h:JA e c (.int (j:Int))):evE G F (.bin .LShift (.int 1) e) δ=some (.ok (.int ((2^j:Nat):Int)) .strong):=by
 refine B4 g6 h ?_;show(if 0<=_/\_<=1000000/\(1:Int).natAbs<2^64 then some _ else none)=_;rw[d8 ⟨z9 j,by omega,by decide⟩,v5,Int.one_mul]
 push_cast
 rfl
theorem two8(hn:n<=8)(h:S<2^n):S<2^64:=q9 h (x9 Jz Jy)
theorem HW(R:Rect n m rows)(f:0<n)(i:n<=8)(q:m<=8){S:Nat}(h:0<S)(s1:S<2^n):run G T fu (k+2) 14 [tT rows,.int S,.int w]=some (.v (.int ((bs (JL rows w m S):Nat):Int)) false):=by
 rw[k8 rfl rfl];have j:=gq (fu:=fu) (k:=k) S h (two8 i s1);unfold tm;refine k5 (f6 (j4 (d:=.lst (nD (cs S))) (cl:=.fresh) (g8 (e7 (d5 (n:=1) (d:=.int S) rfl) g7) rfl j) rfl) (j9 (n6 (cl:=.strong) ?_)));have u:=G3 (F:=run G T fu (k+1)) (δ:=[.val (tT rows),.val (.int S),.val (.int w),.val (.lst (nD (cs S)))]) (p:=jp rows w (cs S)) (elt:=.bin .LShift (.int 1) (.var 0)) (tg:=.one 0) (it:=.rng [.bi .len [.ix (.var 0) (.int 0)]])
  (cd:=.bi .all [.comp (.cmp .Eq (.ix (.ix (.var 1) (.var 0)) (.var 2)) (.var 3)) (.one 0) (.var 1) [none,some 2,some 0,some 3]]) (fr:=[none,some 3,some 0,some 2]) (cl:=.fresh)
  (aQ (HQ R f (d5 rfl)) Jy) Jz (by rw[o9];exact e9 q Jz) (λ c s=>by
   have g:=i6.mp s;refine⟨[.val (.int c),.val _,.val (tT rows),.val (.int w)],rfl,?_,.strong,mB Jy (d5 rfl),rfl⟩;refine i4 (vq (cl:=.fresh) (l:=cs S) ?_);refine C3 (l:=cs S) (cl:=.strong) rfl Jz (e9 (gr h (two8 i s1)) Jz) (λ r o=>?_);obtain⟨c4,e⟩:=cY (δ:=[.val (.int r),.val (tT rows),.val (.int c),.val (.int w)]) R (cT s1 o) g (a:=.var 1) (b:=.var 0) (x:=.var 2) (d5 rfl) (d5 rfl) (d5 rfl);exact⟨_,.strong,rfl,b_eq e (d5 rfl),rfl⟩)
 have:=mz (c:=.fresh) (by rw[k6];exact u);exact this
theorem HX(R:Rect n m rows)(o:0<n)(q:n<=8)(h:m<=8){C:Nat}(g:0<C)(s1:C<2^m):run G T fu (k+2) 15 [tT rows,.int C,.int w]=some (.v (.int ((bs (RL rows w n (cs C)):Nat):Int)) false):=by
 rw[k8 rfl rfl];have i:=gq (fu:=fu) (k:=k) C g (two8 h s1);unfold tq;refine k5 (f6 (j4 (d:=.lst (nD (cs C))) (cl:=.fresh) (g8 (e7 (d5 (n:=1) (d:=.int C) rfl) g7) rfl i) rfl) (j9 (n6 (cl:=.strong) ?_)));have u:=G3 (F:=run G T fu (k+1)) (δ:=[.val (tT rows),.val (.int C),.val (.int w),.val (.lst (nD (cs C)))]) (p:=rp rows w (cs C)) (elt:=.bin .LShift (.int 1) (.var 0)) (tg:=.one 0) (it:=.rng [.bi .len [.var 0]])
  (cd:=.bi .all [.comp (.cmp .Eq (.ix (.ix (.var 1) (.var 2)) (.var 0)) (.var 3)) (.one 0) (.var 1) [none,some 2,some 0,some 3]]) (fr:=[none,some 3,some 0,some 2]) (cl:=.fresh)
  (aQ (vn R (d5 rfl)) Jy) Jz (by rw[o9];exact e9 q Jz) (λ r j=>by
   have f:=i6.mp j;refine⟨[.val (.int r),.val (.lst (nD (cs C))),.val (tT rows),.val (.int w)],rfl,?_,.strong,mB Jy (d5 rfl),rfl⟩;refine i4 (vq (cl:=.fresh) (l:=cs C) ?_);refine C3 (l:=cs C) (cl:=.strong) rfl Jz (e9 (gr g (two8 h s1)) Jz) (λ c s=>?_);obtain⟨c4,e⟩:=cY (δ:=[.val (.int c),.val (tT rows),.val (.int r),.val (.int w)]) R f (cT s1 s) (a:=.var 1) (b:=.var 2) (x:=.var 0) (d5 rfl) (d5 rfl) (d5 rfl);exact⟨_,.strong,rfl,b_eq e (d5 rfl),rfl⟩)
 have:=mz (c:=.fresh) (by rw[k6];exact u);exact this
noncomputable def pD(l:ge (Int×Int)):ge DV:=l.map λ p=>.tup [.int p.1,.int p.2]
noncomputable def wB:ge MS:=[.set 4 false (.call 14 [.var 0,.var 3,.var 1]),.iff (.and [.cmp .NotEq (.var 4) (.int 0),.cmp .Eq (.call 15 [.var 0,.var 4,.var 1]) (.var 3)]) [.app 2 (.tup [.var 3,.var 4])] []]
theorem HY(j:Nat):(JJ (j+1)).map (· + 1)=(JJ j).map (· + 1)++[j+1]:=by rw[dZ,t5];rfl
theorem vw(R:Rect n m rows)(o:0<n)(x:n<=8)(J:m<=8):run G T fu (k+3) 13 [tT rows,.int w]=some (.v (.lst (pD (wdl rows w n m))) true):=by
 rw[k8 (fd:=lx) rfl rfl];have h8:2^n<=2^8:=x9 Jz x;obtain⟨K,N,g,e,rfl⟩:=U0 (i:=3) (I:=λ j H=>∃g e:Sv,H=[.val (tT rows),.val (.int w),.own (.lst (pD ((((JJ j).map (· + 1)).filter (good rows w n m)).map (pr rows w m)))),g,e])
  (body:=λ v=>evSs G (JK (k+2)) fu wB v) (2^n - 1) 1
  (λ j hj H I=>by
   obtain⟨g,e,rfl⟩:=I;rw[show(1:Int)+(j:Int)=((j+1:Nat):Int) by omega];have s1:j+1<2^n:=by omega
   have Q:=HW (fu:=fu) (k:=k) (w:=w) R o x J (S:=j+1) Jy s1;obtain⟨L,A⟩:∃L,(((List.range j).map (· + 1)).filter (good rows w n m)).map (pr rows w m)=L:=⟨_,rfl⟩;have y:L.length<=255:=(by rw[←A,d7];refine e9 (C4 ..) ?_;rw[d7,o9];omega);rw[A,HY,hY,t5,A];have r:∀z:Sv,evE G (JK (k+2)) (.cmp .NotEq (.var 4) (.int 0)) [.val (tT rows),.val (.int w),.own (.lst (pD L)),.val (.int ((j+1:Nat):Int)),.val (.int ((bs (JL rows w m (j+1)):Nat):Int))]=some (.ok (.bl (!(JL rows w m (j+1)).isEmpty)) .strong):=λ z=>by have C:(((bs (JL rows w m (j+1)):Nat):Int)==0)=(JL rows w m (j+1)).isEmpty:=(by rw[J7,f7,List.isEmpty_iff];rw[show(((bs (JL rows w m (j+1)):Nat):Int)=0↔bs (JL rows w m (j+1))=0) by omega];exact Z0);refine A7 (d5 rfl) g6 ?_;rw[vm,C]
   have h:∃b,evSs G (JK (k+2)) fu [.iff (.and [.cmp .NotEq (.var 4) (.int 0),.cmp .Eq (.call 15 [.var 0,.var 4,.var 1]) (.var 3)]) [.app 2 (.tup [.var 3,.var 4])] []] [.val (tT rows),.val (.int w),.own (.lst (pD L)),.val (.int ((j+1:Nat):Int)),.val (.int ((bs (JL rows w m (j+1)):Nat):Int))]=some (.nx b)/\∃g e:Sv,b=[.val (tT rows),.val (.int w),.own (.lst (pD (L++([j+1].filter (good rows w n m)).map (pr rows w m)))),g,e]:=by
    have s:=r .no;by_cases p:JL rows w m (j+1)=[]
    ·have c:good rows w n m (j+1)=false:=by unfold good;rw[p];rfl
     have M:(JL rows w m (j+1)).isEmpty=true:=by rw[p];rfl
     rw[M]at s;refine⟨_,u4 (i4 (cR s)) rfl,.val (.int ((j+1:Nat):Int)),.val (.int ((bs (JL rows w m (j+1)):Nat):Int)),?_⟩;rw[Z1 (by rw[c];decide),iA,bz,A6]
    ·have l:(JL rows w m (j+1)).isEmpty=false:=nh.mpr p;rw[l]at s;have U:0<bs (JL rows w m (j+1)):=Z6 λ z=>p (Z0.mp z);have E:bs (JL rows w m (j+1))<2^m:=(bs_f _ m).1;have r1:=HX (fu:=fu) (k:=k) (w:=w) R o x J U E;have B:cs (bs (JL rows w m (j+1)))=JL rows w m (j+1):=cX p;rw[B]at r1;have u:evE G (JK (k+2)) (.cmp .Eq (.call 15 [.var 0,.var 4,.var 1]) (.var 3)) [.val (tT rows),.val (.int w),.own (.lst (pD L)),.val (.int ((j+1:Nat):Int)),.val (.int ((bs (JL rows w m (j+1)):Nat):Int))]=some (.ok (.bl (good rows w n m (j+1))) .strong):=(by have q:=b_eq (g8 (G:=G) (F:=run G T fu (k+2)) (δ:=[.val (tT rows),.val (.int w),.own (.lst (pD L)),.val (.int ((j+1:Nat):Int)),.val (.int ((bs (JL rows w m (j+1)):Nat):Int))]) (f:=15) (e7 (d5 (n:=0) (d:=tT rows) rfl) (e7 (d5 (n:=4) (d:=.int ((bs (JL rows w m (j+1)):Nat):Int)) rfl) (e7 (d5 (n:=1) (d:=.int w) rfl) g7))) rfl r1) (d5 (n:=3) (d:=.int ((j+1:Nat):Int)) rfl);have C:(((bs (RL rows w n (JL rows w m (j+1))):Nat):Int)==((j+1:Nat):Int))=good rows w n m (j+1):=(by unfold good;rw[l,Bool.not_false,L3,J7,f7,f7];omega);rw[q,C]);cases c:good rows w n m (j+1)with
     | false=>
      rw[c]at u;refine⟨_,u4 (i4 (U9 s (Y5 u))) rfl,.val (.int ((j+1:Nat):Int)),.val (.int ((bs (JL rows w m (j+1)):Nat):Int)),?_⟩;rw[Z1 (by rw[c];decide),iA,bz,A6]
     | true=>
      rw[c]at u;refine⟨_,Q7 (i4 (U9 s (Y5 u))) (f6 (pA (cl:=.strong) (ds:=pD L) rfl rfl rfl (by unfold pD;rw[d7];exact K7 y Jz)) rfl) rfl,.val (.int ((j+1:Nat):Int)),.val (.int ((bs (JL rows w m (j+1)):Nat):Int)),?_⟩;rw[Z2 c,iA];unfold pD;rw[t5];rfl
   obtain⟨b,P,O⟩:=h;exact⟨b,f6 (j4 (d:=.int ((bs (JL rows w m (j+1)):Nat):Int)) (cl:=.strong) (g8 (e7 (d5 (n:=0) (d:=tT rows) rfl) (e7 (d5 (n:=3) (d:=.int ((j+1:Nat):Int)) rfl) (e7 (d5 (n:=1) (d:=.int w) rfl) g7))) rfl Q) rfl) P,O⟩) ⟨.no,.no,rfl⟩
 unfold lx;exact k5 (f6 (O6 (d:=.lst []) rfl) (F0 (gw (n:=2^n) (mB (j:=n) Jy (vn R (d5 rfl))) Jy) (.inr rfl) N (j9 rfl)))
theorem gC(h:DV.plains 59 ds=true):cmpD .Eq (.lst ds) (.lst [])=some ds.isEmpty/\cmpD .NotEq (.lst ds) (.lst [])=some (!ds.isEmpty):=by
 have p:DV.plain 60 (.lst ds)=true:=h;have d:deq (.lst ds) (.lst [])=ds.isEmpty:=by cases ds<;>rfl
 refine⟨?_,?_⟩
 ·show(if _=true then some _ else none)=_;rw[p,d];rfl
 ·show(if _=true then some _ else none)=_;rw[p,d];rfl
theorem HZ(l:ge Nat):DV.plains 59 (nD l)=true:=aP λ d a=>by
 obtain⟨j,_,rfl⟩:=f9.mp a;exact GB _ _
theorem len0(l:ge c)(p:c->Bool):(((l.filter λ a=>!p a).length:Int)==0)=l.all p:=by
 rw[J7,f7,t7];rw[show(((l.filter λ a=>!p a).length:Int)=0↔(l.filter λ a=>!p a).length=0) by omega,S2,nN];constructor
 ·intro h a b;have:=h a b;cases q:p a with
  | true=>rfl
  | false=>rw[q]at this;exact absurd rfl this
 ·intro h a b;rw[h a b];decide
noncomputable def qD(p:Nat×Nat):DV:=.tup [.int (p.1:Int),.int (p.2:Int)]
noncomputable def hs(b e:Nat×Nat):Bool:=b.1.testBit e.1&&b.2.testBit e.2
theorem vx(o i:Nat):(o:Int)/2^((i:Int).toNat)=((o/2^i:Nat):Int):=by
   rfl
theorem Ia(x y r c:Nat):(Builtin.bitAnd (Builtin.bitAnd ((x:Int)/2^((r:Int).toNat)) ((y:Int)/2^((c:Int).toNat))) 1==1)=(x.testBit r&&y.testBit c):=by
 rw[vx,vx,cS];have:Builtin.bitAnd ((x/2^r &&& y/2^c:Nat):Int) 1=_:=cS _ 1;rw[this,Nat.and_one_is_mod];have h:=Nat.testBit_zero (x/2^r &&& y/2^c);rw[Nat.testBit_and,nC,nC,T5,T5]at h;rw[h];rcases Nat.mod_two_eq_zero_or_one _ with z | z<;>rw[z]<;>rfl
theorem vy(b e:Nat×Nat):run G T fu (k+1) 19 [qD b,qD e]=some (.v (.bl (hs b e)) false):=by
 rw[k8 rfl rfl];unfold tz;have d:=mj (F:=run G T fu k) (δ:=j8 2 [qD b,qD e]) (a:=.ix (.var 0) (.int 0)) (b:=.ix (.var 1) (.int 0)) (j:=(e.1:Int)) (cx:=.strong) (cy:=.strong) rfl rfl (z9 _);have c:=mj (F:=run G T fu k) (δ:=j8 2 [qD b,qD e]) (a:=.ix (.var 0) (.int 1)) (b:=.ix (.var 1) (.int 1)) (i:=(b.2:Int)) (j:=(e.2:Int)) (cx:=.strong) (cy:=.strong) rfl rfl (z9 _);have q:=b_eq (B4 (op:=.BitAnd) (B4 (op:=.BitAnd) d c rfl) (g6 (i:=1)) rfl) (g6 (i:=1));rw[Ia]at q;exact k5 (j9 (n6 q))
theorem vz(bl:ge (Nat×Nat))(e:Nat×Nat)(a:bl.length<=1000):run G T fu (k+2) 18 [.lst (bl.map qD),qD e]=some (.v (.lst ((cv.wi hs bl e).map qD)) true):=by
 rw[k8 rfl rfl];unfold tx;exact k5 (j9 (n6 (G3 rfl Jz (e9 a Jz) λ b _=>⟨[.val (qD b),.val (qD e)],rfl,i4 (g8 rfl rfl (vy b e)),.strong,rfl,rfl⟩)))
theorem Ib(es:ge (Nat×Nat))(b:Nat×Nat)(a:es.length<=1000):run G T fu (k+2) 20 [.lst (es.map qD),qD b]=some (.v (.lst ((cv.lf hs es b).map qD)) true):=by
 rw[k8 rfl rfl];unfold tA;exact k5 (j9 (n6 (G3 rfl Jz (e9 a Jz) λ e _=>⟨[.val (qD e),.val (qD b)],rfl,i4 (fg (g8 rfl rfl (vy b e))),.strong,rfl,rfl⟩)))
def cO:on (ge (Nat×Nat))->Ou
 | some c=>.v (.lst (c.map qD)) true
 | none=>.v .non false
noncomputable def cB:ge MS:=[.set 4 false (.call 21 [.call 20 [.var 0,.var 3],.var 1,.bin .Sub (.var 2) (.int 1)]),.iff (.cmp .IsNot (.var 4) (.non)) [.ret (.bin .Add (.lst [.var 3]) (.var 4))] []]
def S5c(es bl:ge (Nat×Nat))(m:Nat)(z3 z4:Sv):ge Sv:=[.val (.lst (es.map qD)),.val (.lst (bl.map qD)),.val (.int (m:Int)),z3,z4]
theorem Ic(es:ge (Nat×Nat))(b:Nat×Nat):(cv.lf hs es b).length<=es.length:=C4 ..
theorem vA{fu k:Nat}{es bl:ge (Nat×Nat)}{m:Nat}(he:es.length<=1000){g:Nat×Nat->on (ge (Nat×Nat))}(hg:∀b c,g b=some c->c.length<=999):∀(bs:ge (Nat×Nat)) (z3 z4:Sv),
  (∀b∈bs,run G T fu (k+2) 21 [.lst ((cv.lf hs es b).map qD),.lst (bl.map qD),.int (m:Int)]=some (cO (g b))) ->
  match cv.fst1 g bs with
  | some c=>m7 (.one 3) (λ δ'=>evSs G (JK (k+2)) fu cB δ') (bs.map qD) (S5c es bl (m+1) z3 z4)=some (.rt (.lst (c.map qD)) true)
  | none=>∃z3' z4',m7 (.one 3) (λ δ'=>evSs G (JK (k+2)) fu cB δ') (bs.map qD) (S5c es bl (m+1) z3 z4)=some (.nx (S5c es bl (m+1) z3' z4'))
 | [],z3,z4,_=>⟨z3,z4,rfl⟩
 | b::bs,z3,z4,h=>by
  have hb:=h b (i5 ..);have ih:=vA (fu:=fu) (k:=k) (bl:=bl) (m:=m) he hg bs;have l:=g8 (G:=G) (F:=run G T fu (k+2)) (δ:=S5c es bl (m+1) (.val (qD b)) z4) (f:=20) (es:=[.var 0,.var 3]) (l:=[(.lst (es.map qD),.strong),(qD b,.strong)]) rfl rfl (Ib es b he);have m1:=az (d5 (G:=G) (F:=run G T fu (k+2)) (δ:=S5c es bl (m+1) (.val (qD b)) z4) (n:=2) (d:=.int ((m+1:Nat):Int)) rfl) (g6 (i:=1));rw[show((m+1:Nat):Int) - 1=(m:Int) by omega]at m1;unfold cv.fst1;cases q:g b with
  | some c=>
   rw[q]at hb;have cc:=g8 (f:=21) (e7 l (e7 (d5 (n:=1) (d:=.lst (bl.map qD)) rfl) (e7 m1 g7))) rfl hb;refine HM (δ1:=S5c es bl (m+1) (.val (qD b)) z4) rfl (f6 (j4 cc rfl) (W7 (i4 (x:=true) (cl:=.strong) rfl) (j9 (n6 (Y8 (lst1 (d5 (n:=3) rfl) rfl) (d5 (n:=4) rfl) ?_)))));rw[d7];have:=hg b c q;show 1+c.length<=1000;omega
  | none=>
   rw[q]at hb;have cc:=g8 (f:=21) (e7 l (e7 (d5 (n:=1) (d:=.lst (bl.map qD)) rfl) (e7 m1 g7))) rfl hb;have st:∀δ2,m7 (.one 3) (λ δ'=>evSs G (JK (k+2)) fu cB δ') (bs.map qD) (S5c es bl (m+1) (.val (qD b)) (.val .non))=δ2->m7 (.one 3) (λ δ'=>evSs G (JK (k+2)) fu cB δ') ((b::bs).map qD) (S5c es bl (m+1) z3 z4)=δ2:=λ δ2 e=>by rw[←e];exact gm (δ1:=S5c es bl (m+1) (.val (qD b)) z4) rfl (f6 (j4 cc rfl) (u4 (i4 (x:=false) (cl:=.strong) rfl) rfl))
   have:=ih (.val (qD b)) (.val .non) λ b' hb'=>h b' (i7 _ hb');dsimp only;cases e':cv.fst1 g bs with
   | some c'=>rw[e']at this;exact st _ this
   | none=>
    rw[e']at this;obtain⟨z3',z4',e⟩:=this;exact⟨z3',z4',st _ e⟩
theorem ix0:ixD (.lst (d::ds)) (.int 0)=some d:=by
 show atD _ 0=some d;unfold atD A1;rw[d8 Jz,d8 (by grind)];rfl
theorem gE(l:ge (Nat×Nat)):DV.plains 59 (l.map qD)=true:=aP λ d a=>by
 obtain⟨p,_,rfl⟩:=f9.mp a;rfl
theorem vB:∀(m:Nat) (es bl:ge (Nat×Nat)),es.length<=1000->bl.length<=1000->m<=900->run G T fu (k+m+3) 21 [.lst (es.map qD),.lst (bl.map qD),.int (m:Int)]=some (cO (cv.cov hs m es bl))
 | m,[],bl,_,_,_=>by
  rw[k8 (fd:=Y3) rfl rfl];unfold Y3;have:cv.cov hs m [] bl=some []:=by cases m<;>rfl
  rw[this];exact k5 (W7 (i4 (x:=true) (cl:=.strong) rfl) (j9 (n6 (U8 g7 Jz rfl))))
 | 0,e::es,bl,_,_,_=>by rw[k8 (fd:=Y3) rfl rfl];unfold Y3;have q:evE G (JK (k+0+2)) (.cmp .Eq (.var 0) (.lst [])) (j8 5 [.lst ((e::es).map qD),.lst (bl.map qD),.int ((0:Nat):Int)])=some (.ok (.bl false) .strong):=A7 (d5 rfl) (U8 g7 Jz rfl) (gC (gE (e::es))).1;exact k5 (u4 (i4 q) (W7 (i4 (x:=true) (cl:=.strong) rfl) (j9 (n6 (d:=.non) (cl:=.strong) rfl))))
 | m+1,e::es,bl,h,j,hm=>by
  rw[show k+(m+1)+3=(k+m+3)+1 by omega,k8 (fd:=Y3) rfl rfl];unfold Y3;have q:evE G (JK (k+m+3)) (.cmp .Eq (.var 0) (.lst [])) (j8 5 [.lst ((e::es).map qD),.lst (bl.map qD),.int ((m+1:Nat):Int)])=some (.ok (.bl false) .strong):=A7 (d5 rfl) (U8 g7 Jz rfl) (gC (gE (e::es))).1;have g:evE G (JK (k+m+3)) (.cmp .Eq (.var 2) (.int 0)) (j8 5 [.lst ((e::es).map qD),.lst (bl.map qD),.int ((m+1:Nat):Int)])=some (.ok (.bl false) .strong):=by have:=b_eq (d5 (G:=G) (F:=run G T fu (k+m+3)) (δ:=j8 5 [.lst ((e::es).map qD),.lst (bl.map qD),.int ((m+1:Nat):Int)]) (n:=2) (d:=.int ((m+1:Nat):Int)) rfl) (g6 (i:=0));rw[this,A4.mpr Jy]
  have w:k7 (evE G (JK (k+m+3)) (.call 18 [.var 1,.ix (.var 0) (.int 0)]) (j8 5 [.lst ((e::es).map qD),.lst (bl.map qD),.int ((m+1:Nat):Int)]))=some (.ok ((cv.wi hs bl e).map qD) .fresh):=(by rw[g8 (f:=18) (e7 (d5 rfl) (e7 (o7 (cx:=.strong) (d5 (n:=0) (d:=.lst (qD e::es.map qD)) rfl) (g6 (i:=0)) ix0) g7)) rfl (vz (fu:=fu) (k:=k+m+1) bl e j)];rfl);have a:=vA (fu:=fu) (k:=k+m+1) (es:=e::es) (bl:=bl) (m:=m) h (λ b c o=>e9 (cv.cov_ok hs o).2.2 Jy) (cv.wi hs bl e) .no .no λ b _=>vB m (cv.lf hs (e::es) b) bl (e9 (Ic ..) h) j Jy;show _=some (cO (cv.fst1 (λ b=>cv.cov hs m (cv.lf hs (e::es) b) bl) (cv.wi hs bl e)));cases l:cv.fst1 _ (cv.wi hs bl e)with
  | some c=>
   rw[l]at a;exact k5 (u4 (i4 q) (u4 (i4 g) (HN w (.inr rfl) a)))
  | none=>
   rw[l]at a;obtain⟨z3,z4,a⟩:=a;exact k5 (u4 (i4 q) (u4 (i4 g) (F0 w (.inr rfl) a (j9 (n6 (d:=.non) (cl:=.strong) rfl)))))
section
variable {rows:ge (ge Int)} {w:Int} {n m:Nat}
def rE(rows:ge (ge Int))(w:Int)(m r:Nat):ge (Nat×Nat):=((JJ m).filter λ c=>mf rows r c==w).map λ c=>(r,c)
def eE(rows:ge (ge Int))(w:Int)(m:Nat)(l:ge Nat):ge (Nat×Nat):=l.flatMap (rE rows w m)
theorem vC(r:Nat):(rE rows w m r).length<=m:=by
 unfold rE;rw[d7];refine e9 (C4 ..) ?_;rw[o9];exact f8 _
theorem vD(l:ge Nat):(eE rows w m l).length<=l.length*m:=by
 induction l with
 | nil=>exact v9 _
 | cons r l ih=>
  have h:=vC (rows:=rows) (w:=w) (m:=m) r;show(rE rows w m r++eE rows w m l).length<=_;rw[o5,n7,eK];omega
theorem rE_D(r:Nat):(rE rows w m r).map qD=((JJ m).filter λ c=>mf rows r c==w).map λ (c:Nat)=>DV.tup [.int (r:Int),.int (c:Int)]:=by
 unfold rE;rw[k6];rfl
theorem mD:p∈eE rows w m l↔p.1∈l/\p.2<m/\mf rows p.1 p.2=w:=by
 unfold eE rE;rw[dW];constructor
 ·rintro⟨r,d,h⟩
  obtain⟨c,e,rfl⟩:=f9.mp h;obtain⟨b,a⟩:=j2.mp e;exact⟨d,i6.mp b,by simpa using a⟩
 ·rintro⟨b,a,f⟩
  exact⟨p.1,b,f9.mpr ⟨p.2,j2.mpr ⟨i6.mpr a,by simpa using f⟩,rfl⟩⟩
end
theorem vE(c:δ[i]? = some (.own (.lst ds)))(h:evE G F e δ=some (.ok (.lst a) .fresh))(b:ds.length+a.length<=1000):evS G F fu (.ext i e) δ=some (.nx (δ.set i (.own (.lst (ds++a))))):=by
 show(match δ[i]? with | some (.own (.lst ds))=>Re.thnS δ _ _ | _=>none)=_;rw[c];dsimp only;rw[h];show(if Cl.fresh=.strong\/Cl.fresh=.fresh then(if ds.length+a.length<=j5 then some (Out.nx _)else none)else none)=_;rw[d8 (.inr rfl),d8 (e9 b Jz)]
theorem Ie{fu k:Nat}{m:LamD}{cs args:ge DV}{d:DV}(h1:args.length=m.np/\args.length+cs.length=m.N.length/\DV.nolams args=true/\DV.nolams cs=true)(h:evE G (JK k) m.body ((args++cs).map Sv.val)=some (.ok d .strong))(hd:d.nolam=true):run G T fu (k+1) B2 (.lam m cs::args)=some (.v d false):=by
 have e1:run G T fu (k+1) B2 (.lam m cs::args)=lamR (evE G (JK k)) (.lam m cs::args):=rfl;rw[e1];show(if args.length=m.np/\args.length+cs.length=m.N.length/\DV.nolams args=true/\DV.nolams cs=true then(match evE G (JK k) m.body ((args++cs).map Sv.val)with
  | some (.ok d .strong)=>if d.nolam then some (Ou.v d false)else none
  | _=>none)else none)=_
 rw[d8 h1,h];exact d8 hd
theorem nl_q:∀l:ge (Nat×Nat),DV.nolams (l.map qD)=true
 | []=>rfl
 | p::l=>by show((qD p).nolam&&DV.nolams _)=true;rw[nl_q l];rfl
theorem vF:∀(l:ge (ge Int)) (j:Nat),enuD j (l.map λ r=>.tup (iD r))=(JJ l.length).map λ (i:Nat)=>DV.tup [.int ((j+i:Nat):Int),.tup (iD (l.getD i []))]
 | [],_=>rfl
 | r::l,j=>by
  show DV.tup _::enuD _ _=_;rw[vF l _,n7,nJ,t9,k6]
  congr 1
  apply D2;intro i _;show DV.tup _=DV.tup [.int _,.tup (iD (l.getD i []))];rw[show j+1+i=j+(i+1) by omega]
noncomputable def xB:ge MS:=[.ext 3 (.compi (.tup [.var 1,.var 0]) (.one 0) (.rng [.bi .len [.var 5]]) (.cmp .Eq (.ix (.var 2) (.var 0)) (.var 3)) [none,some 4,some 5,some 1])]
theorem vG(R:Rect n m rows)(v:m<=8):∀(l:ge Nat) (a:ge (Nat×Nat)) (o g:Sv),(∀r∈l,r<n)->a.length+l.length*8<=900 ->
  ∃d b,m7 (.many [4,5]) (λ q=>evSs G F fu xB q) (l.map λ (j:Nat)=>DV.tup [.int (j:Int),.tup (iD (rows.getD j []))]) [.val (tT rows),.val (.int w),.val x,.own (.lst (a.map qD)),o,g]=some (.nx [.val (tT rows),.val (.int w),.val x,.own (.lst ((a++eE rows w m l).map qD)),d,b])
 | [],a,o,g,_,_=>⟨o,g,by unfold eE;rw[List.flatMap_nil,A6];rfl⟩
 | r::l,a,o,g,h,B=>by
  have A:=h r (i5 ..);have rl:=vC (rows:=rows) (w:=w) (m:=m) r;rw[n7]at B;obtain⟨d,b,e⟩:=vG (x:=x) R v l (a++rE rows w m r) _ _ (λ x z=>h x (i7 _ z)) (by rw[o5];omega);refine⟨d,b,?_⟩;rw[show a++eE rows w m (r::l)=a++rE rows w m r++eE rows w m l by rw[N9];rfl,←e];have y:=R.2 _ (B9 (by rw[R.1];exact A));have u:=K2 (F:=F) (δ:=[.val (tT rows),.val (.int w),.val x,.own (.lst (a.map qD)),.val (.int (r:Int)),.val (.tup (iD (rows.getD r [])))]) (e:=.var 5) (c:=.strong) rfl;rw[show(iD (rows.getD r [])).length=m by unfold iD;rw[d7];exact y]at u;have c:=G3 (F:=F) (f:=λ (c:Nat)=>DV.tup [.int (r:Int),.int (c:Int)]) (p:=λ c=>mf rows r c==w) (elt:=.tup [.var 1,.var 0]) (tg:=.one 0)
   (fr:=[none,some 4,some 5,some 1]) (cl:=.fresh) (aQ u Jy) Jz (by rw[o9];exact e9 v Jz) (λ c C=>by
    have s:=i6.mp C;refine⟨[.val (.int c),.val (.int r),.val _,.val (.int w)],rfl,?_,.strong,rfl,rfl⟩;exact i4 (b_eq (o7 (d5 (n:=2) rfl) (d5 (n:=0) rfl) (cP (by rw[y];exact s))) (d5 (n:=3) rfl)))
  rw[←rE_D]at c;have ex:=vE (fu:=fu) (i:=3) (ds:=a.map qD) rfl c (by rw[d7,d7];omega);rw[←t5]at ex;exact gm rfl (f6 ex rfl)
theorem vH(h:∀p,F B2 [mm,qD p]=some (.v (.int (g p)) false)):∀l:ge (Nat×Nat),Q6 F mm (l.map qD)=some (l.map g)
 | []=>rfl
 | p::l=>by
  show(match F B2 _ with
   | some (.v (.int k) false)=>(Q6 F mm _).map _
   | _=>none)=_
  rw[h p,vH h l];rfl
theorem Ig(h:∀i∈a,i<l.length):putIx DV.non a (l.map qD)=(putIx (0,0) a l).map qD:=by
 unfold putIx;rw[k6];apply D2;intro i b;have:=h i b;simp[p5,o8,j6 this]
theorem Ih(R:Rect n m rows)(x:0<n)(hn:n<=8)(y:m<=8){bl:ge (Nat×Nat)}(C:bl.length<=1000)(c:(eE rows w m (JJ n)).length<64):∃es':ge (Nat×Nat),es'.Perm (eE rows w m (JJ n))/\run G T fu (k+4) 17 [tT rows,.int w,.lst (bl.map qD)]=some (.v (.lst (es'.map qD)) true):=by
 obtain⟨o,j,e⟩:=vG (fu:=fu) (w:=w) R y (JJ n) [] .no .no (λ r v=>i6.mp v) (by rw[o9];show 0+n*8<=900;omega);rw[bq]at e;obtain⟨b,h⟩:∃b,b=eE rows w m (List.range n):=⟨_,rfl⟩;rw[←h]at e c ⊢;obtain⟨d,u,g⟩:=Aq _;rw[d7]at g;refine⟨putIx (0,0) d b,Ar g,?_⟩;rw[k8 rfl rfl];unfold tw;have A:=vH (F:=run G T fu (k+3)) (mm:=.lam ⟨["entry","blocks"],1,.bi .len [.call 18 [.var 1,.var 0]],G.fnl,G.bll,G.cll⟩ [.lst (bl.map qD)]) (λ p=>by
  refine Ie (k:=k+2) (args:=[qD p]) ⟨rfl,rfl,rfl,?_⟩ ?_ rfl
  ·show(DV.nolams (bl.map qD)&&true)=true;rw[nl_q];rfl
  ·have:=D0 (g8 (G:=G) (F:=run G T fu (k+2)) (δ:=[.val (qD p),.val (.lst (bl.map qD))]) (f:=18) (es:=[.var 1,.var 0]) (l:=[(.lst (bl.map qD),.strong),(qD p,.strong)]) rfl rfl (vz bl p C));rw[d7]at this;exact this) b
 have q:evE G (JK (k+3)) (.srtk (.var 3) ["entry","blocks"] 1 (.bi .len [.call 18 [.var 1,.var 0]]) [2]) [.val (tT rows),.val (.int w),.val (.lst (bl.map qD)),.own (.lst (b.map qD)),o,j]=some (.ok (.lst ((putIx (0,0) d b).map qD)) .fresh):=by
  show bJ G (JK (k+3)) _ ["entry","blocks"] 1 _ (capD _ [2])=_;have E:capD [.val (tT rows),.val (.int w),.val (.lst (bl.map qD)),.own (.lst (b.map qD)),o,j] [2]=some [.lst (bl.map qD)]:=by show(if(DV.lst (bl.map qD)).nolam then some [DV.lst (bl.map qD)]else none)=_;rw[show(DV.lst (bl.map qD)).nolam=DV.nolams (bl.map qD)from rfl,nl_q];rfl
  rw[E];unfold bJ;dsimp only;rw[e8 JI,N0 rfl];show(if(true=true)/\(b.map qD).length<64 then(Q6 _ _ (b.map qD)).bind λ s=>(O4 s).map λ d=>Re.ok (.lst (putIx .non d (b.map qD))) .fresh else none)=_;rw[d8 ⟨rfl,by rw[d7];exact c⟩,A,G5,u,D7,Ig λ i B=>i6.mp (g.mem_iff.mp B)]
 refine k5 (f6 (O6 (U8 g7 Jz rfl)) (F0 (cl:=.strong) ?_ (.inl rfl) e (j9 (n6 q))));show some _=_;rw[vF,R.1];simp only[T5];rfl
section
variable {rows:ge (ge Int)} {w:Int} {n m:Nat}
def wN(rows:ge (ge Int))(w:Int)(n m:Nat):ge (Nat×Nat):=((al n).filter (good rows w n m)).map λ S=>(S,bs (JL rows w m S))
theorem vI:pD (wdl rows w n m)=(wN rows w n m).map qD:=by
 unfold pD wdl wN;rw[k6,k6];rfl
theorem vJ(a:n<=8):(wN rows w n m).length<=1000:=by
 unfold wN;rw[d7];refine e9 (C4 ..) ?_;unfold al;rw[d7,o9];have:2^n<=2^8:=x9 Jz a;omega
def rb(rows:ge (ge Int))(w:Int)(n m i:Nat):Nat×Nat:=(bs (RL rows w n (JL rows w m (2^i))),bs (JL rows w m (2^i)))
theorem Ii(h:r∈cs (2^i)):i=r:=by
 have a:=(j2.mp h).2;rw[Nat.testBit_two_pow]at a;exact Z9 a
theorem vK(b:j<m)(h:mf rows i j=w):j∈JL rows w m (2^i):=by
 refine j2.mpr ⟨i6.mpr b,t7.mpr λ r a=>?_⟩;rw[←Ii a,h];exact O0 _
theorem vL(e:i<n)(d:j<m)(h:mf rows i j=w):rb rows w n m i∈wN rows w n m:=by
 have b:JL rows w m (2^i)≠[]:=λ q=>by have:=vK d h;rw[q]at this;cases this
 obtain⟨l,g,f,c,a⟩:=vo (aq Jz) (Nat.pow_lt_pow_right Jz e) b;refine f9.mpr ⟨l,j2.mpr ⟨mx.mpr ⟨g,f⟩,my.mpr ⟨by rw[a];exact b,by rw[a];exact c⟩⟩,?_⟩;unfold rb;rw[a,c]
theorem vM(b:i<n)(a:j<m)(h:mf rows i j=w):hs (rb rows w n m i) (i,j)=true:=by
 unfold hs rb;rw[d6];constructor
 ·show(bs _).testBit i=true;unfold RL;rw[(bs_f _ n).2,t8 b,L3];refine t7.mpr λ c d=>?_
  have h2:0<2^i:=aq Jz;exact t7.mp (j2.mp d).2 i (j2.mpr ⟨i6.mpr (by rw[Nat.log2_two_pow];omega),by rw[Nat.testBit_two_pow];exact t8 rfl⟩)
 ·show(bs _).testBit j=true;unfold JL;rw[(bs_f _ m).2,t8 a,L3];exact(j2.mp (vK a h)).2
theorem Ij{es:ge (Nat×Nat)}(e:∀p∈es,p∈eE rows w m (JJ n)):∀p∈es,∃b∈wN rows w n m,hs b p=true:=λ p h=>by
 obtain⟨d,c,a⟩:=mD.mp (e p h);exact⟨_,vL (i6.mp d) c a,vM (i6.mp d) c a⟩
theorem vN(f:∀p∈es,p∈eE rows w m (JJ n)):cv.cov hs n es (wN rows w n m)≠none:=by
 refine cv.cov_all hs (c:=((JJ n).filter λ i=>(JJ m).any λ j=>mf rows i j==w).map (rb rows w n m)) (λ b o=>?_) (λ p h=>?_) ?_
 ·obtain⟨i,l,rfl⟩:=f9.mp o;obtain⟨d,a⟩:=j2.mp l;obtain⟨j,g,q⟩:=J6.mp a;exact vL (i6.mp d) (i6.mp g) (by simpa using q)
 ·obtain⟨d,a,e⟩:=mD.mp (f p h);exact⟨_,f9.mpr ⟨p.1,j2.mpr ⟨d,J6.mpr ⟨p.2,i6.mpr a,by simpa using e⟩⟩,rfl⟩,vM (i6.mp d) a e⟩
 ·rw[d7];refine e9 (C4 ..) ?_;rw[o9];exact f8 _
end
theorem Ik(h:evE G F e δ=some (.ok .non .strong)):evS G F fu (.set i true e) δ=some (.nx (δ.set i (.val .non))):=by
 have a:evS G F fu (.set i true e) δ=Re.thnS δ _ _:=rfl;rw[a,h];rfl
theorem Il(f:δ[i]? = some (JH a))(h:JA e c (.int b)):evS G F fu (.aug i e) δ=some (.nx (δ.set i (JH (a+b)))):=by
 have g:evS G F fu (.aug i e) δ=(asIv δ[i]?).bind λ a=>Re.thnS δ _ λ d _=>(asI d).bind λ b=>some _:=rfl;rw[g,f,h];rfl
def sv:on (ge (Nat×Nat))->Sv
 | some c=>.own (.lst (c.map qD))
 | none=>.val .non
noncomputable def cE:ME:=.call 21 [.var 3,.var 2,.var 4]
def wB':ge MS:=[.aug 4 (.int 1),.set 5 true cE]
def S6c(x:DV)(w:Int)(bl es:ge (Nat×Nat))(j:Nat)(z:Sv):ge Sv:=[.val x,.val (.int w),.val (.lst (bl.map qD)),.val (.lst (es.map qD)),.val (.int (j:Int)),z]
theorem vO(hj:j<=8)(a:es.length<=1000)(b:bl.length<=1000):evS G (JK (k+11)) fu (.set 5 true cE) (S6c x w bl es j z)=some (.nx (S6c x w bl es j (sv (cv.cov hs j es bl)))):=by
 have q:=vB (fu:=fu) (k:=k+(8 - j)) j es bl a b Jy;rw[show k+_+j+3=k+11 by omega]at q;cases z:cv.cov hs j es bl with
 | some c=>
  rw[z]at q;exact O6 (g8 (l:=[(.lst _,.strong),(.lst _,.strong),(.int _,.strong)]) rfl rfl q)
 | none=>
  rw[z]at q;exact Ik (g8 (l:=[(.lst _,.strong),(.lst _,.strong),(.int _,.strong)]) rfl rfl q)
theorem vP(m:n<=8)(g:es.length<=1000)(l:bl.length<=1000)(h:cv.cov hs n es bl≠none):∀(d j f:Nat),j+d=n->d<f->(∀i<j,cv.cov hs i es bl=none) ->
  ∃t c,t<=n/\cv.cov hs t es bl=some c/\(∀i<t,cv.cov hs i es bl=none)/\J9 (λ a=>tstD (evE G (JK (k+11)) (.cmp .Is (.var 5) (.non)) a)) (λ a=>evSs G (JK (k+11)) fu wB' a) f (S6c x w bl es j (sv (cv.cov hs j es bl)))=some (.nx (S6c x w bl es t (sv (some c))))
 | d,j,0,_,e,_=>by cases e
 | d,j,f+1,hd,e,b=>by
  cases z:cv.cov hs j es bl with
  | some c=>
   refine⟨j,c,by omega,z,b,?_⟩;have t:tstD (evE G (JK (k+11)) (.cmp .Is (.var 5) (.non)) (S6c x w bl es j (sv (some c))))=some _:=i4 rfl;exact zt t
  | none=>
   cases d with
   | zero=>
    have:j=n:=by omega
    subst this;exact absurd z h
   | succ d=>
    obtain⟨t,c,u,s,r,p⟩:=vP m g l h d (j+1) f Jy Jy (λ i o=>by
     rcases dJ (ig o)with q | q
     ·exact b i q
     ·rw[q];exact z)
    refine⟨t,c,u,s,r,?_⟩;have v:=Il (F:=run G T fu (k+11)) (fu:=fu) (δ:=S6c x w bl es j (sv none)) (i:=4) rfl (g6 (i:=1));exact zu (i4 rfl) (f6 v (f6 (vO (j:=j+1) (z:=sv none) Jy g l) rfl)) p
theorem vQ{es:ge (Nat×Nat)}(h:∀p∈es,p∈a)(q:cv.cov hs m es bl=none):cv.cov hs m a bl=none:=by
 cases z:cv.cov hs m a bl with
 | none=>rfl
 | some c=>
  obtain⟨f,e,d⟩:=cv.cov_ok hs z;exact absurd q (cv.cov_all hs f (λ p b=>e p (h p b)) d)
theorem Im(R:Rect n m rows)(a:0<n)(b:n<=8)(o:m<=8)(B:(FI rows).length<=5)(A:(JD).length<=5)(g:(eE rows w m (JJ n)).length<64)(hf:100<=fu):∃(es' c:ge (Nat×Nat)) (t:Nat),es'.Perm (eE rows w m (JJ n))/\cv.cov k35.hs t es' (wN rows w n m)=some c/\(∀i<t,cv.cov k35.hs i es' (wN rows w n m)=none)/\t<=n/\run G T fu (k+12) 16 [tT rows,.int w]=some (.v (.lst (c.map qD)) true):=by
 have e:=vJ (rows:=rows) (w:=w) (m:=m) b;obtain⟨es',p,F⟩:=Ih (w:=w) R a b o e g;have r:es'.length<=1000:=by rw[p.length_eq];omega
 obtain⟨t,c,x,v,u,s⟩:=vP (k:=k) (w:=w) b r e (vN λ q y=>p.mem_iff.mp y) n 0 fu Jy Jy (λ i z=>by cases z);refine⟨es',c,t,p,v,u,x,?_⟩;have h:=vw (fu:=fu) (k:=k+8) (w:=w) R a b o;rw[vI]at h;rw[k8 rfl rfl];unfold tu;have E:evS G (JK (k+11)) fu (.exp (.call 10 [.var 0])) (j8 6 [tT rows,.int w])=some (.nx (j8 6 [tT rows,.int w])):=by have C:evS G (JK (k+11)) fu (.exp (.call 10 [.var 0])) (j8 6 [tT rows,.int w])=Re.thnS (j8 6 [tT rows,.int w]) (evE G (JK (k+11)) (.call 10 [.var 0]) (j8 6 [tT rows,.int w])) λ _ _=>some (.nx (j8 6 [tT rows,.int w])):=rfl;rw[C,g8 rfl rfl (lU rows n m R a Jy Jy B A)];rfl
 refine k5 (f6 E (f6 (j4 (g8 (f:=13) (l:=[(tT rows,.strong),(.int w,.strong)]) rfl rfl h) rfl) (f6 (j4 (g8 (f:=17) (l:=[(tT rows,.strong),(.int w,.strong),(.lst ((wN rows w n m).map qD),.strong)]) rfl rfl F) rfl) (f6 (j4 (d:=.int 0) (cl:=.strong) rfl rfl) (f6 (vO (k:=k) (j:=0) Jy r e) (zw s (j9 (n6 (N0 rfl)))))))))
def Lst(E bl:ge (Nat×Nat))(t:Nat):Prop:=cv.cov hs t E bl≠none/\∀i<t,cv.cov hs i E bl=none
theorem Lst.uniq(h:Lst E bl t)(g:Lst E bl u):t=u:=by
 rcases dO t u with z | z | z
 ·exact absurd (g.2 t z) h.1
 ·exact z
 ·exact absurd (h.2 u z) g.1
theorem Lst.perm(h:Lst E bl t)(p:E.Perm b):Lst b bl t:=
 ⟨λ z=>h.1 (vQ (λ q a=>p.mem_iff.mpr a) z),λ i c=>vQ (λ q a=>p.mem_iff.mp a) (h.2 i c)⟩
theorem vR(R:Rect n m rows)(f:0<n)(q:n<=8)(r:m<=8)(a:(FI rows).length<=5)(d:(JD).length<=5)(g:(eE rows w m (JJ n)).length<64)(s:100<=fu)(o:Lst (eE rows w m (JJ n)) (wN rows w n m) t) :
  ∃c:ge (Nat×Nat),c.length=t/\(∀b∈c,b∈wN rows w n m)/\(∀e∈eE rows w m (List.range n),∃b∈c,hs b e=true)/\run G T fu (k+12) 16 [tT rows,.int w]=some (.v (.lst (c.map qD)) true):=by
 obtain⟨h,c,u,p,a,d,_,x⟩:=Im R f q r a d g s;have l:Lst h _ u:=⟨(λ z=>by rw[z]at a;cases a),d⟩;have:=(l.perm p).uniq o;subst this;obtain⟨j,i,_⟩:=cv.cov_ok hs a;exact⟨c,cv.cov_least hs a d,j,λ e v=>i e (p.mem_iff.mpr v),x⟩
theorem vS(hn:n<=8):∃t,t<=n/\Lst (eE rows w m (JJ n)) (wN rows w n m) t:=by
 have g:∀d j,j+d=n->(∀i<j,cv.cov hs i (eE rows w m (JJ n)) (wN rows w n m)=none)->∃t,t<=n/\Lst (eE rows w m (JJ n)) (wN rows w n m) t:=by
  intro d
  induction d with
  | zero=>
   intro j f a;have:j=n:=by omega
   subst this;exact⟨j,f8 _,(vN λ _ h=>h),a⟩
  | succ d e=>
   intro j f a;cases z:cv.cov hs j _ _ with
   | some c=>exact⟨j,by omega,(λ q=>by rw[z]at q;cases q),a⟩
   | none=>
    refine e (j+1) Jy λ i b=>?_;rcases dJ (ig b)with q | q
    ·exact a i q
    ·rw[q];exact z
 exact g n 0 Jy λ i b=>by cases b
section
variable {α β:Type}
noncomputable def mA(ap:α->α->Bool):ge α->ge α
 | []=>[]
 | e::l=>if(mA ap l).length<=(e::mA ap (l.filter (ap e))).length then e::mA ap (l.filter (ap e))else mA ap l
termination_by l=>l.length
decreasing_by
 all_goals simp only[n7]
 all_goals first | exact P8 _ | exact Nat.lt_succ_of_le (C4 ..) | exact Nat.lt_succ_of_le (by rw[List.length_unattach];exact e9 (C4 ..) (by rw[List.length_attach];exact f8 _))
theorem mE:mA a []=[]:=by unfold mA;rfl
theorem gF:mA a (e::l)=if(mA a l).length<=(e::mA a (l.filter (a e))).length then e::mA a (l.filter (a e))else mA a l:=by
 rw[mA]
theorem aV(a:α->α->Bool):∀(n:Nat) (l:ge α),l.length<=n->(mA a l).Sublist l
 | _,[],_=>by rw[mE];exact List.Sublist.refl _
 | 0,_::_,h=>by simp at h
 | n+1,e::l,h=>by
  rw[n7]at h;rw[gF];split
  ·exact((aV a n _ (e9 (C4 ..) Jy)).trans List.filter_sublist).cons₂ _
  ·exact(aV a n l Jy).cons _
theorem mF(c:α->α->Bool):∀(n:Nat) (l:ge α),l.length<=n->(mA c l).Pairwise λ a b=>c a b=true
 | _,[],_=>by rw[mE];exact List.Pairwise.nil
 | 0,_::_,h=>by simp at h
 | n+1,e::l,h=>by
  rw[n7]at h;rw[gF];have d:(l.filter (c e)).length<=n:=e9 (C4 ..) Jy;split
  ·refine D3.mpr ⟨λ x f=>?_,mF c n _ d⟩;exact(j2.mp ((aV c n _ d).subset f)).2
  ·exact mF c n l Jy
end
noncomputable def kp(f:Nat->Nat->Int)(p q:(Nat×Nat)):Bool:=if f q.1 q.2 != f p.1 p.2 then false else(f p.1 q.2 != f p.1 p.2||f q.1 p.2 != f p.1 p.2)
noncomputable def N7(f:Nat->Nat->Int)(w:Int)(J:ge Nat)(I:ge Nat):ge (Nat×Nat):=I.flatMap λ r=>(J.filter λ c=>f r c==w).map λ c=>(r,c)
theorem mG(h:p∈N7 f w J I):p.1∈I/\p.2∈J/\f p.1 p.2=w:=by
 obtain⟨r,a,b⟩:=dW.mp h;obtain⟨c,d,rfl⟩:=f9.mp b;obtain⟨g,e⟩:=j2.mp d;exact⟨a,g,M4 e⟩
theorem aW(h:evE G F e δ=some (.ok (qD p) .strong)):evE G F (.ix e (.int 0)) δ=some (.ok (.int (p.1:Int)) .strong):=o7 h g6 rfl
theorem aX(h:evE G F e δ=some (.ok (qD p) .strong)):evE G F (.ix e (.int 1)) δ=some (.ok (.int (p.2:Int)) .strong):=o7 h g6 rfl
theorem Io{F:Nat->ge DV->on Ou}{δ:ge Sv}{a b:ME}{x y:Bool}{cx:Cl}(ha:evE G F a δ=some (.ok (.bl x) .strong))(hb:evE G F b δ=some (.ok (.bl y) .strong)):evE G F (.or [a,b]) δ=some (.ok (.bl (x||y)) .strong):=by
 cases x with
 | true=>exact zr ha
 | false=>rw[Bool.false_or];exact zq ha hb
theorem Iq{F:Nat->ge DV->on Ou}{δ:ge Sv}{n m:Nat}{f:Nat->Nat->Int}{d:DV}{p q:(Nat×Nat)}{w:Int}{wv:ME}(L:Look d n m f)(h0:evE G F (.var 0) δ=some (.ok d .strong))(h1:evE G F (.var 1) δ=some (.ok (qD p) .strong))(h2:evE G F (.var 2) δ=some (.ok (qD q) .strong))(h3:evE G F (.var 3) δ=some (.ok (.int w) .strong))(p1:p.1<n)(p2:p.2<m)(q1:q.1<n)(q2:q.2<m) :
  evE G F (.or [.cmp .NotEq (.ix (.ix (.var 0) (.ix (.var 1) (.int 0))) (.ix (.var 2) (.int 1))) (.var 3),.cmp .NotEq (.ix (.ix (.var 0) (.ix (.var 2) (.int 0))) (.ix (.var 1) (.int 1))) (.var 3)]) δ=some (.ok (.bl (f p.1 q.2 != w||f q.1 p.2 != w)) .strong):=
 Io (cx:=.strong) (b_ne (cV L h0 (aW h1) (aX h2) p1 q2) h3) (b_ne (cV L h0 (aW h2) (aX h1) q1 p2) h3)
theorem Ir(L:Look d n m f)(l:p.1<n)(j:p.2<m)(i:q.1<n)(g:q.2<m):run G T fu (k+1) 24 [d,qD p,qD q]=some (.v (.bl (kp f p q)) false):=by
 rw[k8 rfl rfl];unfold tF kp;have c:=b_ne (F:=run G T fu k) (δ:=[.val d,.val (qD p),.val (qD q),.val (.int (f p.1 p.2))]) (cV (a:=.var 0) (b:=.ix (.var 2) (.int 0)) (e:=.ix (.var 2) (.int 1)) L (d5 rfl) (aW (d5 rfl)) (aX (d5 rfl)) i g) (d5 (n:=3) rfl);refine k5 (f6 (j4 (cV L (d5 rfl) (aW (d5 rfl)) (aX (d5 rfl)) l j) rfl) ?_);cases h:f q.1 q.2 != f p.1 p.2 with
 | true=>
  rw[h]at c;rw[d8 rfl];exact W7 (i4 c) (j9 rfl)
 | false=>
  rw[h]at c;rw[e8 x0];exact u4 (i4 c) (j9 (n6 (Iq (wv:=.var 3) L (d5 rfl) (d5 rfl) (d5 rfl) (d5 rfl) l j i g)))
theorem Iu(h:tstD (evE G F c δ)=some (.ok true))(d:evE G F a δ=o):evE G F (.ite c a b) δ=o:=by
 show Rt.thn _ _=o;rw[h];exact d
theorem Iv(h:tstD (evE G F c δ)=some (.ok false))(d:evE G F b δ=o):evE G F (.ite c a b) δ=o:=by
 show Rt.thn _ _=o;rw[h];exact d
theorem vT(l:ge (Nat×Nat)):cmpD .Eq (.lst (l.map qD)) (.lst [])=some (l==[]):=by
 have b:DV.plain 60 (.lst _)=true:=gE l;show(if(DV.plain 60 _&&DV.plain 60 _)=true then some (deq _ _)else none)=_;rw[b];cases l with
 | nil=>rfl
 | cons a r=>rfl
theorem b_ge(d:JA a cx (.int i))(c:JA b cy (.int j)):evE G F (.cmp .GtE a b) δ=some (.ok (.bl (decide (j<=i))) .strong):=A7 d c rfl
theorem Iw{l:ge (Nat×Nat)}{cd:ME}(hw:k7 (evE G F it δ)=some (.ok (l.map qD) cl))(c:cl ≠ .weak)(b:l.length<=1000)
  (h:∀a∈l,∃δ',(Tg.one 0).bind (qD a) (u0 fr δ)=some δ'/\tstD (evE G F cd δ')=some (.ok (p a))/\evE G F (.var 0) δ'=some (.ok (qD a) .strong)):evE G F (.compi (.var 0) (.one 0) it cd fr) δ=some (.ok (.lst ((l.filter p).map qD)) .fresh):=
 G3 hw c (e9 b Jz) λ a d=>by obtain⟨δ',g,f,e⟩:=h a d;exact⟨δ',g,f,.strong,e,rfl⟩
theorem mH{fu n m:Nat}{f:Nat->Nat->Int}{d:DV}(L:Look d n m f):∀(N:Nat) (l:ge (Nat×Nat)) (k:Nat),l.length<=N->N<=900->N+2<=k->(∀p∈l,p.1<n/\p.2<m)->run G T fu k 23 [d,.lst (l.map qD)]=some (.v (.lst ((mA (kp f) l).map qD)) true)
 | N,[],k+1,_,_,_,_=>by rw[k8 (fd:=cL) rfl rfl,mE];unfold cL;exact k5 (W7 (i4 (A7 (x:=.lst []) (y:=.lst []) (cx:=.strong) (cy:=.fresh) (d5 rfl) rfl (vT []))) (j9 rfl))
 | 0,_::_,_,h,_,_,_=>by simp at h
 | N+1,e::l,k+1,h,h9,hk,hr=>by
  rw[n7]at h;rw[k8 (fd:=cL) rfl rfl];unfold cL;have rl:∀p∈l,p.1<n/\p.2<m:=λ p hp=>hr p (i7 _ hp)
  have re:=hr e (i5 ..);have hfl:(l.filter (kp f e)).length<=N:=e9 (C4 ..) Jy;have r1:=mH (fu:=fu) (k:=k) L N (l.filter (kp f e)) hfl Jy Jy λ p hp=>rl p (j2.mp hp).1;have r2:=mH (fu:=fu) (k:=k) L N l Jy Jy Jy rl;have t0:tstD (evE G (JK k) (.cmp .Eq (.var 1) (.lst [])) (j8 6 [d,.lst ((e::l).map qD)]))=some (.ok false):=i4 (A7 (cx:=.strong) (cy:=.fresh) (x:=.lst ((e::l).map qD)) (y:=.lst []) (d5 rfl) rfl (vT (e::l)));have s1:evE G (JK k) (.ix (.var 1) (.int 0)) (j8 6 [d,.lst ((e::l).map qD)])=some (.ok (qD e) .strong):=o7 (cx:=.strong) (x:=.lst ((e::l).map qD)) (y:=.int 0) (d5 rfl) g6 (by
   have h0:(0:Int)<(((e::l).map qD).length:Int):=by simp
   simp only[ixD,atD,A1,d8 (Int.le_refl 0),d8 h0,G5];rfl)
  have s2:evE G (JK k) (.slf (.var 1) (.int 1)) [.val d,.val (.lst ((e::l).map qD)),.val (qD e),.no,.no,.no]=some (.ok (.lst (l.map qD)) .fresh):=lX (c:=.strong) (c1:=.strong) (ds:=(e::l).map qD) (h:=1) (d5 rfl) g6;have cm:=Iw (F:=run G T fu k) (δ:=[.val d,.val (.lst ((e::l).map qD)),.val (qD e),.val (.lst (l.map qD)),.no,.no]) (l:=l) (p:=kp f e) (it:=.var 3) (cd:=.call 24 [.var 1,.var 2,.var 0]) (fr:=[none,some 0,some 2]) (cl:=.strong) rfl Jz Jy
   λ a ha=>⟨[.val (qD a),.val d,.val (qD e)],rfl,i4 (cl:=.strong) (g8 (fr:=false) (l:=[(d,.strong),(qD e,.strong),(qD a,.strong)]) rfl rfl (by
    obtain⟨k',rfl⟩:∃k',k=k'+1:=⟨k - 1,by omega⟩;exact Ir (fu:=fu) (k:=k') L re.1 re.2 (rl a ha).1 (rl a ha).2)),d5 rfl⟩
  have lt:∀l:ge (Nat×Nat),((mA (kp f) l).map qD).length<=l.length:=λ l=>by rw[d7];exact(aV (kp f) _ l (f8 _)).length_le
  have s3:evE G (JK k) (.bin .Add (.lst [.var 2]) (.call 23 [.var 0,.compi (.var 0) (.one 0) (.var 3) (.call 24 [.var 1,.var 2,.var 0]) [none,some 0,some 2]])) [.val d,.val (.lst ((e::l).map qD)),.val (qD e),.val (.lst (l.map qD)),.no,.no]=some (.ok (.lst ((e::mA (kp f) (l.filter (kp f e))).map qD)) .fresh):=
   Y8 (x:=[qD e]) (cx:=.fresh) (cy:=.fresh) rfl (g8 (e7 (d5 rfl) (e7 cm g7)) rfl r1) (by have:=lt (l.filter (kp f e));simp only[N8];omega)
  have s4:evE G (JK k) (.call 23 [.var 0,.var 3]) [.val d,.val (.lst ((e::l).map qD)),.val (qD e),.val (.lst (l.map qD)),.own (.lst ((e::mA (kp f) (l.filter (kp f e))).map qD)),.no]=some (.ok (.lst ((mA (kp f) l).map qD)) .fresh):=g8 (e7 (d5 rfl) (e7 (d5 rfl) g7)) rfl r2;have t1:=b_ge (F:=run G T fu k) (δ:=[.val d,.val (.lst ((e::l).map qD)),.val (qD e),.val (.lst (l.map qD)),.own (.lst ((e::mA (kp f) (l.filter (kp f e))).map qD)),.own (.lst ((mA (kp f) l).map qD))]) (D0 (N0 (n:=4) rfl)) (D0 (N0 (n:=5) rfl));rw[d7,d7]at t1;refine k5 (u4 t0 (f6 (j4 s1 rfl) (f6 (j4 s2 rfl) (f6 (O6 s3) (f6 (O6 s4) (j9 ?_))))));rw[gF];by_cases hle:(mA (kp f) l).length<=(e::mA (kp f) (l.filter (kp f e))).length
  ·rw[d8 hle];rw[t8 Jy]at t1;exact n6 (cl:=.top) (Iu (i4 t1) (N0 rfl))
  ·rw[e8 hle];rw[x4 Jy]at t1;exact n6 (cl:=.top) (Iv (i4 t1) (N0 rfl))
end k35
end
noncomputable section
namespace k35
open PySem L2
variable {fu k:Nat} {F:Nat->ge DV->on Ou} {δ:ge Sv} {ds:ge DV} {cl:Cl} {n m:Nat} {f:Nat->Nat->Int} {d:DV}
variable {rows:ge (ge Int)}
theorem mI(f:Nat->Nat->Int)(w:Int)(J:ge Nat):∀I:ge Nat,(N7 f w J I).length<=I.length*J.length
 | []=>by simp[N7]
 | r::I=>by have q:=mI f w J I;show((_++N7 f w J I)).length<=_;rw[o5,d7,n7,am,ao];have:=C4 (λ c=>f r c==w) J;omega
theorem Ix(L:Look d n m f)(e:r<n)(h:∀j∈J,j<m)(b:J.length<=8)(a:Sv):evE G F (.compi (.tup [.var 1,.var 0]) (.one 0) (.var 2) (.cmp .Eq (.ix (.ix (.var 2) (.var 1)) (.var 0)) (.var 3)) [none,some 4,some 0,some 1]) [.val d,.val (.int w),.val (.lst (nD J)),a,.val (.int (r:Int))]=some (.ok (.lst (((J.filter λ c=>f r c==w).map λ c=>(r,c)).map qD)) .fresh):=by
 rw[k6];exact G3 rfl Jz (e9 b Jz) λ j g=>
  ⟨[.val _,.val _,.val d,.val _],rfl,i4 (b_eq (cV L (d5 rfl) (d5 rfl) (d5 rfl) e (h j g)) (d5 rfl)),.strong,rfl,rfl⟩
theorem vU(L:Look d n m f)(l:∀j∈J,j<m)(g:J.length<=8):∀(I:ge Nat) (a:ge (Nat×Nat)) (z:Sv),(∀i∈I,i<n)->a.length+I.length*J.length<=900->∃e,m7 (.one 4) (λ b=>evSs G F fu [.ext 3 (.compi (.tup [.var 1,.var 0]) (.one 0) (.var 2) (.cmp .Eq (.ix (.ix (.var 2) (.var 1)) (.var 0)) (.var 3)) [none,some 4,some 0,some 1])] b) (nD I) [.val d,.val (.int w),.val (.lst (nD J)),.own (.lst (a.map qD)),z]=some (.nx [.val d,.val (.int w),.val (.lst (nD J)),.own (.lst ((a++N7 f w J I).map qD)),e])
 | [],a,z,_,_=>⟨z,by rw[show N7 f w J []=[]from rfl,A6];rfl⟩
 | r::I,a,z,o,p=>by rw[n7,am,ao]at p;have cl:=C4 (λ c=>f r c==w) J;obtain⟨e,h⟩:=vU L l g I (a++(J.filter λ c=>f r c==w).map λ c=>(r,c)) _ (λ i q=>o i (i7 _ q)) (by rw[o5,d7];omega);refine⟨e,?_⟩;show m7 _ _ (.int _::nD I) _=_;rw[gm rfl (f6 (vE rfl (Ix L (o r (i5 ..)) l g (.own (.lst (a.map qD)))) (by rw[d7,d7,d7];omega)) rfl),←t5];rw[show N7 f w J (r::I)=_++N7 f w J I from rfl,←N9];exact h
def tell(rows:ge (ge Int))(m:Nat)(w:Int):ge (Nat×Nat):=mA (kp (at2 rows)) (N7 (at2 rows) w JD (FI rows))
theorem im_q:∀l:ge (Nat×Nat),DV.immuts (l.map qD)=true
 | []=>rfl
 | _::l=>im_q l
theorem Iy(R:Rect n m rows)(d:0<n)(n8:n<=8)(m8:m<=8)(o:(FI rows).length<=5)(h:(JD).length<=5)(w:Int):run G T fu (k+40) 22 [tT rows,.int w]=some (.v (.lst ((tell rows m w).map qD)) true):=by
 have s:=U7 R;have g:∀i∈FI rows,i<n:=λ i y=>by have:=F4 y;rw[R.1]at this;exact this
 have f:∀j∈FI (flip m rows),j<m:=λ j x=>by have:=F4 x;rw[s.1]at this;exact this
 have u:=ai o h;have L:=Hi R;have B:=lU (fu:=fu) (k:=k+34) rows n m R d Jy Jy o h;have A:evE G (JK (k+39)) (.bi .sset [.call 7 [.var 0]]) (j8 5 [tT rows,.int w])=some (.ok (.lst (nD JD)) .fresh):=(by have q:=gl (F:=run G T fu (k+39)) (δ:=j8 5 [tT rows,.int w]) (e:=.call 7 [.var 0]) (r:=kI JF) (g8 (l:=[(tT rows,.strong)]) rfl rfl (um (k:=k+37) rows n m R d Jy Jy)) (by rw[gp,s.1];omega);rw[lP,gn]at q;exact q);have z:evE G (JK (k+39)) (.bi .sset [.call 6 [.var 0]]) [.val (tT rows),.val (.int w),.val (.lst (nD JD)),.own (.lst []),.no]=some (.ok (.lst (nD (FI rows))) .fresh):=(by have q:=gl (F:=run G T fu (k+39)) (δ:=[.val (tT rows),.val (.int w),.val (.lst (nD JD)),.own (.lst []),.no]) (e:=.call 6 [.var 0]) (r:=kI rows) (g8 (l:=[(tT rows,.strong)]) rfl rfl (lJ (k:=k+38) rows (by rw[R.1];omega))) (by rw[gp,R.1];omega);rw[lP,gn]at q;exact q);have a:k7 (evE G (JK (k+39)) (.bi .sset [.call 6 [.var 0]]) [.val (tT rows),.val (.int w),.val (.lst (nD JD)),.own (.lst []),.no])=some (.ok (nD (FI rows)) .fresh):=by rw[z];rfl
 obtain⟨z',b⟩:=vU (fu:=fu) (w:=w) L f Jy (FI rows) [] .no g (by rw[ee];omega);rw[bq]at b;have el:=mI (at2 rows) w JD (FI rows);have v:=mH (fu:=fu) L 25 (N7 (at2 rows) w JD (FI rows)) (k+39) Jy Jy Jy λ p c=>⟨g _ (mG c).1,f _ (mG c).2.1⟩
 rw[k8 rfl rfl];unfold tE;refine k5 (f6 (ff (g8 (l:=[(tT rows,.strong)]) rfl rfl B)) (f6 (j4 A rfl) (f6 (O6 rfl) (F0 a (.inr rfl) b (j9 (n6 (cl:=.fresh) ?_))))));exact zp (e7 (d5 rfl) (e7 (N0 rfl) g7)) v (im_q _)
end k35
end
noncomputable section
namespace k35
open PySem L2
variable {fu k:Nat} {F:Nat->ge DV->on Ou} {δ:ge Sv} {ds:ge DV} {cl:Cl} {n m:Nat} {f:Nat->Nat->Int} {d:DV} {rows:ge (ge Int)}
theorem gG(h:r<rows.length):(!((rows.take r).any λ x=>x==rows.getD r []))=(rows.idxOf (rows.getD r [])==r):=by
 have i:rows.getD r []=rows[r]:=by rw[p5,j6 h];rfl
 rw[i];have g:=lZ (j6 h);rw[J7,q0,f7];constructor
 ·intro q;rcases Q3 _ r with z | z
  ·exfalso;have e:rows.idxOf rows[r]<rows.length:=by omega
   have:((rows.take r).any λ x=>x==rows[r])=true:=by
    rw[J6];refine⟨rows[rows.idxOf rows[r]],?_,?_⟩
    ·rw[Z3];exact⟨rows.idxOf rows[r],by rw[aZ z,j6 e]⟩
    ·rw[hW e];exact O0 _
   rw[this]at q;cases q
  ·omega
 ·intro q;rw[List.any_eq_false];intro x f a;obtain⟨j,d⟩:=Z3.mp f;have b:j<r:=by have:=(x8.mp d).1;rw[E6]at this;omega
  rw[aZ b,j6 Jy]at d;have c:rows[j]=x:=by simpa using d
  have:rows.idxOf rows[r]<=j:=lZ (by rw[j6 Jy,c,(M4 a)]);omega
theorem Iz(a:ge Int):cmpD .NotIn (.tup (iD a)) (.tup ((rows.take r).map λ r=>.tup (iD r)))=some (!((rows.take r).any λ x=>x==a)):=by
 show(if(DV.plain 60 _&&DV.plains 60 _)=true then some (!_)else none)=_;rw[lI 59 a,tZ 59,T6];show some _=_
 congr 3
 funext x
 exact tX x a
theorem IA(a:ge Int):cmpD .NotIn (.lst (iD a)) (.lst ((rows.take r).map λ r=>.lst (iD r)))=some (!((rows.take r).any λ x=>x==a)):=by
 show(if(DV.plain 60 _&&DV.plains 60 _)=true then some (!_)else none)=_;rw[tY 59 a,GC 59,T6];show some _=_
 congr 3
 funext x
 exact GA x a
def w5(rows:ge (ge Int)):ge (ge Int):=(FI rows).map λ r=>rows.getD r []
theorem IB(R:Rect n m rows):Rect (FI rows).length m (w5 rows):=by
 unfold w5;refine⟨d7 ..,λ r a=>?_⟩;obtain⟨i,b,rfl⟩:=f9.mp a;exact R.2 _ (B9 (F4 b))
theorem IC(R:Rect n m rows)(i j:Nat):(col (w5 rows) i==col (w5 rows) j)=(col rows i==col rows j):=by
 rw[J7,f7,f7];unfold col w5;rw[k6,k6];constructor
 ·intro h;apply D2;intro r c;have b:=dR.mp h _ (by
   unfold FI;refine j2.mpr ⟨i6.mpr (lN c),?_⟩;rw[lO c,f7])
  have a:(rows.getD _ []).getD i 0=(rows.getD _ []).getD j 0:=b;rw[lO c]at a;exact a
 ·intro h;apply D2;intro i' d;exact dR.mp h _ (B9 (F4 d))
theorem ID(R:Rect n m rows):FI (flip m (w5 rows))=FI (flip m rows):=by
 unfold FI;rw[E5,E5];apply bp;intro c b;have a:=i6.mp b;rw[←gG (by rw[E5];exact a),←gG (by rw[E5];exact a),ma a,ma a]
 congr 1
 unfold flip;rw[←T3,←T3,T6,T6]
 congr 1
 funext x
 exact IC R x c
theorem IE(R:Rect n m rows)(J:0<n)(x:n<=8)(y:m<=8):run G T fu (k+1) 42 [tT rows]=some (.v (rL (sub rows (FI rows) JD)) true):=by
 have i:rows.length=n:=R.1;have v:=IB R;have L:0<(FI rows).length:=F5 (by rw[i];exact J);have o:(FI rows).length<=8:=e9 (aR rows) (by rw[i];exact x);have B:k7 (evE G (JK k) (.rng [.bi .len [.var 0]]) (j8 4 [tT rows]))=some (.ok ((JJ n).map λ (j:Nat)=>DV.int (j:Int)) .fresh):=(by have t:=K2 (F:=run G T fu k) (δ:=j8 4 [tT rows]) (e:=.var 0) (ds:=rows.map λ r=>.tup (iD r)) (c:=.strong) rfl;rw[d7,i]at t;exact gy t Jy);have s1:=G3 (F:=run G T fu k) (δ:=j8 4 [tT rows]) (l:=List.range n) (h:=λ (j:Nat)=>DV.int (j:Int)) (f:=λ j=>.lst (iD (rows.getD j []))) (p:=λ r=>rows.idxOf (rows.getD r [])==r) (cd:=.cmp .NotIn (.ix (.var 1) (.var 0)) (.slt (.var 1) (.var 0))) (tg:=.one 0) (fr:=[none,some 0]) B Jz (by rw[o9];exact e9 x Jz) λ j g=>by
   have d:j<rows.length:=by rw[i];exact i6.mp g
   have z:evE G (JK k) (.ix (.var 1) (.var 0)) [.val (.int (j:Int)),.val (tT rows)]=some (.ok (.tup (iD (rows.getD j []))) .strong):=o7 (cx:=.strong) (d5 rfl) (d5 rfl) (P3 d);refine⟨[.val (.int (j:Int)),.val (tT rows)],rfl,i4 (cl:=.strong) ?_,.fresh,Hn (c:=.strong) z,rfl⟩;rw[←gG d];exact A7 z (Hm d (d5 rfl) (d5 rfl)) (Iz _)
 have A:k7 (evE G (JK k) (.rng [.bi .len [.var 2]]) [.val (tT rows),.val (rL (w5 rows)),.val (rL (flip m (w5 rows))),.no])=some (.ok ((JJ m).map λ (j:Nat)=>DV.int (j:Int)) .fresh):=(by have t:=D0 (F:=run G T fu k) (δ:=[.val (tT rows),.val (rL (w5 rows)),.val (rL (flip m (w5 rows))),.no]) (e:=.var 2) (ds:=(flip m (w5 rows)).map λ r=>.lst (iD r)) (c:=.strong) rfl;rw[d7,E5]at t;exact gy t Jy);have E:=G3 (F:=run G T fu k) (l:=List.range m) (h:=λ (j:Nat)=>DV.int (j:Int)) (f:=λ (j:Nat)=>DV.int (j:Int)) (p:=λ r=>(flip m (w5 rows)).idxOf ((flip m (w5 rows)).getD r [])==r) (elt:=.var 0) (cd:=.cmp .NotIn (.ix (.var 1) (.var 0)) (.slt (.var 1) (.var 0))) (tg:=.one 0) (fr:=[none,some 2]) A Jz (by rw[o9];exact e9 y Jz) λ j g=>by
   have d:j<(flip m (w5 rows)).length:=by rw[E5];exact i6.mp g
   refine⟨[.val (.int (j:Int)),.val (rL (flip m (w5 rows)))],rfl,i4 (cl:=.strong) ?_,.strong,d5 rfl,rfl⟩;rw[←gG d];have w:=lY (F:=run G T fu k) (δ:=[.val (.int (j:Int)),.val (rL (flip m (w5 rows)))]) (a:=.var 1) (b:=.var 0) (c:=.strong) (c1:=.strong) (h:=j) (d5 rfl) (d5 rfl);rw[←T3]at w;exact A7 (o7 (d5 rfl) (d5 rfl) (cQ d)) w (IA _)
 have u:evE G (JK k) (.compi (.var 0) (.one 0) (.rng [.bi .len [.var 2]]) (.cmp .NotIn (.ix (.var 1) (.var 0)) (.slt (.var 1) (.var 0))) [none,some 2]) [.val (tT rows),.val (rL (w5 rows)),.val (rL (flip m (w5 rows))),.no]=some (.ok (.lst (nD JD)) .fresh):=(by rw[E,←ID R];unfold nD FI;rw[E5]);have K:∀j∈FI (flip m rows),j<m:=λ j g=>by have:=F4 g;rw[E5]at this;exact this
 have H:(JD).length<=8:=by have:=aR JF;rw[E5]at this;omega
 have C:=C3 (F:=run G T fu k) (δ:=[.val (tT rows),.val (rL (w5 rows)),.val (rL (flip m (w5 rows))),.val (.lst (nD JD))]) (l:=w5 rows) (h:=λ r=>.lst (iD r)) (f:=λ r=>.lst (iD ((JD).map λ j=>r.getD j 0))) (tg:=.one 0) (it:=.var 1) (fr:=[none,some 3]) (cl:=.strong) rfl Jz (by rw[v.1];exact e9 o Jz) λ r I=>by
   refine⟨[.val (.lst (iD r)),.val (.lst (nD JD))],.fresh,rfl,?_,rfl⟩;have q:=C3 (F:=run G T fu k) (δ:=[.val (.lst (iD r)),.val (.lst (nD JD))]) (l:=FI JF) (h:=λ (j:Nat)=>DV.int (j:Int)) (f:=λ j=>.int (r.getD j 0)) (elt:=.ix (.var 1) (.var 0)) (tg:=.one 0) (it:=.var 1) (fr:=[none,some 0]) (cl:=.strong) rfl Jz (e9 H Jz) λ j g=>
    ⟨[.val (.int (j:Int)),.val (.lst (iD r))],.strong,rfl,o7 (cx:=.strong) (d5 rfl) (d5 rfl) (lE (by rw[v.2 r I];exact K j g)),rfl⟩
   rw[q];unfold iD;rw[k6];rfl
 rw[k8 (fd:=lA) rfl rfl];unfold lA;have s:evE G (JK k) (.comp (.comp (.ix (.var 1) (.var 0)) (.one 0) (.var 1) [none,some 0]) (.one 0) (.var 1) [none,some 3]) [.val (tT rows),.val (rL (w5 rows)),.val (rL (flip m (w5 rows))),.val (.lst (nD JD))]=some (.ok (rL (sub rows (FI rows) JD)) .fresh):=by rw[C];unfold rL sub w5;rw[k6,k6];rfl
 exact k5 (f6 (j4 ((by rw[s1];unfold rL w5 FI;rw[k6,i];rfl)) rfl) (f6 (j4 (Hl 1 (w5 rows) _ m v L o y rfl) rfl) (f6 (j4 u rfl) (j9 (n6 s)))))
end k35
end
noncomputable section
namespace k35
open PySem L2
theorem vV{R C:Nat}{f:Mx}(h9:∀i∈cs R,∀j∈cs C,0<=f i j/\f i j<=9){i0 j0:Nat}(hi0:i0∈cs R)(hj0:j0∈cs C):wn f R C=1↔∀i∈cs R,∀j∈cs C,f i j=f i0 j0:=by
 unfold wn;have inF:∀i∈cs R,∀j∈cs C,(f i j).toNat∈(JJ 10).filter (wp f R C):=λ i hi j hj=>by have:=h9 i hi j hj;exact j2.mpr ⟨i6.mpr Jy,R7.mpr ⟨i,j,hi,hj,by omega⟩⟩
 constructor
 ·intro h i hi j hj;obtain⟨w,hw⟩:=List.length_eq_one_iff.mp h;have q1:=inF i hi j hj;have q2:=inF i0 hi0 j0 hj0;rw[hw]at q1 q2;have:=r9.mp q1;have:=r9.mp q2;have:=h9 i hi j hj;have:=h9 i0 hi0 j0 hj0;omega
 ·intro h;have b0:=h9 i0 hi0 j0 hj0;have e:(JJ 10).filter (wp f R C)=(JJ 10).filter λ w=>w==(f i0 j0).toNat:=by
   apply bp;intro w _;rw[J7,R7,f7];constructor
   ·rintro⟨i,j,hi,hj,q⟩;have:=h i hi j hj;omega
   ·rintro rfl;exact⟨i0,j0,hi0,hj0,by omega⟩
  have q:=inF i0 hi0 j0 hj0;rw[e]at q ⊢;have:=uD (f i0 j0).toNat Jy;have:=V4 q;omega
theorem gH(R0:0<R)(a:wn f R C=1):V J f R C=J.g:=by
 rw[V_eq f Jy];exact d8 a
theorem IF(R0:0<R)(a:wn f R C≠1)(hw:w∈wl R C):V J f R C<=J.j (V J f w.2.2.1.1 w.2.2.1.2) (V J f w.2.2.2.1 w.2.2.2.2):=by
 rw[V_eq f Jy];unfold stp;rw[e8 a];exact(gz (P7 (f9.mpr ⟨w,hw,rfl⟩))).2 _ (f9.mpr ⟨w,hw,rfl⟩)
section
variable {f:Mx} {R C g:Nat}
theorem vW(s:Sb g R)(a:R<32)(d:i∈cs R):i∈cs (R - g)\/i∈cs g:=by
 have c:=V0 d;cases b:g.testBit i with
 | true=>exact .inr (V1 b)
 | false=>exact .inl (V1 (by rw[(lR R a g (s.lt a) s.2.2 i (tb5 a c)).1,c,b];rfl))
theorem vX(s:Sb g R)(a:R<32)(c:i∈cs g):i∈cs R:=by
 have b:=V0 c;exact V1 ((lR R a g (s.lt a) s.2.2 i (tb5 (s.lt a) b)).2 b)
theorem mJ(g:0<R)(b:R<32)(h:0<C)(c:C<32)(d:wn f R C≠1)(hp:0<wn f R C):∃w∈wl R C,V J f R C=J.j (V J f w.2.2.1.1 w.2.2.1.2) (V J f w.2.2.2.1 w.2.2.2.2):=by
 rw[V_eq f Jy];unfold stp;rw[e8 d];obtain⟨w,a,e⟩:=f9.mp (gz (P7 (f9.mpr ⟨_,List.head_mem (vi (f:=f) b c g h Jy),rfl⟩))).1;exact⟨w,a,e.symm⟩
def In9(f:Mx)(R C:Nat):Prop:=∀i∈cs R,∀j∈cs C,0<=f i j/\f i j<=9
theorem wn_p(e:In9 f R C)(g:0<R)(c:R<32)(h:0<C)(d:C<32):0<wn f R C:=by
 obtain⟨i,b⟩:=V2 (Y6 R c g);obtain⟨j,a⟩:=V2 (Y6 C d h);have:=e i b j a;exact V4 (j2.mpr ⟨i6.mpr (show(f i j).toNat<10 by omega),R7.mpr ⟨i,j,b,a,by omega⟩⟩)
theorem mK{w:Wy}(h:w∈wl R C)(R0:0<R)(hR:R<32)(C0:0<C)(hC:C<32){P:Nat->Nat->Prop}{Q:Prop}
  (k:∀R1 C1 R2 C2,w.2.2=((R1,C1),(R2,C2))->(R1+C1<R+C/\R2+C2<R+C)->(0<R1/\R1<32/\0<C1/\C1<32)->(0<R2/\R2<32/\0<C2/\C2<32)->(∀i∈cs R1,i∈cs R)->(∀i∈cs C1,i∈cs C)->(∀i∈cs R2,i∈cs R)->(∀i∈cs C2,i∈cs C)->(∀i∈cs R,∀j∈cs C,(i∈cs R1/\j∈cs C1)\/(i∈cs R2/\j∈cs C2))->Q):Q:=by
 have l:=uZ h;rcases mn h with⟨g,s,_,e⟩ | ⟨g,s,_,e⟩<;>rw[e]at l
 ·have s1:=s.1;have s2:=s.2.1;exact k _ _ _ _ e l ⟨by omega,by omega,C0,hC⟩ ⟨s1,s.lt hR,C0,hC⟩ (λ i hi=>(lS s hR hi).1) (λ _ h=>h) (λ i hi=>vX s hR hi) (λ _ h=>h) λ i hi j hj=>(vW s hR hi).imp (⟨·,hj⟩) (⟨·,hj⟩)
 ·have s1:=s.1;have s2:=s.2.1;exact k _ _ _ _ e l ⟨R0,hR,by omega,by omega⟩ ⟨R0,hR,s1,s.lt hC⟩ (λ _ h=>h) (λ i hi=>(lS s hC hi).1) (λ _ h=>h) (λ i hi=>vX s hC hi) λ i hi j hj=>(vW s hC hj).imp (⟨hi,·⟩) (⟨hi,·⟩)
theorem mL:∀(N R C:Nat),R+C<=N->0<R->R<32->0<C->C<32->In9 f R C->∃L:ge (Int×Nat×Nat),L.length=V jE f R C/\(∀x∈L,∀i∈cs x.2.1,∀j∈cs x.2.2,f i j=x.1)/\∀i∈cs R,∀j∈cs C,∃x∈L,i∈cs x.2.1/\j∈cs x.2.2
 | 0,R,C,h,g,_,_,_,_=>by omega
 | N+1,R,C,h,g,m,p,n,o=>by
  obtain⟨M,v⟩:=V2 (Y6 R m g);obtain⟨K,u⟩:=V2 (Y6 C n p);by_cases y:wn f R C=1
  ·refine⟨[(f M K,R,C)],by rw[gH g y];rfl,λ x s i d j c=>?_,λ i d j c=>⟨_,r9.mpr rfl,d,c⟩⟩;rw[r9.mp s]at d c ⊢;exact(vV o v u).mp y i d j c
  ·obtain⟨w,O,e⟩:=mJ g m p n y (wn_p o g m p n);refine mK (P:=λ _ _=>True) O g m p n λ W C1 R2 Z Q l a b r1 U A S un=>?_
   obtain⟨Y,J,I,H⟩:=mL N W C1 Jy a.1 a.2.1 a.2.2.1 a.2.2.2 λ i d j c=>o i (r1 i d) j (U j c)
   obtain⟨X,F,E,B⟩:=mL N R2 Z Jy b.1 b.2.1 b.2.2.1 b.2.2.2 λ i d j c=>o i (A i d) j (S j c)
   rw[Q]at e;refine⟨Y++X,by rw[o5,J,F,e],λ x s=>(A5.mp s).elim (I x) (E x),λ i d j c=>?_⟩;rcases un i d j c with z | z
   ·obtain⟨x,r,q⟩:=H i z.1 j z.2;exact⟨x,B6 _ r,q⟩
   ·obtain⟨x,r,q⟩:=B i z.1 j z.2;exact⟨x,v4 _ r,q⟩
theorem mM:∀(N R C:Nat),R+C<=N->0<R->R<32->0<C->C<32->In9 f R C->V jE f R C<=2^V jB f R C
 | 0,R,C,h,c,_,_,_,_=>by omega
 | N+1,R,C,h,c,q,u,r,s=>by
  by_cases n:wn f R C=1
  ·rw[gH c n,gH c n];decide
  ·obtain⟨w,v,e⟩:=mJ c q u r n (wn_p s c q u r);have le:=IF (J:=jE) c n v;refine mK (P:=λ _ _=>True) v c q u r λ d m R2 g y l a b r1 A x z un=>?_
   have i1:=mM N d m Jy a.1 a.2.1 a.2.2.1 a.2.2.2 λ i p j o=>s i (r1 i p) j (A j o);have i2:=mM N R2 g Jy b.1 b.2.1 b.2.2.1 b.2.2.2 λ i p j o=>s i (x i p) j (z j o);rw[y]at e le;have le:V jE f R C<=V jE f d m+V jE f R2 g:=le;have e:V jB f R C=1+max (V jB f d m) (V jB f R2 g):=e;have m1:2^V jB f d m<=2^max (V jB f d m) (V jB f R2 g):=x9 Jz Jy;have m2:2^V jB f R2 g<=2^max (V jB f d m) (V jB f R2 g):=x9 Jz Jy;rw[e,Nat.pow_add];omega
end
theorem vY:b∈wN rows w n m↔∃S,(0<S/\S<2^n)/\(JL rows w m S≠[]/\bs (RL rows w n (JL rows w m S))=S)/\b=(S,bs (JL rows w m S)):=by
 unfold wN;rw[f9];constructor
 ·rintro⟨S,h,rfl⟩
  obtain⟨c,a⟩:=j2.mp h;exact⟨S,mx.mp c,my.mp a,rfl⟩
 ·rintro⟨S,c,a,rfl⟩
  exact⟨S,j2.mpr ⟨mx.mpr c,my.mpr a⟩,rfl⟩
theorem vZ:(bs (JL rows w m S)).testBit j=(decide (j<m)&&jp rows w (cs S) j):=(bs_f _ m).2 j
theorem IG:(bs (RL rows w n J)).testBit i=(decide (i<n)&&rp rows w J i):=(bs_f _ n).2 i
theorem IH(h:b∈wN rows w n m)(c:b.1.testBit i=true)(a:b.2.testBit j=true):mf rows i j=w:=by
 obtain⟨S,h1,h2,rfl⟩:=vY.mp h;rw[vZ,d6]at a;exact M4 (t7.mp a.2 i (V1 c))
theorem wide(p:∀i∈I,i<n)(s:∀j∈J,j<m)(C:I≠[])(B:J≠[])(h:∀i∈I,∀j∈J,mf rows i j=w):∃b∈wN rows w n m,(∀i∈I,b.1.testBit i=true)/\∀j∈J,b.2.testBit j=true:=by
 have ne:(JJ n).filter (λ i=>I.contains i)≠[]:=(by obtain⟨i,e⟩:=aY _ C;exact P7 (j2.mpr ⟨i6.mpr (p i e),J4.mpr e⟩));obtain⟨S,o⟩:∃S,S=bs ((List.range n).filter λ i=>I.contains i):=⟨_,rfl⟩;have x:cs S=(JJ n).filter λ i=>I.contains i:=by rw[o];exact cX ne
 have S1:S<2^n:=by rw[o];exact(bs_f _ n).1
 have g:∀i,i∈cs S↔i∈I:=λ i=>by rw[x,j2,J4];exact⟨λ z=>z.2,λ z=>⟨i6.mpr (p i z),z⟩⟩
 have f:=λ j d=>t7.mpr λ i e=>f7.mpr (h i ((g i).mp e) j d);have l:JL rows w m S≠[]:=(by obtain⟨j,d⟩:=aY _ B;exact P7 (j2.mpr ⟨i6.mpr (s j d),f j d⟩));obtain⟨r,A,y,u,q⟩:=vo (w:=w) (m:=m) (Z6 λ z=>ne (Z0.mp (by rw[←o];exact z))) S1 l;refine⟨_,vY.mpr ⟨r,⟨A,y⟩,⟨by rw[q];exact l,by rw[q];exact u⟩,rfl⟩,λ i e=>?_,λ j d=>?_⟩
 ·show r.testBit i=true;rw[←u,IG,t8 (p i e),L3];exact t7.mpr λ c v=>t7.mp (j2.mp v).2 i ((g i).mpr e)
 ·show(bs (JL rows w m r)).testBit j=true;rw[q,vZ,t8 (s j d),L3];exact f j d
theorem wa{g:Type}{E bl:ge (Nat×Nat)}{P:g->Nat×Nat->Prop}:∀{L:ge g},(∀s∈L,(∃e∈E,P s e)->∃b∈bl,∀e∈E,P s e->hs b e=true)->∃c:ge (Nat×Nat),c.length<=L.length/\(∀b∈c,b∈bl)/\∀e∈E,(∃s∈L,P s e)->∃b∈c,hs b e=true
 | [],_=>⟨[],f8 _,λ _ h=>(nomatch h),λ e _ ⟨s,hs,_⟩=>(nomatch hs)⟩
 | s::L,h=>by
  obtain⟨c,l,j,i⟩:=wa λ d a=>h d (i7 _ a)
  by_cases q:∃e∈E,P s e
  ·obtain⟨b,u,r⟩:=h s (i5 ..) q;refine⟨b::c,im l,λ x o=>(g5.mp o).elim (λ z=>z▸u) (j x),λ e f ⟨d,a,p⟩=>?_⟩;rcases g5.mp a with z | z
   ·subst z;exact⟨b,i5 ..,r e f p⟩
   ·obtain⟨v,n,m⟩:=i e f ⟨d,z,p⟩;exact⟨v,i7 _ n,m⟩
  ·refine⟨c,Nat.le_succ_of_le l,j,λ e f ⟨d,a,p⟩=>?_⟩;rcases g5.mp a with z | z
   ·subst z;exact absurd ⟨e,f,p⟩ q
   ·exact i e f ⟨d,z,p⟩
theorem Lst.le{c:ge (Nat×Nat)}(h:Lst E bl t)(d:∀b∈c,b∈bl)(a:∀e∈E,∃b∈c,hs b e=true):t<=c.length:=by
 rcases Q3 c.length t with z | z
 ·exact absurd (h.2 _ z) (cv.cov_all hs d a (f8 _))
 ·exact z
theorem Lst.by{a:Type}(h:Lst E bl t){P:a->Nat×Nat->Prop}{L:ge a}(g:∀e∈E,∃s∈L,P s e)(f:∀s∈L,(∃e∈E,P s e)->∃b∈bl,∀e∈E,P s e->hs b e=true):t<=L.length:=by
 obtain⟨c,l,j,i⟩:=wa f;exact e9 (h.le j λ e d=>i e d (g e d)) l
theorem wb{f d:Type}[DecidableEq d]{P:d->f->Prop}:∀{A:ge f} {c:ge d},A.Pairwise (λ p q=>∀b,P b p->¬P b q)->(∀e∈A,∃b∈c,P b e)->A.length<=c.length
 | [],_,_,_=>v9 _
 | e::A,c,r,h=>by
  obtain⟨b,j,s⟩:=h e (i5 ..);obtain⟨o,n⟩:=D3.mp r;have:=wb n λ i a=>by obtain⟨l,m,g⟩:=h i (i7 _ a);exact⟨l,(gZ λ (z:l=b)=>o i a b s (by rw[←z];exact g)).mpr m,g⟩
  rw[gQ j]at this;have:=V4 j;rw[n7];omega
section
variable {rows:ge (ge Int)} {w:Int} {n m t:Nat}
theorem rep(h:r<rows.length):∃f∈FI rows,rows.getD f []=rows.getD r []:=by
 have a:=mX (B9 h);have e:rows.getD (rows.idxOf _) []=rows.getD r []:=(by rw[p5,j6 a,hW a];rfl);exact⟨_,j2.mpr ⟨i6.mpr a,by rw[e];exact O0 _⟩,e⟩
theorem cZ(h:rows.getD i []=rows.getD f []):mf rows i j=mf rows f j:=by unfold mf;rw[h]
theorem wc(R:Rect n m rows)(b:j<m)(a:i<n):mf rows i j=((JF).getD j []).getD i 0:=by
 rw[ma b];unfold col mf;rw[p5 (l:=rows.map _),o8,j6 (by rw[R.1];exact a),p5 (l:=rows),j6 (by rw[R.1];exact a)];rfl
theorem da(R:Rect n m rows)(b:j<m)(c:f<m)(a:i<n)(h:(JF).getD j []=(JF).getD f []):mf rows i j=mf rows i f:=by
 rw[wc R b a,wc R c a,h]
theorem mN(p q:Nat->Prop)(u:∃i,i<n/\p i)(s:∃j,j<m/\q j)(h:∀i j,i<n->j<m->p i->q j->mf rows i j=w):∃b∈wN rows w n m,∀i j,i<n->j<m->p i->q j->hs b (i,j)=true:=by
 classical
 obtain⟨i0,r,o⟩:=u;obtain⟨j0,l,g⟩:=s;have a:∀{N:Nat} {p:Nat->Prop} {i:Nat},i∈(JJ N).filter (λ i=>decide (p i))↔i<N/\p i:=λ {N p i}=>by rw[j2,i6,C6]
 obtain⟨b,y,x,v⟩:=wide (λ i d=>(a.mp d).1) (λ j c=>(a.mp c).1) (P7 (a.mpr ⟨r,o⟩)) (P7 (a.mpr ⟨l,g⟩)) λ i d j c=>h i j (a.mp d).1 (a.mp c).1 (a.mp d).2 (a.mp c).2
 exact⟨b,y,λ i j d c f e=>by show(b.1.testBit i&&b.2.testBit j)=true;rw[x i (a.mpr ⟨d,f⟩),v j (a.mpr ⟨c,e⟩)];rfl⟩
theorem M2:e∈eE rows w m (JJ n)↔e.1<n/\e.2<m/\mf rows e.1 e.2=w:=by rw[mD,i6]
abbrev LE(rows:ge (ge Int))(w:Int)(n m t:Nat):Prop:=Lst (eE rows w m (JJ n)) (wN rows w n m) t
theorem II(R:Rect n m rows)(h:LE rows w n m t):t<=(FI rows).length:=by
 refine h.by (P:=λ s e=>rows.getD e.1 []=rows.getD s []) (λ e c=>?_) λ s _ ⟨e,c,p⟩=>?_
 ·obtain⟨f,l,g⟩:=rep (by rw[R.1];exact(M2.mp c).1);exact⟨f,l,g.symm⟩
 ·obtain⟨B,A,z⟩:=M2.mp c;obtain⟨b,v,u⟩:=mN _ (λ j=>mf rows s j=w) ⟨e.1,B,p⟩ ⟨e.2,A,by rw[←cZ p];exact z⟩ λ i j _ _ x y=>by rw[cZ x];exact y
  exact⟨b,v,λ e' a d=>by obtain⟨r,q,o⟩:=M2.mp a;exact u _ _ r q d (by rw[←cZ d];exact o)⟩
theorem IJ(R:Rect n m rows)(h:LE rows w n m t):t<=(JD).length:=by
 have g:(JF).length=m:=E5;refine h.by (P:=λ s e=>(JF).getD e.2 []=(JF).getD s []) (λ e c=>?_) λ s hs ⟨e,c,p⟩=>?_
 ·obtain⟨f,A,z⟩:=rep (by rw[g];exact(M2.mp c).2.1);exact⟨f,A,z.symm⟩
 ·have sm:s<m:=by have:=F4 hs;rw[g]at this;exact this
  obtain⟨r,q,F⟩:=M2.mp c;obtain⟨b,E,C⟩:=mN (λ i=>mf rows i s=w) _ ⟨e.1,r,by rw[←da R q sm r p];exact F⟩ ⟨e.2,q,p⟩ λ i j v u x y=>by rw[da R u sm v y];exact x
  exact⟨b,E,λ e' a d=>by obtain⟨o,l,B⟩:=M2.mp a;exact C _ _ o l (by rw[←da R l sm o d];exact B) d⟩
theorem IK(h:LE rows w n m t):t<=(wN rows w n m).length:=h.le (λ _ z=>z) (Ij λ _ z=>z)
theorem IL(h:LE rows w n m t)(d:r<n)(f:c<m)(e:mf rows r c=w):0<t:=by
 rcases dH t with z | z
 ·rw[z]at h;have b:(r,c)∈eE rows w m _:=M2.mpr ⟨d,f,e⟩;refine absurd ?_ h.1;cases g:eE rows w m (JJ n)with
  | nil=>rw[g]at b;cases b
  | cons a l=>rfl
 ·exact z
theorem IM(h:kp (at2 rows) p q=true)(hw:mf rows p.1 p.2=w)(d:∀i j,b.1.testBit i=true->b.2.testBit j=true->mf rows i j=w)(c:hs b p=true)(a:hs b q=true):False:=by
 unfold hs at c a;rw[d6]at c a;have l:at2 rows p.1 p.2=w:=hw;have g:at2 rows p.1 q.2=w:=d _ _ c.1 a.2;have f:at2 rows q.1 p.2=w:=d _ _ a.1 c.2;have e:at2 rows q.1 q.2=w:=d _ _ a.1 a.2;unfold kp at h;rw[l,g,f,e]at h;simp at h
theorem IN(R:Rect n m rows)(h:p∈tell rows m w):p.1<n/\p.2<m/\mf rows p.1 p.2=w:=by
 obtain⟨a,b,c⟩:=mG ((aV _ _ _ (f8 _)).subset h);have e:=F4 a;have d:=F4 b;rw[R.1]at e;rw[E5]at d;exact⟨e,d,c⟩
theorem wd:(tell rows m w).Pairwise λ p q=>kp (at2 rows) p q=true:=mF _ _ _ (f8 _)
theorem we(R:Rect n m rows){c:ge (Nat×Nat)}(g:∀b∈c,b∈wN rows w n m)(f:∀e∈eE rows w m (List.range n),∃b∈c,hs b e=true):(tell rows m w).length<=c.length:=by
 refine wb (P:=λ b e=>b∈wN rows w n m/\hs b e=true/\mf rows e.1 e.2=w) (wd.imp λ {p q} k b x y=>IM k x.2.2 (λ i j=>IH x.1) x.2.1 y.2.1) λ e d=>?_;have q:=IN R d;obtain⟨b,a,h⟩:=f e (M2.mpr q);exact⟨b,a,g b a,h,q.2.2⟩
theorem IP(h:l≠[]):mA b l≠[]:=by
 cases l with
 | nil=>exact absurd rfl h
 | cons e l=>
  rw[gF];split
  ·exact ip _ _
  ·rename_i z;intro q;rw[q]at z;exact z (v9 _)
theorem IQ(R:Rect n m rows)(j:r<n)(b:c<m)(e:mf rows r c=w):tell rows m w≠[]:=by
 have h:(JF).length=m:=E5;obtain⟨f,i,q⟩:=rep (by rw[R.1];exact j);obtain⟨g,d,p⟩:=rep (by rw[h];exact b);have o:g<m:=by have:=F4 d;rw[h]at this;exact this
 have l:f<n:=by have:=F4 i;rw[R.1]at this;exact this
 refine IP (P7 (a:=(f,g)) ?_);unfold N7;refine dW.mpr ⟨f,i,f9.mpr ⟨g,j2.mpr ⟨d,f7.mpr ?_⟩,rfl⟩⟩;show mf rows f g=w;rw[da R o b l p,cZ q];exact e
theorem IR(h:∀p q,p∈tell rows m w->q∈tell rows m w->kp (at2 rows) p q=true->P p=true->P q=true->False):((tell rows m w).filter P).length<2:=by
 have d:=(wd (rows:=rows) (m:=m) (w:=w)).filter P;have c:∀p∈(tell rows m w).filter P,p∈tell rows m w/\P p=true:=λ p e=>j2.mp e;cases f:(tell rows m w).filter P with
 | nil=>decide
 | cons p l=>cases l with
  | nil=>exact P8 1
  | cons q l=>
   rw[f]at d c;have a:=c p (i5 ..);have b:=c q (i7 _ (i5 ..));exact(h p q a.1 b.1 ((D3.mp d).1 q (i5 ..)) a.2 b.2).elim
end
theorem IS(b:i<(FI rows).length)(a:j<(JD).length):mf (rst m rows) i j=mf rows ((FI rows).getD i 0) ((JD).getD j 0):=by
 unfold mf rst sub;rw[p5 (l:=List.map _ _),o8,j6 b,D7,K9,p5,o8,j6 a,D7,K9,p5 (l:=FI rows),j6 b,K9,p5 (l:=FI _),j6 a,K9]
theorem wf(h:r<rows.length):∃a,a<(FI rows).length/\rows.getD ((FI rows).getD a 0) []=rows.getD r []:=by
 obtain⟨f,e,d⟩:=rep h;obtain⟨a,b,c⟩:=dF e;exact⟨a,b,by rw[p5 (l:=FI rows),j6 b,K9,c];exact d⟩
theorem FIx(h:a<(FI rows).length):(FI rows).getD a 0<rows.length:=by
 rw[p5,j6 h];exact F4 (T0 h)
theorem wg(h:i<a):i∈cs (2^a - 1):=V1 (by rw[Nat.testBit_two_pow_sub_one,t8 h])
theorem IT(R:Rect n m rows)(h:LE rows w n m t){L:ge (Int×Nat×Nat)}(H:∀x∈L,∀i∈cs x.2.1,∀j∈cs x.2.2,mf (rst m rows) i j=x.1)
  (U:∀i∈cs (2^(FI rows).length - 1),∀j∈cs (2^(FI (flip m rows)).length - 1),∃x∈L,i∈cs x.2.1/\j∈cs x.2.2):t<=(L.filter λ x=>x.1==w).length:=by
 have K:(JF).length=m:=E5;have g:∀{r c a b:Nat},r<n->c<m->a<(FI rows).length->b<(JD).length->rows.getD ((FI rows).getD a 0) []=rows.getD r []->(JF).getD _ []=(JF).getD c []->mf rows r c=mf (rst m rows) a b:=λ {r c a b} hr S F E X W=>by have J:=FIx F;have I:=FIx E;rw[R.1]at J;rw[K]at I;rw[IS F E,da R I S J W,cZ X]
 refine h.by (P:=λ x e=>(∃a,a<(FI rows).length/\a∈cs x.2.1/\rows.getD ((FI rows).getD a 0) []=rows.getD e.1 [])/\∃b,b<(JD).length/\b∈cs x.2.2/\(JF).getD ((JD).getD b 0) []=(JF).getD e.2 []) (λ e y=>?_) λ x v ⟨e,y,p⟩=>?_
 ·obtain⟨s,q,M⟩:=M2.mp y;obtain⟨a,o,u⟩:=wf (by rw[R.1];exact s);obtain⟨b,d,f⟩:=wf (by rw[K];exact q);obtain⟨x,B,A,z⟩:=U a (wg o) b (wg d);exact⟨x,j2.mpr ⟨B,by rw[←H x B a A b z,←g s q o d u f,M];exact O0 _⟩,⟨a,o,A,u⟩,b,d,z,f⟩
 ·obtain⟨v,N⟩:=j2.mp v;obtain⟨s,q,M⟩:=M2.mp y;obtain⟨b,d,f⟩:=mN (λ i=>∃a,a<(FI rows).length/\a∈cs x.2.1/\rows.getD ((FI rows).getD a 0) []=rows.getD i []) (λ j=>∃b,b<(JD).length/\b∈cs x.2.2/\(JF).getD ((JD).getD b 0) []=(JF).getD j []) ⟨e.1,s,p.1⟩ ⟨e.2,q,p.2⟩ λ i j Q O ⟨a,o,u,Z⟩ ⟨b,d,f,Y⟩=>by rw[g Q O o d Z Y,H x v a u b f,(f7.mp N)]
  exact⟨b,d,λ e' l C=>f _ _ (M2.mp l).1 (M2.mp l).2.1 C.1 C.2⟩
theorem wj{a:Type}{L:ge (Int×a)}:∀{ws:ge Int},ws.Nodup->(ws.map λ w=>(L.filter λ x=>x.1==w).length).sum<=L.length
 | [],_=>v9 _
 | w::ws,h=>by
  obtain⟨f,d⟩:=L0.mp h;have b:=wj (L:=L.filter λ x=>!(x.1==w)) d;have e:∀v∈ws,((L.filter λ x=>!(x.1==w)).filter λ x=>x.1==v)=L.filter λ x=>x.1==v:=λ v hv=>by
   rw[List.filter_filter];apply bp;intro x _;cases c:x.1==v with
   | false=>rfl
   | true=>
    rw[L3,q0];exact A4.mpr λ z=>f (by rw[←z,f7.mp c];exact hv)
  rw[D2 λ v hv=>by rw[e v hv]]at b;rw[t9,T4];have:=lQ (l:=L) (p:=λ _=>true) (q:=λ x=>x.1==w);rw[List.filter_eq_self.mpr (λ _ _=>rfl)]at this;simp only[L3]at this;omega
theorem wk{ws:ge Int}{g:Int->Nat}(h:∀w∈ws,f w<=g w):(ws.map f).sum<=(ws.map g).sum:=by
 induction ws with
 | nil=>exact f8 _
 | cons w ws a=>
  rw[t9,t9,T4,T4];exact iF (h w (i5 ..)) (a λ v hv=>h v (i7 _ hv))
theorem IU(R:Rect n m rows)(l:W9 rows)(r:0<n)(s:0<m)(z:(FI rows).length<=5)(y:(JD).length<=5){ws:ge Int}(o:ws.Nodup)(q:∀w∈ws,LE rows w n m (t w)):(ws.map t).sum<=V jE (mf (rst m rows)) (2^(FI rows).length - 1) (2^(JD).length - 1)/\V jE (mf (rst m rows)) (2^(FI rows).length - 1) (2^(JD).length - 1)<=2^V jB (mf (rst m rows)) (2^(FI rows).length - 1) (2^(JD).length - 1):=by
 have d:∀{x:Nat},0<x->x<=5->0<2^x - 1/\2^x - 1<32:=λ {x} h A=>by have l1:=x9 (n:=2) Jz h;have l2:=x9 (n:=2) Jz A;omega
 have g:In9 _ (2^(FI rows).length - 1) (2^(JD).length - 1):=λ i v j u=>by exact Y7 gA (mv R l) (P4 (by have:=aq (a:=2) (n:=(FI rows).length) Jz;omega) v) (P4 (by have:=aq (a:=2) (n:=(JD).length) Jz;omega) u)
 obtain⟨f,e⟩:=d (F5 (by rw[R.1];exact r)) z;obtain⟨c,b⟩:=d (F5 (by rw[E5];exact s)) y;obtain⟨L,E,C,B⟩:=mL _ _ _ (f8 _) f e c b g;refine⟨?_,mM _ _ _ (f8 _) f e c b g⟩;rw[←E];exact e9 (wk λ w p=>IT R (q w p) C B) (wj o)
theorem IV{T:Nat}(b:T<256)(a:c<8)(h:¬T.testBit c=true):Builtin.bitOr (T:Int) ((2^c:Nat):Int)=((T+2^c:Nat):Int):=by
 have e:((JJ 256).all λ T=>(JJ 8).all λ c=>T.testBit c||decide (Builtin.bitOr (T:Int) ((2^c:Nat):Int)=((T+2^c:Nat):Int)))=true:=by decide +kernel
 have q:=t7.mp (t7.mp e T (i6.mpr b)) c (i6.mpr a);rw[E7,C6]at q;exact q.resolve_left h
theorem wm:∀(l:ge Nat) (T:Nat) (z:Sv),l.Pairwise (· < ·)->(∀c∈l,c<8/\T<2^c)->∃b,m7 (.one 2) (λ a=>evSs G F fu [.set 1 false (.bin .BitOr (.var 1) (.bin .LShift (.int 1) (.var 2)))] a) (nD l) [x,.val (.int (T:Int)),z]=some (.nx [x,.val (.int ((T+bs l:Nat):Int)),b])
 | [],T,z,_,_=>⟨z,rfl⟩
 | c::l,T,z,j,h=>by
  obtain⟨m,p⟩:=h c (i5 ..);obtain⟨i,g⟩:=D3.mp j;have l8:2^c<=2^7:=x9 Jz Jy;obtain⟨b,e⟩:=wm l (T+2^c) _ g λ d hd=>by have:=i d hd;have q:2^(c+1)<=2^d:=x9 Jz this;rw[iM]at q;exact⟨(h d (i7 _ hd)).1,by omega⟩
  refine⟨b,?_⟩;have f:evSs G F fu [.set 1 false (.bin .BitOr (.var 1) (.bin .LShift (.int 1) (.var 2)))] [x,.val (.int (T:Int)),.val (.int (c:Int))]=some (.nx [x,.val (.int ((T+2^c:Nat):Int)),.val (.int (c:Int))]):=by
   have o:=B4 (d5 (G:=G) (F:=F) (δ:=[x,.val (.int (T:Int)),.val (.int (c:Int))]) (n:=1) (d:=.int (T:Int)) rfl) (gx (d5 (n:=2) (d:=.int (c:Int)) rfl) Jy) (show binD .BitOr _ _ _ _=some _ by
    show some _=_;rw[IV Jy m (by rw[bc p];decide)])
   exact f6 (j4 o rfl) rfl
  show(match evSs G F fu _ [x,.val (.int (T:Int)),.val (.int (c:Int))]with
   | some (.nx δ2)=>m7 _ _ (nD l) δ2
   | o=>o)=_
  rw[f];show m7 _ _ _ _=_;rw[e];have:T+2^c+bs l=T+bs (c::l):=by unfold bs;rw[t9,T4];omega
  rw[this]
theorem wq(a:l.Pairwise (· < ·))(h:∀c∈l,c<8):run G T fu (k+1) 43 [.lst (nD l)]=some (.v (.int ((bs l:Nat):Int)) false):=by
 rw[k8 rfl rfl];unfold tS;obtain⟨z',e⟩:=wm l 0 .no a λ c b=>⟨h c b,aq Jz⟩
 rw[T5]at e;exact k5 (f6 (j4 rfl rfl) (F0 rfl (.inl rfl) e (j9 (n6 (d5 rfl)))))
theorem wu(n:Nat)(p:Nat->Bool):((JJ n).filter p).Pairwise (· < ·):=List.Pairwise.filter _ dm
theorem ww(b:0<R)(a:R<2^n):(cs R).length<=n:=by
 rw[mw b a];exact e9 (C4 ..) (by rw[o9];exact f8 _)
theorem IW(e:Rect n m rows)(h:W9 rows)(q:0<n)(p:n<=8)(s:m<=8)(f:0<R)(c:R<2^n)(g:0<C)(d:C<2^m)(y:wn (mf rows) R C=1):run G T fu (k+4) 12 [tT rows,.int R,.int C]=some (.v (.bl true) false):=by
 have o:Rect (cs R).length (cs C).length (sub rows (cs R) (cs C)):=(by refine⟨by unfold sub;rw[d7],λ r b=>?_⟩;obtain⟨i,_,rfl⟩:=f9.mp b;rw[d7]);have a:W9 (sub rows (cs R) (cs C)):=λ r b x u=>by obtain⟨i,w,rfl⟩:=f9.mp b;obtain⟨j,v,rfl⟩:=f9.mp u;exact Y7 e h (P4 c w) (P4 d v)
 rw[k8 rfl rfl];unfold tj;have z:=g8 (G:=G) (δ:=j8 3 [tT rows,.int R,.int C]) (es:=[.var 0,.var 1,.var 2]) (e7 (d5 rfl) (e7 (d5 rfl) (e7 (d5 rfl) g7))) rfl (uz (fu:=fu) (k:=k) rows n m R C e q Jy Jy f c g d);have l:=D0 (g8 (e7 z g7) rfl (uw _ _ _ o (e9 (ww f c) p) (e9 (ww g d) s) a));rw[uP]at l;unfold nD at l;rw[d7]at l;have l:evE G (JK (k+3)) _ _=some (.ok (.int ((wn (mf rows) R C:Nat):Int)) .strong):=l;rw[y]at l;exact k5 (j9 (n6 (b_eq l g6)))
end k35
end
noncomputable section
namespace k35
open PySem L2
variable {fu k:Nat} {F:Nat->ge DV->on Ou} {δ:ge Sv} {ds:ge DV} {cl:Cl} {n m:Nat} {rows:ge (ge Int)} {w:Int}
theorem and2(c:evE G F a δ=some (.ok (.bl x) .strong))(d:evE G F b δ=some (.ok (.bl y) .strong)):evE G F (.and [a,b]) δ=some (.ok (.bl (x&&y)) .strong):=by
 cases x with
 | true=>exact U9 c (Y5 d)
 | false=>exact cR c
structure Bk(rows:List (List Int))(n m:Nat)(w:Int)(I J:List Nat):Prop where
 I0:I≠[]
 J0:J≠[]
 I1:∃p,I=(JJ n).filter p
 J1:∃q,J=(JJ m).filter q
 mo:∀i∈I,∀j∈J,mf rows i j=w
theorem IX:∀m,m<9->∀c,c<m->(JJ m).filter (λ j=>j==c)=[c]:=by decide
theorem gI(h:i∈(JJ N).filter p):i<N/\p i=true:=⟨i6.mp (j2.mp h).1,(j2.mp h).2⟩
theorem flt8(h:N<=8)(p:Nat->Bool):((JJ N).filter p).length<=8:=e9 (C4 ..) (by rw[o9];exact h)
theorem IY(R:Rect n m o)(n0:0<n)(n8:n<=8)(m0:0<m)(m8:m<=8)(c:Int):∃(w:Int) (I J:ge Nat),Bk o n m w I J/\(∃r j,r<n/\j<m/\mf o r j=w)/\run G T fu (k+2) 44 [tT o,.int c]=some (.v (.lst [.int w,.lst (nD I),.lst (nD J)]) true):=by
 obtain⟨v,O,st⟩:=lV (fu:=fu) (k:=k) c 3 Jz;obtain⟨v0,h0⟩:=P5 (xs:=v) (i:=0) Jy (by rw[O];omega);obtain⟨v1,h1⟩:=P5 (xs:=v) (i:=1) Jy (by rw[O];omega);obtain⟨v2,h2⟩:=P5 (xs:=v) (i:=2) Jy (by rw[O];omega);obtain⟨r,er,M⟩:=Y9 v0 n0;obtain⟨E,ec,B⟩:=Y9 v1 m0;obtain⟨w,P⟩:∃w,w=mf o r E:=⟨_,rfl⟩;obtain⟨q,hq⟩:∃q:Nat->Bool,q=λ j=>(mf o r j==w)&&(Builtin.bitAnd (v2/2^((j:Int).toNat)) 1==1):=⟨_,rfl⟩
 obtain⟨J,C⟩:∃J,J=if(List.range m).filter q=[]then[E]else(List.range m).filter q:=⟨_,rfl⟩
 have j1:∃q',J=(JJ m).filter q':=by
  rw[C];split
  ·exact⟨λ j=>j==E,(IX m Jy E B).symm⟩
  ·exact⟨q,rfl⟩
 have jm:∀j∈J,j<m/\mf o r j=w:=λ j y=>by
  rw[C]at y;split at y
  ·rw[r9.mp y];exact⟨B,P.symm⟩
  ·have z:=gI y;rw[hq]at z;exact⟨z.1,M4 (C5.mp z.2).1⟩
 have jl:J.length<=8:=by obtain⟨q',e⟩:=j1;rw[e];exact flt8 m8 _
 let A (a b d e f:Sv):ge Sv:=[.val (tT o),.val (.int c),a,b,d,e,f]
 have lt:∀{a b d e f:Sv},evE G (JK (k+1)) (.bi .len [.var 0]) (A a b d e f)=some (.ok (.int (n:Int)) .strong):=λ {a b d e f}=>lenT R (d5 rfl);have l0:∀{a b d e f:Sv},evE G (JK (k+1)) (.bi .len [.ix (.var 0) (.int 0)]) (A a b d e f)=some (.ok (.int (m:Int)) .strong):=λ {a b d e f}=>Hz R n0 (d5 rfl);have W:∀{b d e f:Sv},evE G (JK (k+1)) (.var 2) (A (.val (.lst (v.map DV.int))) b d e f)=some (.ok (.lst (v.map DV.int)) .strong):=λ {b d e f}=>d5 rfl;have X:∀{b d e f:Sv},evE G (JK (k+1)) (.bin .Mod (.ix (.var 2) (.int 1)) (.bi .len [.ix (.var 0) (.int 0)])) (A (.val (.lst (v.map DV.int))) b d e f)=some (.ok (.int (E:Int)) .strong):=λ {b d e f}=>by rw[←ec];exact B5 (h1 W) l0 Jy
 obtain⟨c4,Y⟩:=cY (F:=run G T fu (k+1)) R M B (a:=.var 0) (b:=.var 3) (d5 rfl) (d5 rfl) X;rw[←P]at Y;have s5:=G3 (F:=run G T fu (k+1)) (δ:=A (.val (.lst (v.map DV.int))) (JH (r:Int)) (JH w) .no .no) (l:=List.range m) (h:=λ (j:Nat)=>DV.int (j:Int)) (f:=λ (j:Nat)=>DV.int (j:Int)) (p:=q) (elt:=.var 0) (tg:=.one 0) (it:=.rng [.bi .len [.ix (.var 0) (.int 0)]])
  (cd:=.and [.cmp .Eq (.ix (.ix (.var 1) (.var 2)) (.var 0)) (.var 3),.cmp .Eq (.bin .BitAnd (.bin .RShift (.ix (.var 4) (.int 2)) (.var 0)) (.int 1)) (.int 1)]) (fr:=[none,some 0,some 3,some 4,some 2]) (cl:=.fresh)
  (aQ l0 Jy) Jz (by rw[o9];exact e9 m8 Jz) (λ j y=>by
   have Q:=i6.mp y;refine⟨[.val (.int j),.val (tT o),.val (.int r),.val (.int w),.val (.lst (v.map DV.int))],rfl,?_,.strong,rfl,rfl⟩;obtain⟨c5,e⟩:=cY (F:=run G T fu (k+1)) (δ:=[.val (.int j),.val (tT o),.val (.int r),.val (.int w),.val (.lst (v.map DV.int))]) R M Q (a:=.var 1) (b:=.var 2) (x:=.var 0) (d5 rfl) (d5 rfl) (d5 rfl);rw[hq];refine i4 (and2 (b_eq e (d5 rfl)) (b_eq (B4 (op:=.BitAnd) (mj (h2 (d5 rfl)) (d5 (n:=0) (d:=.int (j:Int)) rfl) (z9 j)) (g6 (i:=1)) rfl) (g6 (i:=1)))))
 have s6:=G3 (F:=run G T fu (k+1)) (δ:=A (.val (.lst (v.map DV.int))) (JH (r:Int)) (JH w) (.val (.lst (nD J))) .no) (l:=List.range n) (h:=λ (j:Nat)=>DV.int (j:Int)) (f:=λ (j:Nat)=>DV.int (j:Int)) (p:=rp o w J) (elt:=.var 0) (tg:=.one 0) (it:=.rng [.bi .len [.var 0]])
  (fr:=[none,some 5,some 0,some 4]) (cl:=.fresh)
  (aQ lt Jy) Jz (by rw[o9];exact e9 n8 Jz) (λ i U=>by
   have S:=i6.mp U;refine⟨[.val (.int i),.val (.lst (nD J)),.val (tT o),.val (.int w)],rfl,?_,.strong,rfl,rfl⟩;have q:=G3 (F:=run G T fu (k+1)) (δ:=[.val (.int i),.val (.lst (nD J)),.val (tT o),.val (.int w)]) (l:=J) (h:=λ (j:Nat)=>DV.int (j:Int)) (f:=λ (j:Nat)=>DV.int (j:Int)) (p:=λ j=>!(mf o i j==w)) (elt:=.var 0) (tg:=.one 0) (it:=.var 1) (cd:=.cmp .NotEq (.ix (.ix (.var 1) (.var 2)) (.var 0)) (.var 3)) (fr:=[none,some 2,some 0,some 3]) (cl:=.strong)
    rfl Jz (e9 jl Jz) (λ j y=>by
     obtain⟨c5,e⟩:=cY (F:=run G T fu (k+1)) (δ:=[.val (.int j),.val (tT o),.val (.int i),.val (.int w)]) R S (jm j y).1 (a:=.var 1) (b:=.var 2) (x:=.var 0) (d5 rfl) (d5 rfl) (d5 rfl);exact⟨[.val (.int j),.val (tT o),.val (.int i),.val (.int w)],rfl,i4 (A7 e (d5 rfl) (vm _ _)),.strong,rfl,rfl⟩)
   have Z:=b_eq (D0 q) (g6 (i:=0));rw[d7,len0 J λ j=>mf o i j==w]at Z;exact i4 Z)
 refine⟨w,(JJ n).filter (rp o w J),J,⟨P7 (j2.mpr ⟨i6.mpr M,t7.mpr λ j y=>f7.mpr (jm j y).2⟩),?_,⟨_,rfl⟩,j1,λ i U j y=>M4 (t7.mp (gI U).2 j y)⟩,⟨r,E,M,B,P.symm⟩,?_⟩
 ·rw[C];split
  ·exact ip _ _
  ·assumption
 rw[k8 (fd:=lB) rfl rfl];unfold lB;have H:evSs G (JK (k+1)) fu [.set 6 false (.compi (.var 0) (.one 0) (.rng [.bi .len [.var 0]]) (.cmp .Eq (.bi .len [.compi (.var 0) (.one 0) (.var 1) (.cmp .NotEq (.ix (.ix (.var 1) (.var 2)) (.var 0)) (.var 3)) [none,some 2,some 0,some 3]]) (.int 0)) [none,some 5,some 0,some 4]),.ret (.lst [.var 4,.var 6,.var 5])] (A (.val (.lst (v.map DV.int))) (JH (r:Int)) (JH w) (.val (.lst (nD J))) .no)=some (.rt (.lst [.int w,.lst (nD ((JJ n).filter (rp o w J))),.lst (nD J)]) true):=f6 (j4 s6 rfl) (j9 rfl);refine k5 (f6 (j4 (g8 (e7 (d5 rfl) (e7 g6 g7)) rfl st) rfl) (f6 (j4 ((by rw[←er];exact B5 (h0 W) lt Jy)) rfl) (f6 (j4 Y (by cases c4<;>rfl)) (f6 (j4 s5 rfl) ?_))));have ce:evE G (JK (k+1)) (.cmp .Eq (.var 5) (.lst [])) (A (.val (.lst (v.map DV.int))) (JH (r:Int)) (JH w) (.val (.lst (nD ((JJ m).filter q)))) .no)=some (.ok (.bl (nD ((JJ m).filter q)).isEmpty) .strong):=A7 (d5 rfl) (cy:=.fresh) rfl (gC (HZ _)).1;by_cases N:(JJ m).filter q=[]
 ·rw[d8 N]at C;subst C;refine Q7 (i4 (ce.trans (by rw[N];rfl))) (f6 (j4 (U8 (e7 X g7) (show 1<=j5 by decide) rfl) rfl) rfl) H
 ·rw[e8 N]at C;subst C;refine u4 (i4 (cl:=.strong) (ce.trans ?_)) H;cases hf:(JJ m).filter q with
  | nil=>exact absurd hf N
  | cons a l=>rfl
def wD'(ws:ge Int)(f:Int->ge (Nat×Nat)):DV:=.dct (ws.map DKey.i) (ws.map λ w=>.lst ((f w).map qD))
theorem mO:∀{ws:ge Int},w∈ws->E1 (.i w) (ws.map DKey.i) (ws.map f)=some (f w)
 | v::ws,h=>by
  show(if DKey.i v=.i w then some (f v)else E1 (.i w) _ _)=_;by_cases e:v=w
  ·rw[d8 (by rw[e]),e]
  ·rw[e8 λ z=>e (DKey.i.inj z)];exact mO ((g5.mp h).resolve_left λ z=>e z.symm)
theorem mP(h:w∈ws)(g:evE G F a δ=some (.ok (wD' ws f) .strong))(e:JA b c (.int w)):evE G F (.dix a b) δ=some (.ok (.lst ((f w).map qD)) .strong):=by
 show Re.thn _ _=_;rw[g,e];show(if Cl.strong=Cl.strong then(E1 (.i w) _ _).map λ d=>Re.ok d .strong else none)=_;rw[d8 rfl,mO h];rfl
theorem wx(i:Nat)(l:ge Nat):cmpD .In (.int (i:Int)) (.lst (nD l))=some (l.contains i):=by
 show(if(DV.int _).plain 60&&DV.plains 60 (nD l)then some ((nD l).any λ d=>deq d _)else none)=_;have p:DV.plains 60 (nD l)=true:=aP λ d hd=>by obtain⟨x,_,rfl⟩:=f9.mp hd;rfl
 rw[p,d8 (show((DV.int _).plain 60&&true)=true from rfl)]
 congr 1
 unfold nD;rw[T6,J7,J6,J4];constructor
 ·rintro⟨x,b,a⟩
  have:=a;have:=M4 this;rw[show i=x by omega];exact b
 ·intro h;exact⟨i,h,show(_==_)=true from O0 _⟩
theorem wy(h:∀i∈(List.range N).filter p,b.testBit i=true):bs ((JJ N).filter p) &&& b=bs ((JJ N).filter p):=by
 apply Nat.eq_of_testBit_eq;intro i;rw[Nat.testBit_and,(bs_f p N).2];cases a:(decide (i<N)&&p i)with
 | false=>rfl
 | true=>
  rw[d6,C6]at a;rw[h i (j2.mpr ⟨i6.mpr a.1,a.2⟩)];rfl
theorem IZ(R:Rect n m rows)(w9:W9 rows)(n0:0<n)(n8:n<=8)(m0:0<m)(m8:m<=8)(c:Int){ws:ge Int}(hws:∀r j,r<n->j<m->mf rows r j∈ws):run G T fu (k+6) 45 [tT rows,.int c,wD' ws (λ w=>wN rows w n m),wD' ws (tell rows m)]=some (.v (.bl true) false):=by
 obtain⟨w,I,J,B,⟨r,j,hr,hj,hw⟩,dr⟩:=IY (fu:=fu) (k:=k+3) R n0 n8 m0 m8 c;have wi:w∈ws:=by rw[←hw];exact hws r j hr hj
 obtain⟨p,hp⟩:=B.I1;obtain⟨q,hq⟩:=B.J1;have In:∀i∈I,i<n:=λ i hi=>by rw[hp]at hi;exact(gI hi).1
 have Jm:∀i∈J,i<m:=λ i hi=>by rw[hq]at hi;exact(gI hi).1
 have cI:cs (bs I)=I:=by rw[hp];exact cX (by rw[←hp];exact B.I0)
 have cJ:cs (bs J)=J:=by rw[hq];exact cX (by rw[←hq];exact B.J0)
 have I0:0<bs I:=Z6 λ z=>B.I0 (Z0.mp z);have J0:0<bs J:=Z6 λ z=>B.J0 (Z0.mp z);have I1:bs I<2^n:=by rw[hp];exact(bs_f _ n).1
 have J1:bs J<2^m:=by rw[hq];exact(bs_f _ m).1
 obtain⟨i0,hi0⟩:=aY _ B.I0;obtain⟨j0,hj0⟩:=aY _ B.J0;have one:wn (mf rows) (bs I) (bs J)=1:=by
  refine(vV (f:=mf rows) (i0:=i0) (j0:=j0) (λ i hi j hj=>?_) (by rw[cI];exact hi0) (by rw[cJ];exact hj0)).mpr λ i hi j hj=>?_
  ·rw[cI]at hi;rw[cJ]at hj;exact Y7 R w9 (In i hi) (Jm j hj)
  ·rw[cI]at hi;rw[cJ]at hj;rw[B.mo i hi j hj,B.mo i0 hi0 j0 hj0]
 have ib:=IW (fu:=fu) (k:=k+1) R w9 n0 n8 m8 I0 I1 J0 J1 one;have eI:=wq (fu:=fu) (k:=k+4) (l:=I) (by rw[hp];exact wu n p) λ i hi=>q9 (In i hi) n8;have eJ:=wq (fu:=fu) (k:=k+4) (l:=J) (by rw[hq];exact wu m q) λ i hi=>q9 (Jm i hi) m8
 let A (a b d:Sv):ge Sv:=[.val (tT rows),.val (.int c),.val (wD' ws (λ w=>wN rows w n m)),.val (wD' ws (tell rows m)),.val (.int w),.val (.lst (nD I)),.val (.lst (nD J)),a,b,d]
 have b5:∀{a b d:Sv},evE G (JK (k+5)) (.call 43 [.var 5]) (A a b d)=some (.ok (.int ((bs I:Nat):Int)) .strong):=λ {a b d}=>g8 (fr:=false) (e7 (d5 rfl) g7) rfl eI;have b6:∀{a b d:Sv},evE G (JK (k+5)) (.call 43 [.var 6]) (A a b d)=some (.ok (.int ((bs J:Nat):Int)) .strong):=λ {a b d}=>g8 (fr:=false) (e7 (d5 rfl) g7) rfl eJ;have sd:evS G (JK (k+5)) fu (.sett [4,5,6] (.call 44 [.var 0,.var 1])) (j8 10 [tT rows,.int c,wD' ws (λ w=>wN rows w n m),wD' ws (tell rows m)])=some (.nx (A .no .no .no)):=by
  obtain⟨δ0,hδ⟩:∃δ0,δ0=j8 10 [tT rows,.int c,wD' ws (λ w=>wN rows w n m),wD' ws (tell rows m)]:=⟨_,rfl⟩;rw[←hδ];have e0:evE G (JK (k+5)) (.call 44 [.var 0,.var 1]) δ0=some (.ok (.lst [.int w,.lst (nD I),.lst (nD J)]) .fresh):=g8 (fr:=true) (e7 (d5 (by rw[hδ];rfl)) (e7 (d5 (by rw[hδ];rfl)) g7)) rfl dr;have e1:evS G (JK (k+5)) fu (.sett [4,5,6] (.call 44 [.var 0,.var 1])) δ0=Re.thnS δ0 (evE G (JK (k+5)) (.call 44 [.var 0,.var 1]) δ0) λ d c=>if c=.strong\/c=.fresh then(match M9 d with
   | some (_,ds)=>(O5 δ0 [4,5,6] ds).map Out.nx
   | none=>none)else none:=rfl
  rw[e1,e0,hδ];rfl
 have t1:evE G (JK (k+5)) (.cmp .IsNot (.call 12 [.var 0,.call 43 [.var 5],.call 43 [.var 6]]) (.bl true)) (A .no .no .no)=some (.ok (.bl false) .strong):=A7 (g8 (fr:=false) (e7 (d5 rfl) (e7 b5 (e7 b6 g7))) rfl ib) (cy:=.strong) rfl rfl;have s7:evE G (JK (k+5)) (.lst [.call 43 [.var 5],.call 43 [.var 6]]) (A .no .no .no)=some (.ok (.lst [.int ((bs I:Nat):Int),.int ((bs J:Nat):Int)]) .fresh):=U8 (e7 b5 (e7 b6 g7)) (show 2<=j5 by decide) rfl
 let D:Sv:=.val (.lst [.int ((bs I:Nat):Int),.int ((bs J:Nat):Int)])
 have bn:∀{x y:Nat},cmpD .Eq (.int (Builtin.bitAnd (x:Int) (y:Int))) (.int (x:Int))=some (decide (x &&& y=x)):=λ {x y}=>by
  show some (Builtin.bitAnd (x:Int) (y:Int)==(x:Int))=_;rw[cS]
  congr 1
  rw[J7,f7,C6];omega
 have tl:(tell rows m w).length<=64:=(by refine e9 (aV _ _ _ (f8 _)).length_le (e9 (mI _ _ _ _) ?_);have a:=aR rows;have b:=aR JF;rw[R.1]at a;rw[E5]at b;exact ai (e9 a n8) (e9 b m8));have s8:=G3 (F:=run G T fu (k+5)) (δ:=A D .no .no) (l:=wN rows w n m) (h:=qD) (f:=qD) (p:=λ b=>decide (bs I &&& b.1=bs I)&&decide (bs J &&& b.2=bs J)) (elt:=.var 0) (tg:=.one 0) (it:=.dix (.var 2) (.var 4))
  (cd:=.and [.cmp .Eq (.bin .BitAnd (.ix (.var 1) (.int 0)) (.ix (.var 0) (.int 0))) (.ix (.var 1) (.int 0)),.cmp .Eq (.bin .BitAnd (.ix (.var 1) (.int 1)) (.ix (.var 0) (.int 1))) (.ix (.var 1) (.int 1))]) (fr:=[none,some 7]) (cl:=.strong)
  (by rw[mP (f:=λ w=>wN rows w n m) wi (d5 rfl) (d5 rfl)];rfl) Jz (e9 (vJ n8) Jz) (λ b _=>by
   have d0:evE G (JK (k+5)) (.ix (.var 1) (.int 0)) [.val (qD b),D]=some (.ok (.int ((bs I:Nat):Int)) .strong):=o7 (cx:=.strong) (d5 rfl) g6 rfl;have d1:evE G (JK (k+5)) (.ix (.var 1) (.int 1)) [.val (qD b),D]=some (.ok (.int ((bs J:Nat):Int)) .strong):=o7 (cx:=.strong) (d5 rfl) g6 rfl;exact⟨[.val (qD b),D],rfl,i4 (and2 (A7 (B4 (op:=.BitAnd) d0 (aW (p:=b) (d5 rfl)) rfl) d0 bn) (A7 (B4 (op:=.BitAnd) d1 (aX (p:=b) (d5 rfl)) rfl) d1 bn)),.strong,rfl,rfl⟩)
 have s9:=G3 (F:=run G T fu (k+5)) (δ:=A D (.val (.lst (((wN rows w n m).filter λ b=>decide (bs I &&& b.1=bs I)&&decide (bs J &&& b.2=bs J)).map qD))) .no) (l:=tell rows m w) (h:=qD) (f:=qD) (p:=λ e=>I.contains e.1&&J.contains e.2) (elt:=.var 0) (tg:=.one 0) (it:=.dix (.var 3) (.var 4))
  (cd:=.and [.cmp .In (.ix (.var 0) (.int 0)) (.var 1),.cmp .In (.ix (.var 0) (.int 1)) (.var 2)]) (fr:=[none,some 5,some 6]) (cl:=.strong)
  (by rw[mP (f:=tell rows m) wi (d5 rfl) (d5 rfl)];rfl) Jz (e9 tl Jz) (λ e _=>⟨[.val (qD e),.val (.lst (nD I)),.val (.lst (nD J))],rfl,i4 (and2 (A7 (aW (d5 rfl)) (d5 rfl) (wx _ _)) (A7 (aX (d5 rfl)) (d5 rfl) (wx _ _))),.strong,rfl,rfl⟩)
 have ar:0<((wN rows w n m).filter λ b=>decide (bs I &&& b.1=bs I)&&decide (bs J &&& b.2=bs J)).length:=(by obtain⟨b,b0,b1,b2⟩:=wide In Jm B.I0 B.J0 B.mo;refine V4 (j2.mpr ⟨b0,?_⟩);rw[d6,C6,C6];exact⟨by rw[hp]at b1 ⊢;exact wy b1,by rw[hq]at b2 ⊢;exact wy b2⟩);have ins:((tell rows m w).filter λ e=>I.contains e.1&&J.contains e.2).length<2:=IR λ x y hx hy kk h1 h2=>by rw[d6,J4,J4]at h1 h2;have e1:at2 rows x.1 x.2=w:=B.mo _ h1.1 _ h1.2;have e2:at2 rows x.1 y.2=w:=B.mo _ h1.1 _ h2.2;have e3:at2 rows y.1 x.2=w:=B.mo _ h2.1 _ h1.2;have e4:at2 rows y.1 y.2=w:=B.mo _ h2.1 _ h2.2;unfold kp at kk;rw[e1,e2,e3,e4]at kk;simp at kk
 rw[k8 (fd:=lC) rfl rfl];unfold lC;refine k5 (f6 sd (u4 (i4 t1) (f6 (j4 s7 rfl) (f6 (j4 s8 rfl) (f6 (j4 s9 rfl) (j9 (n6 (cl:=.strong) ?_)))))));have u1:=b_gt (D0 (d5 (G:=G) (F:=run G T fu (k+5)) (δ:=A D (.val (.lst (((wN rows w n m).filter λ b=>decide (bs I &&& b.1=bs I)&&decide (bs J &&& b.2=bs J)).map qD))) (.val (.lst (((tell rows m w).filter λ e=>I.contains e.1&&J.contains e.2).map qD)))) (n:=8) rfl)) (g6 (i:=0));have u2:=b_lt (D0 (d5 (G:=G) (F:=run G T fu (k+5)) (δ:=A D (.val (.lst (((wN rows w n m).filter λ b=>decide (bs I &&& b.1=bs I)&&decide (bs J &&& b.2=bs J)).map qD))) (.val (.lst (((tell rows m w).filter λ e=>I.contains e.1&&J.contains e.2).map qD)))) (n:=9) rfl)) (g6 (i:=2));rw[d7,t8 Jy]at u1;rw[d7,t8 Jy]at u2;exact and2 u1 u2
theorem wz(h:n+m<=14)(hn:n<=8)(hm:m<=8):n*m<64:=by
 have:∀a<9,∀b<9,a+b<=14->a*b<64:=by decide
 exact this n Jy m Jy h
theorem aD:∀(N R C:Nat),R+C<=N->0<R->R<32->0<C->C<32->In9 f R C->V jB f R C<=R+C
 | 0,R,C,h,c,_,_,_,_=>by omega
 | N+1,R,C,h,c,m,p,n,o=>by
  by_cases q:wn f R C=1
  ·rw[gH c q];exact v9 _
  ·obtain⟨w,x,e⟩:=mJ c m p n q (wn_p o c m p n);refine mK (P:=λ _ _=>True) x c m p n λ r u R2 s y l a b r1 A v z un=>?_
   have i1:=aD N r u Jy a.1 a.2.1 a.2.2.1 a.2.2.2 λ i g j d=>o i (r1 i g) j (A j d);have i2:=aD N R2 s Jy b.1 b.2.1 b.2.2.1 b.2.2.2 λ i g j d=>o i (v i g) j (z j d);rw[y]at e;have e:V jB f R C=1+max (V jB f r u) (V jB f R2 s):=e;omega
theorem wA(l:δ[i]? = some (.od (wD' ws f)))(d:evE G F e δ=some (.ok (.lst ((f v).map qD)) .fresh))(g:JA b c (.int v))(hv:v∉ws)(a:ws.length<=1000):evS G F fu (.dpl i b e) δ=some (.nx (δ.set i (.od (wD' (ws++[v]) f)))):=by
 show dplS δ i _ _ δ[i]? = _;rw[l,d,g];show(if stro _ .fresh/\DKey.i v∉ws.map DKey.i/\(ws.map DKey.i).length<j5 then some (Out.nx _)else none)=_;rw[d8 ⟨rfl,λ z=>by obtain⟨x,j,h⟩:=f9.mp z;cases h;exact hv j,by rw[d7];exact K7 a Jz⟩];unfold wD';rw[t5,t5];rfl
theorem wC(d:δ[i]? = some (.od (wD' ws f)))(a:JA b c (.int v))(hv:v∈ws):evE G F (.dgl i b) δ=some (.ok (.lst ((f v).map qD)) .strong):=by
 show dglE _ δ[i]? = _;rw[d,a];show(E1 (.i v) _ _).map _=_;rw[mO hv];rfl
theorem Ja(g:δ[i]? = some (.od (wD' ws f)))(a:JA b c (.int v)):evE G F (.nin i b) δ=some (.ok (.bl (!decide (v∈ws))) .strong):=by
 show ninE _ δ[i]? = _;rw[g,a];show some _=_;have:(DKey.i v∈ws.map DKey.i)↔v∈ws:=⟨λ z=>by obtain⟨x,e,d⟩:=f9.mp z;cases d;exact e,λ z=>f9.mpr ⟨v,z,rfl⟩⟩;rw[dU.mpr this]
noncomputable def tW(rows:ge (ge Int))(m:Nat){n:Nat}(h:n<=8)(w:Int):Nat:=(vS (rows:=rows) (w:=w) (m:=m) h).choose
theorem mQ{h:n<=8}:LE rows w n m (tW rows m h w):=(vS h).choose_spec.2
noncomputable def wBd:ge MS:=[.dpl 3 (.var 7) (.call 13 [.var 1,.var 7]),.dpl 4 (.var 7) (.call 22 [.var 1,.var 7]),.set 8 false (.bi .len [.call 16 [.var 1,.var 7]]),.set 5 false (.bin .Add (.var 5) (.var 8)),.iff (.or [.cmp .Gt (.bi .len [.dgl 4 (.var 7)]) (.var 8),.cmp .Gt (.var 8) (.bi .min [.bi .len [.var 2],.bi .len [.ix (.var 2) (.int 0)],.bi .len [.dgl 3 (.var 7)]])]) [.ret (.bl false)] [],.iff (.or [.cmp .Lt (.var 8) (.int 1),.cmp .Eq (.dgl 4 (.var 7)) (.lst [])]) [.ret (.bl false)] []]
def lW(ns:ge Int)(rows:ge (ge Int))(n m:Nat)(ws us:ge Int)(cov:Nat)(z6 z7 z8:Sv):ge Sv:=[.val (.scr ns),.val (tT rows),.val (rL (sub rows (FI rows) JD)),.od (wD' ws λ w=>wN rows w n m),.od (wD' us (tell rows m)),.val (.int (cov:Int)),z6,z7,z8,.no,.no,.no]
structure Tz(n m:Nat)(rows:List (List Int)):Prop extends Tk n m rows where
 s:n+m<=14
 h1:(FI rows).length<=5
 h2:(JD).length<=5
theorem Jb(t:Tz n m rows)(Y:∃r j,r<n/\j<m/\mf rows r j=v)(hv:v∉ws)(M:ws.length<=1000):evSs G (run G T 100 59) 100 wBd (lW ns rows n m ws ws cov g (JH v) o)=some (.nx (lW ns rows n m (ws++[v]) (ws++[v]) (cov+tW rows m t.n8 v) g (JH v) (JH (tW rows m t.n8 v:Nat)))):=by
 obtain⟨r,j,K,N,P⟩:=Y;have R:=t.R;have y:=vw (fu:=100) (k:=56) (w:=v) R t.n0 t.n8 t.m8;rw[vI]at y;have ap:=Iy (fu:=100) (k:=19) R t.n0 t.n8 t.m8 t.h1 t.h2 v;have L:=mQ (rows:=rows) (w:=v) (m:=m) (h:=t.n8);obtain⟨c,Q,c2,c3,fc⟩:=vR (fu:=100) (k:=47) R t.n0 t.n8 t.m8 t.h1 t.h2 (K7 (vD _) (by rw[o9];exact wz t.s t.n8 t.m8)) Jz L;have X:=we R c2 c3;have q2:=II R L;have q3:=IJ R L;have q4:=IK L;have q5:=IL L K N P;have W:=IQ R K N P;generalize tW rows m t.n8 v=tv at *;rw[Q]at X;have z:v∈ws++[v]:=v4 _ (r9.mpr rfl);have a2:evE G (run G T 100 59) (.call 22 [.var 1,.var 7]) (lW ns rows n m (ws++[v]) ws cov g (JH v) o)=some (.ok (.lst ((tell rows m v).map qD)) .fresh):=g8 (fr:=true) (e7 (d5 rfl) (e7 (d5 rfl) g7)) rfl ap;have S:=D0 (g8 (G:=G) (F:=run G T 100 59) (δ:=lW ns rows n m (ws++[v]) (ws++[v]) cov g (JH v) o) (f:=16) (es:=[.var 1,.var 7]) (l:=[(tT rows,.strong),(.int v,.strong)]) rfl rfl fc);rw[d7,Q]at S
 let D:=lW ns rows n m (ws++[v]) (ws++[v]) (cov+tv) g (JH v) (JH (tv:Int))
 have a4:evE G (run G T 100 59) (.bin .Add (.var 5) (.var 8)) (lW ns rows n m (ws++[v]) (ws++[v]) cov g (JH v) (JH (tv:Int)))=some (.ok (.int ((cov+tv:Nat):Int)) .strong):=(by rw[Int.natCast_add];exact F7 (d5 rfl) (d5 rfl));have A:evE G (run G T 100 59) (.var 7) D=some (.ok (.int v) .strong):=d5 rfl;have p:evE G (run G T 100 59) (.var 8) D=some (.ok (.int (tv:Int)) .strong):=d5 rfl;have O:=wC (i:=4) (f:=tell rows m) (δ:=D) rfl A z;have g3:=wC (i:=3) (f:=λ w=>wN rows w n m) (δ:=D) rfl A z;have I:=D0 O;have J:=D0 g3;rw[d7]at I J;have s:Rect (FI rows).length (JD).length (sub rows (FI rows) JD):=gA;have f0:0<(FI rows).length:=F5 (by rw[R.1];exact t.n0);have l2:=(by have q:=D0 (F:=run G T 100 59) (δ:=D) (e:=.var 2) (c:=.strong) rfl;rw[d7,s.1]at q;exact q);have u:evE G (run G T 100 59) (.bi .len [.ix (.var 2) (.int 0)]) D=some (.ok (.int ((JD).length:Int)) .strong):=by
  have H:0<(sub rows (FI rows) JD).length:=by rw[s.1];exact f0
  have q:=D0 (o7 (cx:=.strong) (F:=run G T 100 59) (δ:=D) (a:=.var 2) (b:=.int 0) (x:=rL (sub rows (FI rows) JD)) (cy:=.strong) rfl (g6 (i:=((0:Nat):Int))) (cQ H));rw[show(iD ((sub rows (FI rows) JD).getD 0 [])).length=(JD).length by unfold iD;rw[d7];exact s.2 _ (B9 H)]at q;exact q
 have Z:evE G (run G T 100 59) (.bi .min [.bi .len [.var 2],.bi .len [.ix (.var 2) (.int 0)],.bi .len [.dgl 3 (.var 7)]]) D=some (.ok (.int (if((JD).length:Int)<((FI rows).length:Int)then(if((wN rows v n m).length:Int)<((JD).length:Int)then((wN rows v n m).length:Int)else((JD).length:Int))else(if((wN rows v n m).length:Int)<((FI rows).length:Int)then((wN rows v n m).length:Int)else((FI rows).length:Int)))) .strong):=(by show Rs.thn (evEs G (run G T 100 59) [.bi .len [.var 2],.bi .len [.ix (.var 2) (.int 0)],.bi .len [.dgl 3 (.var 7)]] D) (λ l=>biD .min l)=_;rw[e7 l2 (e7 u (e7 J g7))];rfl);have E:=b_gt I p;rw[x4 Jy]at E;have C:=b_gt p Z;rw[x4 (by split<;>split<;>omega)]at C;have B:=b_lt p (g6 (i:=1));rw[x4 Jy]at B;have U:evE G (run G T 100 59) (.cmp .Eq (.dgl 4 (.var 7)) (.lst [])) D=some (.ok (.bl false) .strong):=by
  refine A7 O (cy:=.fresh) rfl ((gC (gE _)).1.trans ?_);cases hq:tell rows m v with
  | nil=>exact absurd hq W
  | cons x l=>rfl
 unfold wBd;exact f6 (wA (i:=3) (f:=λ w=>wN rows w n m) rfl (g8 (e7 (d5 rfl) (e7 (d5 rfl) g7)) rfl y) (d5 (d:=.int v) rfl) hv M) (f6 (wA (i:=4) (f:=tell rows m) rfl a2 (d5 (d:=.int v) rfl) hv M) (f6 (j4 S rfl) (f6 (j4 a4 rfl) (u4 (i4 (or_f E (or_1 C))) (u4 (i4 (or_f B (or_1 U))) rfl)))))
theorem Jc(hd:d∈cutD ds l h):d∈ds:=by
 unfold cutD at hd;exact dw (dv hd)
def Oc(rows:ge (ge Int))(n m:Nat)(v:Int):Prop:=∃r j,r<n/\j<m/\mf rows r j=v
structure Wl(rows:List (List Int))(n m:Nat)(h:n<=8)(ws:List Int)(cov:Nat):Prop where
 nd:ws.Nodup
 cov:cov=(ws.map (tW rows m h)).sum
def wF:ge MS:=[.iff (.nin 3 (.var 7)) wBd []]
theorem mR(t:Tz n m rows):∀(l ws:ge Int) (cov:Nat) (s y u:Sv),(∀v∈l,Oc rows n m v)->Wl rows n m t.n8 ws cov->ws.length+l.length<=1000->∃g f r q,Wl rows n m t.n8 g f/\g.length<=ws.length+l.length/\(∀v,v∈ws\/v∈l->v∈g)/\m7 (.one 7) (λ p=>evSs G (run G T 100 59) 100 wF p) (iD l) (lW ns rows n m ws ws cov s y u)=some (.nx (lW ns rows n m g g f s r q))
 | [],ws,cov,s,y,u,_,W,_=>⟨ws,cov,y,u,W,f8 _,λ v h=>h.elim id λ z=>(nomatch z),rfl⟩
 | v::l,ws,cov,s,y,u,B,W,E=>by
  rw[n7]at E;have A:=Ja (F:=run G T 100 59) (δ:=lW ns rows n m ws ws cov s (JH v) u) (i:=3) (b:=.var 7) (v:=v) rfl rfl;have step:∀{o:on Out} {j:ge Sv},evSs G (run G T 100 59) 100 wF (lW ns rows n m ws ws cov s (JH v) u)=some (.nx j)->m7 (.one 7) (λ p=>evSs G (run G T 100 59) 100 wF p) (iD l) j=o->m7 (.one 7) (λ p=>evSs G (run G T 100 59) 100 wF p) (iD (v::l)) (lW ns rows n m ws ws cov s y u)=o:=λ {o j} J I=>by
   show(match evSs G _ 100 wF (lW ns rows n m ws ws cov s (JH v) u)with
    | some (.nx j)=>m7 (.one 7) _ (iD l) j
    | o=>o)=o
   rw[J];exact I
  by_cases hv:v∈ws
  ·rw[t8 hv]at A;obtain⟨g,f,r,q,a,b,c,d⟩:=mR t l ws cov s _ u (λ x w=>B x (i7 _ w)) W Jy;refine⟨g,f,r,q,a,by rw[n7];omega,λ x w=>?_,step (u4 (i4 A) rfl) d⟩;rcases w with z | z
   ·exact c x (.inl z)
   ·rcases g5.mp z with z | z
    ·rw[z];exact c v (.inl hv)
    ·exact c x (.inr z)
  ·rw[x4 hv]at A;obtain⟨g,f,r,q,a,b,c,d⟩:=mR t l (ws++[v]) (cov+tW rows m t.n8 v) s _ _ (λ x w=>B x (i7 _ w)) (⟨List.nodup_append.mpr ⟨W.nd,L0.mpr ⟨λ z=>(nomatch z),bu⟩,λ a C b H e=>by rw[r9.mp H]at e;rw[e]at C;exact hv C⟩,by rw[W.cov,t5,List.sum_append];rfl⟩) (by rw[o5];show ws.length+1+_<=_;omega);rw[o5]at b;refine⟨g,f,r,q,a,by rw[n7];exact e9 b (by show ws.length+1+_<=_;omega),λ x w=>?_,step (Q7 (i4 A) (Jb t (B v (i5 ..)) hv Jy) rfl) d⟩;rcases w with z | z
   ·exact c x (.inl (B6 _ z))
   ·rcases g5.mp z with z | z
    ·rw[z];exact c v (.inl (v4 _ (r9.mpr rfl)))
    ·exact c x (.inr z)
def rF:ge MS:=[.fo (.one 7) (.var 6) wF]
theorem wE(t:Tz n m rows):∀(L:ge (ge Int)) (ws:ge Int) (cov:Nat) (u p i:Sv),(∀l∈L,l.length<=8/\∀v∈l,Oc rows n m v)->Wl rows n m t.n8 ws cov->ws.length+L.length*8<=900->∃e f q j g,Wl rows n m t.n8 e f/\e.length<=900/\(∀v,(v∈ws\/∃l∈L,v∈l)->v∈e)/\m7 (.one 6) (λ w=>evSs G (run G T 100 59) 100 rF w) (L.map λ r=>.tup (iD r)) (lW ns rows n m ws ws cov u p i)=some (.nx (lW ns rows n m e e f q j g))
 | [],ws,cov,u,p,i,_,W,E=>⟨ws,cov,u,p,i,W,by omega,λ v h=>h.elim id λ ⟨l,z,_⟩=>(nomatch z),rfl⟩
 | l::L,ws,cov,u,p,i,C,W,E=>by
  rw[n7,eK]at E;obtain⟨l8,K⟩:=C l (i5 ..);obtain⟨A,s,I,H,N,b1,F,M⟩:=mR t l ws cov _ p i K W Jy;obtain⟨e,f,q,j,g,a,b,c,d⟩:=wE t L A s _ I H (λ x B=>C x (i7 _ B)) N Jy;refine⟨e,f,q,j,g,a,b,λ v hv=>?_,?_⟩
  ·rcases hv with z | ⟨x,B,z⟩
   ·exact c v (.inl (F v (.inl z)))
   ·rcases g5.mp B with y | y
    ·rw[y]at z;exact c v (.inl (F v (.inr z)))
    ·exact c v (.inr ⟨x,y,z⟩)
  ·have J:evSs G (run G T 100 59) 100 rF (lW ns rows n m ws ws cov (.val (.tup (iD l))) p i)=some _:=F0 rfl (.inl rfl) M rfl;show(match evSs G _ 100 rF (lW ns rows n m ws ws cov (.val (.tup (iD l))) p i)with
    | some (.nx δ2)=>m7 _ _ _ δ2
    | o=>o)=_
   rw[J];exact d
theorem wG:∀ws:ge Int,keyI (ws.map DKey.i)=some ws
 | []=>rfl
 | v::ws=>by show(keyI _).map _=_;rw[wG ws];rfl
theorem Jd(ns:ge Int)(S:ns.length<=63):run G T 100 60 46 [.scr ns]=some (.v (.bl true) false):=by
 obtain⟨n,m,e,Q,Y,e1⟩:=Hy (fu:=100) (k:=56) ns S;have t:Tz n m e:=⟨Q,Y,uV Q.fr,uV Q.fc⟩;have R:=t.R;have e2:=IE (fu:=100) (k:=58) R t.n0 t.n8 t.m8;have fe:=HJ (fu:=100) (k:=50) e n m R t.w9 t.n0 (e9 t.n8 Jz) t.m0 (e9 t.m8 Jz) t.h1 t.h2;have lb:=HL (fu:=100) (k:=50) e n m R t.w9 t.n0 (e9 t.n8 Jz) t.m0 (e9 t.m8 Jz) t.h1 t.h2;obtain⟨o,cov,y6,y7,y8,W,C,M,lp⟩:=wE (ns:=ns) t e [] 0 .no .no .no (λ l U=>by
  refine⟨by rw[R.2 l U];exact t.m8,λ v hv=>?_⟩;obtain⟨r,N,er⟩:=dF U;obtain⟨j,B,ej⟩:=dF hv;refine⟨r,j,by rw[←R.1];exact N,by rw[←R.2 l U];exact B,?_⟩;unfold mf;rw[p5 (l:=e),j6 N,K9,er,p5,j6 B,K9,ej]) ⟨bu,rfl⟩ (by have:=t.n8;rw[R.1];show 0+_<=_;omega)
 have K:∀r j,r<n->j<m->mf e r j∈o:=λ r j N B=>by have h1:e.getD r []∈e:=B9 (by rw[R.1];exact N);exact M _ (.inr ⟨_,h1,lT (by rw[R.2 _ h1];exact B)⟩)
 have H:=IU R t.w9 t.n0 t.m0 t.h1 t.h2 W.nd (t:=tW e m t.n8) λ w _=>mQ;have u:(o.map λ w=>(tell e m w).length).sum<=(o.map (tW e m t.n8)).sum:=wk λ w _=>by have L:=mQ (rows:=e) (w:=w) (m:=m) (h:=t.n8);have X:(eE e w m (JJ n)).length<64:=K7 (vD _) (by rw[o9];exact wz t.s t.n8 t.m8);obtain⟨c,c1,c2,c3,_⟩:=vR (fu:=100) (k:=47) R t.n0 t.n8 t.m8 t.h1 t.h2 X Jz L;have:=we R c2 c3;rw[c1]at this;exact this
 have bl:V jB (mf (rst m e)) (2^(FI e).length - 1) (2^(FI (flip m e)).length - 1)<=1000:=(by have p1:=x9 (n:=2) Jz t.h1;have p2:=x9 (n:=2) Jz t.h2;have a0:0<(FI e).length:=F5 (by rw[R.1];exact t.n0);have b0:0<(FI (flip m e)).length:=F5 (by rw[E5];exact t.m0);have l1:=x9 (n:=2) Jz a0;have l2:=x9 (n:=2) Jz b0;have i9:In9 (mf (rst m e)) (2^(FI e).length - 1) (2^(FI (flip m e)).length - 1):=λ i hi j B=>Y7 gA (mv R t.w9) (P4 Jy hi) (P4 Jy B);have:=aD _ _ _ (f8 _) Jy Jy Jy Jy i9;omega);rw[←W.cov]at H u;generalize V jE (mf (rst m e)) (2^(FI e).length - 1) (2^(FI (flip m e)).length - 1)=E at *;generalize V jB (mf (rst m e)) (2^(FI e).length - 1) (2^(FI (flip m e)).length - 1)=Bb at *
 let A (x y z:Sv):ge Sv:=[.val (.scr ns),.val (tT e),.val (rL (sub e (FI e) (FI (flip m e)))),.val (wD' o λ w=>wN e w n m),.val (wD' o (tell e m)),.val (.int (cov:Int)),y6,y7,y8,x,y,z]
 have O:o≠[]:=P7 (K 0 0 t.n0 t.m0);have s9:evE G (run G T 100 59) (.call 36 [.var 1]) (A .no .no .no)=some (.ok (.int (E:Int)) .strong):=g8 (fr:=false) (e7 (d5 rfl) g7) rfl fe
 let D:=A (JH (E:Int)) (JH (Bb:Int)) .no
 have P:evE G (run G T 100 59) (.var 9) D=some (.ok (.int (E:Int)) .strong):=d5 rfl;have u1:=b_gt (d5 (G:=G) (F:=run G T 100 59) (δ:=D) (n:=5) (d:=.int (cov:Int)) rfl) P;rw[x4 Jy]at u1;have kw:k7 (evE G (run G T 100 59) (.kyi (.var 4)) D)=some (.ok (o.map DV.int) .strong):=(by show k7 (if Cl.strong=Cl.strong/\(o.map DKey.i).isEmpty=false then(keyI (o.map DKey.i)).map λ l=>Re.ok (.lst (l.map DV.int)) .strong else none)=_;rw[d8 ⟨rfl,by cases o with | nil=>exact absurd rfl O | cons a l=>rfl⟩,wG];rfl);have wl:o.length<=j5:=e9 C Jz;have cm:=C3 (F:=run G T 100 59) (δ:=D) (l:=o) (h:=DV.int) (f:=λ w=>.int ((tell e m w).length:Int)) (elt:=.bi .len [.dix (.var 1) (.var 0)]) (tg:=.one 0) (it:=.kyi (.var 4)) (fr:=[none,some 4]) kw Jz wl (λ w hw=>by
  have q:=D0 (mP (F:=run G T 100 59) (δ:=[.val (.int w),.val (wD' o (tell e m))]) (a:=.var 1) (b:=.var 0) (c:=.strong) (f:=tell e m) hw rfl rfl);rw[d7]at q;exact⟨[.val (.int w),.val (wD' o (tell e m))],.strong,rfl,q,rfl⟩)
 have u2:=b_gt (mz (by rw[k6];exact cm)) P;rw[x4 Jy]at u2;have u3:=b_gt P (gx (d5 (G:=G) (F:=run G T 100 59) (δ:=D) (n:=10) (d:=.int (Bb:Int)) rfl) bl);rw[x4 Jy]at u3;obtain⟨c0,ec⟩:=lD (fu:=100) (k:=58) ns 0;have g1:=U8 (F:=run G T 100 59) (δ:=D) (e7 (g8 (G:=G) (F:=run G T 100 59) (δ:=D) (f:=38) (es:=[.var 0,.int 0]) (l:=[(.scr ns,.strong),(.int 0,.strong)]) rfl rfl ec) g7) (show 1<=j5 by decide) rfl;have g2:evE G (run G T 100 59) (.sl (.var 0) (.int 1) (.int 41)) D=some (.ok (.lst (cutD (ns.map DV.int) (some 1) (some 41))) .fresh):=rfl;have cl:(cutD (ns.map DV.int) (some 1) (some 41)).length<=63:=(by unfold cutD;refine e9 (List.length_take_le' ..) ?_;rw[S9,d7];omega);have g3:=Y8 g1 g2 (by show 1+_<=_;omega);obtain⟨g,p⟩:∃l,[DV.int c0]++cutD (ns.map DV.int) (some 1) (some 41)=l:=⟨_,rfl⟩;have ci:∀d∈g,∃c,d=DV.int c:=λ d hd=>by
  rw[←p]at hd;rcases A5.mp hd with z | z
  ·exact⟨c0,r9.mp z⟩
  ·obtain⟨c,_,rfl⟩:=f9.mp (Jc z);exact⟨c,rfl⟩
 have g4:k7 (evE G (run G T 100 59) (.bin .Add (.lst [.call 38 [.var 0,.int 0]]) (.sl (.var 0) (.int 1) (.int 41))) D)=some (.ok g .fresh):=by rw[g3,←p];rfl
 have J:∃s,m7 (.one 11) (λ s=>evSs G (run G T 100 59) 100 [.iff (.not (.call 45 [.var 1,.var 11,.var 3,.var 4])) [.ret (.bl false)] []] s) g D=some (.nx s)/\∃z,s=A (JH (E:Int)) (JH (Bb:Int)) z:=(by refine pq (I:=λ Z=>∃z,Z=A (JH (E:Int)) (JH (Bb:Int)) z) (λ d hd Z h=>?_) ⟨_,rfl⟩;obtain⟨z,rfl⟩:=h;obtain⟨c,rfl⟩:=ci d hd;have b:=IZ (fu:=100) (k:=53) R t.w9 t.n0 t.n8 t.m0 t.m8 c K;have q:=fg (g8 (G:=G) (F:=run G T 100 59) (δ:=A (JH (E:Int)) (JH (Bb:Int)) (JH c)) (f:=45) (es:=[.var 1,.var 11,.var 3,.var 4]) (e7 (d5 rfl) (e7 (d5 rfl) (e7 (d5 rfl) (e7 (d5 rfl) g7)))) rfl b);exact⟨_,_,rfl,u4 (i4 q) rfl,_,rfl⟩);obtain⟨s,lc,z,rfl⟩:=J;rw[k8 (fd:=gj) rfl rfl];unfold gj;exact k5 (f6 (j4 (g8 (e7 (d5 rfl) (e7 g6 g7)) rfl e1) rfl) (f6 (j4 (g8 (e7 (d5 rfl) g7) rfl e2) rfl) (f6 rfl (f6 rfl (f6 (j4 (d:=.int 0) (cl:=.strong) rfl rfl) (F0 (cl:=.strong) rfl (.inl rfl) lp (f6 rfl (f6 rfl (f6 (j4 s9 rfl) (f6 (j4 (g8 (e7 (d5 rfl) g7) rfl lb) rfl) (u4 (i4 (or_f u1 (or_f u2 (or_1 u3)))) (F0 g4 (.inr rfl) lc (j9 rfl)))))))))))))
end k35
end
noncomputable section
namespace k35
open PySem PySem.W L2 PySem.Spec PyProof.Rows
theorem lnS(h:b.length=n+1):∃a r,b=a::r/\r.length=n:=by cases b with | nil=>cases h | cons a r=>exact⟨a,r,rfl,Nat.succ.inj h⟩
theorem ln0(h:a.length=0):a=[]:=S2.mp h
theorem ln1{α:Type}{us:ge α}(h:us.length=1):∃a0,us=[a0]:=by obtain⟨_,_,rfl,h0⟩:=lnS h;obtain rfl:=ln0 h0;exact⟨_,rfl⟩
theorem ln2{α:Type}{us:ge α}(h:us.length=2):∃a0 a1,us=[a0,a1]:=by obtain⟨_,_,rfl,h0⟩:=lnS h;obtain⟨_,_,rfl,h1⟩:=lnS h0;obtain rfl:=ln0 h1;exact⟨_,_,rfl⟩
theorem ln3{α:Type}{us:ge α}(h:us.length=3):∃a0 a1 a2,us=[a0,a1,a2]:=by obtain⟨_,_,rfl,h0⟩:=lnS h;obtain⟨_,_,rfl,h1⟩:=lnS h0;obtain⟨_,_,rfl,h2⟩:=lnS h1;obtain rfl:=ln0 h2;exact⟨_,_,_,rfl⟩
theorem ln4{α:Type}{us:ge α}(h:us.length=4):∃a0 a1 a2 a3,us=[a0,a1,a2,a3]:=by obtain⟨_,_,rfl,h0⟩:=lnS h;obtain⟨_,_,rfl,h1⟩:=lnS h0;obtain⟨_,_,rfl,h2⟩:=lnS h1;obtain⟨_,_,rfl,h3⟩:=lnS h2;obtain rfl:=ln0 h3;exact⟨_,_,_,_,rfl⟩
def fn:ge Str:=fnl
def bl:ge Str:=bll
def cl:ge Str:=cll
theorem ok30:okD fn bl cl ly ["no","yes"] ["no","yes"] (top 41)=true:=by decide +kernel
theorem ok31:okD fn bl cl tL ["no","yes"] ["no","yes"] (top 42)=true:=by decide +kernel
theorem ok46:okD fn bl cl gj ["_law_script","_law_table_here","_law_small","_law_blocks","_law_told","_law_covers_there","_law_row","_law_word","_law_many","_law_ends","_law_bits_here","_law_cell"] ["_law_script"] (top 59)=true:=by decide +kernel
abbrev ck(P:Params)(x:Str)(f:Ji)(i:Nat)(dV pm:Jg)(cd:Ji):Prop:=(nsIn (kK P) mainGlobals x,(kK P).lookup f,codeIn (kK P) (.ref cd) x,keepIn (kK P) (.ref f))=(some (some (.ref f)),some (fo x i dV pm cd),true,true)
theorem ck4{P:Params}{x:Str}{f:Ji}{i:Nat}{dV pm:Jg}{cd:Ji}(q:ck P x f i dV pm cd):nsIn (kK P) mainGlobals x=some (some (.ref f))/\(kK P).lookup f=some (fo x i dV pm cd)/\codeIn (kK P) (.ref cd) x=true/\keepIn (kK P) (.ref f)=true:=by
 obtain⟨a,b⟩:=Prod.mk.inj q;obtain⟨b,c⟩:=Prod.mk.inj b;exact⟨a,b,Prod.mk.inj c⟩
theorem kN(P:Params):((kK P).map (·.1)).Nodup:=by rw[show(kK P).map (·.1)=kA by kernel_rfl];decide +kernel
theorem kM(P:Params):((v3 (kK P)).map (·.1)).Nodup:=by rw[show(v3 (kK P)).map (·.1)=[16,60,65,72,79,84,89,94,101,108,115,122,129,136,143,148,153,160,165,170,177,182,189,194,199,206,213,220,225,232,239,246,253,258,263,268,275,289,296,303,308,313,318,325,330,335] by kernel_rfl];decide +kernel
theorem zz(P:Params):bl.map (nsIn (kK P) mainGlobals)=bl.map λ _=>some none:=by kernel_rfl
abbrev pm0:Jg:=(.str "talkleast.checks" 187)
abbrev pm1:Jg:=(.str "talkleast.tables" 250)
abbrev pm2:Jg:=(.str "talkleast.blocks" 333)
abbrev pm3:Jg:=(.str "talkleast.covers" 367)
abbrev pm4:Jg:=(.str "talkleast.apart" 418)
abbrev pm5:Jg:=(.str "talkleast.parts" 442)
abbrev pm6:Jg:=(.str "talkleast.least" 512)
abbrev pm7:Jg:=(.str "law_talkleast_k35_whole_bounds_of_blocks" 528)
theorem sk{w:Jn}{h:Jj}{mg:Str->on Jg}{x:Str}(f:Ji)(i:Nat){d:FD}(pm:Jg)(N ps:ge Str)(X:(kK w.params).In h)(Ns:h.Ns mainGlobals mg)(ok:okD fn bl cl d N ps (top i)=true:=by decide +kernel)(q:ck w.params x f i .none pm (f - 1):=by kernel_rfl)(hb:∀(kV doc pm:Jg) (an:on Ji) (cdv ct:Jg) (us:ge Jg),us.length=ps.length->bindArgs (fnOf x x (M5 (top i)) (G9 (top i)) (x2 (top i)) .none kV doc pm an cdv ct) ⟨us,[]⟩=pure (ps.zip us):=by(intro _ _ _ _ _ _ us hl;first | (obtain⟨_,rfl⟩:=ln1 hl;rfl) | (obtain⟨_,_,rfl⟩:=ln2 hl;rfl) | (obtain⟨_,_,_,rfl⟩:=ln3 hl;rfl) | (obtain⟨_,_,_,_,rfl⟩:=ln4 hl;rfl)))(dq:dqB x=true:=by decide +kernel):Stands (kK w.params) mg fn bl cl d x f (fnOf x x (M5 (top i)) (G9 (top i)) (x2 (top i)) .none .none .none pm none (.ref (f - 1)) .none) ps:=by
 obtain⟨a,l,c,k⟩:=ck4 q;exact gi X Ns ok a l c k hb dq
open PySem.W
theorem all_mk{l:OpenLaw}{w:Jn}{h:Jj}{mg:Str->on Jg}{fa:Ji}(X:(kK w.params).In h)(Ns:h.Ns mainGlobals mg)(hfa:mg "law" = some (.ref fa)):∃fd:Jr,(∀(s:Jh) (v:Jg),BindsTo s fd ⟨[v],[]⟩ [("_law_script",v)])/\∀base:Jj,(kK w.params).In base->base.Ns mainGlobals mg->FnOk l.prog w (kK w.params) mg base CX0 60 fa fd ["_law_script"] (spS (kK w.params)):=by
 obtain⟨a30,l30,c30,k30⟩:=ck4 (P:=w.params) (x:="joined_bits") (f:=244) (i:=41) (dV:=.none) (pm:=(.str "talkleast.parts" 442)) (cd:=243) (by kernel_rfl);have S30:=gi X Ns ok30 a30 l30 c30 k30 λ _ _ _ _ _ _ us hl=>by obtain⟨_,_,rfl⟩:=ln2 hl;rfl
 obtain⟨a31,l31,c31,k31⟩:=ck4 (P:=w.params) (x:="joined_ends") (f:=251) (i:=42) (dV:=.none) (pm:=(.str "talkleast.parts" 442)) (cd:=250) (by kernel_rfl);have S31:=gi X Ns ok31 a31 l31 c31 k31 λ _ _ _ _ _ _ us hl=>by obtain⟨_,_,rfl⟩:=ln2 hl;rfl
 obtain⟨a46,l46,c46,k46⟩:=ck4 (P:=w.params) (x:="law") (f:=338) (i:=59) (dV:=.none) (pm:=(.str "law_talkleast_k35_whole_bounds_of_blocks" 528)) (cd:=337) (by kernel_rfl);have S46:=gi X Ns ok46 a46 l46 c46 k46 λ _ _ _ _ _ _ us hl=>by obtain⟨_,rfl⟩:=ln1 hl;rfl
 have e:=hfa.symm.trans (mg_of X Ns a46);cases e;have HC:∀x d,G.con.lookup x=some d->∃u v,mg x=some u/\RelV v u/\∀H,Rep ⟨kK w.params,mg⟩ H d v:=by
  intro x d h;have g0:nsIn (kK w.params) mainGlobals "SMALL_LINES" = some (some (.int 5 252)):=by kernel_rfl
  exact ls ⟨_,.int _,mg_of X Ns g0,⟨_,rfl⟩,λ H=>u6.mpr rfl⟩ (ls ⟨_,.ref _,S30.mg,rfl,λ H=>fJ.mpr ⟨_,rfl,S30.mg⟩⟩ (ls ⟨_,.ref _,S31.mg,rfl,λ H=>fJ.mpr ⟨_,rfl,S31.mg⟩⟩ (Gm))) x d h
 have HSS:HS (kK w.params) mg fn bl cl T fn:=(k9 (sk 21 1 pm0 ["thing","least","most"] ["thing","least","most"] X Ns) (k9 (sk 63 8 pm1 ["table"] ["table"] X Ns) (k9 (sk 70 9 pm1 ["table","rows","columns"] ["table","rows","columns"] X Ns) (k9 (sk 77 10 pm1 ["cards","size"] ["cards","size"] X Ns) (k9 (sk 82 11 pm1 ["cards"] ["cards"] X Ns) (k9 (sk 87 12 pm1 ["table","rows","columns"] ["table","rows","columns"] X Ns) (k9 (sk 92 13 pm1 ["table"] ["table"] X Ns) (k9 (sk 99 14 pm1 ["table"] ["table"] X Ns) (k9 (sk 106 15 pm1 ["table"] ["table"] X Ns) (k9 (sk 113 16 pm1 ["table","rest"] ["table"] X Ns) (k9 (sk 120 17 pm1 ["table"] ["table"] X Ns) (k9 (sk 127 18 pm1 ["table","words","row"] ["table"] X Ns) (k9 (sk 134 20 pm2 ["table","rows","columns"] ["table","rows","columns"] X Ns) (k9 (sk 141 21 pm2 ["table","word","found","rows","columns"] ["table","word"] X Ns) (k9 (sk 146 22 pm2 ["table","rows","word","inside"] ["table","rows","word"] X Ns) (k9 (sk 151 23 pm2 ["table","columns","word","inside"] ["table","columns","word"] X Ns) (k9 (sk 158 25 pm3 ["table","word","blocks","bare","most","cover"] ["table","word"] X Ns) (k9 (sk 163 26 pm3 ["table","word","blocks","entries","row","words"] ["table","word","blocks"] X Ns) (k9 (sk 168 27 pm3 ["blocks","entry"] ["blocks","entry"] X Ns) (k9 (sk 175 28 pm3 ["block","entry"] ["block","entry"] X Ns) (k9 (sk 180 29 pm3 ["bare","block"] ["bare","block"] X Ns) (k9 (sk 187 30 pm3 ["bare","blocks","most","block","others"] ["bare","blocks","most"] X Ns) (k9 (sk 192 32 pm4 ["table","word","columns","entries","row"] ["table","word"] X Ns) (k9 (sk 197 33 pm4 ["table","entries","first","later","taken","passed"] ["table","entries"] X Ns) (k9 (sk 204 34 pm4 ["table","one","other","word"] ["table","one","other"] X Ns) (k9 (sk 211 36 pm5 ["table"] ["table"] X Ns) (k9 (sk 218 37 pm5 ["table"] ["table"] X Ns) (k9 (sk 223 38 pm5 ["numbers"] ["numbers"] X Ns) (k9 (sk 230 39 pm5 ["table"] ["table"] X Ns) (k9 (sk 237 40 pm5 ["table"] ["table"] X Ns) (k9 S30 (k9 S31 (k9 (sk 256 43 pm5 ["table","ground","joined","rest","numbers","rows","columns","ways"] ["table","ground","joined"] X Ns) (k9 (sk 261 44 pm5 ["rows","columns","by_rows","by_columns"] ["rows","columns"] X Ns) (k9 (sk 266 45 pm5 ["cards"] ["cards"] X Ns) (k9 (sk 273 47 pm6 ["table"] ["table"] X Ns) (k9 (sk 280 48 pm6 ["table"] ["table"] X Ns) (k9 (sk 21 1 pm0 ["thing","least","most"] ["thing","least","most"] X Ns) (k9 (sk 294 51 pm7 ["_law_script","_law_k"] ["_law_script","_law_k"] X Ns) (k9 (sk 301 52 pm7 ["_law_cell","_law_many","_law_found","_law_rest","_law_k","_law_number","_law_mixed"] ["_law_cell","_law_many"] X Ns) (k9 (sk 306 53 pm7 ["_law_script","_law_start","_law_xs","_law_most","_law_many","_law_wide","_law_top","_law_words","_law_k","_law_rows"] ["_law_script","_law_start","_law_xs"] X Ns) (k9 (sk 311 54 pm7 ["_law_script","_law_start","_law_xs","_law_rows","_law_k","_law_at","_law_there"] ["_law_script","_law_start"] X Ns) (k9 (sk 316 55 pm7 ["_law_table_here","_law_rows","_law_columns","_law_kept"] ["_law_table_here"] X Ns) (k9 (sk 323 56 pm7 ["_law_cards","_law_some","_law_card"] ["_law_cards"] X Ns) (k9 (sk 328 57 pm7 ["_law_table_here","_law_cell","_law_xs","_law_r","_law_word","_law_columns","_law_rows"] ["_law_table_here","_law_cell"] X Ns) (k9 (sk 333 58 pm7 ["_law_table_here","_law_cell","_law_blocks","_law_told","_law_word","_law_rows","_law_columns","_law_some","_law_around","_law_inside"] ["_law_table_here","_law_cell","_law_blocks","_law_told"] X Ns) (k9 S46 Gj)))))))))))))))))))))))))))))))))))))))))))))));refine⟨_,λ s v=>.of_eq rfl,λ base _ _=>Gn (T:=T) (G:=G) (fu:=100) rfl HSS (λ x hx=>mg_none_of X Ns (dR.mp (zz _) x hx)) HC (i:=46) rfl rfl S46 (λ _=>⟨⟨rfl,rfl,rfl⟩,by decide,λ i d x qual st fa fd _ _ _ F=>Gp (K:=kK w.params) (by kernel_rfl) F⟩) Jd⟩
end k35
open PySem PySem.W PyProof.Rows
set_option maxRecDepth 100000 in
set_option maxHeartbeats 0 in
theorem PySem.Challenge.cw_talkleast_k35_whole_bounds_of_blocks_holds : PySem.Challenge.rw_talkleast_k35_whole_bounds_of_blocks.Holds := by
 refine holds_law (by kernel_rfl) λ said => ?_
 refine holds_open (q := k35.kQ) (loose := k35.kL) (Xt := λ s => xlAt k35.kQ [] s && recOk (RowW.records (OpenRow.toRowW (OpenLaw.row PySem.Challenge.rw_talkleast_k35_whole_bounds_of_blocks))) s) (XP := XL k35.kQ []) (Yf := (kHook k35.kAll k35.kB k35.kE).obs) (Ya := (kHook k35.kAll k35.kB k35.kE).val) (YP := (kHook k35.kAll k35.kB k35.kE).says) (N := 4206) k35.kLeft (kHook k35.kAll k35.kB k35.kE).of (kHook k35.kAll k35.kB k35.kE).keeps (λ s e => xl_of s (C5.mp e).1) XL.keeps (by rfl) (by rfl) (by rfl) (λ s e => recFacts_of (C5.mp e).2) (by rfl) said (by decide +kernel) ⟨rfl, rfl, rfl, rfl, rfl, by decide +kernel⟩ ?hw ?hc
 case hw => w_witness2
 exact L2.walkE (l := PySem.Challenge.rw_talkleast_k35_whole_bounds_of_blocks) (k := 60) (p := "_law_script") rfl rfl ⟨rfl, by decide, by decide⟩ (λ w h Y => (L2.in_app (kIn_of Y) (by kernel_rfl)).1) (λ w h Y => ⟨L2.htb_of (T := k35.kT) (L2.in_app (kIn_of Y) (by kernel_rfl)).1 (L2.in_app (kIn_of Y) (by kernel_rfl)).2 (k35.kN _) (by kernel_rfl), k35.kM _⟩) λ w mg fa h KX G hmg => k35.all_mk KX G hmg
end

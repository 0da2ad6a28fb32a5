import PyProof.Rows.All
import Wide.All
import OpenK.AllK
import PySem.Challenge.RW_talkleast_k63_whole_coins_and_weights
set_option compiler.extract_closed false
set_option genSizeOf false
set_option genInjectivity false
set_option bootstrap.genMatcherCode false
set_option Elab.async false
set_option linter.all false
set_option maxRecDepth 100000
set_option maxHeartbeats 4000000
set_option hygiene false
local macro_rules|`(JX)=>`((by omega))|`(JY)=>`((by decide))|`(Kb)=>`((model X.prog X.w))|`(Kc)=>`((model prog w))
local macro_rules|`(JZ $a)=>`((.val (.int $a)))|`(Ka $a $b $c)=>`(evE G F $a δ=some (.ok $c $b))
set_option hygiene true
section
open PySem PySem.Spec PyProof.Rows
abbrev on:=@List
abbrev JF:=@Option
abbrev JG:=@Value
abbrev JH:=@Shared
abbrev JI:=@Addr
abbrev JJ:=@Heap
abbrev JK:=@Expr
abbrev JL:=@Array
abbrev JM:=@World
abbrev JN:=@Program
abbrev JO:=@Around
abbrev JP:=@Stmt
abbrev JQ:=@PySem.W.Frag
abbrev JR:=@Scope
abbrev JS:=@Arguments
abbrev JT:=@SetTable
abbrev JU:=@NameKind
abbrev JV:=@Operator
abbrev JW:=@String
abbrev f0:=@wpAny_bind
abbrev g6:=@Bool.and_eq_true
abbrev g7:=@List.length_map
abbrev f9:=@wpAny_pure
abbrev k6:=@Heap.get?_push_of_some
abbrev k5:=@List.mem_cons_of_mem
abbrev n6:=@List.getElem?_eq_getElem
abbrev k8:=@List.mem_cons_self
abbrev i5:=@List.mem_cons
abbrev g9:=@beq_iff_eq
abbrev p4:=@Option.bind_eq_some_iff
abbrev r9:=@List.getD_eq_getElem?_getD
abbrev f8:=@if_pos
abbrev i9:=@Nat.le_trans
abbrev i6:=@Nat.le_refl
abbrev p8:=@Heap.get?_push_size
abbrev k7:=@Heap.lt_size
abbrev k9:=@List.mem_map
abbrev p5:=@List.getElem?_map
abbrev g8:=@if_neg
abbrev v9:=@List.getElem?_eq_some_iff
abbrev o4:=@List.mem_range
abbrev p9:=@List.length_cons
abbrev u4:=@List.mem_append_right
abbrev v4:=@Option.map_eq_some_iff
abbrev u5:=@List.getElem?_set_ne
abbrev o5:=@List.map_cons
abbrev t6:=@Nat.lt_of_lt_of_le
abbrev t7:=@List.length_append
abbrev t8:=@List.size_toArray
abbrev t9:=@Bool.not_eq_true'
abbrev u7:=@List.mem_singleton
abbrev x8:=@PySem.mem_of_lookup
abbrev u8:=@List.length_range
abbrev q5:=@Nat.ne_of_lt
abbrev A1:=@beq_eq_false_iff_ne
abbrev z7:=@Bool.false_ne_true
abbrev A4:=@Array.length_toList
abbrev r3:=@List.map_map
abbrev B4:=@List.mem_append_left
abbrev A5:=@decide_eq_true_eq
abbrev B2:=@Int.toNat_natCast
abbrev A2:=@List.mem_filter
abbrev C2:=@Int.natCast_nonneg
abbrev A7:=@decide_eq_false
abbrev A8:=@Option.some.inj
abbrev A9:=@List.map_append
abbrev C3:=@wpAny_newObj_type
abbrev w4:=@Int.le_trans
abbrev B1:=@decide_eq_true
abbrev B5:=@Bool.or_eq_true
abbrev A6:=@List.sum_cons
abbrev C4:=@List.length_set
abbrev C7:=@List.mem_append
abbrev C8:=@List.append_nil
abbrev E2:=@List.lookup_cons
abbrev J1:=@Bool.and_eq_true_iff
abbrev C5:=@wpAny_holding
abbrev K0:=@Array.getElem?_toList
abbrev E6:=@List.all_eq_true
abbrev G1:=@Bool.false_eq_true
abbrev D5:=@Heap.size_push
abbrev L9:=@List.getElem?_set_self
abbrev K1:=@List.mem_of_getElem?
abbrev K2:=@Nat.pow_le_pow_right
abbrev F2:=@wpAny_call_entry
abbrev O0:=@Array.getElem?_eq_getElem
abbrev D6:=@Nat.lt_irrefl
abbrev K3:=@Heap.SameBut.update
abbrev K4:=@List.map_congr_left
abbrev K5:=@List.pairwise_cons
abbrev B3:=@wpAny_mono
abbrev O1:=@wpAny_callSpecial?_slot
abbrev O3:=@Array.getElem?_eq_none
abbrev N4:=@Around.under_plainId
abbrev N5:=@Bool.or_eq_false_iff
abbrev M0:=@Nat.lt_of_le_of_lt
abbrev O4:=@List.contains_iff_mem
abbrev K6:=@Option.bind_some
abbrev W8:=@List.exists_mem_of_length_pos
abbrev Q7:=@Heap.get?_update_other
abbrev E3:=@Int.le_refl
abbrev N6:=@wpAny_setField_rec
abbrev K7:=@Option.map_some
abbrev M1:=@List.filter_cons
abbrev O5:=@List.replicate_succ
abbrev Q8:=@Heap.get?_update_self
abbrev Q9:=@List.getElem?_eq_none
abbrev E7:=@wpAny_field
abbrev X0:=@List.getElem?_append_right
abbrev J2:=@List.any_cons
abbrev M2:=@codeAny_builtin
abbrev F3:=@Nat.zero_le
abbrev X1:=@List.getElem?_append_left
abbrev O6:=@List.flatten_cons
abbrev O7:=@List.append_assoc
abbrev K8:=@plainId_quiet
abbrev X2:=@Option.isSome_iff_exists
abbrev aA:=@Array.getD_eq_getD_getElem?
abbrev R4:=@decide_eq_true_iff
abbrev X3:=@List.getElem?_replicate
abbrev X4:=@List.length_eq_zero_iff
abbrev O8:=@List.not_mem_nil
abbrev K9:=@Nat.le_of_lt
abbrev X5:=@PySem.F.plain_max_loop
abbrev O9:=@List.nodup_cons
abbrev aB:=@List.getElem?_take_of_lt
abbrev M3:=@Int.le_of_eq
abbrev P0:=@wpAny_seqItems
abbrev P1:=@wpAny_tryCatch
abbrev T4:=@Nat.lt_succ_of_lt
abbrev T5:=@beq_self_eq_true
abbrev T6:=@Nat.lt_succ_self
abbrev T7:=@List.getElem_mem
abbrev T8:=@List.any_eq_true
abbrev aC:=@List.length_replicate
abbrev X6:=@Nat.one_le_two_pow
abbrev aD:=@Heap.get?_none_of_le
abbrev P2:=@Nat.lt_trans
abbrev T9:=@wpAny_updateSeq
abbrev X7:=@wpAny_truthy_bool
abbrev bQ:=@List.filter_cons_of_pos
abbrev aE:=@List.getElem?_range
abbrev X8:=@List.length_take
abbrev U0:=@wpAny_setField
abbrev X9:=@F.plain_min_loop
abbrev P3:=@wpAny_letGo
abbrev R5:=@Nat.ne_of_gt
abbrev eg:=@PyProof.Rows.callWith_type1
abbrev R6:=@codeAny_mono
abbrev aF:=@wpAny_Call_Name_kw
abbrev aG:=@Obj.data_mapFields
abbrev aH:=@List.getElem?_drop
abbrev ei:=@List.idxOf_lt_length_of_mem
abbrev Y0:=@wpAny_passesOwn
abbrev bR:=@wpAny_loadPart'
abbrev Y1:=@List.length_nil
abbrev Y2:=@PySem.W.kia_one
abbrev eA:=@F.slot_tuple_iterator_next
abbrev aI:=@wpAny_setState_of
abbrev Y3:=@Nat.mul_le_mul
abbrev U1:=@Nat.lt_or_ge
abbrev aJ:=@wpAny_askSetting
abbrev aK:=@wpAny_isInstance
abbrev bS:=@wpAny_setEntries_of
abbrev bT:=@Array.toList_append
abbrev bU:=@List.map_eq_nil_iff
abbrev eB:=@List.filter_cons_of_neg
abbrev Y4:=@wpAny_attempt
abbrev L0:=@Iff.rfl
abbrev Y5:=@Int.ofNat.inj
abbrev bV:=@wpAny_pyIter_tuple
abbrev bX:=@List.mem_filterMap
abbrev aL:=@List.forIn_cons
abbrev aM:=@List.range_succ
abbrev aN:=@List.find?_cons
abbrev hU:=@wpAny_typeNameOfWhole_itemiter
abbrev bY:=@Nat.div_mul_cancel
abbrev eC:=@PySem.W.cellsFrom_some
abbrev eD:=@Calls.callWith_builtin
abbrev U2:=@Nat.add_mul
abbrev eE:=@List.length_pos_of_mem
abbrev bZ:=@wpAny_pyIter_list
abbrev eF:=@List.mem_iff_getElem?
abbrev eG:=@F.slot_enumerate_next
abbrev eH:=@List.length_filter_le
abbrev U3:=@wpAny_rule
abbrev ce:=@List.getElem_map
abbrev P4:=@or_false
abbrev cf:=@Option.getD_some
abbrev Y6:=@wpAny_of_eq
abbrev Y7:=@Nat.one_mul
abbrev eI:=@List.filterMap_cons
abbrev cg:=@pushCells_keeps
abbrev hV:=@List.drop_eq_getElem_cons
abbrev hY:=@List.mem_of_find?_eq_some
abbrev hZ:=@List.getElem?_zip_eq_some
abbrev ib:=@Nat.ge_two_pow_of_testBit
abbrev cj:=@Int.le_antisymm
abbrev cn:=@Nat.div_le_self
abbrev eJ:=@Nat.eq_zero_or_pos
abbrev aO:=@Nat.zero_add
abbrev eK:=@Int.lt_of_le_of_lt
abbrev aP:=@Int.mul_comm
abbrev ic:=@Nat.gcd_pos_of_pos_right
abbrev cq:=@wpAny_fieldsOf
abbrev ie:=@F.plain_set_update_loop
abbrev ig:=@decide_eq_false_iff_not
abbrev eL:=@of_decide_eq_true
abbrev aQ:=@Nat.le_succ
abbrev ii:=@PySem.F.entry_max_loop
abbrev ij:=@wpAny_isOneOf_itemiter
abbrev ik:=@Nat.testBit_lt_two_pow
abbrev cr:=@wpAny_standAt
abbrev cu:=@Bool.not_true
abbrev cw:=@Bool.true_and
abbrev cA:=@Int.mul_assoc
abbrev eM:=@wpAny_eqBool_int
abbrev eN:=@Nat.le_add_right
abbrev eO:=@Nat.zero_testBit
abbrev eP:=@List.mem_flatMap
abbrev im:=@List.length_singleton
abbrev io:=@Obj.isFreed_of_fields
abbrev mW:=@PyProof.Rows.slot_tuple_getitem
abbrev eQ:=@List.of_mem_zip
abbrev ip:=@Around.frames_deeper
abbrev eR:=@List.foldl_cons
abbrev eS:=@Bool.eq_iff_iff
abbrev eT:=@Nat.not_lt_zero
abbrev eU:=@Nat.two_pow_pos
abbrev eV:=@List.sum_append
abbrev eW:=@Nat.testBit_and
abbrev mX:=@F.slot_dict_itemiterator_next
abbrev mY:=@Int.mul_le_mul_of_nonneg_left
abbrev iq:=@wpAny_loadName_cell
abbrev ir:=@List.length_pos_iff
abbrev iu:=@List.flatMap_append
abbrev eX:=@Bool.false_and
abbrev mZ:=@F.args_tuple_iterator_next_1
abbrev eY:=@isSubtype_stop
abbrev eZ:=@List.nodup_nil
abbrev fb:=@Nat.add_le_add
abbrev cC:=@sizeLine_eq
abbrev ng:=@F.entry_tuple_iterator_next
abbrev iw:=@tupleKind_room_in1
abbrev iy:=@List.getElem_idxOf
abbrev iz:=@Int.emod_lt_of_pos
abbrev fc:=@Paired.length
abbrev nh:=@Calls.Name_function_global
abbrev ni:=@Int.fdiv_eq_ediv_of_nonneg
abbrev fe:=@Bool.or_false
abbrev ff:=@nums_intItems
abbrev iA:=@List.take_sublist
abbrev iB:=@Obj.cls_mapFields
abbrev iC:=@fits_of_scanBound
abbrev iE:=@wpAny_pyIter_slot
abbrev iF:=@List.ext_getElem?
abbrev iG:=@Nat.gcd_dvd_right
abbrev cD:=@wpAny_Name
abbrev nj:=@List.pairwise_iff_getElem
abbrev cE:=@Nat.mod_lt
abbrev cF:=@Walks.list
abbrev cG:=@bne_iff_ne
abbrev nk:=@Option.isNone_iff_eq_none
abbrev nr:=@PySem.F.args_tuple_add_2
abbrev iH:=@List.length_drop
abbrev fg:=@wpAny_typeOf
abbrev fh:=@List.map_nil
abbrev iI:=@Nat.le_of_not_lt
abbrev nu:=@wpAny_comprehension_free
abbrev nv:=@PySem.F.slot_tuple_index
abbrev iJ:=@List.isEmpty_nil
abbrev aR:=@numAt_eq
abbrev iK:=@F.entry_min_loop
abbrev iL:=@decide_eq_decide
abbrev fi:=@Int.mul_zero
abbrev fj:=@Int.add_zero
abbrev iM:=@Nat.gcd_dvd_left
abbrev nw:=@PySem.F.entry_tuple_add
abbrev ny:=@wpAny_Call_method0_late
abbrev nz:=@F.entry_set_update_loop
abbrev nA:=@List.getElem?_cons_succ
abbrev nB:=@F.args_enumerate_next_1
abbrev nC:=@PySem.F.plainAttrs_list
abbrev nE:=@PySem.F.slot_dict_items
abbrev iN:=@wpAny_execs_nil
abbrev iO:=@List.nil_append
abbrev iP:=@wpAny_specialOf
abbrev iQ:=@wpAny_ite_split
abbrev iR:=@List.find?_some
abbrev iS:=@Nat.min_eq_left
abbrev iT:=@Int.emod_nonneg
abbrev nF:=@wpAny_pyNext_list_item
abbrev nG:=@PySem.F.slot_tuple_add
abbrev nH:=@subscriptTail_builtinR
abbrev nK:=@wpAny_Call_method_late
abbrev nL:=@List.range_succ_eq_map
abbrev nM:=@List.pairwise_lt_range
abbrev fk:=@intItems_at
abbrev fq:=@Nat.log2_lt
abbrev nN:=@F.entry_enumerate_next
abbrev nO:=@F.slot_dict_items_iter
abbrev nP:=@wpAny_storeName_local
abbrev nQ:=@wpAny_pyNext_list_end
abbrev nR:=@codeAny_call_function
abbrev nT:=@builtinLookup_eq_fast
abbrev iU:=@isSubtype_type
abbrev iV:=@Bool.not_false
abbrev fv:=@wpAny_call
abbrev iW:=@wpAny_handled
abbrev iX:=@Bool.false_or
abbrev iY:=@Int.add_assoc
abbrev iZ:=@name_of_addr
abbrev ja:=@seqIndex_neg
abbrev jb:=@Nat.add_comm
abbrev jc:=@cellsFrom_ok
abbrev jd:=@Bool.or_true
abbrev je:=@Bool.true_or
abbrev jf:=@wpAny_lt_int
abbrev jg:=@List.any_map
abbrev jh:=@Int.zero_add
abbrev ji:=@Nat.pow_succ
abbrev jk:=@Int.ofNat_le
end
noncomputable section
noncomputable section
namespace L2
open PySem
noncomputable def Y8(s:JP):JS:=match s with
 | .FunctionDef _ a _ _ _ _ _ _ _ _=>a
 | _=>{posonlyargs:=[],args:=[],vararg:=none,kwonlyargs:=[],kw_defaults:=[],kwarg:=none,defaults:=[]}
noncomputable def M4(s:JP):on JP:=match s with
 | .FunctionDef _ _ b _ _ _ _ _ _ _=>b
 | _=>[]
noncomputable def w6(s:JP):JR:=match s with
 | .FunctionDef _ _ _ _ _ _ sc _ _ _=>sc
 | _=>{kind:=.function,names:=[],isGenerator:=false,isCoroutine:=false}
end L2
namespace k63
open PySem PySem.W L2 PySem.Spec PyProof.Rows
noncomputable def top(i:Nat):JP:=PySem.Challenge.pw_talkleast_k63_whole_coins_and_weights.main.body.getD i (.Pass ⟨0,0,0,0⟩)
def fo(n:Str)(i:Nat)(dV pm:JG)(cd:JI):Obj:=⟨.type "function",none,.func (fnOf n n (Y8 (top i)) (M4 (top i)) (w6 (top i)) dV .none .none pm none (.ref cd) .none),#[]⟩
noncomputable def en(P:Params)(s:Str)(t:Nat)(v:JG):DictEntry:=⟨PyData.keyHash P s,.str s t,v⟩
structure Rw where
 n:Str
 c:Nat
 t:Nat
 l:Int
 a:Int
 k:Bool
 q:Nat
 i:Nat
 m:Nat
noncomputable def zD:on Rw:=⟨"is_int",57,241,9,3,true,247,5,0⟩::⟨"in_lowest_terms",62,250,11,1,false,253,6,0⟩::⟨"common_divisor",69,256,16,2,true,264,7,0⟩::⟨"flipped",74,271,26,1,false,274,10,1⟩::⟨"cut",81,277,28,3,true,283,11,1⟩::⟨"check_cards",88,286,32,2,true,291,12,1⟩::⟨"check_card",95,294,35,2,true,299,13,1⟩::⟨"cards_in",100,302,38,1,false,305,14,1⟩::⟨"crossing",105,308,40,3,false,311,15,1⟩::⟨"row_kinds",110,314,42,1,false,317,16,1⟩::⟨"column_kinds",117,320,44,1,true,324,17,1⟩::⟨"trimmed",124,327,46,1,true,331,18,1⟩::⟨"is_small",131,334,48,1,true,339,19,1⟩::⟨"check_small",138,342,51,1,true,346,20,1⟩::⟨"words_in",145,349,54,1,true,355,21,1⟩::⟨"bits_paper",152,360,60,1,true,364,23,2⟩::⟨"paper",157,367,62,1,false,370,24,2⟩::⟨"bits_numbers",164,373,64,1,true,377,25,2⟩::⟨"joined_bits",171,380,66,2,true,385,26,2⟩::⟨"least_numbers",176,388,68,3,false,391,27,2⟩::⟨"splits",181,394,80,2,false,397,28,2⟩::⟨"halves",186,400,84,1,false,403,29,2⟩::⟨"way",193,408,87,3,true,418,31,3⟩::⟨"reached",200,421,96,3,true,427,32,3⟩::⟨"right_weight",207,434,100,3,true,445,35,4⟩::⟨"best_right",214,448,107,3,true,459,36,4⟩::⟨"best_weights",219,462,119,3,false,465,37,4⟩::⟨"split_weight",226,468,131,3,true,474,38,4⟩::⟨"best_word",233,477,133,4,true,488,39,4⟩::⟨"word_weight",238,491,135,5,false,494,40,4⟩::⟨"right_share",245,499,141,4,true,506,42,5⟩::⟨"worst_share",250,509,145,2,false,512,43,5⟩::⟨"right_sum",255,515,151,4,false,518,44,5⟩::⟨"share_of",260,521,153,2,false,524,45,5⟩::⟨"least_bits",267,529,156,1,true,533,47,6⟩::⟨"_law_cell_at",281,545,161,2,true,550,50,7⟩::⟨"_law_stream",288,553,165,2,true,563,51,7⟩::⟨"_law_full_table",293,566,179,3,false,569,52,7⟩::⟨"_law_words",300,572,188,1,true,578,53,7⟩::⟨"_law_drawn_plan",307,581,193,3,true,590,54,7⟩::⟨"_law_few_words",314,593,200,2,true,598,55,7⟩::⟨"_law_plan",321,601,204,3,true,609,56,7⟩::⟨"_law_weights",326,612,210,2,false,615,57,7⟩::⟨"_law_best",331,618,214,3,false,621,58,7⟩::⟨"_law_mean",336,624,223,4,false,627,59,7⟩::⟨"law",341,630,230,1,false,633,60,7⟩::[]
noncomputable def zP(j:Nat):JG:=[.str "talkleast.checks" 239,.str "talkleast.tables" 267,.str "talkleast.parts" 358,.str "talkleast.runs" 406,.str "talkleast.weights" 430,.str "talkleast.coins" 497,.str "talkleast.least" 527,.str "law_talkleast_k63_whole_coins_and_weights" 536].getD j .none
def zO(r:Rw):Frag:=[(r.c,⟨.type "code",none,.fields #[.str r.n r.t,.str r.n (r.t+1),.str "/claim/cut.py" (r.t+2),.int r.l 0,.int r.a 0,.int 0 0,.int 0 0,.int 3 0,.ref (r.c - if r.k then 5 else 3),.bool true,.int 181 0,.ref (r.c - if r.k then 4 else 2),.none,if r.k then .ref (r.c - 3)else .none,if r.k then .ref (r.c - 2)else .none,.ref (r.c - 1),.int r.q 0,.int r.l 0,.str "/claim/cut.py" (r.q+1)],#[]⟩),(r.c+1,fo r.n r.i .none (zP r.m) r.c)]
def kK(P:Params):Frag:=let ge (r:Rw):=en P r.n (r.q+2) (.ref (r.c+1));[(3,⟨.type "dict",none,.dict ([en P "__name__" 165 (.str "law_talkleast_k63_whole_coins_and_weights" 536),en P "__doc__" 166 .none,en P "__package__" 167 .none,en P "__loader__" 168 (.builtin "__main__.__loader__#opaque"),en P "__spec__" 169 .none,en P "__annotations__" 170 (.ref 6),en P "__builtins__" 171 (.ref 4),en P "__file__" 173 (.str "/claim/cut.py" 172),en P "__cached__" 174 .none,en P "TalkError" 206 (.ref 24),en P "NoCard" 222 (.ref 37),en P "TooGreat" 238 (.ref 49)]++((zD.drop 0).take 3).map ge++[en P "SMALL_LINES" 270 (.int 5 269)]++((zD.drop 3).take 21).map ge++[en P "MOST_WEIGHED" 433 (.int 4 432)]++((zD.drop 24).take 11).map ge++[en P "_law_int" 544 (.ref 275)]++((zD.drop 35).take 11).map ge).toArray 61,#[]⟩)]++zD.flatMap zO
def zA:on JI:=[3]++zD.flatMap λ r=>[r.c,r.c+1]
noncomputable def kT:Frag:=zD.map λ r=>(r.c - if r.k then 4 else 2,⟨.none,none,.fields #[],#[]⟩)
def kAll(P:Params):Frag:=kT++kK P
def zB:on JI:=kT.map (·.1)++zA
def kE:∀P,zB=(kAll P).map (·.1):=λ _=>by kernel_rfl
noncomputable def kQ:JN:=view PySem.Challenge.pw_talkleast_k63_whole_coins_and_weights [1,2,3,5,6,7,9,10,11,12,13,14,15,16,17,18,19,20,21,23,24,25,26,27,28,29,31,32,34,35,36,37,38,39,40,42,43,44,45,47,49,50,51,52,53,54,55,56,57,58,59,60]
def kL:on Str:=[]
set_option maxHeartbeats 0 in
def kLeft:LeftO PySem.Challenge.pw_talkleast_k63_whole_coins_and_weights kQ kL (λ s=>xlAt kQ [] s&&recOk (RowW.records (OpenRow.toRowW (OpenLaw.row PySem.Challenge.rw_talkleast_k63_whole_coins_and_weights))) s) (kHook kAll zB kE).obs (kHook kAll zB kE).val 4294:=by
 intro w
 kernel_rfl
end k63
end
noncomputable section
namespace L2
open PySem PySem.Spec PyProof.Rows
abbrev Key:=Sum Int Str
noncomputable def aS:Key->JG->Bool
 | .inl k,v=>Value.isInt k v
 | .inr x,v=>Value.isStrOf x v
noncomputable def keyH(w:JM):Key->Int
 | .inl k=>hashInt k
 | .inr x=>hashStr w x
def R7:∀{k:Key} {v:JG},aS k v=true->(∃i t,k=Sum.inl i/\v=Value.int i t)\/(∃x t,k=Sum.inr x/\v=Value.str x t)
 | .inl i,v,h=>by obtain⟨t,e⟩:=Value.isInt_shape h;exact .inl ⟨i,t,rfl,e⟩
 | .inr x,v,h=>by obtain⟨t,e⟩:=Value.isStrOf_shape h;exact .inr ⟨x,t,rfl,e⟩
def xh(i:Int)(t:Tok):aS (.inl i) (.int i t)=true:=by simp[aS,Value.isInt]
def xi(x:Str)(t:Tok):aS (.inr x) (.str x t)=true:=by simp[aS,Value.isStrOf]
def xj(a b:Int):decide ((Sum.inl a:Key)=Sum.inl b)=(a==b):=by
 by_cases e:a=b
 ·subst e;simp
 ·have h:¬(Sum.inl a:Key)=Sum.inl b:=λ q=>e (Sum.inl.inj q);rw[A7 h];exact(A1.mpr e).symm
def xk(a b:Str):decide ((Sum.inr a:Key)=Sum.inr b)=decide (a=b):=by
 by_cases e:a=b
 ·subst e;simp
 ·have h:¬(Sum.inr a:Key)=Sum.inr b:=λ q=>e (Sum.inr.inj q);rw[A7 h,A7 e]
def xl(a:Int)(b:Str):decide ((Sum.inl a:Key)=Sum.inr b)=false:=A7 (λ q=>nomatch q)
def xm(a:Str)(b:Int):decide ((Sum.inr a:Key)=Sum.inl b)=false:=A7 (λ q=>nomatch q)
def F4(prog:JN)(w:JM):PySem.KeyKind prog w Key where
 is:=aS
 hash:=keyH w
 inj:=λ v a b ha hb=>by
  rcases R7 ha with⟨i,t,rfl,rfl⟩ | ⟨x,t,rfl,rfl⟩
  ·rcases R7 hb with⟨j,u,rfl,e⟩ | ⟨y,u,rfl,e⟩
   ·injection e with e1 _;rw[e1]
   ·exact nomatch e
  ·rcases R7 hb with⟨j,u,rfl,e⟩ | ⟨y,u,rfl,e⟩
   ·exact nomatch e
   ·injection e with e1 _;rw[e1]
 byValue:=λ k v h=>by rcases R7 h with⟨i,t,rfl,rfl⟩ | ⟨x,t,rfl,rfl⟩<;>rfl
 pyHash:=λ hv h=>by
  rcases R7 hv with⟨i,t,rfl,rfl⟩ | ⟨x,t,rfl,rfl⟩
  ·exact wpAny_pyHash_int h
  ·exact wpAny_pyHash_str h
 eqBool:=λ hu hv h=>by
  rcases R7 hu with⟨i,t,rfl,rfl⟩ | ⟨x,t,rfl,rfl⟩
  ·rcases R7 hv with⟨j,u,rfl,rfl⟩ | ⟨y,u,rfl,rfl⟩
   ·rw[xj]at h;exact eM h
   ·rw[xl]at h;exact SeqAt.EqAt.int_str i t y u _ _ _ _ h
  ·rcases R7 hv with⟨j,u,rfl,rfl⟩ | ⟨y,u,rfl,rfl⟩
   ·rw[xm]at h;exact SeqAt.EqAt.str_int x t j u _ _ _ _ h
   ·rw[xk]at h;exact wpAny_eqBool_str h
 «strs»:=λ k x t v h=>by
  rcases R7 h with⟨i,u,rfl,e⟩ | ⟨y,u,rfl,e⟩
  ·exact nomatch e
  ·injection e with e1 _
   subst e1;cases v<;>rfl
def xn(prog:JN)(w:JM)(i:Int)(t:Tok):(F4 prog w).is (.inl i) (.int i t)=true:=xh i t
def xo(prog:JN)(w:JM)(x:Str)(t:Tok):(F4 prog w).is (.inr x) (.str x t)=true:=xi x t
end L2
namespace L2
open PySem PySem.Spec PyProof.Rows
inductive V where
 | non | bl (b:Bool) | int (i:Int) | str (x:Str) | byt (b:Array UInt8) | flt (b:UInt64) | ref (a:Addr) | ty (n:String)
 deriving DecidableEq
noncomputable def RelV:V->JG->Prop
 | .non,u=>u=Value.none
 | .bl b,u=>u=Value.bool b
 | .int i,u=>∃t,u=Value.int i t
 | .str x,u=>∃t,u=Value.str x t
 | .byt b,u=>∃t,u=Value.bytes b t
 | .flt b,u=>∃t,u=Value.float b t
 | .ref a,u=>u=Value.ref a
 | .ty n,u=>u=Value.type n
abbrev Vals:on V->on JG->Prop:=Paired RelV
theorem Vals.length(r:Vals xs a):xs.length=a.length:=fc r
theorem Vals.get:∀{xs:on V} {us:on JG} {i:Nat} {x:V},Vals xs us->xs[i]? = some x->∃u,us[i]? = some u/\RelV x u
 | _,_,_,_,.nil,e=>by simp at e
 | _,_,0,_,.cons r _,e=>by simp at e;subst e;exact⟨_,rfl,r⟩
 | _,_,i+1,x,.cons _ t,e=>by obtain⟨u,b,a⟩:=Vals.get t (by simpa using e);exact⟨u,by simpa using b,a⟩
theorem Vals.set(r:RelV x u):∀{xs:on V} {us:on JG} (i:Nat),Vals xs us->Vals (xs.set i x) (us.set i u)
 | _,_,_,.nil=>.nil
 | _,_,0,.cons _ t=>.cons r t
 | _,_,i+1,.cons q t=>.cons q (Vals.set r i t)
theorem Vals.append:∀{xs a:on V} {us ws:on JG},Vals xs us->Vals a ws->Vals (xs++a) (us++ws)
 | _,_,_,_,.nil,s=>s
 | _,_,_,_,.cons r t,s=>.cons r (Vals.append t s)
theorem Vals.take:∀{xs:on V} {us:on JG} (n:Nat),Vals xs us->Vals (xs.take n) (us.take n)
 | _,_,0,_=>.nil
 | _,_,_+1,.nil=>.nil
 | _,_,n+1,.cons r t=>.cons r (Vals.take n t)
theorem Vals.drop:∀{xs:on V} {us:on JG} (n:Nat),Vals xs us->Vals (xs.drop n) (us.drop n)
 | _,_,0,r=>r
 | _,_,_+1,.nil=>.nil
 | _,_,n+1,.cons _ t=>Vals.drop n t
def RelO:JF V->JF JG->Prop
 | some v,some u=>RelV v u
 | none,none=>True
 | _,_=>False
def KV{κ:Type}:on (κ×V)->on (κ×JG)->Prop:=Paired λ (p:κ×V) (q:κ×JG)=>p.1=q.1/\RelV p.2 q.2
def kV:Key->V
 | .inl i=>.int i
 | .inr x=>.str x
inductive HO where
 | lst (xs:List V)
 | tup (xs:List V)
 | dK (kvs:List (Key×V)) | dT (kvs:List (List Key×V))
 | set (S:Int->Bool) (n:Nat)
 | ins (C dx:Addr) (fs:List (Str×V))
 | own (x:Addr)
 | xd (fs:List (Str×V))
 | met (f x:Addr)
 | rng (lo hi:Int)
 | frz (o:Obj) (u:HO)
 | tbl (q:Str)
 | ext (φ:Heap->Prop)
abbrev Hp:=JI->JF HO
noncomputable def upd(H:Hp)(a:JI)(o:HO):Hp:=λ b=>if b=a then some o else H b
def x3:upd H a o a=some o:=by unfold upd;rw[f8 rfl]
def m7(h:b≠a):upd H a o b=H b:=by unfold upd;rw[g8 h]
def xp{H:Hp}(h:H a=some o)(h':H b=some u)(d:o≠u):a≠b:=by
 intro e;subst e;rw[h]at h';exact d (A8 h')
def z8{H:Hp}(h:H a=some o)(h':H b=none):a≠b:=by
 intro e;subst e;rw[h]at h';cases h'
def P5(h:JJ)(a:JI)(items:JL JG):Prop:=∃o,h.get? a=some o/\(o.cls=.type "tuple" /\ o.dict=none)/\∃n,o.data=.seq items n
def P5.tup(x:P5 h a items):IsTup h a items:=let ⟨o,ho,hc,r⟩:=x;⟨o,ho,hc.1,r⟩
def P5.lt(x:P5 h a items):a<h.objs.size:=let ⟨_,ho,_⟩:=x;k7 ho
def P5.new(h:JJ)(items:JL JG):P5 (h.push {cls:=.type "tuple",data:=.seq items}) h.objs.size items:=⟨_,p8 _ rfl,⟨rfl,rfl⟩,_,rfl⟩
section
variable (P:JN) (w:JM)
noncomputable def L3(q:Str):Bool:=q == "plan_by.<locals>.plan_of" || q == "best_right.<locals>.plan_of"
def u9(H:Hp)(h:JJ)(a:JI):HO->Prop
 | .lst xs=>xs.length<=sizeLine/\∃(its:on JG) (n:Nat),Vals xs its/\h.get? a=some {cls:=.type "list",data:=.seq its.toArray n}
 | .tup xs=>xs.length<=sizeLine/\∃its:on JG,Vals xs its/\P5 h a its.toArray
 | .dK kvs=>kvs.length<=sizeLine/\(a==sysModules)=false/\∃vs,KV kvs vs/\h.DictOf (F4 P w) a vs
 | .dT kvs=>kvs.length<=sizeLine/\(a==sysModules)=false/\∃xs:on (on Key×JI×JG),
   Paired (λ (p:on Key×V) (q:on Key×JI×JG)=>p.1=q.1/\H q.2.1=some (.tup (p.1.map kV))/\RelV p.2 q.2.2) kvs xs /\
   ∃o es ep,h.get? a=some o/\o.ExactDict/\o.data=.dict es ep/\es.toList=xs.map (entryOfKey (tupleKind (F4 P w)))/\(xs.map (·.1)).Nodup
 | .set S n=>h.SetOf (intKind P w) a S n
 | .ins C dx fs=>H dx=some (.own a)/\fs.length<=1000/\dx≠a/\h.get? a=some (PySem.W.instObj C dx) /\
   ∃mA,h.Ns1 dx mA/\(∀f,RelO (fs.lookup f) (mA f))/\PySem.Within mA (fs.map (·.1))
 | .own _=>∃o,h.get? a=some o
 | .xd fs=>∃mA,h.Ns1 a mA/\∀f,RelO (fs.lookup f) (mA f)
 | .rng lo hi=>∃t u v,h.get? a=some {cls:=.type "range",data:=.fields #[.int lo t,.int hi u,.int 1 v]}
 | .frz o u=>h.get? a=some o/\u9 H h a u
 | .tbl q=>∃ps:JL JG,h.get? a=some {cls:=.none,data:=.fields ps} /\ TriplesOk ps.toList/\∀pos cv,codeAmong pos ps.toList=some cv->∃c oc u vs t,cv=.ref c/\H c=some (.frz oc u)/\oc.data=.fields vs/\vs[1]? = some (.str q t)/\(L3 q=true->oc.cls=.type "code" /\ ∃(T:JI) (file:Str) (tf:Tok) (flags:Int) (tg:Tok) (inF:Bool) (text:Int) (tt:Tok),vs[11]? = some (.ref T)/\vs.getD 11 .none=.ref T/\vs.getD 18 .none=.str file tf/\vs.getD 7 .none=.int flags tg/\vs.getD 9 .none=.bool inF/\vs.getD 10 .none=.int text tt/\c≠T/\H T=some (.tbl (q ++ ".<locals>." ++ "<lambda>")))
 | .met f x=>h.get? a=some (PySem.W.methodObj (.ref f) (.ref x))
 | .ext φ=>φ h/\(∃o,h.get? a=some o)/\∀h1 h2:JJ,φ h1->(∀o,h1.get? a=some o->h2.get? a=some o)->φ h2
def HOk(H:Hp)(h:JJ):Prop:=∀a o,H a=some o->u9 P w H h a o
end
theorem u9.lt(x:u9 P w H h a o):a<h.objs.size:=by
 cases o with
 | lst c=>obtain⟨_,_,_,_,e⟩:=x;exact k7 e
 | tup c=>obtain⟨_,_,_,p⟩:=x;exact p.lt
 | dK b=>obtain⟨_,_,_,_,o,_,_,e,_⟩:=x;exact k7 e
 | dT b=>obtain⟨_,_,_,_,o,_,_,e,_⟩:=x;exact k7 e
 | set S n=>obtain⟨o,_,_,_,e,_⟩:=x;exact k7 e
 | ins C dx fs=>obtain⟨_,_,_,e,_⟩:=x;exact k7 e
 | own y=>obtain⟨_,e⟩:=x;exact k7 e
 | xd fs=>obtain⟨_,⟨_,_,_,e,_⟩,_⟩:=x;exact k7 e
 | rng lo hi=>obtain⟨_,_,_,e⟩:=x;exact k7 e
 | frz ob u=>obtain⟨e,_⟩:=x;exact k7 e
 | tbl q=>obtain⟨_,e,_⟩:=x;exact k7 e
 | met f y=>exact k7 (x)
 | ext φ=>obtain⟨_,⟨_,e⟩,_⟩:=x;exact k7 e
theorem Paired.mapP:∀{c:on e} {l₂:on d},Paired F c l₂->(∀a b,F a b->G a b)->Paired G c l₂
 | _,_,.nil,_=>.nil
 | _,_,.cons r t,f=>.cons (f _ _ r) (Paired.mapP t f)
def u9.stay(x:u9 P w H h a o)(k:∀b u,(b=a\/H b=some (.own a))->h.get? b=some u->h'.get? b=some u)
  (ho:∀b,H b=some (.own a)->B b=some (.own a)) (ht:∀b xs,H b=some (.tup xs)->B b=some (.tup xs)) (hy:∀b q,H b=some (.tbl q)->B b=some (.tbl q)) (hz:∀b o u vs,o.data=.fields vs->H b=some (.frz o u)->B b=some (.frz o u)):u9 P w B h' a o:=by
 induction o with
 | lst xs=>obtain⟨z,l,n,r,e⟩:=x;exact⟨z,l,n,r,k _ _ (.inl rfl) e⟩
 | tup xs=>obtain⟨z,l,r,g,e,c⟩:=x;exact⟨z,l,r,g,k _ _ (.inl rfl) e,c⟩
 | dK J=>obtain⟨z,y,vs,r,g,i,j,e,c⟩:=x;exact⟨z,y,vs,r,g,i,j,k _ _ (.inl rfl) e,c⟩
 | dT J=>
  obtain⟨z,y,xs,r,g,i,j,e,c⟩:=x;exact⟨z,y,xs,Paired.mapP r λ p q z=>⟨z.1,ht _ _ z.2.1,z.2.2⟩,g,i,j,k _ _ (.inl rfl) e,c⟩
 | set S n=>obtain⟨g,i,j,t,e,c⟩:=x;exact⟨g,i,j,t,k _ _ (.inl rfl) e,c⟩
 | ins C dx fs=>
  obtain⟨d,z,ne,e,I,⟨F,i,j,L,c⟩,r⟩:=x;exact⟨ho _ d,z,ne,k _ _ (.inl rfl) e,I,⟨F,i,j,k _ _ (.inr d) L,c⟩,r⟩
 | own y=>obtain⟨g,e⟩:=x;exact⟨g,k _ _ (.inl rfl) e⟩
 | xd fs=>obtain⟨I,⟨F,i,j,e,c⟩,r⟩:=x;exact⟨I,⟨F,i,j,k _ _ (.inl rfl) e,c⟩,r⟩
 | rng lo hi=>obtain⟨t,u,v,e⟩:=x;exact⟨t,u,v,k _ _ (.inl rfl) e⟩
 | frz g u ih=>obtain⟨e,q⟩:=x;exact⟨k _ _ (.inl rfl) e,ih q⟩
 | tbl q=>
  obtain⟨ps,e,t,f⟩:=x;refine⟨ps,k a _ (.inl rfl) e,t,λ E cv z=>?_⟩;obtain⟨c,oc,u,vs,t',e1,L,N,e4,e5⟩:=f E cv z;refine⟨c,oc,u,vs,t',e1,hz _ _ _ _ N L,N,e4,λ y=>?_⟩;obtain⟨y0,T,A,tf,m,tg,K,s,tt,Z,Y,X,W,U,R,Q,O⟩:=e5 y;exact⟨y0,T,A,tf,m,tg,K,s,tt,Z,Y,X,W,U,R,Q,hy _ _ O⟩
 | met f y=>
  have e:=x;show h'.get? a=some _;exact k a _ (.inl rfl) e
 | ext φ=>obtain⟨p,⟨o,e⟩,M⟩:=x;exact⟨M _ _ p λ o q=>k _ _ (.inl rfl) q,⟨o,k _ _ (.inl rfl) e⟩,M⟩
theorem HOk.lt(x:HOk P w H h)(e:H a=some o):a<h.objs.size:=(x a o e).lt
def HOk.fresh(x:HOk P w H h)(e:h.objs.size<=a):H a=none:=by
 cases q:H a with
 | none=>rfl
 | some u=>exact absurd (t6 (x.lt q) e) (D6 _)
def HOk.kept(x:HOk P w H h)(k:∀b u,h.get? b=some u->h'.get? b=some u):HOk P w H h':=λ a o e=>
 (x a o e).stay (λ b u _ q=>k b u q) (λ _ q=>q) (λ _ _ q=>q) (λ _ _ q=>q) λ _ _ _ _ _ q=>q
def HOk.laid(x:HOk P w H h)(k:∀b u,h.get? b=some u->h'.get? b=some u)(i:h.objs.size<=a)(new:u9 P w (upd H a o) h' a o):HOk P w (upd H a o) h':=λ b u e=>by
 have d:=x.fresh i;by_cases f:b=a
 ·subst f;rw[x3]at e;cases e;exact new
 ·rw[m7 f]at e;exact(x b u e).stay (λ c v _ q=>k c v q) (λ c q=>by rw[m7 (z8 q d)];exact q) (λ c g q=>by rw[m7 (z8 q d)];exact q) (λ c g q=>by rw[m7 (z8 q d)];exact q) λ c _ _ _ _ q=>by rw[m7 (z8 q d)];exact q
def Rd(H:Hp)(a:JI)(u:HO):Prop:=H a=some u\/∃o,H a=some (.frz o u)
def Rd.ok(r:Rd H a u)(x:HOk P w H h):u9 P w H h a u:=by
 rcases r with r | ⟨o,r⟩
 ·exact x a u r
 ·obtain⟨_,q⟩:=x a _ r;exact q
noncomputable def Mut:JF HO->Prop
 | some (.lst _)=>True
 | some (.dK _)=>True
 | some (.dT _)=>True
 | some (.set _ _)=>True
 | some (.ins _ _ _)=>True
 | some (.ext _)=>True
 | _=>False
def HOk.write(ok:HOk P w H h)(f:Mut (H x))(s:e=x\/H e=some (.own x))(k:∀b u,b≠e->h.get? b=some u->h'.get? b=some u)(n:∃u,h'.get? e=some u)
  (new:u9 P w (upd H x m) h' x m):HOk P w (upd H x m) h':=λ b u q=>by
 have d:∀c y,H c=some (.own y)->c≠x:=λ c y r z=>by subst z;rw[r]at f;exact f
 have i:∀c g,H c=some (.tup g)->c≠x:=λ c g r z=>by subst z;rw[r]at f;exact f
 by_cases l:b=x
 ·subst l;rw[x3]at q;cases q;exact new
 ·rw[m7 l]at q;by_cases a:b=e
  ·have p:H b=some (.own x):=by
    rcases s with z | z
    ·exact absurd (a.trans z) l
    ·rw[a];exact z
   rw[q]at p;cases p;obtain⟨v,hv⟩:=n;exact⟨v,by rw[a];exact hv⟩
  ·refine(ok b u q).stay (λ c v j r=>k c v ?_ r) (λ c r=>by rw[m7 (d c b r)];exact r) (λ c g r=>by rw[m7 (i c g r)];exact r) (λ c g r=>by rw[m7 λ z=>by subst z;rw[r]at f;exact f];exact r) λ c o v _ _ r=>by rw[m7 λ z=>by subst z;rw[r]at f;exact f];exact r
   rcases j with rfl | j
   ·exact a
   ·rintro rfl
    rcases s with z | z
    ·exact d c b j z
    ·rw[j]at z;cases z;exact l rfl
structure Un(fs ex:List Addr)(H H':Hp)(h h':Heap):Prop where
 keep:∀b o,h.get? b=some o->H b=none->b∉fs->b∉ex->h'.get? b=some o
 slot:∀b o,h.get? b=some o->H b=none->b∈fs->b∉ex->∃sl,h'.get? b=some {o with slots:=sl}
 free:∀b o,h.get? b=some o->H b=none->b∉ex->H' b=none
 there:∀b o,h.get? b=some o->b∉ex->∃o',h'.get? b=some o'
 tups:∀b xs,H b=some (.tup xs)->H' b=some (.tup xs)
 frzs:∀b o u,H b=some (.frz o u)->H' b=some (.frz o u)
 tbls:∀b q,H b=some (.tbl q)->H' b=some (.tbl q)
def Un.any(u:Un fs ex H g h e)(q:h.get? b=some a)(n:H b=none)(c:b∉ex):∃f,e.get? b=some {a with slots:=f}:=by
 by_cases d:b∈fs
 ·exact u.slot b a q n d c
 ·exact⟨a.slots,u.keep b a q n d c⟩
def Un.kept(k:∀b u,h.get? b=some u->h'.get? b=some u):Un fs ex H H h h':=
 ⟨λ b a q _ _ _=>k b a q,λ b a q _ _ _=>⟨a.slots,k b a q⟩,λ _ _ _ n _=>n,λ b a q _=>⟨a,k b a q⟩,λ _ _ q=>q,λ _ _ _ q=>q,λ _ _ q=>q⟩
def Un.refl:Un fs ex H H h h:=Un.kept λ _ _ q=>q
def Un.laid(k:∀b u,h.get? b=some u->h'.get? b=some u)(e:h.objs.size<=a)(c:H a=none):Un fs ex H (upd H a o) h h' where
 keep:=λ b u q _ _ _=>k b u q
 slot:=λ b u q _ _ _=>⟨u.slots,k b u q⟩
 free:=λ b u q n _=>by rw[m7 (q5 (t6 (k7 q) e))];exact n
 there:=λ b u q _=>⟨u,k b u q⟩
 tups:=λ b d q=>by rw[m7 (z8 q c)];exact q
 frzs:=λ b u d q=>by rw[m7 (z8 q c)];exact q
 tbls:=λ b ps q=>by rw[m7 (z8 q c)];exact q
def Un.write(c:Mut (H x))(m:e=x\/H e=some (.own x))(k:∀b u,b≠e->h.get? b=some u->h'.get? b=some u)(f:∃u,h'.get? e=some u):Un fs ex H (upd H x o) h h':=by
 have g:∀b,H b=none->b≠x:=λ b n z=>by subst z;rw[n]at c;exact c
 have i:∀b,H b=none->b≠e:=λ b n z=>by
  subst z;rcases m with r | r
  ·exact g b n r
  ·rw[n]at r;cases r
 have d:∀b u,H b=some u->¬Mut (some u)->b≠x:=λ b u q l z=>by subst z;rw[q]at c;exact l c
 refine⟨λ b u q n _ _=>k b u (i b n) q,λ b u q n _ _=>⟨u.slots,k b u (i b n) q⟩,λ b u q n _=>by rw[m7 (g b n)];exact n,λ b u q _=>?_,
  λ b j q=>by rw[m7 (d b _ q λ z=>z)];exact q,λ b u j q=>by rw[m7 (d b _ q λ z=>z)];exact q,λ b ps q=>by rw[m7 (d b _ q λ z=>z)];exact q⟩
 by_cases a:b=e
 ·subst a;exact f
 ·exact⟨u,k b u a q⟩
noncomputable def trk(h:JJ)(H:Hp):on JI:=(List.range h.objs.size).filter λ a=>(H a).isSome
def hidT(h:JJ)(H:Hp):JJ:=PySem.W.hideAll h (trk h H)
def xq(h:JJ)(H:Hp):(hidT h H).objs.size=h.objs.size:=PySem.W.hideAll_size _ _
def xr(e:h.get? b=some o)(n:H b=none):(hidT h H).get? b=some o:=
 PySem.W.hideAll_get _ e λ a=>by have q:=(A2.mp a).2;rw[n]at q;simp at q
def xt(e:(hidT h H).get? b=some o):h.get? b=some o/\H b=none:=by
 have a:=PySem.W.of_hideAll _ e;refine⟨a,?_⟩;cases q:H b with
 | none=>rfl
 | some x=>
  have z:(hidT h H).get? b=none:=PySem.W.hideAll_none _ (A2.mpr ⟨o4.mpr (k7 a),by simp[q]⟩);rw[z]at e;cases e
noncomputable def xu(g h:JJ)(L:JI):on (JI×Obj):=(List.range h.objs.size).filterMap λ a=>if a=L\/(g.get? a).isSome=true then none else(h.get? a).map λ o=>(a,o)
def rest(g h:JJ)(L d:JI):on (JI×Obj):=(xu g h L).filter λ p=>decide (p.1≠d)
end L2
namespace L2
open PySem PySem.Spec PyProof.Rows
structure Mod(K:PySem.W.Frag)(mg:Str->Option Value)(base:Heap):Prop where
 kin:K.In base
 glob:base.Ns mainGlobals mg
 blt:∃mb,base.Ns builtinsNs mb/\∀x:Str,x ≠ "__name__" -> mb x=bootBuiltins x
 nolimit:base.NoLimit
 bmod:∃bm ob,mg "__builtins__" = some (.ref bm)/\bm≠builtinsNs/\base.get? bm=some ob/\ob.cls=.type "module" /\ ob.dict=some builtinsNs/\ob.data=.plain
set_option genInjectivity true in
structure Cx where
 prog:Program
 w:World
 K:PySem.W.Frag
 mg:Str->Option Value
 base:Heap
 A:Around
 N:List Str
 s₀:Shared
 H₀:Hp
 env:Env
 outer:List Env
 stack:List Env
 ex:List Addr
 fn:Str->Bool
 calm:Bool
 pn:List (Addr×Obj)
 xe:Value->Shared->Prop
def tagQ(q:Str):Str:=if L3 (q ++ ".<locals>." ++ "plan_of")then q ++ ".<locals>." ++ "plan_of" else q ++ ".<locals>." ++ "<lambda>"
def x9(K:JQ):on (JI×Str):=K.filterMap λ p=>match p.2.cls,p.2.data with
 | .type "code",.fields vs=>(match(vs[11]?:JF JG),(vs[1]?:JF JG)with
  | some (.ref P),some (.str q _)=>if(K.lookup P).isNone then some (P,tagQ q)else none
  | _,_=>none)
 | _,_=>none
def cH(K:JQ)(H:Hp):Prop:=∀p∈x9 K,H p.1=some (.tbl p.2)
def frs(l:on Env):on JI:=l.filterMap (·.frame)
abbrev Cx.fs(X:Cx):on JI:=frs X.outer
def Vis(sc:JR)(x:Str):Prop:=sc.names.lookup x=some .local\/sc.names.lookup x=some .cell\/sc.names.lookup x=some .free
def Loc(sc:JR)(x:Str):Prop:=sc.names.lookup x=some .local\/sc.names.lookup x=some .cell
def Look(env:Env)(h:JJ)(m:Str->JF JG)(x:Str)(u:JG):Prop:=
 (env.kindOf x=some .local/\m x=some u)\/((env.kindOf x=some .cell\/env.kindOf x=some .free)/\∃c,env.cells.lookup x=some c/\h.IsCell c (some u))
structure Cx.Ok(X:Cx):Prop where
 mod:Mod X.K X.mg X.base
 kind:X.env.scope.kind=.function
 glob:X.env.globals=mainGlobals
 blt:X.env.builtins=builtinsNs
 above:X.s₀.heap.objs.size<=X.env.locals
 inj:∀x y c,X.env.cells.lookup x=some c->X.env.cells.lookup y=some c->x=y
 has:∀x,(X.env.kindOf x=some .cell\/X.env.kindOf x=some .free)->∃c,X.env.cells.lookup x=some c
 cab:∀x c,X.fn x=true->X.env.cells.lookup x=some c->X.s₀.heap.objs.size<=c
 hd:X.calm=true->X.A.handled=none
 frames:X.A.frames=some X.stack
 stk:X.stack=X.outer\/(X.stack=X.env::X.outer/\X.env.frame=some X.env.locals)
 exf:∀b∈X.ex,b≠X.env.locals/\∀x c,X.env.cells.lookup x=some c->c≠b
 bs:∀b o,X.base.get? b=some o->X.s₀.heap.get? b=some o/\X.H₀ b=none
 bsz:X.base.objs.size<=X.s₀.heap.objs.size
 noex:∀b o,X.base.get? b=some o->b∉X.ex
 exfs:∀b∈X.ex,b∉X.fs
 funs:X.s₀.heap.FunFrames X.base X.outer
 frf:(∀b∈X.fs,X.H₀ b=none)/\cH X.K X.H₀
structure Inv(X:Cx)(pins:List (Addr×Obj))(σ:List (Option V))(H:Hp)(s:Shared):Prop where
 ok:X.Ok
 os:s.os=X.s₀.os
 bare:AllBare s.gens
 base:Un X.fs X.ex X.H₀ H X.s₀.heap s.heap
 loc:∃m,s.heap.Ns X.env.locals m/\∀(i:Nat) (x:Str) (v:V),X.N[i]? = some x->σ[i]? = some (some v)->Vis X.env.scope x->∃u,RelV v u/\Look X.env s.heap m x u
 cell:∀x c,X.env.cells.lookup x=some c->∃v,s.heap.IsCell c v
 free:H X.env.locals=none
 freeC:∀x c,X.env.cells.lookup x=some c->H c=none
 pin:∀p∈X.pn++pins,s.heap.get? p.1=some p.2/\H p.1=none/\p.1≠X.env.locals/\p.1∉X.fs/\∀v,p.2.data ≠ .cell v
 hok:HOk X.prog X.w H s.heap
 len:σ.length=X.N.length
def Cx.Ok.nofr{X:Cx}(ok:X.Ok)(e:X.base.get? b=some o):b∉X.fs:=λ a=>by
 have:=(ok.funs.mem a).1;rw[e]at this;cases this
theorem Inv.bs(I:Inv X a σ H s):∀b o,X.base.get? b=some o->s.heap.get? b=some o/\H b=none:=λ b o e=>
 ⟨I.base.keep b o (I.ok.bs b o e).1 (I.ok.bs b o e).2 (I.ok.nofr e) (I.ok.noex b o e),I.base.free b o (I.ok.bs b o e).1 (I.ok.bs b o e).2 (I.ok.noex b o e)⟩
def Inv.bk(I:Inv X a σ H s):∀b o,X.base.get? b=some o->s.heap.get? b=some o:=λ b o e=>(I.bs b o e).1
theorem Inv.mod(I:Inv X a σ H s):Mod X.K X.mg X.base:=I.ok.mod
def Inv.tabs(I:Inv X a σ H s):cH X.K H:=λ p b=>I.base.tbls p.1 p.2 (I.ok.frf.2 p b)
def Inv.kIn(I:Inv X a σ H s):X.K.In s.heap:=I.ok.mod.kin.keeps I.bk
theorem Inv.lt(I:Inv X a σ H s):X.env.locals<s.heap.objs.size:=let ⟨_,hn,_⟩:=I.loc;hn.lt
def Inv.sz(I:Inv X a σ H s):X.s₀.heap.objs.size<=s.heap.objs.size:=i9 I.ok.above (K9 I.lt)
def Inv.nofs(I:Inv X b σ H s)(h:s.heap.objs.size<=a):a∉X.fs:=λ d=>by
 obtain⟨_,o,c,_⟩:=I.ok.funs.mem d
 exact absurd (t6 (k7 c) (i9 I.sz h)) (D6 _)
def Inv.cne(I:Inv X a σ H s):∀x c,X.env.cells.lookup x=some c->c≠X.env.locals:=λ x c e z=>by
 obtain⟨v,o,f,hd⟩:=I.cell x c e;obtain⟨m,⟨o',es,ep,b,d,_⟩,_⟩:=I.loc;rw[z,b]at f;cases f;rw[d]at hd;cases hd
theorem Inv.funs(I:Inv X a σ H s):s.heap.FunFrames X.base X.outer:=by
 have all:∀(l:on Env),(∀b∈frs l,b∈X.fs)->X.s₀.heap.FunFrames X.base l->s.heap.FunFrames X.base l:=by
  intro l
  induction l with
  | nil=>intro _ _;trivial
  | cons p r h=>
   intro g m;obtain⟨n,⟨L,o,c,k,j,hd⟩,i⟩:=m;have f:=g L (by unfold frs;rw[eI,c];exact k8);obtain⟨sl,e⟩:=I.base.slot L o j (I.ok.frf.1 L f) f λ z=>I.ok.exfs L z f
   exact⟨n,⟨L,_,c,k,e,hd⟩,h (λ b d=>g b (by unfold frs;rw[eI,c];exact k5 _ d)) i⟩
 exact all X.outer (λ _ d=>d) I.ok.funs
theorem Inv.stack(I:Inv X a σ H s):s.heap.FunFrames X.base X.stack:=by
 rcases I.ok.stk with e | ⟨e,hf⟩
 ·rw[e];exact I.funs
 ·rw[e];obtain⟨m,b,_⟩:=I.loc;refine .cons (by rw[I.ok.kind];decide) hf b ?_ I.funs
  exact aD (i9 I.ok.bsz I.ok.above)
def Inv.stkSub(I:Inv X c σ H s):∀b∈frs X.stack,b∈X.env.locals::X.fs:=λ b a=>by
 rcases I.ok.stk with e | ⟨e,hf⟩
 ·rw[e]at a;exact k5 _ a
 ·rw[e]at a;unfold frs at a;rw[eI,hf]at a;exact a
def Inv.stkFree(I:Inv X a σ H s):∀b∈frs X.stack,H b=none:=λ b c=>by
 rcases i5.mp (I.stkSub b c)with e | c
 ·rw[e];exact I.free
 ·obtain⟨_,o,d,_⟩:=I.ok.funs.mem c
  exact I.base.free b o d (I.ok.frf.1 b c) λ z=>I.ok.exfs b z c
def Inv.step{ch:on JI}(I:Inv X f σ H s)
  (h:∀b∈ch,(b∈X.ex\/X.s₀.heap.objs.size<=b)/\b≠X.env.locals/\(∀x c,X.env.cells.lookup x=some c->c≠b)/\∀p∈X.pn++f,p.1≠b)
  (keep:∀b o,b≠X.env.locals->b∉X.fs->b∉ch->s.heap.get? b=some o->H b=none->h'.get? b=some o)
  (slot:∀b o,b≠X.env.locals->b∈X.fs->b∉ch->s.heap.get? b=some o->H b=none->∃O,h'.get? b=some {o with slots:=O}) (free:∀b o,b∉ch->s.heap.get? b=some o->H b=none->E b=none)
  (y:∀b o,b∉ch->s.heap.get? b=some o->∃K,h'.get? b=some K)
  (F:∀b xs,H b=some (.tup xs)->E b=some (.tup xs)) (M:∀b o u,H b=some (.frz o u)->E b=some (.frz o u)) (J:∀b q,H b=some (.tbl q)->E b=some (.tbl q))
  (ns:∀m,s.heap.Ns X.env.locals m->h'.Ns X.env.locals m) (P:HOk X.prog X.w E h') (hg:AllBare W) :
  Inv X f σ E {s with heap:=h',gens:=W,drawn:=d',toks:=t'}:=by
 have L:∀b o,X.s₀.heap.get? b=some o->b≠X.env.locals:=λ b o e=>q5 (t6 (k7 e) I.ok.above);have w:∀b o,X.s₀.heap.get? b=some o->b∉X.ex->b∉ch:=λ b o e a A=>by
  rcases(h b A).1 with z | z
  ·exact a z
  ·exact absurd (t6 (k7 e) z) (D6 _)
 have j:∀x c,X.env.cells.lookup x=some c->∀v,s.heap.IsCell c v->h'.IsCell c v:=λ x c e v ⟨o,C,hd⟩=>by
  have g:c∉ch:=λ z=>(h c z).2.2.1 x c e rfl;by_cases U:c∈X.fs
  ·obtain⟨O,q⟩:=slot c o (I.cne x c e) U g C (I.freeC x c e);exact⟨_,q,hd⟩
  ·exact⟨o,keep c o (I.cne x c e) U g C (I.freeC x c e),hd⟩
 refine⟨I.ok,I.os,hg,⟨λ b o e n A a=>?_,λ b o e n A a=>?_,λ b o e n a=>?_,λ b o e a=>?_,λ b xs e=>F b xs (I.base.tups b xs e),λ b o xs e=>M b o xs (I.base.frzs b o xs e),λ b ps e=>?_⟩,?_,λ x c e=>?_,?_,λ x c e=>?_,λ p S=>?_,P,I.len⟩
 ·exact keep b o (L b o e) A (w b o e a) (I.base.keep b o e n A a) (I.base.free b o e n a)
 ·obtain⟨O,B⟩:=I.base.slot b o e n A a;obtain⟨N,Q⟩:=slot b _ (L b o e) A (w b o e a) B (I.base.free b o e n a);exact⟨N,Q⟩
 ·obtain⟨K,B⟩:=I.base.there b o e a;exact free b K (w b o e a) B (I.base.free b o e n a)
 ·obtain⟨K,B⟩:=I.base.there b o e a;exact y b K (w b o e a) B
 ·exact J b ps (I.base.tbls b ps e)
 ·obtain⟨m,Y,Z⟩:=I.loc;refine⟨m,ns m Y,λ i x v B Q e3=>?_⟩;obtain⟨u,r,l⟩:=Z i x v B Q e3;refine⟨u,r,?_⟩;rcases l with l | ⟨k,c,e,z⟩
  ·exact .inl l
  ·exact .inr ⟨k,c,e,j x c e _ z⟩
 ·obtain⟨v,z⟩:=I.cell x c e;exact⟨v,j x c e v z⟩
 ·obtain⟨m,⟨o,_,_,C,_⟩,_⟩:=I.loc;exact free _ o (λ z=>(h _ z).2.1 rfl) C I.free
 ·obtain⟨v,o,C,hd⟩:=I.cell x c e;exact free c o (λ z=>(h c z).2.2.1 x c e rfl) C (I.freeC x c e)
 ·obtain⟨e,n,ne,R,d⟩:=I.pin p S;have g:p.1∉ch:=λ z=>(h p.1 z).2.2.2 p S rfl
  exact⟨keep p.1 p.2 ne R g e n,free p.1 p.2 g e n,ne,R,d⟩
def Inv.un(I:Inv X a σ H s)(u:Un X.fs [] H i s.heap h')(d:HOk X.prog X.w i h'):Inv X a σ i {s with heap:=h',toks:=t'}:=by
 obtain⟨m,⟨o,es,ep,j,r⟩,_⟩:=id I.loc;obtain⟨sl,p⟩:=u.any j I.free (by simp);exact I.step (ch:=[]) (λ _ z=>nomatch z) (λ b o _ f _ e n=>u.keep b o e n f (by simp)) (λ b o _ f _ e n=>u.slot b o e n f (by simp)) (λ b o _ e n=>u.free b o e n (by simp)) (λ b o _ e=>u.there b o e (by simp)) u.tups u.frzs u.tbls (λ m' l=>by
  obtain⟨o',g,h,c,k⟩:=l;rw[j]at c;cases c;exact⟨_,g,h,p,k⟩) d I.bare
def Inv.call(I:Inv X a σ H s)(u:Un (frs X.stack) ch H l s.heap h')(h:HOk X.prog X.w l h')(A:AllBare v)
  (g:∀b∈ch,(b∈X.ex\/X.s₀.heap.objs.size<=b)/\b≠X.env.locals/\(∀x c,X.env.cells.lookup x=some c->c≠b)/\∀p∈X.pn++a,p.1≠b) :
  Inv X a σ l {s with heap:=h',gens:=v,drawn:=C,toks:=t'}:=by
 obtain⟨m,⟨o,es,ep,q,r⟩,_⟩:=id I.loc;obtain⟨sl,i⟩:=u.any q I.free λ z=>(g _ z).2.1 rfl
 exact I.step g (λ b o i B d e n=>u.keep b o e n (λ z=>(i5.mp (I.stkSub b z)).elim i B) d) (λ b o _ _ d e n=>u.any e n d) (λ b o d e n=>u.free b o e n d) (λ b o d e=>u.there b o e d) u.tups u.frzs u.tbls (λ m' y=>by
  obtain⟨o',j,k,f,w⟩:=y;rw[q]at f;cases f;exact⟨_,j,k,i,w⟩) h A
def Inv.turned(I:Inv X a σ H s)(k:∀b o,b≠it->s.heap.get? b=some o->h'.get? b=some o)(i:H it=none)(g:it≠X.env.locals)
  (A:it∈X.ex\/X.s₀.heap.objs.size<=it) (y:∀x c,X.env.cells.lookup x=some c->c≠it) (w:∀p∈X.pn++a,p.1≠it):Inv X a σ H {s with heap:=h',toks:=t'}:=by
 have f:∀b u,H b=some u->b≠it:=λ b u e z=>by rw[z,i]at e;cases e
 refine I.step (ch:=[it]) (λ b l=>?_) (λ b o _ _ d e _=>k b o (λ z=>d (by simp[z])) e) (λ b o _ _ d e _=>⟨o.slots,k b o (λ z=>d (by simp[z])) e⟩) (λ _ _ _ _ n=>n)
  (λ b o d e=>⟨o,k b o (λ z=>d (by simp[z])) e⟩) (λ _ _ e=>e) (λ _ _ _ e=>e) (λ _ _ e=>e) (λ m j=>?_) (λ b u e=>?_) I.bare
 ·have e:b=it:=by simpa using l
  subst e;exact⟨A,g,y,w⟩
 ·obtain⟨o,B,C,h,r⟩:=j;exact⟨o,B,C,k _ o (Ne.symm g) h,r⟩
 ·refine(I.hok b u e).stay (λ c v d q=>k c v ?_ q) (λ _ q=>q) (λ _ _ q=>q) (λ _ _ q=>q) λ _ _ _ _ _ q=>q;rcases d with z | z
  ·rw[z];exact f b u e
  ·exact f c _ z
def Inv.tok(I:Inv X a σ H s)(t:Nat):Inv X a σ H {s with toks:=t}:=I.un Un.refl I.hok
theorem Inv.kept(I:Inv X a σ H s)(k:∀b u,s.heap.get? b=some u->h'.get? b=some u):Inv X a σ H {s with heap:=h',toks:=t'}:=I.un (Un.kept k) (I.hok.kept k)
theorem Inv.laid(I:Inv X c σ H s)(k:∀b u,s.heap.get? b=some u->h'.get? b=some u)(d:s.heap.objs.size<=a)(new:u9 X.prog X.w (upd H a o) h' a o) :
  Inv X c σ (upd H a o) {s with heap:=h',toks:=t'}:=I.un (Un.laid k d (I.hok.fresh d)) (I.hok.laid k d new)
theorem Inv.write(I:Inv X a σ H s)(d:Mut (H x))(f:e=x\/H e=some (.own x))(k:∀b u,b≠e->s.heap.get? b=some u->h'.get? b=some u)(c:∃u,h'.get? e=some u)
  (new:u9 X.prog X.w (upd H x o) h' x o):Inv X a σ (upd H x o) {s with heap:=h',toks:=t'}:=I.un (Un.write d f k c) (I.hok.write d f k c new)
def Inv.pins_of(I:Inv X b σ H s)(h:∀p∈a,s.heap.get? p.1=some p.2/\H p.1=none/\p.1≠X.env.locals/\p.1∉X.fs/\∀v,p.2.data ≠ .cell v):Inv X a σ H s:=
 ⟨I.ok,I.os,I.bare,I.base,I.loc,I.cell,I.free,I.freeC,λ p c=>(C7.mp c).elim (λ z=>I.pin p (B4 _ z)) (h p),I.hok,I.len⟩
def jl{N:on Str}(c:N.Nodup){j:Nat}(a:N[i]? = some x)(b:N[j]? = some x):i=j:=by
 obtain⟨h1,e⟩:=v9.mp a;obtain⟨h2,d⟩:=v9.mp b;exact(List.getElem_inj c).mp (e.trans d.symm)
def nU(I:Inv X J σ H s)(hN:X.N.Nodup)(W:X.N[i]? = some x)(B:Loc X.env.scope x)(r:RelV v u)
  (h:∀s',Inv X J (σ.set i (some v)) H s'->(∃a,Heap.SameBut a s.heap s'.heap/\(a=X.env.locals\/X.env.cells.lookup x=some a))->Q () s') (hf:X.fn x=true\/X.env.scope.names.lookup x=some .local:=by first | exact .inl rfl | exact .inr rfl | assumption):wpAny M A (storeName X.env x u) Q E s:=by
 obtain⟨m,hn,hl⟩:=id I.loc;have Y:(X.env.scope.kind == .class||(X.env.scope.kind == .module&&X.env.locals != X.env.globals))=false:=by rw[I.ok.kind];rfl
 have L:i<σ.length:=by rw[I.len];exact(v9.mp W).1
 have cne:=I.cne;have g:∀{a:JI} {R:JJ},(∃o,s.heap.get? a=some o/\H a=none)->Heap.SameBut a s.heap R->HOk X.prog X.w H R:=λ {a R} ha f b ob e=>by
  obtain⟨_,_,C⟩:=ha;refine(I.hok b ob e).stay (λ c w' w q=>(f.2 c ?_).trans q) (λ _ q=>q) (λ _ _ q=>q) (λ _ _ q=>q) λ _ _ _ _ _ q=>q
  rintro rfl
  rcases w with rfl | w
  ·rw[C]at e;cases e
  ·rw[C]at w;cases w
 rcases B with K | K
 ·refine nP K hn (λ R a2 f=>?_) Y;obtain⟨oL,_,_,a1,_⟩:=id hn;refine h _ ⟨I.ok,I.os,I.bare,⟨λ b o e n P B=>?_,λ b o e n P B=>?_,I.base.free,λ b o e B=>?_,I.base.tups,I.base.frzs,I.base.tbls⟩,⟨_,a2,λ j y v' l F e3=>?_⟩,λ y c e=>?_,I.free,I.freeC,λ p hp=>?_,g ⟨oL,a1,I.free⟩ f,by simpa using I.len⟩ ⟨_,f,.inl rfl⟩
  ·exact(f.2 b (q5 (t6 (k7 e) I.ok.above))).trans (I.base.keep b o e n P B)
  ·obtain⟨sl,l⟩:=I.base.slot b o e n P B;exact⟨sl,(f.2 b (q5 (t6 (k7 e) I.ok.above))).trans l⟩
  ·obtain⟨o',l⟩:=I.base.there b o e B;exact⟨o',(f.2 b (q5 (t6 (k7 e) I.ok.above))).trans l⟩
  ·by_cases N:j=i
   ·subst N;rw[W]at l;cases l;rw[L9 L]at F;cases F;exact⟨u,r,.inl ⟨K,by simp⟩⟩
   ·rw[u5 (Ne.symm N)]at F;obtain⟨u',r',q⟩:=hl j y v' l F e3;refine⟨u',r',?_⟩;rcases q with⟨k,e⟩ | ⟨k,c,e,z⟩
    ·refine .inl ⟨k,?_⟩;have:y≠x:=λ e=>N (jl hN l (e▸W));simp[this,e]
    ·exact .inr ⟨k,c,e,z.sameBut f (cne y c e)⟩
  ·obtain⟨w',z⟩:=I.cell y c e;exact⟨w',z.sameBut f (cne y c e)⟩
  ·obtain⟨e,n,ne,nf,d⟩:=I.pin p hp;exact⟨(f.2 p.1 ne).trans e,n,ne,nf,d⟩
 ·have O:X.fn x=true:=by
   rcases hf with z | z
   ·exact z
   ·rw[z]at K;cases K
  obtain⟨c,w⟩:=I.ok.has x (.inl K);obtain⟨w',z⟩:=I.cell x c w;refine wpAny_storeName_cell I.ok.kind K w z (λ R a0 f=>?_);obtain⟨oc,U,S⟩:=id z;refine h {s with heap:=R} ⟨I.ok,I.os,I.bare,⟨λ b o e n P B=>?_,λ b o e n P B=>?_,I.base.free,λ b o e B=>?_,I.base.tups,I.base.frzs,I.base.tbls⟩,⟨m,hn.sameBut f (Ne.symm (cne x c w)),λ j y v' l F e3=>?_⟩,λ y c' e=>?_,I.free,I.freeC,λ p hp=>?_,g ⟨oc,U,I.freeC x c w⟩ f,by simpa using I.len⟩ ⟨c,f,.inr w⟩
  ·exact(f.2 b (q5 (t6 (k7 e) (I.ok.cab x c O w)))).trans (I.base.keep b o e n P B)
  ·obtain⟨sl,l⟩:=I.base.slot b o e n P B;exact⟨sl,(f.2 b (q5 (t6 (k7 e) (I.ok.cab x c O w)))).trans l⟩
  ·obtain⟨o',l⟩:=I.base.there b o e B;exact⟨o',(f.2 b (q5 (t6 (k7 e) (I.ok.cab x c O w)))).trans l⟩
  ·by_cases N:j=i
   ·subst N;rw[W]at l;cases l;rw[L9 L]at F;cases F;exact⟨u,r,.inr ⟨.inl K,c,w,a0⟩⟩
   ·rw[u5 (Ne.symm N)]at F;obtain⟨u',r',q⟩:=hl j y v' l F e3;refine⟨u',r',?_⟩;rcases q with q | ⟨k,c',e,z'⟩
    ·exact .inl q
    ·refine .inr ⟨k,c',e,z'.sameBut f ?_⟩
     rintro rfl
     exact N (jl hN l (I.ok.inj _ _ _ e w▸W))
  ·by_cases Z:c'=c
   ·subst Z;exact⟨_,a0⟩
   ·obtain⟨w2,z2⟩:=I.cell y c' e;exact⟨w2,z2.sameBut f Z⟩
  ·obtain⟨e,n,ne,nf,d⟩:=I.pin p hp;refine⟨(f.2 p.1 ?_).trans e,n,ne,nf,d⟩;intro q;rw[q,U]at e;exact d w' (by rw[←(A8 e)];exact S)
def fx(I:Inv X a σ H s)(f:X.N.Nodup)(d:X.N[i]? = some x)(c:Loc X.env.scope x)(r:RelV v u)
  (h:∀b,Inv X a (σ.set i (some v)) H b->Q () b) (e:X.fn x=true\/X.env.scope.names.lookup x=some .local:=by first | exact .inl rfl | exact .inr rfl | assumption):wpAny M A (storeName X.env x u) Q E s:=
 nU I f d c r (λ b g _=>h b g) e
def Inv.call'(I:Inv X a σ H s)(i:d.os=s.os)(u:Un (frs X.stack) ch H h s.heap d.heap)(f:HOk X.prog X.w h d.heap)(j:AllBare d.gens)
  (g:∀b∈ch,(b∈X.ex\/X.s₀.heap.objs.size<=b)/\b≠X.env.locals/\(∀x c,X.env.cells.lookup x=some c->c≠b)/\∀p∈X.pn++a,p.1≠b):Inv X a σ h d:=by
 obtain⟨h',g',d',t',o'⟩:=d;have e:=i;subst e;exact I.call u f j g
abbrev XK:=JG->JF JI->Hp->Prop
abbrev St:=on (JF V)
abbrev VK:=V->Hp->Prop
abbrev TE:=St->Hp->VK->Prop
abbrev TT:=St->Hp->(Bool->Hp->Prop)->Prop
abbrev TA:=St->Hp->(on V->Hp->Prop)->Prop
structure Ends where
 nx:St->Hp->Prop
 rt:VK
 bk:St->Hp->Prop:=λ _ _=>False
 ct:St->Hp->Prop:=λ _ _=>False
abbrev TS:=Ends->St->Hp->Prop
def EP(X:Cx)(pins:on (JI×Obj))(σ:St)(Q:VK)(u:JG)(s':JH):Prop:=∃v H',Inv X pins σ H' s'/\RelV v u/\Q v H'
def TP(X:Cx)(pins:on (JI×Obj))(σ:St)(Q:Bool->Hp->Prop)(b:Bool)(s':JH):Prop:=∃H',Inv X pins σ H' s'/\Q b H'
def AP(X:Cx)(pins:on (JI×Obj))(σ:St)(Q:on V->Hp->Prop)(us:on JG)(s':JH):Prop:=∃vs H',Inv X pins σ H' s'/\Vals vs us/\Q vs H'
def SP(X:Cx)(pins:on (JI×Obj))(D:Ends)(f:Flow)(s':JH):Prop:=
 match f with
 | .next=>∃σ' H',Inv X pins σ' H' s'/\D.nx σ' H'
 | .brk=>∃σ' H',Inv X pins σ' H' s'/\D.bk σ' H'
 | .cont=>∃σ' H',Inv X pins σ' H' s'/\D.ct σ' H'
 | .ret u=>∃v σ' H',Inv X pins σ' H' s'/\RelV v u/\D.rt v H'
def PE(X:Cx)(e:JK)(t:TE):Prop:=
 ∀(pins:on (JI×Obj)) (s:JH) (σ:St) (H:Hp) (Q:VK),Inv X pins σ H s->t σ H Q->wpAny Kb X.A (eval e X.env) (EP X pins σ Q) X.xe s
def PT(X:Cx)(e:JK)(t:TT):Prop:=
 ∀(pins:on (JI×Obj)) (s:JH) (σ:St) (H:Hp) (Q:Bool->Hp->Prop),Inv X pins σ H s->t σ H Q->wpAny Kb X.A (isTrue e X.env (eval e X.env)) (TP X pins σ Q) X.xe s
def PW(X:Cx)(e:JK)(t:TT):Prop:=
 ∀(whole:Sem JG) (pins:on (JI×Obj)) (s:JH) (σ:St) (H:Hp) (Q:Bool->Hp->Prop),Inv X pins σ H s->t σ H Q->wpAny Kb X.A (isTrue e X.env whole) (TP X pins σ Q) X.xe s
def PW.pt(h:PW X e t):PT X e t:=h _
def PA(X:Cx)(es:on JK)(t:TA):Prop:=
 ∀(pos:Pos) (pins:on (JI×Obj)) (s:JH) (σ:St) (H:Hp) (Q:on V->Hp->Prop),Inv X pins σ H s->t σ H Q->wpAny Kb X.A (spliced (backTo pos (starEach es X.env))) (AP X pins σ Q) X.xe s
def PS(X:Cx)(st:JP)(t:TS):Prop:=
 ∀(pins:on (JI×Obj)) (s:JH) (σ:St) (H:Hp) (D:Ends),Inv X pins σ H s->t D σ H->wpAny Kb X.A (exec st X.env) (SP X pins D) X.xe s
def PSs(X:Cx)(st:on JP)(t:TS):Prop:=
 ∀(pins:on (JI×Obj)) (s:JH) (σ:St) (H:Hp) (D:Ends),Inv X pins σ H s->t D σ H->wpAny Kb X.A (execs st X.env) (SP X pins D) X.xe s
def thn(h:wpAny M A t Q E s)(c:∀a s,Q a s->Q' a s):wpAny M A t Q' E s:=B3 h c λ _ _ x=>x
end L2
namespace L2
open PySem PySem.Spec PyProof.Rows
section
variable {X:Cx}
def bin(r:PE X a l)(q:PE X b k){R:V->V->Hp->Prop}(I:Inv X c σ H s)(h:l σ H λ x i=>k σ i λ y d=>R x y d)
     {Q:j->JH->Prop} {f:JG->JG->Sem j}
    (p:∀v u s2 x y d,Inv X c σ d s2->RelV x v->RelV y u->R x y d->wpAny Kb X.A (f v u) Q X.xe s2) :
    wpAny Kb X.A (eval a X.env) (λ v g=>wpAny Kb X.A (eval b X.env) (λ u e=>wpAny Kb X.A (f v u) Q X.xe e) X.xe g) X.xe s:=by
  refine thn (r c s σ H _ I h) λ v s1 t0=>?_;obtain⟨x,i,z,r1,o⟩:=t0;refine thn (q c s1 σ i _ z o) λ u s2 t0=>?_;obtain⟨y,d,w,m,n⟩:=t0;exact p v u s2 x y d w r1 m n
noncomputable def tVar(i:Nat):TE:=λ σ H Q=>∃v,σ[i]? = some (some v)/\Q v H
def tC(v:V):TE:=λ _ H Q=>Q v H
def Y9(o:X.N[i]? = some x)(hv:Vis X.env.scope x)(hd:(x==("__debug__" : Str))=false:=by decide)(f:(x==("__classdict__" : Str))=false:=by decide):PE X (.Name x pos) (tVar i):=by
 intro d s g H Q I h;obtain⟨v,e,h⟩:=h;obtain⟨m,j,n⟩:=I.loc;obtain⟨u,r,l⟩:=n i x v o e hv;have b:EP X d g Q u s:=⟨v,H,I,r,h⟩;rcases l with⟨a,k⟩ | ⟨a,c,hc,hcell⟩
 ·exact cD (wpAny_loadName_local I.ok.kind a j k b) hd
 ·rcases a with a | a
  ·exact cD (iq I.ok.kind a hc hcell b) hd
  ·exact cD (wpAny_loadName_free I.ok.kind a hc hcell b f) hd
def xv:PE X (.Constant (.int i) j pos) (tC (.int i)):=λ _ _ _ H _ I h=>wpAny_Constant_int ⟨.int i,H,I.tok _,⟨_,rfl⟩,h⟩
def xw:PE X (.Constant (.bool b) j pos) (tC (.bl b)):=λ _ _ _ H _ I h=>Constant_bool ⟨.bl b,H,I,rfl,h⟩
def xx:PE X (.Constant .none j pos) (tC .non):=λ _ _ _ H _ I h=>Constant_none ⟨.non,H,I,rfl,h⟩
def xy:PE X (.Constant (.str x) j pos) (tC (.str x)):=λ _ _ _ H _ I h=>Calls.Constant_str ⟨.str x,H,I.tok _,⟨_,rfl⟩,h⟩
def Gl(X:Cx)(x:Str):Prop:=X.env.kindOf x=some .globalImplicit
def nV(I:Inv X a σ H s)(c:Gl X x)(b:X.mg x=some u)(h:Q u s)
  (hd:(x==("__debug__" : Str))=false:=by decide):wpAny Kb X.A (eval (.Name x pos) X.env) Q E s:=
 nh I.ok.kind c (Calls.loadGlobal_global (by rw[I.ok.glob];exact I.mod.glob.keeps I.bk) b h) hd
def Z0(I:Inv X a σ H s)(d:Gl X x)(c:X.mg x=none)(hv:bootBuiltins x=some u)(h:Q u s)
  (b:x ≠ "__name__":=by decide) (hd:(x==("__debug__" : Str))=false:=by decide):wpAny Kb X.A (eval (.Name x pos) X.env) Q E s:=by
 obtain⟨mb,f,e⟩:=I.mod.blt;exact nh I.ok.kind d (Calls.loadGlobal_builtin (by rw[I.ok.glob];exact I.mod.glob.keeps I.bk) c (by rw[I.ok.blt];exact f.keeps I.bk) ((e x b).trans hv) h) hd
def xz(b:Gl X x)(a:X.mg x=some u)(r:RelV v u)(hd:(x==("__debug__" : Str))=false:=by decide):PE X (.Name x pos) (tC v):=
 λ _ _ _ H _ I h=>nV I b a ⟨v,H,I,r,h⟩ hd
def xA(c:Gl X x)(b:X.mg x=none)(hv:bootBuiltins x=some u)(r:RelV v u)(a:x ≠ "__name__":=by decide)(hd:(x==("__debug__" : Str))=false:=by decide):PE X (.Name x pos) (tC v):=
 λ _ _ _ H _ I h=>Z0 I c b hv ⟨v,H,I,r,h⟩ a hd
variable {a b:JK} {ta tb:TE} {pos:Pos}
def PC(X:Cx)(op:CmpOp)(a b:JK)(t:TE):Prop:=
 ∀(pins:on (JI×Obj)) (s:JH) (σ:St) (H:Hp) (Q:VK),Inv X pins σ H s->t σ H Q ->
  wpAny Kb X.A (eval a X.env) (λ v s₁=>wpAny Kb X.A (eval b X.env) (λ u s₂=>wpAny Kb X.A (compareOp op v u) (EP X pins σ Q) X.xe s₂) X.xe s₁) X.xe s
noncomputable def tAnd(t u:TT):TT:=λ σ H Q=>t σ H λ c H1=>if c=true then u σ H1 Q else Q false H1
noncomputable def tOr(t u:TT):TT:=λ σ H Q=>t σ H λ c H1=>if c=true then Q true H1 else u σ H1 Q
def tNot(t:TT):TT:=λ σ H Q=>t σ H λ c H1=>Q (!c) H1
def xC(g:PT X a d):PW X (.BoolOp .And [a] pos) d:=by
 intro wh b s f H Q I h;refine isTrue_and (thn (g b s f H Q I h) λ c s1 e=>?_);cases c with
 | true=>exact isTrue_and_nil e
 | false=>exact e
def xD(g:PT X a d):PW X (.BoolOp .Or [a] pos) d:=by
 intro wh b s f H Q I h;refine isTrue_or (thn (g b s f H Q I h) λ c s1 e=>?_);cases c with
 | false=>exact isTrue_or_nil e
 | true=>exact e
def nW{rest:on JK}(n:PT X a g)(m:PW X (.BoolOp .And (b::rest) pos) e):PW X (.BoolOp .And (a::b::rest) pos) (tAnd g e):=by
 intro l d s f H Q I h;refine isTrue_and (thn (n d s f H _ I h) λ c s1 t0=>?_);obtain⟨k,j,i⟩:=t0;cases c with
 | true=>exact m l d s1 f k Q j i
 | false=>exact⟨k,j,i⟩
def nX{rest:on JK}(n:PT X a g)(m:PW X (.BoolOp .Or (b::rest) pos) e):PW X (.BoolOp .Or (a::b::rest) pos) (tOr g e):=by
 intro l d s f H Q I h;refine isTrue_or (thn (n d s f H _ I h) λ c s1 t0=>?_);obtain⟨k,j,i⟩:=t0;cases c with
 | true=>exact⟨k,j,i⟩
 | false=>exact m l d s1 f k Q j i
def xE(e:PT X a c):PT X (.UnaryOp .Not a pos) (tNot c):=by
 intro b s d H Q I h;exact isTrue_not (e b s d H _ I h)
def nY(h:PE X a t):PE X (.BoolOp op [a] pos) t:=λ b s c H Q I d=>BoolOp_one (h b s c H Q I d)
noncomputable def tIf(t:TT)(ta tb:TE):TE:=λ σ H Q=>t σ H λ c H1=>if c=true then ta σ H1 Q else tb σ H1 Q
def nZ(l:PT X c g)(n:PE X a ta)(m:PE X b tb):PE X (.IfExp c a b pos) (tIf g ta tb):=by
 intro e s f H Q I h;refine wpAny_IfExp (thn (l e s f H _ I h) λ d s1 t0=>?_);obtain⟨k,j,i⟩:=t0;cases d with
 | true=>exact n e s1 f k Q j i
 | false=>exact m e s1 f k Q j i
end
end L2
namespace L2
open PySem PySem.Spec PyProof.Rows
def SqL(K:JQ)(H:Hp)(a:JI)(xs:on V):Prop:=
 Rd H a (.lst xs) \/
  ∃(o:Obj) (its:JL JG) (n:Nat),K.lookup a=some o/\o.cls=.type "list" /\ o.dict=none/\o.data=.seq its n/\its.size<=sizeLine/\Vals xs its.toList
def SqT(K:JQ)(H:Hp)(a:JI)(xs:on V):Prop:=
 Rd H a (.tup xs) \/
  ∃(o:Obj) (its:JL JG) (n:Nat),K.lookup a=some o/\(o.cls=.type "tuple" /\ o.dict=none)/\o.data=.seq its n/\its.size<=sizeLine/\Vals xs its.toList
noncomputable def absV:JG->JF V
 | .none=>some .non
 | .bool b=>some (.bl b)
 | .int i _=>some (.int i)
 | .str x _=>some (.str x)
 | .bytes b _=>some (.byt b)
 | .float b _=>some (.flt b)
 | .ref a=>some (.ref a)
 | .type n=>some (.ty n)
 | _=>none
def RelV.abs(r:RelV x u):absV u=some x:=by
 cases x with
 | non=>cases r;rfl
 | bl _=>cases r;rfl
 | int _=>obtain⟨t,rfl⟩:=r;rfl
 | str _=>obtain⟨t,rfl⟩:=r;rfl
 | byt _=>obtain⟨t,rfl⟩:=r;rfl
 | flt _=>obtain⟨t,rfl⟩:=r;rfl
 | ref _=>cases r;rfl
 | ty _=>cases r;rfl
def RelV.inj(r:RelV x u)(q:RelV y u):x=y:=A8 (r.abs.symm.trans q.abs)
theorem Vals.inj(h:Vals xs b):Vals a b->xs=a:=by
 induction h generalizing a with
 | nil=>intro t;cases t;rfl
 | cons r _ e=>intro t;cases t with | cons d c=>rw[r.inj d,e c]
def SqL.of{K:JQ}(h:H a=some (.lst xs)):SqL K H a xs:=.inl (.inl h)
def SqT.of{K:JQ}(h:H a=some (.tup xs)):SqT K H a xs:=.inl (.inl h)
def Inv.list(I:Inv X c σ H s)(h:SqL X.K H a xs):∃b:on JG,Vals xs b/\PlainL s.heap a b.toArray/\xs.length<=sizeLine:=by
 rcases h with h | ⟨o,b,n,hk,hc,hd,hs,hz,r⟩
 ·obtain⟨z,b,n,r,e⟩:=h.ok I.hok;exact⟨b,r,⟨_,n,e,rfl,rfl,rfl⟩,z⟩
 ·refine⟨b.toList,r,⟨o,n,I.kIn a o hk,hc,hd,by simpa using hs⟩,?_⟩;have e:=r.length;simp only[A4]at e;omega
def Inv.tuple(I:Inv X c σ H s)(h:SqT X.K H a xs):∃b:on JG,Vals xs b/\IsTup s.heap a b.toArray/\xs.length<=sizeLine:=by
 rcases h with h | ⟨o,b,n,hk,hc,hs,hz,r⟩
 ·obtain⟨z,b,r,p⟩:=h.ok I.hok;exact⟨b,r,p.tup,z⟩
 ·refine⟨b.toList,r,⟨o,I.kIn a o hk,hc.1,n,by simpa using hs⟩,?_⟩;have e:=r.length;simp only[A4]at e;omega
def Inv.tupleN(I:Inv X b σ H s)(h:SqT X.K H a xs):∃o,s.heap.get? a=some o/\o.cls=.type "tuple" /\ o.dict=none:=by
 rcases h with h | ⟨o,d,n,hk,hc,hs,hz,r⟩
 ·obtain⟨z,d,r,o,e,c,_⟩:=h.ok I.hok;exact⟨o,e,c.1,c.2⟩
 ·exact⟨o,I.kIn a o hk,hc.1,hc.2⟩
def Inv.list_inj(I:Inv X b σ H s)(h:SqL X.K H a xs)(h':SqL X.K H a g):xs=g:=by
 obtain⟨f,r,⟨o,n,e,_,_,d⟩,_⟩:=I.list h;obtain⟨c,k,⟨o',n',i,_,_,j⟩,_⟩:=I.list h';rw[e]at i;cases i;rw[d]at j;injection j with d1 _
 have:f=c:=by simpa using congrArg Array.toList d1
 subst this;exact r.inj k
def Inv.tuple_inj(I:Inv X b σ H s)(h:SqT X.K H a xs)(h':SqT X.K H a g):xs=g:=by
 obtain⟨f,r,⟨o,e,_,n,d⟩,_⟩:=I.tuple h;obtain⟨c,k,⟨o',i,_,n',j⟩,_⟩:=I.tuple h';rw[e]at i;cases i;rw[d]at j;injection j with d1 _
 have:f=c:=by simpa using congrArg Array.toList d1
 subst this;exact r.inj k
section
variable {X:Cx} {st:JP} {rest:on JP} {t u:TS} {e:JK} {te:TE} {pos:Pos}
def xF:TS:=λ D σ H=>D.nx σ H
def tSeq(t u:TS):TS:=λ D σ H=>t {D with nx:=u D} σ H
def xG:PSs X [] xF:=λ _ _ a H _ I h=>iN ⟨a,H,I,h⟩
def fy(e:PS X st t)(d:PSs X rest u):PSs X (st::rest) (tSeq t u):=by
 intro a s c H D I h;refine wpAny_execs_cons (thn (e a s c H {D with nx:=u D} I h) λ f s1 q=>?_);cases f with
 | next=>
  obtain⟨b,i,g,q⟩:=q;exact d a s1 b i D g q
 | ret v=>exact q
 | brk=>exact q
 | cont=>exact q
def Inv.quiet(I:Inv X a σ H s):interactive X.env=false:=by simp[interactive,I.ok.kind]
noncomputable def xH(te:TE):TS:=λ D σ H=>te σ H λ _ H1=>D.nx σ H1
def jm(f:PE X e te)(d:swapsWith e none pos.line X.env=pure false:=by rfl):PS X (.Expr e pos) (xH te):=by
 intro a s b H D I h;exact wpAny_Expr_any (thn (f a s b H _ I h) λ v s1 ⟨x,i,g,r1,c⟩=>⟨b,i,g,c⟩) I.quiet d
def tRet(te:TE):TS:=λ D σ H=>te σ H D.rt
def jn(d:PE X e te):PS X (.Return (some e) pos) (tRet te):=by
 intro a s b H D I h;exact wpAny_Return_some (thn (d a s b H _ I h) λ v s1 ⟨x,g,f,r1,c⟩=>⟨x,b,g,f,r1,c⟩)
noncomputable def tIfS(c:TT)(t u:TS):TS:=λ D σ H=>c σ H λ b H1=>if b=true then t D σ H1 else u D σ H1
def oa(l:PT X c g)(n:PSs X a t)(m:PSs X b u):PS X (.If c a b pos) (tIfS g t u):=by
 intro e s f H D I h;refine wpAny_If (thn (l e s f H _ I h) λ d s1 t0=>?_);obtain⟨k,j,i⟩:=t0;cases d with
 | true=>exact n e s1 f k D j i
 | false=>exact m e s1 f k D j i
def xI:TS:=λ _ _ _=>False
def fz:PSs X a xI:=λ _ _ _ _ _ _ h=>h.elim
end
abbrev TG:=V->St->Hp->(St->Hp->Prop)->Prop
abbrev TGs:=on V->St->Hp->(St->Hp->Prop)->Prop
def PG(X:Cx)(target:JK)(t:TG):Prop:=
 ∀(pins:on (JI×Obj)) (s:JH) (σ:St) (H:Hp) (v:V) (u:JG) (Q:St->Hp->Prop),Inv X pins σ H s->RelV v u->t v σ H Q ->
  wpAny Kb X.A (assign target X.env u) (λ _ s'=>∃σ' H',Inv X pins σ' H' s'/\Q σ' H') X.xe s
def PGs(X:Cx)(ts:on JK)(t:TGs):Prop:=
 ∀(pins:on (JI×Obj)) (s:JH) (σ:St) (H:Hp) (vs:on V) (us:on JG) (Q:St->Hp->Prop),Inv X pins σ H s->Vals vs us->t vs σ H Q ->
  wpAny Kb X.A (assignInOrder ((assignEach ts X.env).map (·.2)) us) (λ _ s'=>∃σ' H',Inv X pins σ' H' s'/\Q σ' H') X.xe s
abbrev TSet:=V->V->V->Hp->(Hp->Prop)->Prop
def PSet(X:Cx)(t:TSet):Prop:=
 ∀(pins:on (JI×Obj)) (s:JH) (σ:St) (H:Hp) (o i v:V) (ov iv u:JG) (Q:Hp->Prop),Inv X pins σ H s->RelV o ov->RelV i iv->RelV v u->t o i v H Q ->
  wpAny Kb X.A (setItem ov iv u) (λ _ s'=>∃H',Inv X pins σ H' s'/\Q H') X.xe s
abbrev TIp:=V->V->Hp->VK->Prop
def PIp(X:Cx)(op:JV)(t:TIp):Prop:=
 ∀(pins:on (JI×Obj)) (s:JH) (σ:St) (H:Hp) (x y:V) (v u:JG) (Q:VK),Inv X pins σ H s->RelV x v->RelV y u->t x y H Q ->
  wpAny Kb X.A (inplaceOp op v u) (EP X pins σ Q) X.xe s
def cI(i:Nat):TG:=λ v σ H Q=>Q (σ.set i (some v)) H
def oe(e:X.N.Nodup)(c:X.N[i]? = some x)(b:Loc X.env.scope x)(d:X.fn x=true\/X.env.scope.names.lookup x=some .local:=by first | exact .inl rfl | exact .inr rfl | assumption):PG X (.Name x pos) (cI i):=by
 intro a s σ H v u Q I r h;exact wpAny_assign_Name (fx I e c b r (λ s' f=>⟨_,H,f,h⟩) d)
def gNil:TGs:=λ vs σ H Q=>vs=[]/\Q σ H
noncomputable def og(t:TG)(u:TGs):TGs:=λ vs σ H Q=>∃v r,vs=v::r/\t v σ H λ σ' H'=>u r σ' H' Q
def xJ:PGs X [] gNil:=by
 intro a s b H vs us Q I r h;obtain⟨e,h⟩:=h;subst e;cases r;exact assignInOrder_nil ⟨b,H,I,h⟩
def xK(j:PG X e t)(i:PGs X es u)
  (g:(assignEach (e::es) X.env).map (·.2)=assign e X.env::(assignEach es X.env).map (·.2):=by rfl):PGs X (e::es) (og t u):=by
 intro a s c H vs us Q I r h;obtain⟨v,vr,k,h⟩:=h;subst k;cases r with
 | cons r d=>
  rw[g];refine assignInOrder_cons (thn (j a s c H _ _ _ I r h) λ _ s1 t0=>?_);obtain⟨b,m,l,f⟩:=t0;exact i a s1 b m _ _ Q l d f
noncomputable def gTup(K:JQ)(n:Nat)(t:TGs):TG:=λ v σ H Q=>∃a xs,v=.ref a/\SqT K H a xs/\xs.length=n/\t xs σ H Q
def oh(x:X.calm=true)(h:PGs X es t)
  (q:(assignEach es X.env).length=n:=by rfl) (f:(assignEach es X.env).findIdx? (·.1)=none:=by rfl):PG X (.Tuple es k pos) (gTup X.K n t):=by
 intro c s i H v u Q I r d;obtain⟨a,j,y,p,w,d⟩:=d;subst y;cases r;obtain⟨l,g,ht,hz⟩:=I.tuple p;refine assign_Tuple_tuple (I.ok.hd x) ht (by simp[q,←w,g.length]) f λ h' m=>?_
 exact h c _ i H j _ Q (I.kept λ b o e=>m b o (q5 (k7 e)) e) (by simpa using g) d
noncomputable def gSub(to ti:TE)(t:TSet):TG:=λ v σ H Q=>to σ H λ o H1=>ti σ H1 λ i H2=>t o i v H2 λ H3=>Q σ H3
def xL(m:PE X o d)(n:PE X i e)(l:PSet X t)
  (p:∀v,assign (.Subscript o i pos) X.env v=(do
   let ov ←holding [v] (eval o X.env)
   let b ←holding [v,ov] (eval i X.env)
   standAt pos
   holding [v,ov,b] (setItem ov b v)
   release [v,ov,b] []):=by intro _;rfl):PG X (.Subscript o i pos) (gSub d e t):=by
 intro a s c H v u Q I r h;rw[p];refine f0 (C5 (thn (m a s c H _ I h) λ ov s1 t0=>?_));obtain⟨x,C,z,r1,k⟩:=t0;refine f0 (C5 (thn (n a s1 c C _ z k) λ b s2 t0=>?_));obtain⟨y,B,w,f,j⟩:=t0;refine f0 (cr (f0 (C5 (thn (l a s2 c B x y v ov b u _ w r1 f r j) λ _ s3 t0=>?_))));obtain⟨A,q,g⟩:=t0;exact wpAny_release ⟨c,A,q,g⟩
noncomputable def tAsg(te:TE)(g:TG):TS:=λ D σ H=>te σ H λ x H1=>g x σ H1 D.nx
def oj(j:PE X e c)(i:PG X tg g)(f:swapsWithSole [tg] e pos.line X.env=pure false:=by rfl)(hw:swappedStores [tg] e X.env=pure none:=by rfl)
  (k:(assignEach [tg] X.env).map (·.2)=[assign tg X.env]:=by rfl):PS X (.Assign [tg] e pos) (tAsg c g):=by
 intro a s b H D I h;refine wpAny_Assign_stores (thn (j a s b H _ I h) λ v s1 ⟨x,m,l,r1,d⟩=>?_) f hw;rw[k];exact thn (i a s1 b m x v _ l r1 d) λ _ s2 q=>q
def ol(m:X.N.Nodup)(j:X.N[i]? = some x)(f:Loc X.env.scope x)(l:PE X e b)(g:swapsWith e (some (.Name x pos')) pos.line X.env=pure false:=by rfl)(k:X.fn x=true\/X.env.scope.names.lookup x=some .local:=by first | exact .inl rfl | exact .inr rfl | assumption) :
  PS X (.Assign [.Name x pos'] e pos) (tAsg b (cI i)):=by
 intro a s c H D I h;refine wpAny_Assign_Name (thn (l a s c H _ I h) λ v s1 ⟨y,p,o,r1,d⟩=>?_) g;exact fx o m j f r1 (λ s2 n=>⟨_,p,n,d⟩) k
noncomputable def tAug(i:Nat)(te:TE)(ti:TIp):TS:=λ D σ H=>∃x,σ[i]? = some (some x)/\te σ H λ y H1=>ti x y H1 λ z H2=>D.nx (σ.set i (some z)) H2
def xM(O:X.N.Nodup)(q:X.N[i]? = some x)(j:Loc X.env.scope x)(N:PE X e p)(F:PIp X op o)(M:X.fn x=true\/X.env.scope.names.lookup x=some .local:=by first | exact .inl rfl | exact .inr rfl | assumption) :
  PS X (.AugAssign (.Name x pos') op e pos) (tAug i p o):=by
 intro a s n H D I h;obtain⟨v,P,h⟩:=h;obtain⟨m,J,L⟩:=I.loc;have g:Vis X.env.scope x:=by rcases j with k | k;exact .inl k;exact .inr (.inl k)
 obtain⟨u,r,l⟩:=L i x v q P g;refine wpAny_AugAssign_Name ?_;have A:wpAny Kb X.A (eval e X.env) (λ w f=>wpAny Kb X.A (inplaceOp op u w) (λ r d=>wpAny Kb X.A (storeName X.env x r) (λ _=>SP X a D .next) X.xe d) X.xe f) X.xe s:=by refine thn (N a s n H _ I h) λ w s1 t0=>?_;obtain⟨y,W,S,r1,E⟩:=t0;refine thn (F a s1 n W v y u w _ S r r1 E) λ z s2 t0=>?_;obtain⟨zv,U,R,B,C⟩:=t0;exact fx R O q j B (λ s3 Q=>⟨_,U,Q,C⟩) M
 rcases l with⟨b,K⟩ | ⟨b,c,hc,hcell⟩
 ·exact wpAny_loadName_local I.ok.kind b J K A
 ·rcases b with b | b
  ·exact iq I.ok.kind b hc hcell A
  ·rcases j with k | k
   ·have:X.env.scope.names.lookup x=some .free:=b;rw[k]at this;cases this
   ·have:X.env.scope.names.lookup x=some .free:=b;rw[k]at this;cases this
noncomputable def ipI(f:Int->Int->Int):TIp:=λ x y H Q=>∃i j,x=.int i/\y=.int j/\Q (.int (f i j)) H
def xN:PIp X .Add (ipI λ i j=>i+j):=by
 intro a s σ H x y v u Q I r1 b h;obtain⟨i,j,d,c,q⟩:=h;subst d;subst c;obtain⟨t,rfl⟩:=r1;obtain⟨t',rfl⟩:=b;exact iadd_int ⟨.int _,H,I.tok _,⟨_,rfl⟩,q⟩
noncomputable def xO(c:TT)(tb:TS):TS:=λ D σ H=>∃W:Nat->St->Hp->Prop,(∃m,W m σ H)/\∀m σ H,W m σ H ->
 c σ H λ b H1=>if b=true then ∃N:St->Hp->Prop,(∀σ' H',N σ' H'->∃m',m'<m/\W m' σ' H')/\tb {D with nx:=N,ct:=N,bk:=D.nx} σ H1 else D.nx σ H1
def xP(w:PassesOwn Kb X.A X.env X.xe)(J:PT X c r)(K:PSs X body u):PS X (.While c body [] pos) (xO r u):=by
 intro d s B H D I h;obtain⟨W,⟨F,C⟩,g⟩:=h;refine wpAny_While (codeAny_whileLoop (λ n E=>∃e A,Inv X d e A E/\W n e A) ?_ F ⟨B,H,I,C⟩)
 rintro n s1 ⟨σ1,H1,I1,w1⟩
 refine Y0 w (thn (J d s1 σ1 H1 _ I1 (g n σ1 H1 w1)) λ b s2 t0=>?_);obtain⟨z,y,k⟩:=t0;cases b with
 | true=>
  obtain⟨N,x,k⟩:=k;rw[f8 rfl];refine Y0 w (thn (K d s2 σ1 z _ y k) λ f s3 j=>?_);cases f with
  | next=>
   obtain⟨a,i,q,m⟩:=j;obtain⟨o,p,l⟩:=x a i m;exact⟨o,p,a,i,q,l⟩
  | cont=>
   obtain⟨a,i,q,m⟩:=j;obtain⟨o,p,l⟩:=x a i m;exact⟨o,p,a,i,q,l⟩
  | brk=>exact j
  | ret v=>exact j
 | false=>
  rw[g8 z7];exact iN ⟨σ1,z,y,k⟩
structure It where
 go:Nat->Hp->Prop
 yld:Nat->Hp->V->Hp->Prop
 stop:Nat->Hp->Prop
def FpOk(X:Cx)(pins:on (JI×Obj))(H:Hp)(b:JI):Prop:=
 H b=none/\b≠X.env.locals/\b∉X.fs/\(b∈X.ex\/X.s₀.heap.objs.size<=b)/\(∀x c,X.env.cells.lookup x=some c->c≠b)/\∀p∈X.pn++pins,p.1≠b
def Inv.fpOk(I:Inv X a σ H s)(d:s.heap.objs.size<=b)(h:f b=none):FpOk X a f b:=by
 refine⟨h,R5 (t6 I.lt d),I.nofs d,.inr (i9 I.sz d),λ x c e z=>?_,λ p g z=>?_⟩
 ·obtain⟨v,q⟩:=I.cell x c e;exact absurd (t6 q.lt (by rw[z];exact d)) (D6 _)
 ·exact absurd (t6 (k7 (I.pin p g).1) (by rw[z];exact d)) (D6 _)
structure Turn(P:Program)(w:World)(K:PySem.W.Frag)(tg:Expr)(J:It)(fp:List Addr)(it:Addr)(tn:Nat->Heap->Prop):Prop where
 mem:it∈fp
 obj:∀i h,tn i h->∀b∈fp,∃o,h.get? b=some o/\∀v,o.data ≠ .cell v
 keep:∀i h h',tn i h->(∀b∈fp,∀o,h.get? b=some o->h'.get? b=some o)->tn i h'
 item:∀(X:Cx),X.prog=P->X.w=w->X.K=K->X.calm=true->∀(i:Nat) (pins:List (Addr×Obj)) (s:Shared) (σ:St) (H:Hp) (E:Value->Shared->Prop),Inv X pins σ H s->(∀b∈fp,FpOk X pins H b)->tn i s.heap->J.go i H ->
  wpAny (model P w) X.A (pyNext (.ref it)) (λ r s1=>∃u,r=some u /\
   wpAny (model P w) X.A (letOwnedTupleGo tg (.ref it) u) (λ _ s2=>∃x H',Inv X pins σ H' s2/\RelV x u/\J.yld i H x H'/\tn (i+1) s2.heap/\∀b∈fp,H' b=none) E s1) E s
 done:∀(X:Cx),X.prog=P->X.w=w->X.K=K->X.calm=true->∀(i:Nat) (pins:List (Addr×Obj)) (s:Shared) (σ:St) (H:Hp) (E:Value->Shared->Prop),Inv X pins σ H s->(∀b∈fp,FpOk X pins H b)->tn i s.heap->J.stop i H ->
  wpAny (model P w) X.A (pyNext (.ref it)) (λ r s1=>r=none/\Inv X pins σ H s1) E s
 self:∀(A:Around) (i:Nat) (s:Shared) (Q:Value->Shared->Prop) (E:Value->Shared->Prop),tn i s.heap->Q (.ref it) s->wpAny (model P w) A (pyIter (.ref it)) Q E s
abbrev TI:=St->Hp->(It->Hp->Prop)->Prop
def PIE(X:Cx)(pins:on (JI×Obj))(σ:St)(tg:JK)(R:It->Hp->Prop)(itv:JG)(s2:JH):Prop:=
 ∃(it:JI) (fp:on JI) (tn:Nat->JJ->Prop) (J:It) (H':Hp),itv=.ref it/\Inv X pins σ H' s2/\Turn X.prog X.w X.K tg J fp it tn/\tn 0 s2.heap/\(∀b∈fp,FpOk X pins H' b)/\R J H'
def PI(X:Cx)(tg iter:JK)(wi:TI):Prop:=
 ∀(pins:on (JI×Obj)) (s:JH) (σ:St) (H:Hp) (R:It->Hp->Prop),Inv X pins σ H s->wi σ H R ->
  wpAny Kb X.A (eval iter X.env) (λ v s1=>wpAny Kb X.A (pyIter v) (PIE X pins σ tg R) X.xe s1) X.xe s
def jo(b:s.heap.get? it=some o)(d:o.cls=.type n)(hd:o.data=.fields vs)
    (c : ["enumerate","zip","dict_itemiterator","dict_reverseitemiterator","odict_iterator","itertools.zip_longest","itertools.pairwise"].contains n=false) (a:Q () s):wpAny M A (letOwnedTupleGo tg (.ref it) u) Q E s:=by
  unfold letOwnedTupleGo;cases tg<;>first
    | exact f9 a
    | (cases u<;>first
        | exact f9 a
        | (refine f0 (wpAny_load b ?_)
           rw[d,hd];show wpAny M A (if(["enumerate","zip","dict_itemiterator","dict_reverseitemiterator","odict_iterator","itertools.zip_longest","itertools.pairwise"].contains n&&vs[0]? == some _)=true then _ else _) Q E s;rw[g8 (by intro h;rw[c,eX]at h;cases h)];exact f9 a))
noncomputable def Itl(K:JQ)(a:JI):It:=
 ⟨λ i H=>∃xs x,SqL K H a xs/\xs[i]? = some x,λ i H x H'=>H'=H/\∀xs,SqL K H a xs->xs[i]? = some x,λ i H=>∃xs,SqL K H a xs/\xs.length<=i⟩
noncomputable def Itt(K:JQ)(a:JI):It:=
 ⟨λ i H=>∃xs x,SqT K H a xs/\xs[i]? = some x,λ i H x H'=>H'=H/\∀xs,SqT K H a xs->xs[i]? = some x,λ i H=>∃xs,SqT K H a xs/\xs.length<=i⟩
noncomputable def Itr(lo:Int)(n:Nat):It:=⟨λ i _=>i<n,λ i H x H'=>H'=H/\x=.int (lo+i),λ i _=>n<=i⟩
def xQ{K:JQ}(a it:JI):Turn P w K tg (Itl K a) [it] it (λ i h=>h.IsListIter it a i) where
 mem:=by simp
 obj:=λ i h f b g=>by
  have e:b=it:=by simpa using g
  subst e;obtain⟨o,e,c,d⟩:=f;exact⟨o,e,λ v z=>by rw[d]at z;cases z⟩
 keep:=λ i h R f k=>f.at λ o e=>k it (by simp) o e
 item:=by
  intro X C A F Q i l s S H E I n f B;subst C A F;obtain⟨U,x,m,y⟩:=B;obtain⟨r,q,p,Z⟩:=I.list m;obtain⟨u,hu,Y⟩:=q.get y;obtain⟨O,N,f2,M,L,J⟩:=n it (by simp);refine nF f p.isList (by simpa using hu) λ R j W=>?_
  obtain⟨o,e,c,d⟩:=id j;exact⟨u,rfl,jo e c d JY ⟨x,H,(I.turned (λ b o g e=>(W.2 b g).trans e) O N M L J),Y,⟨rfl,λ ys hy=>by rw[I.list_inj hy m];exact y⟩,j,λ b g=>(n b g).1⟩⟩
 done:=by
  intro X C A F Q i l s S H E I n f B;subst C A F;obtain⟨U,m,y⟩:=B;obtain⟨r,q,p,Z⟩:=I.list m;obtain⟨O,N,f2,M,L,J⟩:=n it (by simp);have hl:=q.length;exact nQ (I.ok.hd Q) f p.isList (by simp;omega) λ R eb=>⟨rfl,I.turned (λ b o g e=>eb b o g e) O N M L J⟩
 self:=λ _ _ _ _ _ f h=>wpAny_pyIter_listiter f h
def xR{K:JQ}(a it:JI):Turn P w K tg (Itt K a) [it] it (λ i h=>h.IsTupleIter it a i) where
 mem:=by simp
 obj:=λ i h f b g=>by
  have e:b=it:=by simpa using g
  subst e;obtain⟨o,e,c,d⟩:=f;exact⟨o,e,λ v z=>by rw[d]at z;cases z⟩
 keep:=λ i h R f k=>f.at λ o e=>k it (by simp) o e
 item:=by
  intro X C A F Q i l s S H E I n f B;subst C A F;obtain⟨U,x,m,y⟩:=B;obtain⟨r,q,p,Z⟩:=I.tuple m;obtain⟨u,hu,Y⟩:=q.get y;obtain⟨O,N,f2,M,L,J⟩:=n it (by simp);refine wpAny_pyNext_tuple_item f (p) (by simpa using hu) λ R j W=>?_
  obtain⟨o,e,c,d⟩:=id j;exact⟨u,rfl,jo e c d JY ⟨x,H,(I.turned (λ b o g e=>(W.2 b g).trans e) O N M L J),Y,⟨rfl,λ ys hy=>by rw[I.tuple_inj hy m];exact y⟩,j,λ b g=>(n b g).1⟩⟩
 done:=by
  intro X C A F Q i l s S H E I n f B;subst C A F;obtain⟨U,m,y⟩:=B;obtain⟨r,q,p,Z⟩:=I.tuple m;obtain⟨O,N,f2,M,L,J⟩:=n it (by simp);have hl:=q.length;exact wpAny_pyNext_tuple_end (I.ok.hd Q) f (p) (by simp;omega) λ R eb=>⟨rfl,I.turned (λ b o g e=>eb b o g e) O N M L J⟩
 self:=λ _ _ _ _ _ f h=>wpAny_pyIter_tupleiter f h
def xS{K:JQ}(it:JI)(g:Int)(n:Nat):Turn P w K tg (Itr g n) [it] it (λ i h=>IsRangeIter h it (g+(i:Nat)*1) ((n:Int) - (i:Nat)) 1) where
 mem:=by simp
 obj:=λ i h a b c=>by
  have e:b=it:=by simpa using c
  subst e;exact⟨_,a,λ v z=>by
   have J:=z;cases J⟩
 keep:=λ i h C a k=>k it (by simp) _ a
 item:=by
  intro X q l r p i f s F H E I j a m;subst q l r;obtain⟨B,A,M,y,x,u⟩:=j it (by simp);refine (Walks.range (I.ok.hd p) it g 1 n).item i s _ _ m a λ v C tk hv d L=>?_
  obtain⟨t,rfl⟩:=hv;refine⟨_,rfl,jo d rfl rfl JY ⟨.int (g+i),H,(I.turned (λ b o c e=>L b o (by simpa using c) e) B A y x u),⟨t,?_⟩,⟨rfl,rfl⟩,d,λ b c=>(j b c).1⟩⟩;rw[Int.mul_one]
 done:=by
  intro X q l r p i f s F H E I j a m;subst q l r;obtain⟨B,A,M,y,x,u⟩:=j it (by simp);exact wpAny_pyNext_range_end (I.ok.hd p) a (by have:n<=i:=m;omega) λ C N=>⟨rfl,I.turned (λ b o c e=>N b o c e) B A y x u⟩
 self:=λ _ _ _ _ _ a h=>wpAny_pyIter_rangeiter a h
end L2
namespace L2
open PySem PySem.Spec PyProof.Rows
def xT(K:JQ)(tl:TE):TI:=λ σ H R=>tl σ H λ x H1=>∃a,x=.ref a/\(∃xs,SqL K H1 a xs)/\R (Itl K a) H1
def iTup(K:JQ)(tl:TE):TI:=λ σ H R=>tl σ H λ x H1=>∃a,x=.ref a/\(∃xs,SqT K H1 a xs)/\R (Itt K a) H1
def ow(m:PE X l f):PI X tg l (xT X.K f):=by
 intro c s g H R I h;refine thn (m c s g H _ I h) λ v s1 t0=>?_;obtain⟨x,r,d,r1,i⟩:=t0
 obtain⟨a,e,⟨xs,k⟩,q⟩:=i;subst e;cases r1;obtain⟨j,rv,p,hz⟩:=d.list k;refine bZ p.isList ?_;refine⟨s1.heap.objs.size,[s1.heap.objs.size],_,_,r,rfl,d.kept λ b o e=>k6 _ e,xQ a _,⟨_,p8 _ rfl,rfl,rfl⟩,λ b n=>?_,q⟩;have e:b=s1.heap.objs.size:=by simpa using n
 subst e;exact d.fpOk (i6 _) (d.hok.fresh (i6 _))
def xU(m:PE X l f):PI X tg l (iTup X.K f):=by
 intro c s g H R I h;refine thn (m c s g H _ I h) λ v s1 t0=>?_;obtain⟨x,r,d,r1,i⟩:=t0
 obtain⟨a,e,⟨xs,k⟩,q⟩:=i;subst e;cases r1;obtain⟨j,rv,p,hz⟩:=d.tuple k;refine bV (p) ?_;refine⟨s1.heap.objs.size,[s1.heap.objs.size],_,_,r,rfl,d.kept λ b o e=>k6 _ e,xR a _,⟨_,p8 _ rfl,rfl,rfl⟩,λ b n=>?_,q⟩;have e:b=s1.heap.objs.size:=by simpa using n
 subst e;exact d.fpOk (i6 _) (d.hok.fresh (i6 _))
def ox(I:Inv X c σ H s)(k : -(2^62)<=a)(j:a<2^62)(i : -(2^62)<=d)(h:d<2^62)
  (q:R (Itr a (d - a).toNat) H):wpAny Kb X.A (pyIter (.ref s.heap.objs.size)) (PIE X c σ tg R) E {s with heap:=s.heap.push {cls:=.type "range",data:=.fields #[.int a t,.int d u,.int 1 v]},toks:=tk}:=by
 refine wpAny_pyIter_range (IsRange.new ..) (small_one k j i h) ?_;have f:Inv X c σ H {s with heap:=s.heap.push {cls:=.type "range",data:=.fields #[.int a t,.int d u,.int 1 v]},toks:=tk}:=I.kept λ b o e=>k6 _ e;refine⟨(s.heap.push {cls:=.type "range",data:=.fields #[.int a t,.int d u,.int 1 v]}).objs.size,[(s.heap.push {cls:=.type "range",data:=.fields #[.int a t,.int d u,.int 1 v]}).objs.size],_,_,H,rfl,
  f.kept λ b o e=>k6 _ e,xS _ a (d - a).toNat,?_,λ b g=>?_,q⟩
 ·have m:a+((0:Nat):Int)*1=a:=by simp
  have l:(((d - a).toNat:Nat):Int) - ((0:Nat):Int)=Builtin.Range.rangeSize a d 1:=by rw[rangeSize_one];split<;>omega
  show IsRangeIter _ _ _ _ 1;rw[m,l];exact p8 _ rfl
 ·have e:b=(s.heap.push {cls:=.type "range",data:=.fields #[.int a t,.int d u,.int 1 v]}).objs.size:=by simpa using g
  subst e;exact f.fpOk (i6 _) (f.hok.fresh (i6 _))
def xV(ta:TA):TI:=λ σ H R=>ta σ H λ vs H1=>∃j:Int,vs=[.int j] /\ -(2^62)<=j/\j<2^62/\R (Itr 0 j.toNat) H1
def xW(ta:TA):TI:=λ σ H R=>ta σ H λ vs H1=>∃i j:Int,vs=[.int i,.int j]/\(-(2^62)<=i/\i<2^62 /\ -(2^62)<=j/\j<2^62)/\R (Itr i (j - i).toNat) H1
def xX(m:Gl X "range")(l:X.mg "range" = none)(n:PA X [a] d)(k:starEach [a] X.env=[(false,eval a X.env)]:=by rfl):PI X tg (.Call (.Name "range" p) [a] [] pos) (xV d):=by
 intro b s f H R I h;refine Call_ (Z0 I m l boot_range (eg (thn (n pos b s f H _ I h) λ us s1 ⟨vs,H1,o,r1,c⟩=>?_) k rfl));obtain⟨j,e,c,i,q⟩:=c;subst e;cases r1 with
 | cons r g=>
  cases g;obtain⟨t,rfl⟩:=r;exact call_range_1 (ox o JX JX c i (by simpa using q))
def xY(x:Gl X "range")(w:X.mg "range" = none)(y:PA X [a,b] k)(v:starEach [a,b] X.env=[(false,eval a X.env),(false,eval b X.env)]:=by rfl)(d:starEach [b] X.env=[(false,eval b X.env)]:=by rfl) :
  PI X tg (.Call (.Name "range" p) [a,b] [] pos) (xW k):=by
 intro c s l H R I h;refine Call_ (Z0 I x w boot_range (eg (thn (y pos c s l H _ I h) λ us s1 ⟨vs,H1,z,r1,g⟩=>?_) (by rw[v,d]) (by rw[d];rfl)));obtain⟨i,j,e,⟨g,u,o,n⟩,q⟩:=g;subst e;cases r1 with
 | cons r f=>
  cases f with
  | cons m f=>
   cases f;obtain⟨t,rfl⟩:=r;obtain⟨t',rfl⟩:=m;exact call_range_2 (ox z g u o n q)
noncomputable def tFor(wi:TI)(g:TG)(tb:TS):TS:=λ D σ H=>wi σ H λ J H1=>∃W:Nat->Nat->St->Hp->Prop,(∃m,W 0 m σ H1)/\∀i m σ H,W i m σ H ->
 (J.stop i H/\D.nx σ H)\/(J.go i H/\∃N:St->Hp->Prop,(∀σ' H',N σ' H'->∃m',m'<m/\W (i+1) m' σ' H')/\∀x H',J.yld i H x H'->g x σ H' λ σ2 H2=>tb {D with nx:=N,ct:=N,bk:=D.nx} σ2 H2)
noncomputable def fA(fp:on JI)(h:JJ):on (JI×Obj):=fp.filterMap λ b=>(h.get? b).map λ o=>(b,o)
def U4(a:b∈fp)(e:h.get? b=some o):(b,o)∈fA fp h:=bX.mpr ⟨b,a,by rw[e];rfl⟩
def xZ(a:p∈fA fp h):p.1∈fp/\h.get? p.1=some p.2:=by
 obtain⟨b,c,e⟩:=bX.mp a;cases q:h.get? b with
 | none=>rw[q]at e;cases e
 | some o=>
  rw[q]at e;have d:=A8 e;subst d;exact⟨c,q⟩
def Inv.pinned(I:Inv X a σ H s)(i:∀b∈fp,FpOk X a H b)(h:∀b∈fp,∃o,s.heap.get? b=some o/\∀v,o.data ≠ .cell v):Inv X (a++fA fp s.heap) σ H s:=
 I.pins_of λ p g=>(C7.mp g).elim (λ z=>I.pin p (u4 _ z)) λ z=>by obtain⟨c,e⟩:=xZ z;obtain⟨l,k,j,_⟩:=i p.1 c;obtain⟨o,f,d⟩:=h p.1 c;rw[e]at f;cases f;exact⟨e,l,k,j,d⟩
def Inv.unpinned(I:Inv X (a++b) σ H s):Inv X a σ H s:=I.pins_of λ p c=>I.pin p (u4 _ (B4 _ c))
def ya(K:PassesOwn Kb X.A X.env X.xe)(hc:X.calm=true)(hi:PI X tg l Y)(hg:PG X tg g)(p:PSs X body tb)
  (hs:∀x,foldedSetIterable l X.env x=pure x:=by intro _;rfl):PS X (.For tg l body [] pos) (tFor Y g tb):=by
 intro c s U H D I h;refine wpAny_For (thn (hi c s U H _ I h) λ v s1 h1=>thn h1 λ itv s2 h2=>?_) hs;obtain⟨it,L,Z,J,H2,e,I2,T,O,f2,W,⟨m0,w0⟩,C⟩:=h2;subst e;have k:∀{z:Hp},(∀b∈L,z b=none)->∀b∈L,FpOk X c z b:=λ hn b p=>⟨hn b p,(f2 b p).2⟩
 refine codeAny_forLoop_any (λ n s'=>∃i j z,Inv X c j z s'/\Z i s'.heap/\(∀b∈L,z b=none)/\W i n j z) ?_ m0 ⟨0,U,H2,I2,O,λ b p=>(f2 b p).1,w0⟩
 rintro n s3 ⟨i,σ3,H3,I3,st3,fr3,w3⟩
 rcases C i n σ3 H3 w3 with⟨E,qn⟩ | ⟨go,N,hN,step⟩
 ·refine Y0 K (thn (T.done X rfl rfl rfl hc i c s3 σ3 H3 X.xe I3 (k fr3) st3 E) λ r s4 t0=>?_);obtain⟨Q,I4⟩:=t0;subst Q;exact iN ⟨σ3,H3,I4,qn⟩
 ·refine Y0 K (thn (T.item X rfl rfl rfl hc i c s3 σ3 H3 X.xe I3 (k fr3) st3 go) λ r s4 t0=>?_);obtain⟨u,Q,h4⟩:=t0;subst Q;refine Y0 K (thn h4 λ _ s5 t0=>?_);obtain⟨x,H5,I5,r5,y5,B,R⟩:=t0;have S:=I5.pinned (k R) (T.obj _ _ B);refine Y0 K (thn (hg _ s5 σ3 H5 x u _ S r5 (step x H5 y5)) λ _ s6 t0=>?_);obtain⟨M,H6,I6,q6⟩:=t0;refine Y0 K (thn (p _ s6 M H6 _ I6 q6) λ f P A=>?_);have q:∀{a:St} {y:Hp},Inv X _ a y P->N a y->∃m,m<n/\∃i j z,Inv X c j z P/\Z i P.heap/\(∀b∈L,z b=none)/\W i m j z:=λ {a y} w F=>by obtain⟨m',hm,w7⟩:=hN a y F;refine⟨m',hm,i+1,a,y,w.unpinned,T.keep _ _ _ B λ b p o e=>(w.pin (b,o) (u4 _ (u4 _ (U4 p e)))).1,λ b p=>?_,w7⟩;obtain⟨o,e,d⟩:=T.obj _ _ B b p;exact(w.pin (b,o) (u4 _ (u4 _ (U4 p e)))).2.1
  cases f with
  | next=>obtain⟨a,y,w,F⟩:=A;exact q w F
  | cont=>obtain⟨a,y,w,F⟩:=A;exact q w F
  | brk=>obtain⟨a,y,w,A⟩:=A;exact⟨a,y,w.unpinned,A⟩
  | ret v=>obtain⟨x7,a,y,w,r7,A⟩:=A;exact⟨x7,a,y,w.unpinned,r7,A⟩
end L2
namespace L2
open PySem PySem.Spec PyProof.Rows
abbrev R2:=V->V->Hp->VK->Prop
def OpR(X:Cx)(f:JG->JG->Sem JG)(r:R2):Prop:=
 ∀(pins:on (JI×Obj)) (s:JH) (σ:St) (H:Hp) (x y:V) (v u:JG) (Q:VK),Inv X pins σ H s->RelV x v->RelV y u->r x y H Q ->
  wpAny Kb X.A (f v u) (EP X pins σ Q) X.xe s
def UnR(X:Cx)(f:JG->Sem JG)(r:V->Hp->VK->Prop):Prop:=
 ∀(pins:on (JI×Obj)) (s:JH) (σ:St) (H:Hp) (x:V) (v:JG) (Q:VK),Inv X pins σ H s->RelV x v->r x H Q ->
  wpAny Kb X.A (f v) (EP X pins σ Q) X.xe s
def z9(X:Cx)(f:JG)(r:on V->Hp->VK->Prop):Prop:=
 ∀(pins:on (JI×Obj)) (s:JH) (σ:St) (H:Hp) (xs:on V) (us:on JG) (Q:VK),Inv X pins σ H s->Vals xs us->r xs H Q ->
  wpAny Kb X.A (call f us) (EP X pins σ Q) X.xe s
def TruR(X:Cx)(r:V->Hp->(Bool->Hp->Prop)->Prop):Prop:=
 ∀(pins:on (JI×Obj)) (s:JH) (σ:St) (H:Hp) (x:V) (v:JG) (Q:Bool->Hp->Prop),Inv X pins σ H s->RelV x v->r x H Q ->
  wpAny Kb X.A (truthy v) (TP X pins σ Q) X.xe s
noncomputable def tOp(r:R2)(ta tb:TE):TE:=λ σ H Q=>ta σ H λ x H1=>tb σ H1 λ y H2=>r x y H2 Q
noncomputable def tUn(r:V->Hp->VK->Prop)(ta:TE):TE:=λ σ H Q=>ta σ H λ x H1=>r x H1 Q
noncomputable def rI(C:Int->Int->Prop)(g:Int->Int->V):R2:=λ x y H Q=>∃i j,x=.int i/\y=.int j/\C i j/\Q (g i j) H
noncomputable def rI0(g:Int->Int->V):R2:=λ x y H Q=>∃i j,x=.int i/\y=.int j/\Q (g i j) H
noncomputable def rU(g:Int->V):V->Hp->VK->Prop:=λ x H Q=>∃i,x=.int i/\Q (g i) H
def binT(q:PE X a k)(p:PE X b j){R:V->V->Hp->Prop}(I:Inv X c σ H s)
  (h:k σ H λ x i=>j σ i λ y d=>R x y d)  {f:JG->JG->Sem JG}
  (o:∀v u s2 x y d,Inv X c σ d s2->RelV x v->RelV y u->R x y d->wpAny Kb X.A (f v u) Q X.xe s2) :
  wpAny Kb X.A (eval a X.env) (λ v g=>wpAny Kb X.A (eval b X.env) (λ u e=>wpAny Kb X.A (f v u) Q X.xe e) X.xe g) X.xe s:=by
 refine thn (q c s σ H _ I h) λ v s1 t0=>?_;obtain⟨x,i,w,r1,n⟩:=t0;refine thn (p c s1 σ i _ w n) λ u s2 t0=>?_;obtain⟨y,d,r,l,m⟩:=t0;exact o v u s2 x y d r r1 l m
def yb(j:OpR X (binaryOp op) r)(l:PE X a e)(k:PE X b d):PE X (.BinOp a op b pos) (tOp r e d):=by
 intro c s f H Q I h;exact wpAny_BinOp (binT l k I h λ v u s2 x y n m i g q=>j c s2 f n x y v u Q m i g q)
def yc(f:UnR X (unaryOp op) r)(g:PE X a d):PE X (.UnaryOp op a pos) (tUn r d):=by
 intro b s c H Q I h;exact UnaryOp_ (thn (g b s c H _ I h) λ v s1 ⟨x,j,i,r1,e⟩=>f b s1 c j x v Q i r1 e)
def opI{g:Int->Int->Int}
  (a:∀(i j:Int) (t u:Tok) (s:JH) (Q:JG->JH->Prop) (E:JG->JH->Prop),C i j->Q (.int (g i j) s.toks) {s with toks:=s.toks+1} -> wpAny Kb X.A (f (.int i t) (.int j u)) Q E s) :
  OpR X f (rI C λ i j=>.int (g i j)):=by
 intro b s σ H x y v u Q I e d h;obtain⟨i,j,rfl,rfl,k,q⟩:=h;obtain⟨t,rfl⟩:=e;obtain⟨c,rfl⟩:=d;exact a i j t c s _ _ k ⟨.int _,H,I.tok _,⟨_,rfl⟩,q⟩
def opI0{g:Int->Int->Int}
  (a:∀(i j:Int) (t u:Tok) (s:JH) (Q:JG->JH->Prop) (E:JG->JH->Prop),Q (.int (g i j) s.toks) {s with toks:=s.toks+1} -> wpAny Kb X.A (f (.int i t) (.int j u)) Q E s) :
  OpR X f (rI0 λ i j=>.int (g i j)):=by
 intro b s σ H x y v u Q I e d h;obtain⟨i,j,rfl,rfl,q⟩:=h;obtain⟨t,rfl⟩:=e;obtain⟨c,rfl⟩:=d;exact a i j t c s _ _ ⟨.int _,H,I.tok _,⟨_,rfl⟩,q⟩
def opB0{g:Int->Int->Bool}
  (a:∀(i j:Int) (t u:Tok) (s:JH) (Q:JG->JH->Prop) (E:JG->JH->Prop),Q (.bool (g i j)) s->wpAny Kb X.A (f (.int i t) (.int j u)) Q E s) :
  OpR X f (rI0 λ i j=>.bl (g i j)):=by
 intro b s σ H x y v u Q I e d h;obtain⟨i,j,rfl,rfl,q⟩:=h;obtain⟨t,rfl⟩:=e;obtain⟨c,rfl⟩:=d;exact a i j t c s _ _ ⟨.bl _,H,I,rfl,q⟩
def CPow(i j:Int):Prop:=0<=j/\j<=1000000/\i.natAbs<2^64
def CMul(i j:Int):Prop:=(-(2^64)<i/\i<2^64)\/(-(2^64)<j/\j<2^64)
def CMul.ok(h:CMul i j):IntMulOk i j:=by
 rcases h with⟨b,a⟩ | ⟨b,a⟩
 ·exact .of_left (intBits_le_64 b a)
 ·exact .of_right (intBits_le_64 b a)
def yd(k:Nat):(0:Int)<=2^k:=by
 rw[two_pow_cast];exact C2 _
def ye:OpR X (binaryOp .Add) (rI0 λ i j=>.int (i+j)):=opI0 λ _ _ _ _ _ _ _ q=>add_int q
def yf:OpR X (binaryOp .Sub) (rI0 λ i j=>.int (i - j)):=opI0 λ _ _ _ _ _ _ _ q=>sub_int q
def yg:OpR X (binaryOp .Mod) (rI (λ _ j=>0<j) λ i j=>.int (i%j)):=opI λ i j _ _ _ _ _ a q=>by
 have h1:=a;exact mod_int' JX (by rw[Int.fmod_eq_emod_of_nonneg i JX];exact q)
def yh:OpR X (binaryOp .Mod) (rI (λ _ j=>j≠0) λ i j=>.int (i.fmod j)):=opI λ _ _ _ _ _ _ _ a q=>mod_int' a q
def yi:OpR X (binaryOp .LShift) (rI CPow λ i j=>.int (i*2^j.toNat)):=opI λ _ _ _ _ _ _ _ a q=>lshift_int_small a.1 a.2.1 a.2.2 q
def yj:OpR X (binaryOp .RShift) (rI (λ _ j=>0<=j) λ i j=>.int (i/2^j.toNat)):=opI λ i j _ _ _ _ _ a q=>
 rshift_int a (by rw[ni i (yd _)];exact q)
def yk:OpR X (binaryOp .BitAnd) (rI0 λ i j=>.int (Builtin.bitAnd i j)):=opI0 λ _ _ _ _ _ _ _ q=>and_int q
def unI{g:Int->Int}
  (a:∀(i:Int) (t:Tok) (s:JH) (Q:JG->JH->Prop) (E:JG->JH->Prop),Q (.int (g i) s.toks) {s with toks:=s.toks+1} -> wpAny Kb X.A (f (.int i t)) Q E s) :
  UnR X f (rU λ i=>.int (g i)):=by
 intro b s σ H x v Q I c h;obtain⟨i,rfl,q⟩:=h;obtain⟨t,rfl⟩:=c;exact a i t s _ _ ⟨.int (g i),H,I.tok _,⟨_,rfl⟩,q⟩
def yl:UnR X (unaryOp .USub) (rU λ i=>.int (-i)):=unI λ _ _ _ _ _ q=>neg_int q
section
variable {X:Cx} {a b c:JK} {ta tb tc:TE} {pos:Pos}
def ym{a:on (JI×Obj)}{b:Bool}(I:Inv X a σ H s)(q:Q (.bl k) H)(e:k=b):EP X a σ Q (.bool b) s:=by
 subst e;exact⟨.bl k,H,I,rfl,q⟩
def yn:OpR X (compareOp .Lt) (rI0 λ i j=>.bl (decide (i<j))):=opB0 λ _ _ _ _ _ _ _ q=>lt_int q
def yp:OpR X (compareOp .LtE) (rI0 λ i j=>.bl (decide (i<=j))):=opB0 λ _ _ _ _ _ _ _ q=>le_int q
def yq:OpR X (compareOp .Gt) (rI0 λ i j=>.bl (decide (j<i))):=opB0 λ _ _ _ _ _ _ _ q=>gt_int q
def yt:OpR X (compareOp .GtE) (rI0 λ i j=>.bl (decide (j<=i))):=opB0 λ _ _ _ _ _ _ _ q=>ge_int q
def yu:OpR X (compareOp .Is) (λ x y H Q=>y=.non/\Q (.bl (decide (x=.non))) H):=by
 intro b s σ H x y v u Q I a c h;obtain⟨rfl,q⟩:=h;cases c;refine is_none_gen (ym I q ?_);cases x<;>first
  | (cases a;rfl)
  | (obtain⟨t,rfl⟩:=a;rfl)
def OpR.or(h:OpR X f r)(h':OpR X f e):OpR X f (λ x y H Q=>r x y H Q\/e x y H Q):=by
 intro a s b H x y v u Q I d c q;rcases q with q | q
 ·exact h a s b H x y v u Q I d c q
 ·exact h' a s b H x y v u Q I d c q
def yv(g:OpR X (compareOp op) r)(k:PE X a ta)(j:PE X b tb)(i:behindInMarks op b=false):PE X (.Compare a [op] [b] pos) (tOp r ta tb):=by
 intro c s d H Q I h;exact wpAny_Compare1 (binT k j I h λ v u s2 x y m l f e q=>g c s2 d m x y v u Q l f e q) i
noncomputable def oy(t:TE):TT:=λ σ H Q=>t σ H λ x H'=>∃k,x=.bl k/\Q k H'
def yw(n:OpR X (compareOp op) r)(q:PE X a ta)(p:PE X b tb)(o:behindInMarks op b=false):PT X (.Compare a [op] [b] pos) (oy (tOp r ta tb)):=by
 intro d s f H Q I h;refine wpAny_isTrue_Compare1 (thn (q d s f H _ I h) λ v s1 ⟨x,F,B,r1,m⟩=>thn (p d s1 f F _ B m) λ u s2 ⟨y,E,A,i,l⟩=>
  thn (n d s2 f E x y v u _ A r1 i l) λ c s3 ⟨z,C,w,g,k,e,j⟩=>?_) o
 subst e;cases g;exact X7 ⟨C,w,j⟩
noncomputable def jp(r r':R2)(ta tb tc:TE):TE:=λ σ H Q=>ta σ H λ x H1=>tb σ H1 λ y H2=>r x y H2 λ z H3=>∃k,z=.bl k /\
 (if k=true then tc σ H3 λ w' H4=>r' y w' H4 Q else Q (.bl false) H3)
def yx(L:OpR X (compareOp op) r)(j:OpR X (compareOp g) m)(P:PE X a ta)(O:PE X b tb)(N:PE X c tc)
  (M:lastMarks [op,g] [b,c]=false:=by with_unfolding_all rfl):PE X (.Compare a [op,g] [b,c] pos) (jp r m ta tb tc):=by
 intro f s i H Q I h;refine Compare_chain (thn (P f s i H _ I h) λ v s1 ⟨x,Z,U,r1,K⟩=>chain_link (thn (O f s1 i Z _ U K) λ u s2 ⟨y,Y,S,l,J⟩=>
  thn (L f s2 i Y x y v u _ S r1 l J) λ d B ⟨z,p,o,E,k,e,n⟩=>?_)) M
 subst e;cases E;refine X7 ?_;cases k with
 | false=>exact ite_ff ⟨.bl false,p,o,rfl,n⟩
 | true=>exact ite_tt (chain_last (thn (N f B i p _ o n) λ w A ⟨q,W,R,C,F⟩=>j f A i W y q u w Q R l C F))
def yy(O:OpR X (compareOp op) r)(j:OpR X (compareOp g) m)(U:PE X a ta)(S:PE X b tb)(R:PE X c tc)
  (P:lastMarks [op,g] [b,c]=false:=by with_unfolding_all rfl):PT X (.Compare a [op,g] [b,c] pos) (oy (jp r m ta tb tc)):=by
 intro f s i H Q I h;refine isTrue_chain (thn (U f s i H _ I h) λ v s1 ⟨x,H1,I1,r1,M⟩=>test_link (thn (S f s1 i H1 _ I1 M) λ u s2 ⟨y,H2,I2,l,L⟩=>
  thn (O f s2 i H2 x y v u _ I2 r1 l L) λ d B ⟨z,p,o,F,k,e,n⟩=>?_)) P
 subst e;cases F;refine X7 ?_;cases k with
 | false=>
  obtain⟨k',Y,N⟩:=n;cases Y;exact ite_ff ⟨p,o,N⟩
 | true=>
  refine ite_tt (test_last (thn (R f B i p _ o n) λ w A ⟨q,H4,I4,E,K⟩=>thn (j f A i H4 y q u w _ I4 l E K) λ d' s5 t0=>?_));obtain⟨z2,H5,Z,C,k2,W,J⟩:=t0;subst W;cases C;exact X7 ⟨H5,Z,J⟩
def TruV(K:JQ)(x:V)(H:Hp)(k:Bool):Prop:=
 match x with
 | .non=>k=false
 | .bl b=>k=b
 | .int i=>k=(i != 0)
 | .str y=>y.length<=sizeLine/\k=((y.length:Int) != 0)
 | .byt y=>y.size<=sizeLine/\k=((y.size:Int) != 0)
 | .ref p=>(∃xs,SqL K H p xs/\k = !xs.isEmpty)\/(∃xs,SqT K H p xs/\k = !xs.isEmpty)\/∃kvs,H p=some (.dK kvs)/\k = !kvs.isEmpty
 | _=>False
def yz{a:on (κ×V)}{vs:on (κ×JG)}(r:KV a vs):(!vs.isEmpty) = !a.isEmpty:=by
 cases r<;>rfl
def oz{a:on JG}(r:Vals xs a):(!a.toArray.isEmpty) = !xs.isEmpty:=by
 cases r<;>simp
def aT:(sizeLine:Nat)<2^63:=by rw[cC];decide
def fB:TruR X (λ x H Q=>∃k,TruV X.K x H k/\Q k H):=by
 intro A s σ H x v Q I j h;obtain⟨k,e,q⟩:=h;have hl:=aT;have hs:=cC;cases x with
 | non=>
  cases j;have c:=e;subst c;exact truthy_none ⟨H,I,q⟩
 | bl b=>
  cases j;have c:=e;subst c;exact X7 ⟨H,I,q⟩
 | int i=>
  obtain⟨t,rfl⟩:=j;have c:=e;subst c;exact PySem.P.truthy_int ⟨H,I,q⟩
 | str y=>
  obtain⟨t,rfl⟩:=j;obtain⟨E,c⟩:y.length<=sizeLine/\k=_:=e;subst c;exact PySem.P.truthy_str JX ⟨H,I.tok _,q⟩
 | byt y=>
  obtain⟨t,rfl⟩:=j;obtain⟨E,c⟩:y.size<=sizeLine/\k=_:=e;subst c;exact PySem.W.truthy_bytes JX ⟨H,I.tok _,q⟩
 | ref p=>
  cases j;have c:=e;rcases c with⟨C,n,c⟩ | ⟨C,n,c⟩ | ⟨l,n,c⟩
  ·subst c;obtain⟨z,r,w,B⟩:=I.list n;have g:=r.length;exact wpAny_truthy_list w.isList (by simp only[t8];omega) ⟨H,I.tok _,by rw[oz r];exact q⟩
  ·subst c;obtain⟨z,r,w,B⟩:=I.tuple n;have g:=r.length;exact truthy_tuple w (by simp only[t8];omega) ⟨H,I.tok _,by rw[oz r];exact q⟩
  ·subst c;obtain⟨B,F,u,r,m⟩:l.length<=sizeLine/\_=false/\∃u,KV l u/\s.heap.DictOf _ p u:=I.hok p _ n;have g:=fc r;exact wpAny_truthy_dict F m JX ⟨H,I.tok _,by rw[yz r];exact q⟩
 | _=>exact(e).elim
def yA(i:PE X a ta)(g:∀b,isTrue a X.env b=(do let v ←b;standAt a.pos;holding [v] (truthy v))) :
  PT X a (λ d H Q=>ta d H λ x e=>∃k,TruV X.K x e k/\Q k e):=by
 intro c s d H Q I h;exact isTrue_plain (thn (i c s d H _ I h) λ v s1 ⟨x,l,j,r1,f⟩=>fB c s1 d l x v Q j r1 f) (g _)
def G2{a:on JG}(r:Vals [x] a):∃u,a=[u]/\RelV x u:=by
 cases r with
 | cons r1 b=>cases b;exact⟨_,rfl,r1⟩
def cJ{b:on JG}(r:Vals [x,y] b):∃u a,b=[u,a]/\RelV x u/\RelV y a:=by
 cases r with
 | cons r1 e=>
  cases e with
  | cons d c=>cases c;exact⟨_,_,rfl,r1,d⟩
def yC:z9 X (.builtin "abs") (λ a H Q=>∃i,a=[.int i]/\Q (.int (if i<0 then -i else i)) H):=by
 intro b s σ H a us Q I r h;obtain⟨i,rfl,q⟩:=h;obtain⟨u,rfl,t,rfl⟩:=G2 r;exact call_abs_int λ u tk=>⟨.int _,H,I.tok _,⟨_,rfl⟩,q⟩
def yD(d:X.calm=true):z9 X (.builtin "max") (λ b H Q=>∃i j,b=[.int i,.int j]/\Q (.int (if j>i then j else i)) H):=by
 intro c s σ H b us Q I r h;obtain⟨i,j,rfl,q⟩:=h;obtain⟨u,w',rfl,⟨t,rfl⟩,⟨t',rfl⟩⟩:=cJ r;refine max_two_ints (I.ok.hd d) λ h' tk k=>⟨_,H,I.kept k,?_,q⟩
 by_cases a:j>i
 ·rw[f8 a,f8 a];exact⟨_,rfl⟩
 ·rw[g8 a,g8 a];exact⟨_,rfl⟩
def yE(d:X.calm=true):z9 X (.builtin "min") (λ b H Q=>∃i j,b=[.int i,.int j]/\Q (.int (if j<i then j else i)) H):=by
 intro c s σ H b us Q I r h;obtain⟨i,j,rfl,q⟩:=h;obtain⟨u,w',rfl,⟨t,rfl⟩,⟨t',rfl⟩⟩:=cJ r;refine min_two_ints (I.ok.hd d) λ h' tk k=>⟨_,H,I.kept k,?_,q⟩
 by_cases a:j<i
 ·rw[f8 a,f8 a];exact⟨_,rfl⟩
 ·rw[g8 a,g8 a];exact⟨_,rfl⟩
def oA:z9 X (.type "int") (λ a H Q=>(∃i,a=[.int i]/\Q (.int i) H)\/∃k,a=[.bl k]/\Q (.int (if k then 1 else 0)) H):=by
 intro b s σ H a us Q I r h;rcases h with⟨i,rfl,q⟩ | ⟨k,rfl,q⟩
 ·obtain⟨u,rfl,t,rfl⟩:=G2 r;exact call_int_int ⟨.int i,H,I,⟨_,rfl⟩,q⟩
 ·obtain⟨u,rfl,r1⟩:=G2 r;cases r1;exact call_int_bool ⟨.int _,H,I.tok _,⟨_,rfl⟩,q⟩
end
end L2
namespace L2
open PySem PySem.Spec PyProof.Rows
structure ObjM(h:Heap)(x dx C:Addr)(mA:Str->Option Value):Prop where
 obj:h.get? x=some (PySem.W.instObj C dx)
 ns:h.Ns1 dx mA
 ne:dx≠x
def RelO.some_of(r:RelO (some v) o):∃u,o=some u/\RelV v u:=by
 cases o with
 | none=>exact(r).elim
 | some u=>exact⟨u,rfl,r⟩
structure Cls(K:PySem.W.Frag)(C:Addr):Prop where
 pg:PySem.W.plainGet K C Str.empty=true
 hd:PySem.W.hasDictIn K C=true
 po:PySem.W.plainOver K C=true
 sa:PySem.W.findIn K (.ref C) "__setattr__" = some (some (.builtin "object.__setattr__"))
section
variable {X:Cx} {pins:on (JI×Obj)} {σ:St} {H:Hp} {s:JH} {A:JO} {E:JG->JH->Prop} {Q:JG->JH->Prop} {c:JG} {b:Bool}
inductive TyOf (K:PySem.W.Frag) (H:Hp):V->Value->Prop where
 | non:TyOf K H .non (.type "NoneType")
 | bl (x:Bool):TyOf K H (.bl x) (.type "bool")
 | int (i:Int):TyOf K H (.int i) (.type "int")
 | str (x:Str):TyOf K H (.str x) (.type "str")
 | flt (x:UInt64):TyOf K H (.flt x) (.type "float")
 | lst {a:Addr} {xs:List V} (e:H a=some (.lst xs)):TyOf K H (.ref a) (.type "list")
 | frz {a:Addr} {o:Obj} {xs:List V} (e:H a=some (.frz o (.lst xs))):TyOf K H (.ref a) (.type "list")
 | tup {a:Addr} {xs:List V} (e:H a=some (.tup xs)):TyOf K H (.ref a) (.type "tuple")
 | dK {a:Addr} {kvs:List (Key×V)} (e:H a=some (.dK kvs)):TyOf K H (.ref a) (.type "dict")
 | dT {a:Addr} {kvs:List (List Key×V)} (e:H a=some (.dT kvs)):TyOf K H (.ref a) (.type "dict")
 | ins {a C dx:Addr} {fs:List (Str×V)} (e:H a=some (.ins C dx fs)) (cl:Cls K C) (ha:PySem.W.findIn K (.ref C) "__class__" = some (some (.builtin "object.__class__")))
   (hn:PySem.W.specialIn K (.builtin "object.__class__") "__get__" = some (some (.builtin "getset_descriptor.__get__"))) (htk:PySem.W.takesIn K (.builtin "object.__class__")=some true)
   (hm:PySem.W.mroIn K C (.type "object")=some true):TyOf K H (.ref a) (.ref C)
end
end L2
namespace L2
open PySem PySem.Spec PyProof.Rows
structure Room(k:Nat)(A:Around):Prop where
 hd:A.handled=none
 dp:A.depth+3*k+5<recursionLimit
 un:A.units+16*k+200<cLine
theorem Room.deeper(r:Room (k+1) A)(env:Env):Room k (A.deeper env):=
 ⟨r.hd,by have:=r.dp;show A.depth+1+3*k+5<_;omega,by have:=r.un;show A.units+3+16*k+200<_;omega⟩
theorem Room.depth(r:Room k A):A.depth<recursionLimit:=by have:=r.dp;omega
theorem Room.units(r:Room k A):A.units+64<cLine:=by have:=r.un;omega
def tNil:TA:=λ _ H Q=>Q [] H
noncomputable def jq(ta:TE)(tr:TA):TA:=λ σ H Q=>ta σ H λ x H1=>tr σ H1 λ xs H2=>Q (x::xs) H2
section
variable {X:Cx} {e:JK} {es:on JK} {te:TE} {t:TA} {pos:Pos}
def U5:PA X [] tNil:=λ _ _ _ _ H Q I h=>Calls.spliced_nil ⟨[],H,I,.nil,h⟩
def P6(l:PE X e te)(k:PA X es t)(j:starEach (e::es) X.env=(false,eval e X.env)::starEach es X.env:=by rfl):PA X (e::es) (jq te t):=by
 intro b a s c H Q I h;rw[j];show wpAny _ _ _ _ _ s;refine Calls.spliced_cons (thn (l a s c H _ I h) λ u s1 t0=>?_);obtain⟨x,p,n,r1,i⟩:=t0;exact thn (k b a s1 c p _ n i) λ us s2 ⟨d,o,m,f,g⟩=>⟨x::d,o,m,.cons r1 f,g⟩
def tTup(t:TA):TE:=λ σ H Q=>t σ H λ xs H1=>xs.length<=sizeLine/\∀p,H1 p=none->Q (.ref p) (upd H1 p (.tup xs))
def tLst(t:TA):TE:=λ σ H Q=>t σ H λ xs H1=>xs.length<=sizeLine/\∀p,H1 p=none->Q (.ref p) (upd H1 p (.lst xs))
def jr(h:PA X es t):PE X (.Tuple es x1 pos) (tTup t):=by
 intro a s d H Q I g;refine wpAny_Tuple_spliced (thn (h pos a s d H _ I g) λ f s1 ⟨xs,i,c,r,z,q⟩=>⟨by rw[←r.length];exact z,?_⟩);refine⟨.ref s1.heap.objs.size,upd i s1.heap.objs.size _,c.laid (λ b u e=>k6 _ e) (i6 _) ?_,rfl,q _ (c.hok.fresh (i6 _))⟩;exact⟨z,f,r,⟨_,p8 _ rfl,⟨rfl,rfl⟩,_,rfl⟩⟩
def yF(h:PA X es t):PE X (.List es pos) (tLst t):=by
 intro a s d H Q I g;refine wpAny_List_spliced (thn (h pos a s d H _ I g) λ f s1 ⟨xs,i,c,r,z,q⟩=>⟨by rw[←r.length];exact z,?_⟩);refine⟨.ref s1.heap.objs.size,upd i s1.heap.objs.size _,c.laid (λ b u e=>k6 _ e) (i6 _) ?_,rfl,q _ (c.hok.fresh (i6 _))⟩;exact⟨z,f,0,r,p8 _ rfl⟩
end
abbrev Sp:=on V->Hp->VK->XK->Prop
abbrev CXT:=on Env->Hp->JH->XK->JG->JH->Prop
structure Env0(P:Program)(w:World)(K:PySem.W.Frag)(mg:Str->Option Value)(base:Heap)(A:Around)(outer:List Env)(s:Shared)(H:Hp):Prop where
 frames:A.frames=some outer
 mod:Mod K mg base
 bs:∀b o,base.get? b=some o->s.heap.get? b=some o/\H b=none
 bsz:base.objs.size<=s.heap.objs.size
 funs:s.heap.FunFrames base outer
 frf:(∀b∈frs outer,H b=none)/\cH K H
 hok:HOk P w H s.heap
 bare:AllBare s.gens
def CE(outer:on Env)(P:JN)(w:JM)(H:Hp)(s:JH)(Q:VK)(u:JG)(s':JH):Prop:=
 ∃v H',s'.os=s.os/\AllBare s'.gens/\Un (frs outer) [] H H' s.heap s'.heap/\HOk P w H' s'.heap/\RelV v u/\Q v H'
def CR(CX:CXT)(outer:on Env)(P:JN)(w:JM)(H:Hp)(s:JH)(Q:VK)(E:XK)(r:Result)(s':JH):Prop:=
 match r with
 | .ok (.ret u)=>CE outer P w H s Q u s'
 | .ok _=>False
 | .error e=>CX outer H s E e s'
structure FnOk(P:Program)(w:World)(K:PySem.W.Frag)(mg:Str->Option Value)(base:Heap)(CX:CXT)(k:Nat)(f:Addr)(fd:FuncData)(ps:List Str)(sp:Sp):Prop where
 len:∀vs H Q E,sp vs H Q E->vs.length=ps.length
 run:∀(A:Around) (outer:List Env) (s:Shared) (H:Hp) (args:Args) (us:List Value) (vs:List V) (Q:VK) (E:XK),Room k A->Env0 P w K mg base A outer s H->BindsTo s fd args (ps.zip us)->Vals vs us->sp vs H Q E ->
  codeAny (model P w) A (.call (.ref f) args) (CR CX outer P w H s Q E) s
def Inv.env0(I:Inv X a σ H s):Env0 X.prog X.w X.K X.mg X.base X.A X.stack s H:=
 ⟨I.ok.frames,I.ok.mod,I.bs,i9 I.ok.bsz I.sz,I.stack,⟨I.stkFree,I.tabs⟩,I.hok,I.bare⟩
def Inv.after(I:Inv X a σ H s)(h:CE X.stack X.prog X.w H s Q u e):EP X a σ Q u e:=by
 obtain⟨v,k,j,c,un,i,r,q⟩:=h;obtain⟨hh,g,d,t,f⟩:=e;obtain rfl:f=s.os:=j;exact⟨v,k,I.call un i c (λ b z=>absurd z (by simp)),r,q⟩
noncomputable def js(sp:Sp)(dvs:on V)(E:XK)(t:TA):TE:=λ σ H Q=>t σ H λ vs H1=>sp (vs++dvs) H1 Q E
def P7(K:JQ)(fd:FuncData)(ps:on Str)(ds:on JG):Prop:=
 ∀(s:JH) (us:on JG),K.In s.heap->(us++ds).length=ps.length->BindsTo s fd ⟨us,[]⟩ (ps.zip (us++ds))
def P7.all{K:JQ}(h:∀a:on JG,a.length=ps.length->bindArgs fd ⟨a,[]⟩=pure (ps.zip a)):P7 K fd ps []:=λ s a _ b=>by
 rw[C8]at b ⊢;exact .of_eq (h a b)
def jt(CX:CXT)(X:Cx)(E:XK):Prop:=∀(pins:on (JI×Obj)) (σ:St) (H:Hp) (s:JH) (e:JG) (s':JH),Inv X pins σ H s->CX X.stack H s E e s'->X.xe e s'
def oC(F:FnOk X.prog X.w X.K X.mg X.base j k f fd ps g)(n:Room k X.A)(p:P7 X.K fd ps ds)(hd:Vals d ds)(m:jt j X E)
  (I:Inv X a σ H s) (r:Vals vs b) (h:g (vs++d) H Q E):wpAny Kb X.A (call (.ref f) b) (EP X a σ Q) X.xe s:=by
 have i:=r.append hd;have o:(b++ds).length=ps.length:=by rw[←i.length];exact F.len _ _ _ _ h
 refine fv (R6 (F.run X.A X.stack s H ⟨b,[]⟩ _ _ Q E n I.env0 (p s b I.kIn o) i h) λ r l c=>?_);cases r with
 | error e=>exact m a σ H s e l I c
 | ok q=>
  cases q with
  | ret u=>exact I.after c
  | next=>exact False.elim c
  | brk=>exact False.elim c
  | cont=>exact False.elim c
def yG(F:FnOk X.prog X.w X.K X.mg X.base j k f fd ps g)(n:Room k X.A)(v:Gl X x)(o:X.mg x=some (.ref f))(u:PySem.W.keepIn X.K (.ref f)=true)(y:P7 X.K fd ps ds)(hd:Vals b ds)(m:jt j X E)
  (z:PA X (e::es) t) (d:(x==("__debug__" : Str))=false:=by decide) (w:starEach (e::es) X.env=(false,eval e X.env)::starEach es X.env:=by rfl) (c:(backTo pos (starEach es X.env)).any (·.1)=false:=by rfl) :
  PE X (.Call (.Name x p) (e::es) [] pos) (js g b E t):=by
 intro a s l H Q I h;refine aF (nV I v o ?_ d);refine PySem.W.callWith_K I.ok.mod.kin u (thn (z pos a s l H _ I h) λ us s1 ⟨vs,H1,i,r,q⟩=>⟨i.kIn,?_⟩) w c;exact oC F n y hd m i r q
def PK(X:Cx)(kws:on Keyword)(t:TA):Prop:=
 ∀(pos:Pos) (pins:on (JI×Obj)) (s:JH) (σ:St) (H:Hp) (Q:on V->Hp->Prop),Inv X pins σ H s->t σ H Q->wpAny Kb X.A (evalAll ((backToKw pos (keywordEach kws X.env)).map (·.2))) (AP X pins σ Q) X.xe s
def yH:PK X [] tNil:=λ _ _ _ _ H Q I h=>wpAny_evalAll_nil ⟨[],H,I,.nil,h⟩
def yI(m:PE X e f)(l:PK X b t):PK X (⟨nm,e,kpos⟩::b) (jq f t):=by
 intro c a s d H Q I h;show wpAny _ _ _ _ _ s;refine wpAny_evalAll_cons (f0 (thn (m a s d H _ I h) λ u s1 ⟨x,q,o,r1,k⟩=>f0 (cr (f9 ?_))));exact thn (l c a s1 d q _ o k) λ us s2 ⟨g,p,n,i,j⟩=>⟨x::g,p,n,.cons r1 i,j⟩
structure FnScope(N P:List Str)(sc:Scope):Prop where
 kind:sc.kind=.function
 co:sc.isCoroutine=false
 gen:sc.isGenerator=false
 nd:N.Nodup
 pre:N.take P.length=P
 par:∀x∈P,sc.names.lookup x=some .local\/sc.names.lookup x=some .cell
 nofree:∀y∈sc.names,y.2 ≠ .free
theorem oE:∀{a:on (Str×JG)} {m:Str->JF JG},(∀v,(x,v)∉a)->bindL b a m x=m x
 | [],_,_=>rfl
 | (n,v)::r,m,h=>by
  unfold bindL;rw[oE λ w c=>h w (k5 _ c)];split
  ·have:x≠n:=by rintro rfl;exact h v k8
   simp[this]
  ·rfl
theorem oG:∀{a:on (Str×JG)} {m:Str->JF JG},(∀v,(x,v)∉a)->bindC b a m x=m x
 | [],_,_=>rfl
 | (n,v)::r,m,h=>by
  unfold bindC;rw[oG λ w c=>h w (k5 _ c)];split
  ·rfl
  ·have:x≠n:=by rintro rfl;exact h v k8
   simp[this]
theorem oH:∀{P:on Str} {b:on JG} {i:Nat} {m:Str->JF JG},P.Nodup->P[i]? = some x->b[i]? = some v->a x=some .local ->
  bindL a (P.zip b) m x=some v
 | [],_,_,_,_,h,_,_=>by simp at h
 | _::_,[],_,_,_,_,h,_=>by simp at h
 | p::P,w::b,0,m,e,d,c,f=>by simp at d c;subst d;subst c;show bindL a ((p,w)::P.zip b) m p=_;unfold bindL;rw[oE λ v hv=>(O9.mp e).1 (eQ hv).1,f8 f];simp
 | p::P,w::b,i+1,m,e,d,c,f=>by show bindL a _ m x=_;unfold bindL;exact oH (O9.mp e).2 (by simpa using d) (by simpa using c) f
theorem oI:∀{P:on Str} {b:on JG} {i:Nat} {m:Str->JF JG},P.Nodup->P[i]? = some x->b[i]? = some v->a x≠some .local ->
  bindC a (P.zip b) m x=some v
 | [],_,_,_,_,h,_,_=>by simp at h
 | _::_,[],_,_,_,_,h,_=>by simp at h
 | p::P,w::b,0,m,e,d,c,f=>by simp at d c;subst d;subst c;show bindC a ((p,w)::P.zip b) m p=_;unfold bindC;rw[oG λ v hv=>(O9.mp e).1 (eQ hv).1,g8 f];simp
 | p::P,w::b,i+1,m,e,d,c,f=>by show bindC a _ m x=_;unfold bindC;exact oI (O9.mp e).2 (by simpa using d) (by simpa using c) f
noncomputable def start(N:on Str)(vs:on V):St:=vs.map some++List.replicate (N.length - vs.length) none
noncomputable def cxOf(CX:CXT)(P:JN)(w:JM)(K:JQ)(mg:Str->JF JG)(base:JJ)(N:on Str)(qual:Str)(scope:JR)(f:JI)(cd:JG)(A:JO)(outer:on Env)(s:JH)(H:Hp)(E:XK):Cx where
 prog:=P
 w:=w
 K:=K
 mg:=mg
 base:=base
 A:=A.deeper (envOfC qual scope s.heap.objs.size f cd)
 N:=N
 s₀:=s
 H₀:=H
 env:=envOfC qual scope s.heap.objs.size f cd
 outer:=outer
 stack:=envOfC qual scope s.heap.objs.size f cd::outer
 ex:=[]
 calm:=true
 fn:=λ _=>true
 pn:=[]
 xe:=λ e s'=>wpAny (model P w) (A.deeper (envOfC qual scope s.heap.objs.size f cd)) (leaving (envOfC qual scope s.heap.objs.size f cd) e) (λ _ s''=>CX outer H s E e s'') (λ e' s''=>CX outer H s E e' s'') s'
def aU{sc:JR}(h:sc.names.lookup x=some .cell):∃c,(cellsFrom n sc.names []).lookup x=some c:=by
 exact X2.mp (eC sc.names n [] (.inl h))
def yJ{K:JQ}
  (S:FnScope N ps scope) (hd:A.handled=none) (m:Env0 P w K mg l A d s H) (hl:vs.length=ps.length) (r:Vals vs J)
  (x:InCallC s s.heap.objs.size (bindL (envOfC g scope s.heap.objs.size f cd).kindOf (ps.zip J) λ _=>none) (cellsFrom (s.heap.objs.size+1) scope.names []) (bindC (envOfC g scope s.heap.objs.size f cd).kindOf (ps.zip J) λ _=>none) s1) :
  Inv (cxOf O P w K mg l N g scope f cd A d s H E) [] (start N vs) H s1:=by
 have R:ps.length<=N.length:=by have:=congrArg List.length S.pre;rw[X8]at this;omega
 obtain⟨I,tk,rfl,M⟩:=x.done;have n:∀b:JI,b∉(cxOf O P w K mg l N g scope f cd A d s H E).ex:=λ b z=>absurd (show b∈([]:on JI)from z) (by simp)
 refine⟨⟨m.mod,S.kind,rfl,rfl,i6 _,λ y z c I j=>?_,λ y o=>?_,λ y c _ h=>?_,λ _=>hd,ip m.frames,.inr ⟨rfl,rfl⟩,λ b z=>absurd z (n b),m.bs,m.bsz,λ b _ _=>n b,λ b z=>absurd z (n b),m.funs,m.frf⟩,
  rfl,m.bare,Un.kept M,⟨_,x.toInCall.ns,λ i y v I j h3=>?_⟩,λ y c h=>⟨_,x.cell y c h⟩,m.hok.fresh (i6 _),λ y c h=>?_,λ p C=>absurd (show p∈([]:on _)from C) (by simp),m.hok.kept M,?_⟩
 ·exact iZ x.apart (x8 I) (x8 j)
 ·have o:=o;rcases o with o | o
  ·exact aU o
  ·exact absurd rfl (S.nofree _ (x8 o))
 ·exact K9 (x.above y c (x8 h))
 ·have F:i<vs.length:=by
   unfold start at j;by_cases F:i<vs.length
   ·exact F
   ·rw[X0 (by simpa using F)]at j;rw[X3]at j;split at j<;>cases j
  have U:vs[i]? = some v:=by
   unfold start at j;rw[X1 (by simpa using F),p5]at j;cases e:vs[i]? with
   | none=>rw[e]at j;cases j
   | some a=>rw[e]at j;cases j;rfl
  obtain⟨u,L,Q⟩:=r.get U;have C:ps[i]? = some y:=(by rw[←S.pre,aB JX];exact I);have B:ps.Nodup:=by rw[←S.pre];exact S.nd.sublist (iA _ _)
  refine⟨u,Q,?_⟩;rcases S.par y (K1 C)with k | k
  ·exact .inl ⟨k,oH B C L k⟩
  ·obtain⟨c,e⟩:=aU k;refine .inr ⟨.inl k,c,e,?_⟩;have q:=x.cell y c e;rw[oI B C L (by show scope.names.lookup y≠_;rw[k];decide)]at q;exact q
 ·exact m.hok.fresh (K9 (x.above y c (x8 h)))
 ·unfold start;show _=N.length;rw[t7,g7,aC];omega
def yK{K:JQ}{kV Y:JG}
       (lk:K.lookup f=some ⟨oc,od,.func (PySem.W.fnOf j c d body scope dV kV I pm an g Y),R⟩) (W:PySem.W.codeIn K g c=true) (S:FnScope N ps scope)
    (len:∀vs H Q E,L vs H Q E->vs.length=ps.length)
    (p:∀(A:JO) (a:on Env) (s:JH) (H:Hp) (vs:on V) (Q:VK) (E:XK),Room k (A.deeper (envOfC c scope s.heap.objs.size f g))->L vs H Q E ->
      ∃t,PSs (cxOf X P w K mg h N c scope f g A a s H E) body t/\t {nx:=λ _ l=>Q .non l,rt:=Q} (start N vs) H) :
    FnOk P w K mg h X (k+1) f (PySem.W.fnOf j c d body scope dV kV I pm an g Y) ps L:=by
  refine⟨len,λ A a s H Z us vs Q E U F hb r B=>?_⟩;have hl:=len _ _ _ _ B;have KX:=F.mod.kin.keeps λ b o e=>(F.bs b o e).1;have m:∀y∈ps.zip us,scope.names.lookup y.1=some .local\/(scope.names.lookup y.1=some .cell/\((cellsFrom (s.heap.objs.size+1) scope.names []).lookup y.1).isSome=true):=λ ⟨n,v⟩ hy=>by
    rcases S.par n (eQ hy).1 with q | q
    · exact .inl q
    · exact .inr ⟨q,eC _ _ _ (.inl q)⟩
  refine nR U.depth (KX _ _ lk) rfl S.co S.gen rfl (PySem.W.codeRec_of KX W) (hb _ _ _ _ ?_)
  refine wpAny_newFunctionEnv_cells S.kind m λ env he s1 x=>?_;subst he;refine⟨(F.mod.nolimit.keeps λ b o e=>(F.bs b o e).1).keeps x.toInCall.keep,codeAny_func ?_⟩;obtain⟨t,ht,hq⟩:=p A a s H vs Q E (U.deeper _) B;refine B3 (ht [] s1 _ H _ (yJ S U.hd F hl r x) hq) (λ fl M z=>?_) λ e M z=>z;have C:∀{i:St} {l:Hp} {v:V} {u:JG},Inv (cxOf X P w K mg h N c scope f g A a s H E) [] i l M->RelV v u->Q v l->CE a P w H s Q u M:=
    λ {i l v u} J O q=>⟨v,l,J.os,J.bare,J.base,J.hok,O,q⟩
  cases fl with
  | ret u=>
    obtain⟨v,i,l,J,O,q⟩:=z;exact C J O q
  | next=>
    obtain⟨i,l,J,q⟩:=z;exact C (v:=V.non) J rfl q
  | brk=>
    obtain⟨_,_,_,q⟩:=z;exact False.elim q
  | cont=>
    obtain⟨_,_,_,q⟩:=z;exact False.elim q
end L2
namespace L2
open PySem PySem.Spec PyProof.Rows
section
variable {X:Cx} {x:Str} {p pos:Pos} {e:JK} {es:on JK} {t:TA} {id T:JW} {r:on V->Hp->VK->Prop}
noncomputable def tCB(r:on V->Hp->VK->Prop)(t:TA):TE:=λ σ H Q=>t σ H λ vs H1=>r vs H1 Q
def ju(n:z9 X (.builtin id) r)(l:Gl X x)(k:X.mg x=none)(hv:bootBuiltins x=some (.builtin id))(o:PA X (e::es) t)(j:x ≠ "__name__":=by decide)(c:(x==("__debug__" : Str))=false:=by decide)
  (m:starEach (e::es) X.env=(false,eval e X.env)::starEach es X.env:=by rfl) (b:(backTo pos (starEach es X.env)).any (·.1)=false:=by rfl):PE X (.Call (.Name x p) (e::es) [] pos) (tCB r t):=by
 intro a s d H Q I h;refine aF (Z0 I l k hv ?_ j c);exact PyProof.Rows.callWith_builtin1 (thn (o pos a s d H _ I h) λ g s1 ⟨f,u,q,r1,i⟩=>n a s1 d u f g Q q r1 i) m b
def oK(n:z9 X (.type T) r)(l:Gl X x)(k:X.mg x=none)(hv:bootBuiltins x=some (.type T))(o:PA X (e::es) t)(j:x ≠ "__name__":=by decide)(c:(x==("__debug__" : Str))=false:=by decide)
  (m:starEach (e::es) X.env=(false,eval e X.env)::starEach es X.env:=by rfl) (b:(backTo pos (starEach es X.env)).any (·.1)=false:=by rfl):PE X (.Call (.Name x p) (e::es) [] pos) (tCB r t):=by
 intro a s d H Q I h;refine aF (Z0 I l k hv ?_ j c);exact eg (thn (o pos a s d H _ I h) λ g s1 ⟨f,u,q,r1,i⟩=>n a s1 d u f g Q q r1 i) m b
end
end L2
namespace HT
open PySem PyProof.Rows
def cat_tup(ht:IsTup s.heap t vs.toArray)(u:IsTup s.heap b ws.toArray)(hv:vs≠[])
  (x:ws=[]->Q (.ref t) s) (v:ws≠[]->Q (.ref s.heap.objs.size) {s with heap:=s.heap.push {cls:=.type "tuple",data:=.seq (vs++ws).toArray}})
  (j:vs.length+ws.length<=sizeLine):wpAny Kc A (binaryOp .Add (.ref t) (.ref b)) Q E s:=by
 obtain⟨⟨y,p,q,l⟩,i,o,n,hd⟩:=id ht;obtain⟨⟨r,g,k,c⟩,a,f,m,d⟩:=id u;simp only at o hd f d;subst o hd f d;have e:vs.toArray++ws.toArray=(vs++ws).toArray:=by simp
 by_cases h:ws=[]
 ·exact concat_meets ⟨_,i,rfl⟩ ⟨_,a,rfl⟩ noFill_tuple_add seq_tuple_add nG nw (nr _ _)
   (tuple_addW1 t b vs.toArray ws.toArray n m p g l c (by simpa using hv) (by simp[h])) ⟨i,a,x h⟩
 ·refine concat_meets ⟨_,i,rfl⟩ ⟨_,a,rfl⟩ noFill_tuple_add seq_tuple_add nG nw (nr _ _)
   (tuple_addW2 t b vs.toArray ws.toArray n m p g l c (by simpa using hv) (by simpa using h) (by rw[t8,t8];exact j)) ⟨i,a,?_⟩
  rw[e];exact v h
noncomputable def sIx(n d:Nat):JF Int->Nat
 | none=>d
 | some v=>if v<0 then(v+(n:Int)).toNat else min v.toNat n
def yL(n d:Nat)(hd:d<=n)(o:JF Int):sIx n d o<=n:=by
 cases o with
 | none=>exact hd
 | some v=>
  show(if v<0 then(v+_).toNat else min v.toNat n)<=n;by_cases hv:v<0
  ·rw[f8 hv];omega
  ·rw[g8 hv];exact Nat.min_le_right _ _
def oM(v:Int)(n d:Nat):(if v<0 then max (v+(n:Int)) 0 else min v (n:Int))=((sIx n d (some v):Nat):Int):=by
 show(if v<0 then max _ 0 else min v _)=(((if v<0 then(v+_).toNat else min v.toNat n):Nat):Int);by_cases hv:v<0
 ·simp only[f8 hv];omega
 ·simp only[g8 hv];omega
def yM(a b:JF Int)(n:Nat):Builtin.Slice.sliceAdjust a b 1 (n:Int)=(((sIx n 0 a:Nat):Int),((sIx n n b:Nat):Int)):=by
 have c:¬((1:Int)<0):=by omega
 unfold Builtin.Slice.sliceAdjust;simp only[c,if_false];refine Prod.ext ?_ ?_
 ·cases a with
  | none=>rfl
  | some v=>exact oM v n 0
 ·cases b with
  | none=>rfl
  | some v=>exact oM v n n
def yN(i j:Nat):Builtin.Slice.slicePlaces (i:Int) (j:Int) 1=j - i:=by
 unfold Builtin.Slice.slicePlaces;have a:(1:Int)>0:=by omega
 simp only[a,if_true,Int.ediv_one];split<;>omega
def oN(p:IsPart v o)(h:Q o s):wpAny Kc A (Builtin.Slice.slicePartIndex v) Q E s:=by
 cases p with
 | none=>exact slicePart_none h
 | int i t=>exact slicePart_int h
def yO{n:Nat}(j:s.heap.IsSliceOf f vl e .none)(i:IsPart vl a)(g:IsPart e d)
  (h:Q (((sIx n 0 a:Nat):Int),1,sIx n n d - sIx n 0 a) s):wpAny Kc A (Builtin.Slice.sliceApplied (.ref f) (pure (n:Int))) Q E s:=by
 obtain⟨os,b,k,c⟩:=id j;unfold Builtin.Slice.sliceApplied Builtin.Slice.sliceFields;refine f0 (f0 (E7 b c rfl (f0 (E7 b c rfl (f0 (E7 b c rfl (f9 ?_)))))));refine f0 (slicePart_none ?_);show wpAny _ _ _ _ _ s;rw[g8 JY];refine f0 (oN i (f0 (oN g (f0 (f9 ?_)))));show wpAny _ _ (match Builtin.Slice.sliceAdjust a d 1 (n:Int)with | (a,d)=>pure (a,_,Builtin.Slice.slicePlaces a d 1)) _ _ s;rw[yM a d n];show wpAny _ _ (pure _) _ _ s;rw[yN];exact f9 h
def yP(xs:JL JG)(i k:Nat):((List.range k).filterMap λ (m:Nat)=>xs[((i:Int)+(m:Int)*1).toNat]?).toArray=((xs.toList.drop i).take k).toArray:=by
 have e:(λ (m:Nat)=>xs[((i:Int)+(m:Int)*1).toNat]?)=λ m=>xs[i+m]?:=by
  funext m
  have:((i:Int)+(m:Int)*1).toNat=i+m:=by omega
  rw[this]
 rw[e];have:=pick_run xs i k;rw[List.filterMap_map]at this;have a:(_ ∘ λ x=>i+x)=λ m=>xs[i+m]?:=rfl
 rw[a]at this;rw[this]
def getItem_tuple_cut(ht:IsTup s.heap t items)(j:s.heap.IsSliceOf i vl g .none)(l:IsPart vl a)(k:IsPart g b)
  (hw:¬(sIx items.size 0 a=0/\sIx items.size items.size b=items.size))
  (h:Q (.ref s.heap.objs.size) {s with heap:=s.heap.push {cls:=.type "tuple",data:=.seq ((items.toList.drop (sIx items.size 0 a)).take (sIx items.size items.size b - sIx items.size 0 a)).toArray}})
  (n:items.size<=sizeLine):wpAny Kc A (getItem (.ref t) (.ref i)) Q E s:=by
 have c:=(by show((items.toList.drop (sIx items.size 0 a)).take (sIx items.size items.size b - sIx items.size 0 a)).toArray.size<=sizeLine;rw[t8,X8,iH,A4];omega);have hj:sIx items.size items.size b<=items.size:=yL _ _ (i6 _) b;obtain⟨m,d,f,o⟩:=id j;unfold getItem
 try with_reducible refine C5 ?_
 first | refine f0 (f9 ?_) | skip
 refine f0 (wpAny_sequenceKey ht.typeIs JY ?_);refine f0 (O1 ht.typeIs mW
  (F2 mW ht.typeIs entry_tuple_getitem ?_ (args_tuple_getitem _ _)))
 show wpAny _ _ (Builtin.Tuple.tupleItemsOf _ >>= _) _ _ s;refine f0 (tupleItemsOf_ ht ?_);refine f0 (fg (⟨m,d,f⟩) ?_);rw[f8 JY];refine f0 (yO j l k ?_);have e:¬((((sIx items.size 0 a:Nat):Int)==0&&(1:Int)==1&&(sIx items.size items.size b - sIx items.size 0 a)==items.size)=true):=by intro q;rw[g6,g6]at q;have q1:=eq_of_beq q.1.1;have q2:=eq_of_beq q.2;exact hw ⟨by omega,by omega⟩
 show wpAny _ _ (if(((sIx items.size 0 a:Nat):Int)==0&&(1:Int)==1&&(sIx items.size items.size b - sIx items.size 0 a)==items.size)=true then _ else _) _ _ s;rw[g8 e,yP]
 first
  | exact f0 (C3 (f9 ⟨_,rfl,f9 h⟩) c)
  | exact f0 _
  | exact f0 _
  | exact f0 _
end HT
namespace L2
open PySem PySem.Spec PyProof.Rows
abbrev TO:=St->Hp->(JF Int->Hp->Prop)->Prop
def PO(X:Cx)(e:JF JK)(t:TO):Prop:=
 ∀(pins:on (JI×Obj)) (s:JH) (σ:St) (H:Hp) (Q:JF Int->Hp->Prop),Inv X pins σ H s->t σ H Q ->
  wpAny Kb X.A (evalPart e X.env) (λ u s'=>∃o H',Inv X pins σ H' s'/\IsPart u o/\Q o H') X.xe s
noncomputable def yQ(t:TE):TO:=λ σ H Q=>t σ H λ x H1=>∃i,x=.int i/\Q (some i) H1
section
variable {X:Cx} {e:JK} {te:TE} {lo hi:JF JK} {tl th:TO} {pos p2:Pos}
def yR(h:PE X e te):PO X (some e) (yQ te):=by
 intro a s b H Q I d;rw[evalPart_some];refine thn (h a s b H _ I d) λ u s1 t0=>?_;obtain⟨x,g,f,r1,c⟩:=t0
 obtain⟨i,rfl,q⟩:=c;obtain⟨t,rfl⟩:=r1;exact⟨some i,g,f,.int i t,q⟩
def SlR(X:Cx)(r:V->JF Int->JF Int->Hp->VK->Prop):Prop:=
 ∀(pins:on (JI×Obj)) (s:JH) (σ:St) (H:Hp) (x:V) (v vl vu:JG) (lo hi:JF Int) (sl:JI) (Q:VK),Inv X pins σ H s->RelV x v->s.heap.IsSliceOf sl vl vu .none->IsPart vl lo->IsPart vu hi->r x lo hi H Q ->
  ∃T id,typeLookup (.type T) "__getitem__" = pure (some (.builtin id))/\s.TypeIs v T/\wpAny Kb X.A (getItem v (.ref sl)) (EP X pins σ Q) X.xe s
def SlR.or(h:SlR X r)(h':SlR X i):SlR X (λ x b c H Q=>r x b c H Q\/i x b c H Q):=by
 intro a s d H x v vl e b c f Q I g l k j q;rcases q with q | q
 ·exact h a s d H x v vl e b c f Q I g l k j q
 ·exact h' a s d H x v vl e b c f Q I g l k j q
noncomputable def tSl(r:V->JF Int->JF Int->Hp->VK->Prop)(te:TE)(tl th:TO):TE:=λ σ H Q=>te σ H λ x H1=>tl σ H1 λ l H2=>th σ H2 λ u H3=>r x l u H3 Q
def yT(o:SlR X r)(y:PE X e te)(p:PO X lo tl)(n:PO X hi th):PE X (.Subscript e (.Slice lo hi none p2) pos) (tSl r te tl th):=by
 intro a s d H Q I h;refine Subscript_ (thn (y a s d H _ I h) λ v s1 t0=>?_);obtain⟨x,J,C,r1,j⟩:=t0;refine wpAny_Slice (thn (p a s1 d J _ C j) λ vl s2 ⟨l,F,B,m,i⟩=>thn (n a s2 d F _ B i) λ f c t0=>?_);obtain⟨u,E,A,k,g⟩:=t0;rw[evalPart_none];refine f9 ?_;obtain⟨T,id,z,ht,w⟩:=o a {c with heap:=c.heap.push {cls:=.type "slice",data:=.fields #[vl,f,.none]}} d E x v vl f l u c.heap.objs.size Q (A.kept λ b ob q=>k6 _ q) r1 (Heap.IsSliceOf.new ..) m k g;show wpAny _ X.A _ _ X.xe {c with heap:=c.heap.push {cls:=.type "slice",data:=.fields #[vl,f,.none]}};exact tail_any ht z w (by with_unfolding_all rfl)
def cutV(xs:on V)(lo hi:JF Int):on V:=(xs.drop (HT.sIx xs.length 0 lo)).take (HT.sIx xs.length xs.length hi - HT.sIx xs.length 0 lo)
def oO(xs:on V)(a b:JF Int):(cutV xs a b).length<=xs.length:=by
 unfold cutV;rw[X8,iH];omega
def rSlT(K:JQ):V->JF Int->JF Int->Hp->VK->Prop:=λ x lo hi H Q=>∃a xs,x=.ref a/\SqT K H a xs /\
 ¬(HT.sIx xs.length 0 lo=0/\HT.sIx xs.length xs.length hi=xs.length)/\∀p,H p=none->Q (.ref p) (upd H p (.tup (cutV xs lo hi)))
def yU:SlR X (rSlT X.K):=by
 intro f s σ H x v vl vu l p sl Q I i o k j h;obtain⟨a,e,rfl,m,n,q⟩:=h;cases i;obtain⟨d,r,ht,g⟩:=I.tuple m;have c:d.toArray.size=e.length:=by rw[t8];exact r.length.symm
 refine⟨"tuple",_,PyProof.Rows.slot_tuple_getitem.lookup,ht.typeIs,?_⟩;refine HT.getItem_tuple_cut ht o k j (by rw[c];exact n) ?_ (by rw[c];exact g);rw[c];refine⟨.ref s.heap.objs.size,_,I.laid (λ b ob q=>k6 _ q) (i6 _) ?_,rfl,q _ (I.hok.fresh (i6 _))⟩;exact⟨i9 (oO e l p) g,_,(r.drop _).take _,P5.new _ _⟩
def oP(K:JQ):R2:=λ x y H Q=>∃a b xs ys,x=.ref a/\y=.ref b/\SqT K H a xs/\SqT K H b ys/\xs≠[]/\xs.length+ys.length<=sizeLine /\
 (ys=[]->Q (.ref a) H)/\(ys≠[]->∀p,H p=none->Q (.ref p) (upd H p (.tup (xs++ys))))
def Vals.nil_iff(r:Vals xs a):a=[]↔xs=[]:=by
 cases r with
 | nil=>simp
 | cons _ _=>simp
def yV:OpR X (binaryOp .Add) (oP X.K):=by
 intro d s σ H x y v u Q I i g h;obtain⟨a,b,xs,ys,rfl,rfl,r,p,o,f,k,j⟩:=h;cases i;cases g;obtain⟨n,r1,m,_⟩:=I.tuple r;obtain⟨e,c,l,_⟩:=I.tuple p;refine HT.cat_tup m l (λ z=>o (r1.nil_iff.mp z)) (λ z=>⟨.ref a,H,I,rfl,k (c.nil_iff.mp z)⟩) (λ z=>?_) (by rw[←r1.length,←c.length];exact f);refine⟨.ref s.heap.objs.size,_,I.laid (λ b ob q=>k6 _ q) (i6 _) ?_,rfl,j (λ w=>z (c.nil_iff.mpr w)) _ (I.hok.fresh (i6 _))⟩;exact⟨by rw[t7];exact f,_,r1.append c,P5.new _ _⟩
end
end L2
namespace L2
open PySem PySem.Spec PyProof.Rows
noncomputable def ixN(n:Nat)(i:Int):JF Nat:=if 0<=i then(if i<n then some i.toNat else none)else if -(n:Int)<=i then some (i+n).toNat else none
def atI{α:Type}(xs:on α)(i:Int):JF α:=(ixN xs.length i).bind λ j=>xs[j]?
def oQ(h:ixN n i=some j):seqIndex? i n=some j/\j<n /\ -(n:Int)<=i/\i<n:=by
 unfold ixN at h;by_cases b:0<=i
 ·rw[f8 b]at h;by_cases a:i<n
  ·rw[f8 a]at h;have e:=A8 h;exact⟨by rw[seqIndex_of b a,e],by omega,by omega,a⟩
  ·rw[g8 a]at h;cases h
 ·rw[g8 b]at h;by_cases a : -(n:Int)<=i
  ·rw[f8 a]at h;have e:=A8 h;exact⟨by rw[ja JX a,e],by omega,a,by omega⟩
  ·rw[g8 a]at h;cases h
def jv(h:atI xs i=some v):∃j,seqIndex? i xs.length=some j/\xs[j]? = some v/\j<xs.length /\ -(xs.length:Int)<=i/\i<xs.length:=by
 unfold atI at h;cases e:ixN xs.length i with
 | none=>rw[e]at h;cases h
 | some j=>
  rw[e]at h;obtain⟨f,d,c,b⟩:=oQ e;exact⟨j,f,h,d,c,b⟩
def yW(b:JK):Prop:=∀o i,subscripted b false o i=operate [o,i] (getItem o i)
def IxR(X:Cx)(r:R2):Prop:=
 ∀(value slice:JK) (pins:on (JI×Obj)) (s:JH) (σ:St) (H:Hp) (x y:V) (v u:JG) (Q:VK),Inv X pins σ H s->RelV x v->RelV y u->r x y H Q ->
  subscripted slice false v u=operate [v,u] (getItem v u)->wpAny Kb X.A (subscriptTail value slice v u) (EP X pins σ Q) X.xe s
def MtR(X:Cx)(id:JW)(r:V->on V->Hp->VK->Prop):Prop:=
 ∀(pins:on (JI×Obj)) (s:JH) (σ:St) (H:Hp) (x:V) (xs:on V) (v:JG) (us:on JG) (Q:VK),Inv X pins σ H s->RelV x v->Vals xs us->r x xs H Q ->
  wpAny Kb X.A (call (.builtin id) (v::us)) (EP X pins σ Q) X.xe s
section
variable {X:Cx} {a b:JK} {ta tb:TE} {pos:Pos}
def IxR.or(h:IxR X r)(h':IxR X g):IxR X (λ x y H Q=>r x y H Q\/g x y H Q):=by
 intro a b c s d H x y v u Q I f e q i;rcases q with q | q
 ·exact h a b c s d H x y v u Q I f e q i
 ·exact h' a b c s d H x y v u Q I f e q i
def yX(i:IxR X r)(k:PE X a ta)(j:PE X b tb)(g:yW b):PE X (.Subscript a b pos) (tOp r ta tb):=by
 intro c s d H Q I h;exact Subscript_ (binT k j I h λ v u s2 x y m l f e q=>i a b c s2 d m x y v u Q l f e q (g _ _))
def rIxL(K:JQ):R2:=λ x y H Q=>∃p xs i v,x=.ref p/\y=.int i/\SqL K H p xs/\atI xs i=some v/\Q v H
def rIxT(K:JQ):R2:=λ x y H Q=>∃p xs i v,x=.ref p/\y=.int i/\SqT K H p xs/\atI xs i=some v/\Q v H
def rIxS:R2:=λ x y H Q=>∃z i c,x=.str z/\y=.int i/\z.length<=sizeLine/\atI z.cps.toList i=some c/\Q (.str ⟨#[c]⟩) H
def yY:IxR X (rIxL X.K):=by
 intro d e a s A H x y v u Q I C B h m;obtain⟨p,xs,i,z,rfl,rfl,E,J,q⟩:=h;cases C;obtain⟨t,rfl⟩:=B;obtain⟨k,r,g,hz⟩:=I.list E;obtain⟨j,c,M,h3,L,K⟩:=jv J;obtain⟨w,o,f⟩:=r.get M;have F:=r.length;have hn:=aT;have b:EP X a A Q w s:=⟨z,H,I,f,q⟩;by_cases n:0<=i
 ·have l:i.toNat=j:=by
   rw[seqIndex_of n K]at c;exact A8 c
  exact item_listR g.isList n JX (by rw[l];simpa using o) b m
 ·have l:(i+(k.toArray.size:Int)).toNat=j:=by
   rw[ja JX L]at c;rw[t8,←F];exact A8 c
  exact nH g.isList.typeIs slot_list_getitem.lookup
   (wpAny_getItem_list_neg g.isList JX (by rw[t8]<;>omega) JX (by rw[l];simpa using o) ⟨rfl,b⟩) m
def yZ:IxR X (rIxT X.K):=by
 intro a b e s σ H x y v u Q I g f h l;obtain⟨p,xs,i,z,rfl,rfl,m,n,q⟩:=h;cases g;obtain⟨t,rfl⟩:=f;obtain⟨k,r,d,hz⟩:=I.tuple m;obtain⟨j,A,o,h3,h4,h5⟩:=jv n;obtain⟨w,B,c⟩:=r.get o;have hn:=aT;exact nH d.typeIs slot_tuple_getitem.lookup
  (getItem_tuple d JX JX (by rw[t8,←r.length];exact A) (by simpa using B) ⟨rfl,(⟨z,H,I,c,q⟩)⟩) l
def za:IxR X rIxS:=by
 intro a b d s σ H x y v u Q I g f h k;obtain⟨z,i,c,rfl,rfl,hz,m,q⟩:=h;obtain⟨t,rfl⟩:=g;obtain⟨t',rfl⟩:=f;obtain⟨j,e,p,h3,o,n⟩:=jv m;have l:z.cps.toList.length=z.length:=by simp[Str.length]
 rw[l]at e o n;have hn:=aT;exact tail_any (typeIs_str s z t) slot_str_getitem.lookup (getItem_str (by
  rw[(A7 JX),(A7 JX),fe]) (by rw[e];simpa using p) ⟨.str ⟨#[c]⟩,H,I.tok _,⟨_,rfl⟩,q⟩) k
def rIx(K:JQ):R2:=λ x y H Q=>rIxL K x y H Q\/rIxT K x y H Q\/rIxS x y H Q
def zb:IxR X (rIx X.K):=yY.or (yZ.or za)
def zc(a:on JG)(n j:Nat)(u:JG):Obj.mapSeq (·.setIfInBounds j u) {cls:=.type "list",data:=.seq a.toArray n} = {cls:=.type "list",data:=.seq (a.set j u).toArray n}:=by
 simp[Obj.mapSeq]
theorem Inv.lst{b:on (JI×Obj)}(I:Inv X b σ H s)(h:H p=some (.lst xs)) :
  ∃(a:on JG) (n:Nat),Vals xs a/\s.heap.get? p=some {cls:=.type "list",data:=.seq a.toArray n} /\ xs.length<=sizeLine:=by
 obtain⟨z,a,n,r,e⟩:=I.hok p _ h;exact⟨a,n,r,e,z⟩
def Inv.lstUpd{d a:on JG}(I:Inv X c σ H s)(h:H p=some (.lst xs))
  (l:s.heap.get? p=some {cls:=.type "list",data:=.seq d.toArray n}) (j:f {cls:=.type "list",data:=.seq d.toArray n} = {cls:=.type "list",data:=.seq a.toArray i}) (r:Vals g a) (k:g.length<=sizeLine) (t:Nat) :
  Inv X c σ (upd H p (.lst g)) {s with heap:=s.heap.update p f,toks:=t}:=by
 have e:(s.heap.update p f).get? p=some {cls:=.type "list",data:=.seq a.toArray i}:=(by rw[Q8 f l (by rw[j]<;>rfl),j]);refine I.write (by rw[h];trivial) (.inl rfl) (λ b u m q=>(Q7 _ _ (Ne.symm m)).trans q) ⟨_,e⟩ ?_;exact⟨k,a,i,r,e⟩
def ze:V->V->V->Hp->(Hp->Prop)->Prop:=λ o i v H Q=>∃p xs k j,o=.ref p/\i=.int k/\H p=some (.lst xs)/\ixN xs.length k=some j/\Q (upd H p (.lst (xs.set j v)))
def zf:PSet X ze:=by
 intro f s σ H o i v ov iv u Q I z A y h;obtain⟨p,xs,k,j,rfl,rfl,g,C,q⟩:=h;cases z;obtain⟨t,rfl⟩:=A;obtain⟨a,n,r,c,B⟩:=I.lst g;obtain⟨b,h2,m,l⟩:=oQ C;have d:=r.length;have hn:=aT;have x:=
  I.lstUpd g c (zc a n j u) (r.set y j) (by rw[C4];exact B) s.toks
 by_cases w:0<=k
 ·have e:k.toNat=j:=by
   rw[seqIndex_of w l]at b;exact A8 b
  exact PySem.W.ki_setAt c w JX (by rw[t8,←d];exact l) (by rw[e];exact⟨_,x,q⟩)
 ·have e:(k+(a.toArray.size:Int)).toNat=j:=by
   rw[ja JX m]at b;rw[t8,←d];exact A8 b
  exact PySem.W.ki_setBack c JX (by rw[t8,←d];exact m) JX (by rw[e];exact⟨_,x,q⟩)
def zg(a b:JF Int)(n:Nat):(sliceBounds a b none n).1=((HT.sIx n 0 a:Nat):Int)/\(sliceBounds a b none n).2.1=((HT.sIx n n b:Nat):Int)/\(sliceBounds a b none n).2.2=1:=by
 refine⟨?_,?_,rfl⟩
 ·cases a with
  | none=>simp[sliceBounds,HT.sIx]
  | some i=>
   simp only[sliceBounds,HT.sIx,Option.getD_none,show(1:Int)>0 by decide,if_true];by_cases h:i<0
   ·simp only[h,if_true]<;>omega
   ·simp only[h,if_false]<;>omega
 ·cases b with
  | none=>simp[sliceBounds,HT.sIx]
  | some i=>
   simp only[sliceBounds,HT.sIx,Option.getD_none,show(1:Int)>0 by decide,if_true];by_cases h:i<0
   ·simp only[h,if_true]<;>omega
   ·simp only[h,if_false]<;>omega
def zh(a:on JG)(b c:JF Int):slicePick a.toArray b c none=((a.drop (HT.sIx a.length 0 b)).take (HT.sIx a.length a.length c - HT.sIx a.length 0 b)).toArray:=by
 obtain⟨f,e,d⟩:=zg b c a.toArray.size;unfold slicePick;rw[f,e,d];simp only[sliceRange_one,pick_run,t8]<;>rfl
def rSlL(K:JQ):V->JF Int->JF Int->Hp->VK->Prop:=λ x lo hi H Q=>∃a xs,x=.ref a/\SqL K H a xs/\∀p,H p=none->Q (.ref p) (upd H p (.lst (cutV xs lo hi)))
def zi:SlR X (rSlL X.K):=by
 intro d s σ H x v vl vu j o sl Q I f n i g h;obtain⟨a,e,rfl,m,q⟩:=h;cases f;obtain⟨k,r,ht,l⟩:=I.list m;have c:=r.length;refine⟨"list",_,slot_list_getitem.lookup,ht.isList.typeIs,?_⟩;refine wpAny_getItem_list_slice ht.isList n i g .none (by simp) ?_ (by rw[t8]<;>omega);rw[zh,←c];refine⟨.ref s.heap.objs.size,_,I.laid (λ b ob q=>k6 _ q) (i6 _) ?_,rfl,q _ (I.hok.fresh (i6 _))⟩;exact⟨i9 (oO e j o) l,_,0,(r.drop _).take _,p8 _ rfl⟩
def jw:z9 X (.builtin "len") (λ g H Q=>∃p b,g=[.ref p]/\(SqL X.K H p b\/SqT X.K H p b)/\Q (.int b.length) H):=by
 intro i s σ H g us Q I r h;obtain⟨p,b,rfl,c,q⟩:=h;obtain⟨u,rfl,j⟩:=G2 r;cases j;have hn:=aT;rcases c with c | c
 ·obtain⟨f,d,e,k⟩:=I.list c;have a:=d.length;exact Calls.call_len_list e.isList (by simp only[t8]<;>omega) ⟨.int b.length,H,I.tok _,⟨s.toks+1,by rw[t8,a]⟩,q⟩
 ·obtain⟨f,d,e,k⟩:=I.tuple c;have a:=d.length;exact len_tuple e (by simp only[t8]<;>omega) ⟨.int b.length,H,I.tok _,⟨s.toks+1,by rw[t8,a]⟩,q⟩
def jx:z9 X (.type "list") (λ z H Q=>∃p c,z=[.ref p]/\(SqL X.K H p c\/SqT X.K H p c)/\∀l,H l=none->Q (.ref l) (upd H l (.lst c))):=by
 intro g s A H z us Q I r h;obtain⟨p,c,rfl,k,q⟩:=h;obtain⟨u,rfl,B⟩:=G2 r;cases B;have v:∀(a:on JG),Vals c a->c.length<=sizeLine->∀(b:JJ) (f:Nat),_ ->
   b.get? s.heap.objs.size=some {cls:=.type "list",dict:=none,data:=.seq a.toArray f,slots:=#[]} -> EP X g A Q _ {s with heap:=b}:=λ a d j b f i e=>
  ⟨.ref s.heap.objs.size,_,I.laid i (i6 _) (show u9 X.prog X.w _ b _ (.lst c)from⟨j,a,f,d,e⟩),rfl,q _ (I.hok.fresh (i6 _))⟩
 rcases k with k | k
 ·obtain⟨a,d,w,j⟩:=I.list k;have m:=d.length;obtain⟨o,x,y,n,hd⟩:=w.isList;exact call_list_seq p (.inl rfl) x y hd (λ b f i e=>v a d j b f i e) (by simp only[t8]<;>omega)
 ·obtain⟨a,d,w,j⟩:=I.tuple k;have m:=d.length;obtain⟨o,x,y,n,hd⟩:=w;exact call_list_seq p (.inr rfl) x y hd (λ b f i e=>v a d j b f i e) (by simp only[t8]<;>omega)
def oR:z9 X (.type "tuple") (λ i H Q=>∃p a,i=[.ref p]/\((SqL X.K H p a/\∀l,H l=none->Q (.ref l) (upd H l (.tup a)))\/(SqT X.K H p a/\Q (.ref p) H))):=by
 intro j s σ H i us Q I r h;obtain⟨p,a,rfl,h⟩:=h;obtain⟨u,rfl,v⟩:=G2 r;cases v;rcases h with⟨g,q⟩ | ⟨g,q⟩
 ·obtain⟨c,d,f,k⟩:=I.list g;have m:=d.length;refine call_tuple_list f.isList (λ x w=>?_) (by simp only[t8]<;>omega);have n:=I.kept (t':=s.toks) w;have y:=
   n.laid (t':=s.toks) (λ b o e=>k6 _ e) (i6 _) (show u9 X.prog X.w _ _ _ (.tup a)from⟨k,c,d,P5.new _ _⟩)
  exact⟨.ref x.objs.size,_,y,rfl,q _ (n.hok.fresh (i6 _))⟩
 ·obtain⟨c,d,f,k⟩:=I.tuple g;exact call_tuple_same f ⟨.ref p,H,I,rfl,q⟩
def tyV(K:JQ)(T:JW)(x:V)(H:Hp):Prop:=match x with
 | .str _=>T = "str"
 | .int _=>T = "int"
 | .ref p=>(T = "list" /\ ∃xs,SqL K H p xs)\/(T = "tuple" /\ ∃o,K.lookup p=some o/\o.cls=.type "tuple" /\ o.dict=none) \/
   (T = "dict" /\ ((∃kvs,H p=some (.dK kvs))\/∃kvs,H p=some (.dT kvs)))\/(T = "set" /\ ∃S n,H p=some (.set S n))
 | _=>False
def oS(I:Inv X d σ H s)(r:RelV x v)(f:tyV X.K T x H) :
  s.TypeIs v T/\∀a,v=.ref a->∃k,s.heap.get? a=some k/\k.dict=none:=by
 cases x with
 | str z=>
  obtain⟨t,rfl⟩:=r;cases(f);exact⟨typeIs_str s z t,λ _ e=>nomatch e⟩
 | int i=>
  obtain⟨t,rfl⟩:=r;cases(f);exact⟨typeIs_int s i t,λ _ e=>nomatch e⟩
 | ref p=>
  cases r;rcases f with⟨rfl,xs,m⟩ | ⟨rfl,o,b,hc,hd⟩ | ⟨rfl,b⟩ | ⟨rfl,S,n,b⟩
  ·obtain⟨l,_,j,_⟩:=I.list m;refine⟨j.isList.typeIs,λ a e=>?_⟩;cases e;obtain⟨o,n,e,c,hd,_⟩:=j;exact⟨o,e,hd⟩
  ·refine⟨⟨o,I.kIn p o b,hc⟩,λ a e=>?_⟩;cases e;exact⟨o,I.kIn _ o b,hd⟩
  ·have z:∃o,s.heap.get? p=some o/\o.ExactDict:=by
    rcases b with⟨g,b⟩ | ⟨g,b⟩
    ·obtain⟨_,_,_,_,o,_,_,e,ex,_⟩:=I.hok p _ b;exact⟨o,e,ex⟩
    ·obtain⟨_,_,_,_,o,_,_,e,ex,_⟩:=I.hok p _ b;exact⟨o,e,ex⟩
   obtain⟨o,e,ex⟩:=z;refine⟨⟨o,e,ex.1⟩,λ a h=>?_⟩;cases h;exact⟨o,e,ex.2.1⟩
  ·obtain⟨o,_,_,_,e,ex,_⟩:=I.hok p _ b;refine⟨⟨o,e,ex.1⟩,λ a h=>?_⟩;cases h;exact⟨o,e,ex.2.1⟩
 | _=>exact False.elim f
noncomputable def tBM0(K:JQ)(T:JW)(r:V->on V->Hp->VK->Prop)(to:TE):TE:=λ σ H Q=>to σ H λ x H1=>tyV K T x H1/\r x [] H1 Q
noncomputable def tBM(K:JQ)(T:JW)(r:V->on V->Hp->VK->Prop)(to:TE)(t:TA):TE:=λ σ H Q=>to σ H λ x H1=>tyV K T x H1/\t σ H1 λ xs H2=>r x xs H2 Q
def zj{a:Str}(p:PlainAttrs T)(slot:Slot T a g)(i:typeOf (.builtin g)=pure (.type "method_descriptor"))(u:MtR X g r)(q:PE X o k)
  (f:attributeBase o a X.env (eval o X.env)=eval o X.env:=by rfl) (e:(d.endLine==c.line)=true:=by rfl):PE X (.Call (.Attribute o a d) [] [] c) (tBM0 X.K T r k):=by
 intro b s j H Q I h;refine ny f e (thn (q b s j H _ I h) λ v s1 t0=>?_);obtain⟨x,z,l,r1,m,n⟩:=t0;obtain⟨y,w⟩:=oS l r1 m;exact⟨T,g,p,slot,i,y,w,eD rfl (PySem.evalArgs_none (u b s1 j z x [] v [] Q l r1 .nil n))⟩
def oT{a:Pos}(F:PlainAttrs T)(slot:Slot T d m)(p:typeOf (.builtin m)=pure (.type "method_descriptor"))(L:MtR X m r)(K:PE X o q)(M:PA X (e::es) t)
  (j:attributeBase o d X.env (eval o X.env)=eval o X.env:=by rfl)
  (l:((backTo a (starEach (e::es) X.env)).all (λ x=>!x.1)&&(backToKw a (keywordEach [] X.env)).all (λ x=>x.1.isSome)
   && decide ((e::es).length+([]:on Keyword).length+(if([]:on Keyword).isEmpty then 0 else 1)<30))=true:=by rfl)
  (i:(g.endLine==a.line)=true:=by rfl) (J:starEach (e::es) X.env=(false,eval e X.env)::starEach es X.env:=by rfl) (f:(backTo a (starEach es X.env)).any (·.1)=false:=by rfl) :
  PE X (.Call (.Attribute o d g) (e::es) [] a) (tBM X.K T r q t):=by
 intro c s n H Q I h;refine nK j l i rfl (thn (K c s n H _ I h) λ v s1 t0=>?_);obtain⟨x,S,w,r1,A,E⟩:=t0;obtain⟨O,N⟩:=oS w r1 A;refine⟨T,m,F,slot,p,O,N,?_⟩;have u:=M a c s1 n S _ w E;rw[J]at u ⊢;refine eD (by show(false||(backTo a _).any (·.1))=false;rw[f]<;>rfl) (Calls.evalArgs_plain ?_);exact thn u λ z s2 ⟨y,R,P,B,C⟩=>L c s2 n R x y v z Q P r1 B C
end
end L2
namespace L2
open PySem PySem.Spec PyProof.Rows
def MtM(X:Cx)(id:JW)(r:V->on V->Hp->VK->Prop):Prop:=
 ∀(pins:on (JI×Obj)) (s:JH) (σ:St) (H:Hp) (x:V) (xs:on V) (v:JG) (us:on JG) (Q:VK),Inv X pins σ H s->RelV x v->Vals xs us->r x xs H Q ->
  wpAny Kb X.A (call (.builtin id) (v::us)) (EP X pins σ Q) X.xe s
def Vals.unc(h:Vals (x::xs) b):∃u a,b=u::a/\RelV x u/\Vals xs a:=by
 cases h with
 | cons r t=>exact⟨_,_,rfl,r,t⟩
def Vals.nl(h:Vals [] a):a=[]:=by cases h;rfl
def Vals.one{x:V}{us:on JG}(h:Vals [x] us):∃u,us=[u]/\RelV x u:=by
 obtain⟨u,ws,rfl,r,t⟩:=h.unc;cases t.nl;exact⟨_,rfl,r⟩
def Vals.two{x y:V}{us:on JG}(h:Vals [x,y] us):∃u v,us=[u,v]/\RelV x u/\RelV y v:=by
 obtain⟨u,ws,rfl,r,t⟩:=h.unc;obtain⟨v,rfl,q⟩:=t.one;exact⟨_,_,rfl,r,q⟩
theorem Vals.rep(h:Vals xs a):∀k:Nat,Vals (List.replicate k xs).flatten (List.replicate k a).flatten
 | 0=>.nil
 | k+1=>by rw[O5,O5,O6,O6];exact Vals.append h (Vals.rep h k)
theorem oU(a:on JG):∀(k:Nat) (b:on JG),
  List.foldl (λ d c=>d++c) b.toArray (List.replicate k a.toArray)=(b++(List.replicate k a).flatten).toArray
 | 0,b=>by simp
 | k+1,b=>by
  have e:b.toArray++a.toArray=(b++a).toArray:=by simp
  have f:_++(List.replicate k a).flatten=b++(List.replicate (k+1) a).flatten:=(by rw[O5,O6,O7]);rw[←f,←oU a k _,←e,O5,eR]
def Inv.lset{c:on JG}(I:Inv X b σ H s)(k:H l=some (.lst xs))
  (e:s.heap.get? l=some {cls:=.type "list",data:=.seq c.toArray n}) (i:f c.toArray=a.toArray) (hv:Vals d a) (g:d.length<=sizeLine) :
  Inv X b σ (upd H l (.lst d)) {s with heap:=s.heap.update l (Obj.mapSeq f),toks:=t'}:=by
 have q:=PySem.IsL.update e f;rw[i]at q;refine I.write (by rw[k];exact trivial) (.inl rfl) (λ b' u j h=>(Q7 s.heap _ (Ne.symm j)).trans h) ⟨_,q⟩ ?_;exact⟨g,a,_,hv,q⟩
def Inv.lnew(I:Inv X a σ H s)(hv:Vals c b)(d:c.length<=sizeLine) :
  Inv X a σ (upd H s.heap.objs.size (.lst c)) {s with heap:=s.heap.push {cls:=.type "list",data:=.seq b.toArray},toks:=t'}:=
 I.laid (λ _ _ q=>k6 _ q) (i6 _) ⟨d,b,0,hv,p8 _ rfl⟩
theorem Inv.fresh(I:Inv X a σ H s):H s.heap.objs.size=none:=I.hok.fresh (i6 _)
def Inv.lstM(I:Inv X b σ H s)(c:H l=some (.lst xs)):xs.length<=sizeLine/\∃(a:on JG) (n:Nat),Vals xs a/\xs.length=a.length/\s.heap.get? l=some {cls:=.type "list",data:=.seq a.toArray n}:=by
 obtain⟨z,a,n,r,e⟩:=I.hok l _ c;exact⟨z,a,n,r,r.length,e⟩
def oV(h:n<=sizeLine):Builtin.List.listTooLong n=false:=by
 unfold Builtin.List.listTooLong;exact A7 JX
def zk:V->on V->Hp->VK->Prop:=λ x vs H Q=>∃l xs y,x=.ref l/\vs=[y]/\H l=some (.lst xs)/\xs.length<sizeLine/\Q .non (upd H l (.lst (xs++[y])))
def zm:MtM X "list.append" zk:=by
 intro b s σ H x vs v us Q I d f h;obtain⟨l,xs,y,rfl,rfl,c,hz,q⟩:=h;cases d;obtain⟨u,rfl,g⟩:=f.one;obtain⟨z,a,n,r,hl,e⟩:=I.lstM c;refine call_meets F.slot_list_append ⟨_,e,rfl⟩ F.entry_list_append (F.args_list_append_2 _ _) (PySem.list_append l a.toArray n u (by rw[t8];omega)) ⟨e,?_⟩;refine⟨.non,_,I.lset c e (by simp) (r.append (.cons g .nil)) ?_,rfl,q⟩;rw[t7,im];omega
def rCat:R2:=λ x y H Q=>∃l b xs zs,x=.ref l/\y=.ref b/\H l=some (.lst xs)/\H b=some (.lst zs)/\xs.length+zs.length<=sizeLine/\∀p,H p=none->Q (.ref p) (upd H p (.lst (xs++zs)))
def zn:OpR X (binaryOp .Add) rCat:=by
 intro d s σ H x y v u Q I g f h;obtain⟨l,b,xs,zs,rfl,rfl,k,m,hz,q⟩:=h;cases g;cases f;obtain⟨z,c,n,r,hl,e⟩:=I.lstM k;obtain⟨z2,a,n2,i,j,p⟩:=I.lstM m;refine PySem.P.add_list e p ?_ (by rw[t8,t8];omega);have o:c.toArray++a.toArray=(c++a).toArray:=by simp
 rw[o];exact⟨.ref _,_,I.lnew (r.append i) (by rw[t7];omega),rfl,q _ I.fresh⟩
def rRep:R2:=λ x y H Q=>∃l k xs,x=.ref l/\y=.int k/\H l=some (.lst xs) /\ -(2^63)<=k/\k<2^63/\xs.length*k.toNat<=sizeLine /\
 ∀p,H p=none->Q (.ref p) (upd H p (.lst (List.replicate k.toNat xs).flatten))
def zo(xs:on a)(k:Nat):(List.replicate k xs).flatten.length=k*xs.length:=by
 induction k with
 | zero=>simp
 | succ k b=>rw[O5,O6,t7,b,Nat.succ_mul,jb]
def zp:OpR X (binaryOp .Mult) rRep:=by
 intro g s σ H x y v u Q I A w h;obtain⟨l,k,xs,rfl,rfl,C,J,E,i,q⟩:=h;cases A;obtain⟨t,rfl⟩:=w;obtain⟨z,b,n,r,B,e⟩:=I.lstM C;have d:b.toArray.size*k.toNat<=sizeLine:=by rw[t8,←B];exact i
 have f:¬b.toArray.size*k.toNat>(2^63 - 1)/8:=by
  have:(sizeLine:Nat)<=(2^63 - 1)/8:=by decide
  omega
 have c:List.foldl (λ o j=>o++j) #[] (List.replicate (if b.toArray.isEmpty=true then 0 else k.toNat) b.toArray)=(List.replicate k.toNat b).flatten.toArray:=by
  have K:=λ m=>by have:=oU b m [];rw[iO]at this;exact this
  rw[K];cases b with
  | nil=>simp
  | cons a r'=>rw[g8 (by simp)]
 refine wpAny_binaryOp_repeat_ref JY ⟨_,e,rfl⟩ (λ p=>typeIs_int p k t) noFill_list_mul F.fills_int_mul F.slot_int_rmul repeat_list F.slot_int_index.lookup
  (call_meets F.slot_int_rmul (typeIs_int s k t) F.entry_int_rmul (F.args_int_rmul_2 _ _) (int___rmul___int_list k t l b.toArray n)
   ⟨e,rfl,⟨_,e,rfl⟩,call_meets F.slot_list_mul ⟨_,e,rfl⟩ F.entry_list_mul (F.args_list_mul_2 _ _) (AutoListH.list___mul___list_int_3 l b.toArray n k t ((by rw[fitsIndex_both J E];exact z7)) f ((by rw[oV d];exact z7))) ⟨e,?_⟩⟩)
 rw[c];exact⟨.ref _,_,I.lnew (r.rep k.toNat) (by rw[zo,Nat.mul_comm];exact i),rfl,q _ I.fresh⟩
end L2
namespace Att
open PySem PySem.W PySem.Calls PyProof.Rows
def zq:∀(ns:on Int) (vs:on JG),WellAll P h vs (ns.map WData.int)->IntsAre vs ns:=by
 intro ns
 induction ns with
 | nil=>
  intro vs w;rw[fh]at w;cases w;exact .nil
 | cons n ns c=>
  intro vs w;rw[o5]at w;cases w with
  | cons a b=>
   cases a;exact .cons _ _ (c _ b)
def zr{l:OpenLaw}(u:l.most=some n)
  (e:l.row.toRowW.claim.pre b=true) (k:WellAll P h c b) :
  ∃a vs ns,c=[Value.ref a]/\b=[WData.list (ns.map WData.int)]/\h.get? a=some {cls:=.type "list",data:=.seq vs.toArray} /\ IntsAre vs ns/\ns.length<=n:=by
 have m:l.pre.holds [] {args:=b} = true:=(pre_splitW e).2;obtain⟨d,r,rfl,x,w⟩:=hasAllW_cons ((pre_splitW e).1);obtain rfl:=hasAllW_nil w;obtain⟨xs,rfl,v⟩:=hasW_list x;obtain⟨ns,rfl⟩:=items_int v;have f:ns.length<=n:=by
  unfold OpenLaw.pre at m;have j:(WTm.not (.lt (.lit (.int (n:Int))) (.len (.arg 0)))).holds [] {args:=[.list (ns.map .int)]} = true:=by have j:=(holds_andW m).1;rw[u]at j;exact j
  have i:=condW_of j (w_not (w_lt w_lit (w_len_list (w_arg rfl))));rw[g7]at i;refine iI λ q=>?_
  first
   | (rw[B1 (by omega)]at i;exact absurd i JY)
   | (simp at i;omega)
 cases k with
 | cons p o=>
  cases o;cases p with
  | list s g=>exact⟨_,_,ns,rfl,rfl,s,zq ns _ g,f⟩
def zt(l:OpenLaw)(a:on WData):l.row.toRowW.claim.post a (.bool true) a=true:=
 postW_of
  (by first | rfl | decide | simp[WShape.has,WShape.arms,WShape.armsAll])
  (show(WTm.eq .res _).value [] {args:=a,res:=some _,after:=a} = some (.bool _)from w_eq_bool (w_res rfl) w_lit) rfl
def attach_call{l:OpenLaw}
  (H:l.most=some n) (v:d.params.defaults=[])
  (call:∀(w:JM) (c b:JH) (mg p:Str->JF JG) (k:JI) (o:Obj) (pm cd g:JG) (a:JI) (vs:on JG) (ns:on Int),
   Ground q loose [] XP w c mg p b.heap->YP w b.heap ->
   b.heap.get? k=some o->o.data=.func (docDef d.name d.params d.body d.scope pm cd g)->b.heap.CodeRec cd d.name->mg d.name=some (.ref k) ->
   b.heap.get? a=some {cls:=.type "list",data:=.seq vs.toArray} -> IntsAre vs ns->ns.length<=n->b.gens = #[] ->
   codeAny (model l.prog w) callerA (.call (.ref k) ⟨[.ref a],[]⟩) (λ r m=>r=.ok (.ret (.bool true))/\OldK b.heap m.heap/\m.os=b.os/\AllBare m.gens) b) :
  WalkO q loose XP YP l.row.toRowW d [] (λ f vs=>PySem.call f vs):=by
 intro w c b mg p G Y k o pm cd g O kV F hd x A u K B y as h z C s J;obtain rfl:O=.none:=Dflts.none A v;obtain rfl:kV=.none:=Dflts.noKw A;obtain⟨a,vs,ns,rfl,rfl,i,e,j⟩:=zr H h s;refine enter_call (R6 (call w c b mg p k o pm cd g a vs ns G Y F (fd_plain hd) x u i e j K) λ r m E=>?_);obtain⟨rfl,N,M,L⟩:=E;exact⟨.inl ⟨.bool true,.bool true,[],rfl,λ _=>rfl,.bool true,zt l _,λ _=>⟨List.Pairwise.nil,λ _ I=>(nomatch I)⟩⟩,N,M,L⟩
end Att
namespace L2
open PySem PySem.Spec PyProof.Rows
theorem oW:∀{vs:on JG} {ns:on Int},IntsAre vs ns->Vals (ns.map V.int) vs
 | _,_,.nil=>.nil
 | _,_,.cons n t h=>.cons ⟨t,rfl⟩ (oW h)
def Only(H:Hp):Prop:=∀b,H b=none\/(∃o xs,H b=some (.frz o (.lst xs)))\/∃q,H b=some (.tbl q)
theorem cK{a:Type}:∀{l:on (JI×a)} {c:a},l.lookup x=some c->(x,c)∈l
 | (y,v)::l,c,h=>by
  rw[E2]at h;split at h
  ·rename_i e;cases h;rw[g9.mp e];exact k8
  ·exact k5 _ (cK h)
theorem oX{a:Type}:∀{l:on (JI×a)} {c:a},l.lookup x=none->(x,c)∉l
 | (y,v)::l,c,h,m=>by
  rw[E2]at h;split at h
  ·cases h
  ·rename_i e;rcases i5.mp m with z | z
   ·cases z;simp at e
   ·exact oX h z
def zu{l:on (e×d)}(f:(l.map (·.1)).Nodup)(g:(p.1,q)∈l)(i:p∈l):q=p.2:=by
 induction l with
 | nil=>cases g
 | cons y l h=>
  rw[o5]at f;have a:=O9.mp f;rcases i5.mp g with c | c<;>rcases i5.mp i with b | b
  ·rw[b,←c]
  ·exact absurd (k9.mpr ⟨p,b,by rw[←c]⟩) a.1
  ·exact absurd (k9.mpr ⟨_,c,by rw[b]⟩) a.1
  ·exact h a.2 c b
def zw{K:JQ}
  (KX:K.In c.heap) (R:c.heap.Ns mainGlobals mg) (j:c.heap.Ns builtinsNs mb) (a5:∀x:Str,x ≠ "__name__" -> mb x=bootBuiltins x) (U:c.heap.NoLimit) (hg:c.gens = #[])
  (O:c.heap.get? a=some {cls:=.type "list",data:=.seq vs.toArray}) (hi:IntsAre vs ns) (hl:ns.length<=sizeLine) (hr:Room k callerA)
  (F:∀y:JJ,K.In y->y.Ns mainGlobals mg->FnOk P w K mg y CX k fa fd [x] sp) (N:∀(s:JH) (u:JG),BindsTo s fd ⟨[u],[]⟩ [(x,u)])
  (a3:∀H:Hp,Only H->SqL K H a (ns.map V.int)->sp [.ref a] H (λ v _=>v=.bl true) λ _ _ _=>False)
  (i:∀p∈x9 K,K.lookup p.1=none/\c.heap.get? p.1=some {cls:=.none,data:=.fields #[]} /\ isCodeTable c.heap p.1) (a2:((x9 K).map (·.1)).Nodup)
  (a4:∃L E,mg "__builtins__" = some (.ref L)/\L≠builtinsNs/\c.heap.get? L=some E/\E.cls=.type "module" /\ E.dict=some builtinsNs/\E.data=.plain)
  (a7:∀H e l,CX [] H c (λ _ _ _=>False) e l->False) :
  codeAny (model P w) callerA (.call (.ref fa) ⟨[.ref a],[]⟩) (λ r l=>r=.ok (.ret (.bool true))/\OldK c.heap l.heap/\l.os=c.os/\AllBare l.gens) c:=by
 have rv:=oW hi;have Q:=hi.length;have J:∀H:Hp,Only H->SqL K H a (ns.map V.int)->HOk P w H c.heap->(∀b,H b≠none->b=a\/((∃q,(b,q)∈x9 K)/\∃q,H b=some (.tbl q)))->(H a≠none->K.lookup a=none)->cH K H ->
   codeAny (model P w) callerA (.call (.ref fa) ⟨[.ref a],[]⟩) (λ r l=>r=.ok (.ret (.bool true))/\OldK c.heap l.heap/\l.os=c.os/\AllBare l.gens) c:=by
  intro H hO hS M hA hK hT;have g:∀{b:JI} {o:Obj},c.heap.get? b=some o->H b=none->(hidT c.heap H).get? b=some o:=λ e n=>xr e n
  have a1:∀{b:JI} {o:Obj} {es:JL DictEntry} {ep:Nat},c.heap.get? b=some o->o.data=.dict es ep->H b=none:=λ {b o es ep} e d=>by
   cases q:H b with
   | none=>rfl
   | some u=>
    rcases hA b (by rw[q];simp)with e' | ⟨⟨qq,e'⟩,_⟩
    ·subst e';rw[O]at e;cases e;have d':=d;cases d'
    ·rw[(i _ e').2.1]at e;cases e;have d':=d;cases d'
  have A:∀{b:JI} {m:Str->JF JG},c.heap.Ns b m->(hidT c.heap H).Ns b m:=λ {b m} ⟨o,es,ep,e,d,r⟩=>⟨o,es,ep,g e (a1 e d),d,r⟩;have W:=λ b o e=>g (KX b o e) (by
   cases q:H b with
   | none=>rfl
   | some u=>
    rcases hA b (by rw[q];simp)with e' | ⟨⟨qq,e'⟩,_⟩
    ·subst e';rw[hK (by rw[q];simp)]at e;cases e
    ·rw[(i _ e').1]at e;cases e)
  have hM:Mod K mg (hidT c.heap H):=by
   refine⟨W,A R,⟨mb,A j,a5⟩,let ⟨mc,X,h2⟩:=U;⟨mc,A X,h2⟩,?L⟩;obtain⟨L,E,b1,b2,b3,b4,b5,b6⟩:=a4;refine⟨L,E,b1,b2,g b3 ?_,b4,b5,b6⟩;cases q:H L with
   | none=>rfl
   | some u=>
    rcases hA L (by rw[q];simp)with e' | ⟨⟨qq,e'⟩,_⟩
    ·subst e';rw[O]at b3;cases b3;exact absurd (Value.type.inj (show Value.type "list" = Value.type "module" from b4)) JY
    ·rw[(i _ e').2.1]at b3;cases b3;cases b4
  have e0:Env0 P w K mg (hidT c.heap H) callerA [] c H:=⟨rfl,hM,λ b o e=>xt e,Nat.le_of_eq (xq _ _),trivial,⟨λ b j=>absurd (show b∈([]:on JI)from j) (by simp),hT⟩,M,.of_eq hg⟩;refine R6 ((F _ W (A R)).run callerA [] c H ⟨[.ref a],[]⟩ [.ref a] [.ref a] _ _ hr e0 (N c (.ref a)) (.cons rfl .nil) (a3 H hO hS)) λ r l h=>?_;cases r with
  | error e=>exact(a7 H e l h).elim
  | ok fl=>
   cases fl with
   | next=>exact False.elim h
   | brk=>exact False.elim h
   | cont=>exact False.elim h
   | ret u=>
    obtain⟨v,H',os,Z,un,I,r',q⟩:=h;have q':v=.bl true:=q;subst q';obtain rfl:u=Value.bool true:=r';refine⟨rfl,⟨λ b o e=>?_,λ b o e=>un.there b o e (by simp)⟩,os,Z⟩;cases q:H b with
    | none=>exact .inl (un.keep b o e q (by intro z;exact absurd (show b∈([]:on JI)from z) (by simp)) (by simp))
    | some u=>
     rcases hO b with z | ⟨E,xs,z⟩ | ⟨qq,z⟩
     ·rw[q]at z;cases z
     ·have z2:=un.frzs b E _ z;obtain⟨Y,_⟩:=M b _ z;obtain⟨e2,_⟩:=I b _ z2;rw[e]at Y;cases Y;exact .inl e2
     ·rcases hA b (by rw[q];simp)with e' | ⟨⟨q2,e'⟩,_⟩
      ·subst e';obtain⟨ps,Y,_⟩:=M b _ z;rw[O]at Y;have:=congrArg Obj.data (A8 Y);cases this
      ·have t:=i _ e';rw[t.2.1]at e;cases e;obtain⟨ps,e2,_⟩:=I b _ (un.tbls b _ z);exact .inr (.inl ⟨t.2.2,rfl,#[],ps,rfl,by simpa using e2⟩)
 have C:∀f:Hp,(∀p∈x9 K,f p.1=none)->∃H:Hp,(∀b,(∃q,(b,q)∈x9 K/\H b=some (.tbl q))\/((∀q,(b,q)∉x9 K)/\H b=f b)):=λ f hf=>by
  refine⟨λ b=>match(x9 K).lookup b with | some q=>some (.tbl q) | none=>f b,λ b=>?_⟩;cases z:(x9 K).lookup b with
  | some q=>exact .inl ⟨q,cK z,by simp only[z]⟩
  | none=>exact .inr ⟨λ q hq=>oX z hq,by simp only[z]⟩
 have B:∀{H:Hp} {f:Hp},(∀b,(∃q,(b,q)∈x9 K/\H b=some (.tbl q))\/((∀q,(b,q)∉x9 K)/\H b=f b))->cH K H:=λ {H f} h p hp=>by
  rcases h p.1 with⟨q,X,h2⟩ | ⟨X,_⟩
  ·rw[h2,zu a2 X hp]
  ·exact absurd hp (X p.2)
 cases hk:K.lookup a with
 | some o=>
  have e:=KX a o hk;rw[O]at e;cases e;obtain⟨H,h⟩:=C (λ _=>none) λ _ _=>rfl;refine J H (λ b=>?_) (.inr ⟨_,vs.toArray,_,hk,rfl,rfl,rfl,by rw[t8,Q];exact hl,by simpa using rv⟩) (λ b u z=>?_) (λ b z=>?_) (λ z=>?_) (B h)
  ·rcases h b with⟨q,_,e⟩ | ⟨_,e⟩
   ·exact .inr (.inr ⟨q,e⟩)
   ·exact .inl e
  ·rcases h b with⟨q,m,e⟩ | ⟨_,e⟩
   ·rw[e]at z;cases z;exact⟨#[],(i _ m).2.1,trivial,λ a0 cv z=>by cases z⟩
   ·rw[e]at z;cases z
  ·rcases h b with⟨q,m,e⟩ | ⟨_,e⟩
   ·exact .inr ⟨⟨q,m⟩,q,e⟩
   ·exact absurd e z
  ·rcases h a with⟨q,m,e⟩ | ⟨_,e⟩
   ·have:=(i _ m).1;rw[hk]at this;cases this
   ·exact absurd e z
 | none=>
  have S:∀q,(a,q)∉x9 K:=λ q m=>by have:=(i _ m).2.1;rw[O]at this;have:=congrArg Obj.data (A8 this);cases this
  obtain⟨H,h⟩:=C (λ b=>if b=a then some (.frz {cls:=.type "list",data:=.seq vs.toArray} (.lst (ns.map V.int)))else none) λ p hp=>g8 λ z=>S p.2 (by rw[←z];exact hp)
  have a6:H a=some (.frz {cls:=.type "list",data:=.seq vs.toArray} (.lst (ns.map V.int))):=by
   rcases h a with⟨q,m,_⟩ | ⟨_,e⟩
   ·exact absurd m (S q)
   ·rw[e];exact f8 rfl
  refine J H (λ b=>?_) (.inl (.inr ⟨{cls:=.type "list",data:=.seq vs.toArray},a6⟩)) (λ b u z=>?_) (λ b z=>?_) (λ _=>hk) (B h)
  ·rcases h b with⟨q,_,e⟩ | ⟨_,e⟩
   ·exact .inr (.inr ⟨q,e⟩)
   ·by_cases j:b=a
    ·exact .inr (.inl ⟨_,_,e.trans (f8 j)⟩)
    ·exact .inl (e.trans (g8 j))
  ·rcases h b with⟨q,m,e⟩ | ⟨_,e⟩
   ·rw[e]at z;cases z;exact⟨#[],(i _ m).2.1,trivial,λ a0 cv z=>by cases z⟩
   ·rw[e]at z;by_cases j:b=a
    ·have z':=(f8 j).symm.trans z;cases z';subst j;exact⟨O,by rw[g7];exact hl,vs,_,rv,O⟩
    ·have z':=(g8 j).symm.trans z;cases z'
  ·rcases h b with⟨q,m,e⟩ | ⟨_,e⟩
   ·exact .inr ⟨⟨q,m⟩,q,e⟩
   ·by_cases j:b=a
    ·exact .inl j
    ·exact absurd (e.trans (g8 j)) z
end L2
namespace L2
open PySem PySem.Spec PyProof.Rows
def walk_of{l:PySem.W.OpenLaw}{K:Params->JQ}{N:JM->CXT}{L:JM->Sp}
  (P:l.most=some n) (A:n<=sizeLine) (C:d.params.defaults=[]) (O:Room k callerA)
  (U:∀(w:JM) (h:JJ),YP w h->(K w.params).In h) (j:∀(w:JM) (h:JJ),YP w h->(∀p∈x9 (K w.params),(K w.params).lookup p.1=none/\h.get? p.1=some {cls:=.none,data:=.fields #[]} /\ isCodeTable h p.1)/\((x9 (K w.params)).map (·.1)).Nodup)
  (F:∀(w:JM) (mg:Str->JF JG) (r:JI) (h:JJ),(K w.params).In h->h.Ns mainGlobals mg->mg d.name=some (.ref r) ->
   ∃fd:FuncData,(∀(s:JH) (u:JG),BindsTo s fd ⟨[u],[]⟩ [(x,u)]) /\
    ∀b:JJ,(K w.params).In b->b.Ns mainGlobals mg->FnOk l.prog w (K w.params) mg b (N w) k r fd [x] (L w))
  (z:∀(w:JM) (H:Hp) (a:JI) (ns:on Int),ns.length<=n->Only H->SqL (K w.params) H a (ns.map V.int)->L w [.ref a] H (λ v _=>v=.bl true) λ _ _ _=>False)
  (E:∀(w:JM) (H:Hp) (s:JH) (e:JG) (y:JH),N w [] H s (λ _ _ _=>False) e y->False) :
  PySem.W.WalkO q loose XP YP l.row.toRowW d [] (λ f I=>PySem.call f I):=by
 refine Att.attach_call P C λ w J i mg mb r o pm cd doc a I ns G Y ho hd R B m g c Q=>?_;have M:=U w _ Y;obtain⟨fd,S,Z⟩:=F w mg r _ M G.T.g B;exact zw M G.T.g G.T.b G.T.builtins G.T.nolimit Q m g (i9 c A) O Z S (λ H X W=>z w H a ns c X W) (j w _ Y).1 (j w _ Y).2 G.T.bmain λ H e y=>E w H i e y
end L2
namespace L2
open PySem PySem.Spec PyProof.Rows
abbrev CX0:CXT:=λ _ _ _ _ _ _=>False
abbrev E0:XK:=λ _ _ _=>False
def oY:jt CX0 X E0:=λ _ _ _ _ _ _ _ h=>h.elim
def iteF{B:Prop}(h:B):if false=true then A else B:=by
 rw[g8 z7];exact h
def iteT{B:Prop}(h:A):if true=true then A else B:=by
 rw[f8 rfl];exact h
def Same(H H':Hp):Prop:=∀b o,H b=some o->H' b=some o
def Same.refl(H:Hp):Same H H:=λ _ _ h=>h
def Same.trans(a:Same H e)(b:Same e d):Same H d:=λ c o h=>b c o (a c o h)
def Same.free(e:Same H a)(h:a l=Option.none):H l=Option.none:=by
 cases q:H l with
 | none=>rfl
 | some o=>
  rw[e l o q]at h;cases h
def Same.seq{K:JQ}(e:Same H b)(h:SqL K H a xs):SqL K b a xs:=by
 rcases h with(h | ⟨o,h⟩) | h
 ·exact .inl (.inl (e _ _ h))
 ·exact .inl (.inr ⟨o,e _ _ h⟩)
 ·exact .inr h
end L2
end
noncomputable section
namespace L2
open PySem PySem.Spec PyProof.Rows
noncomputable def o6(cells:on (Str×JI)):on (Str×JU)->on (Str×JI)->on (Str×JI)
 | [],acc=>acc
 | (n,k)::r,acc=>if(k==NameKind.free)=true then o6 cells r ((n,(cells.lookup n).getD 0)::acc)else o6 cells r acc
theorem jy:∀(d:on (Str×JU)) (b:on (Str×JI)),(∀y∈d,y.2=NameKind.free->∃c,env.cells.lookup y.1=some c) ->
  (forIn d b (λ (x:Str×JU) (cs:on (Str×JI))=>(match x with | (e,f)=>if(f==NameKind.free)=true then(do let a ←cellOf env e;pure (ForInStep.yield ((e,a)::cs)))else pure (ForInStep.yield cs):Sem (ForInStep (on (Str×JI))))):Sem (on (Str×JI)))=pure (o6 env.cells d b)
 | [],b,_=>rfl
 | (n,k)::r,b,h=>by
  have j:=λ y m=>h y (k5 _ m);rw[aL];by_cases g:(k==NameKind.free)=true
  ·obtain⟨c,l⟩:=h (n,k) k8 (g9.mp g);have o:cellOf env n=pure c:=by unfold cellOf;rw[l]
   have i:o6 env.cells ((n,k)::r) b=o6 env.cells r ((n,c)::b):=(by show(if(k==NameKind.free)=true then o6 env.cells r (_::b)else o6 env.cells r b)=_;rw[f8 g,l];rfl);rw[i,←jy r _ j];simp only[g,if_true,o];rfl
  ·have i:o6 env.cells ((n,k)::r) b=o6 env.cells r b:=by
    show(if(k==NameKind.free)=true then o6 env.cells r (_::b)else o6 env.cells r b)=_;rw[g8 g]
   rw[i,←jy r b j];simp only[g,if_false];rfl
def fC(h:∀y∈scope.names,y.2=NameKind.free->∃c,env.cells.lookup y.1=some c):closureFor scope env=pure (o6 env.cells scope.names []):=by
 unfold closureFor
 first
  | exact _.trans rfl
  | (simp only[(jy scope.names [] h)];rfl)
theorem aV:∀{a:on (Str×JU)} {d:on (Str×JI)} {x:Str} {c:JI},(∀y∈a,y.2=NameKind.free->∃c,b.lookup y.1=some c) ->
  (x,c)∈o6 b a d->(x,c)∈d\/(b.lookup x=some c/\(x,NameKind.free)∈a)
 | [],d,x,c,_,h=>.inl h
 | (n,k)::r,d,x,c,g,h=>by
  have f:=λ y i=>g y (k5 _ i);unfold o6 at h;by_cases e:(k==NameKind.free)=true
  ·rw[f8 e]at h;obtain⟨c',j⟩:=g (n,k) k8 (g9.mp e);rcases aV f h with z | ⟨z1,z2⟩
   ·rcases i5.mp z with z | z
    ·cases z;exact .inr ⟨by rw[j];rfl,by rw[←g9.mp e];exact k8⟩
    ·exact .inl z
   ·exact .inr ⟨z1,k5 _ z2⟩
  ·rw[g8 e]at h;rcases aV f h with z | ⟨z1,z2⟩
   ·exact .inl z
   ·exact .inr ⟨z1,k5 _ z2⟩
theorem jz:∀{a:on (Str×JU)} {c:on (Str×JI)} {y:Str×JI},y∈c->y∈o6 b a c
 | [],_,_,h=>h
 | (n,k)::r,c,y,h=>by
  unfold o6;split
  ·exact jz (k5 _ h)
  ·exact jz h
theorem fD:∀{a:on (Str×JU)} {d:on (Str×JI)} {x:Str} {c:JI},(x,NameKind.free)∈a->b.lookup x=some c->(x,c)∈o6 b a d
 | (n,k)::r,d,x,c,h,e=>by
  unfold o6;rcases i5.mp h with z | z
  ·cases z;rw[f8 (show(NameKind.free==NameKind.free)=true from rfl),e];exact jz k8
  ·split
   ·exact fD z e
   ·exact fD z e
theorem aW:∀(a:on (Str×JU)) (n:Nat) (b:on (Str×JI)),cellsFrom n a b=cellsFrom n a []++b
 | [],_,_=>rfl
 | (x,k)::r,n,b=>by
  unfold cellsFrom;split
  ·rw[aW r _ _,aW r _ [(x,n)],O7];rfl
  ·exact aW r n b
theorem fE:∀{a:on (Str×JU)} {n:Nat} {x:Str} {c:JI},(x,c)∈cellsFrom n a []->(x,NameKind.cell)∈a
 | [],_,_,_,h=>nomatch h
 | (y,k)::r,n,x,c,h=>by
  unfold cellsFrom at h;by_cases b:(k==NameKind.cell)=true
  ·rw[f8 b,aW]at h;rcases C7.mp h with z | z
   ·exact k5 _ (fE z)
   ·have d:(x,c)=(y,n):=by simpa using z
    cases d;rw[g9.mp b];exact k8
  ·rw[g8 b]at h;exact k5 _ (fE h)
theorem M5{a:Type}:∀{l r:on (Str×a)},(l++r).lookup x=(l.lookup x).or (r.lookup x)
 | [],r=>by simp
 | (y,v)::l,r=>by
  rw[List.cons_append,E2,E2];cases hb:x==y with
  | true=>rfl
  | false=>exact M5
theorem jA{a:Type}:∀{l:on (Str×a)},(∀c,(x,c)∉l)->l.lookup x=none
 | [],_=>rfl
 | (y,v)::l,h=>by
  rw[E2];cases hb:x==y with
  | true=>exact absurd (by grind) (h v)
  | false=>exact jA λ c b=>h c (k5 _ b)
theorem jC{a:Type}:∀{l:on (Str×a)} {c:a},(x,c)∈l->∃d,l.lookup x=some d
 | (y,v)::l,c,h=>by
  rw[E2];cases b:x==y with
  | true=>exact⟨v,rfl⟩
  | false=>
   rcases i5.mp h with z | z
   ·cases z;rw[T5]at b;cases b
   ·exact jC z
theorem R8{b:Type}:∀{l:on (Str×b)} {c:b},(l.map (·.1)).Nodup->(x,c)∈l->l.lookup x=some c
 | (y,v)::l,c,d,h=>by
  rw[E2];rw[o5]at d;have a:=O9.mp d;rcases i5.mp h with z | z
  ·cases z;rw[T5]
  ·have:x≠y:=λ e=>a.1 (by rw[←e];exact k9.mpr ⟨_,z,rfl⟩);rw[A1.mpr this];exact R8 a.2 z
def jD:(relabel scope env).names.lookup x=(scope.names.lookup x).map λ k=>if(k==NameKind.free&&env.scope.kind == .function&&env.kindOf x==some .cell)=true then NameKind.cell else k:=by
 unfold relabel;show(scope.names.map _).lookup x=_;generalize scope.names=l
 induction l with
 | nil=>rfl
 | cons y r a=>
  obtain⟨n,k⟩:=y;rw[o5];show List.lookup x ((if _=true then _ else(n,k))::_)=_;have e:(if(k==NameKind.free&&env.scope.kind == .function&&env.kindOf n==some .cell)=true then(n,NameKind.cell)else(n,k))=(n,if(k==NameKind.free&&env.scope.kind == .function&&env.kindOf n==some .cell)=true then NameKind.cell else k):=by split<;>rfl
  rw[e,E2,E2];cases b:x==n with
  | true=>rw[g9.mp b];rfl
  | false=>exact a
def zx
  (e:Q (newEnv scope s.heap.objs.size g (cellsFrom (s.heap.objs.size+1) scope.names cl) q none .none (some env) builtinsNs) {s with heap:=pushCells (s.heap.push {cls:=.type "dict",data:=.dict #[]}) scope.names}) :
  wpAny M A (newFunctionEnv scope g cl [] q none .none (some env)) Q E s:=by
 simp only[newFunctionEnv,Option.isSome_some,if_true];refine f0 (wpAny_alloc ?_);refine f0 (wpAny_layCells _ (λ d a c=>by cases b:a==NameKind.cell<;>simp[b]) _ _ _ _ ?_);rw[show({s with heap:=s.heap.push {cls:=.type "dict",data:=.dict #[]}}:JH).heap.objs.size=s.heap.objs.size+1 from D5 ..];exact f0 (f9 (f9 e))
def zC(I:Nat->JH->Prop)
  (turn:∀n s,I n s->wpAny Kc A (pyNext it) (λ r f=>match r with
   | none=>R (.ok .next) f
   | some v=>wpAny Kc A (letOwnedTupleGo a it v) (λ _ d=>wpAny Kc A (assign a env v) (λ _ l=>
     wpAny Kc A (forIn y true λ c r=>if r=true then do let ok ←isTrue c env (eval c env);pure (ForInStep.yield ok)else pure (ForInStep.yield r)) (λ ok b=>
      if ok=true then wpAny Kc A (eval elt env) (λ x k=>
       wpAny Kc A (call (.builtin "list.append") [E,x]) (λ _ j=>∃m,m<n/\I m j) (notedBy Kc A env λ e g=>R (.error e) g) k) (notedBy Kc A env λ e g=>R (.error e) g) b
      else ∃m,m<n/\I m b) (notedBy Kc A env λ e g=>R (.error e) g) l) (notedBy Kc A env λ e g=>R (.error e) g) d) (notedBy Kc A env λ e g=>R (.error e) g) f) (notedBy Kc A env λ e g=>R (.error e) g) s)
  (n:Nat) (h:I n s) :
  codeAny Kc A (.compLoop (.ListComp elt [⟨a,u,y,0⟩] scope pos) 0 it E env) R s:=by
 refine codeAny_loop rfl I (λ n s F=>?_) n h;show wpAny _ A _ _ _ s;refine wpAny_noted ?_;rw[compTurn_list];refine f0 (cr (f0 (B3 (turn n s F) (λ r f p=>?_) λ _ _ i=>i)));cases r with
 | none=>exact f9 p
 | some v=>
  refine f0 (B3 p (λ _ d q=>?_) λ _ _ i=>i);refine f0 (B3 q (λ _ l C=>f0 (B3 C (λ ok b o=>?_) λ _ _ i=>i)) λ _ _ i=>i);cases ok with
  | false=>exact f9 ⟨rfl,o⟩
  | true=>
   exact f0 (f0 (B3 o (λ x k B=>f0 (B3 B (λ _ j z=>f9 (f9 ⟨rfl,z⟩)) λ _ _ i=>i)) λ _ _ i=>i))
def HOk.track(x:HOk P w H h)(d:H a=none)(new:u9 P w (upd H a o) h a o):HOk P w (upd H a o) h:=λ b u e=>by
 by_cases f:b=a
 ·subst f;rw[x3]at e;cases e;exact new
 ·rw[m7 f]at e;exact(x b u e).stay (λ c v _ q=>q) (λ c q=>by rw[m7 (z8 q d)];exact q) (λ c g q=>by rw[m7 (z8 q d)];exact q) (λ c g q=>by rw[m7 (z8 q d)];exact q) λ c _ _ _ _ q=>by rw[m7 (z8 q d)];exact q
def Un.track{fs ex:on JI}{H H':Hp}{h h':JJ}{a:JI}{o:HO}(u:Un fs ex H H' h h')(hn:H' a=none)(hh:h.get? a=none):Un fs ex H (upd H' a o) h h' where
 keep:=u.keep
 slot:=u.slot
 free:=λ b ob q n hx=>by
  have:b≠a:=λ z=>by rw[z,hh]at q;cases q
  rw[m7 this];exact u.free b ob q n hx
 there:=u.there
 tups:=λ b xs q=>by have z:=u.tups b xs q;rw[m7 (z8 z hn)];exact z
 frzs:=λ b ob xs q=>by have z:=u.frzs b ob xs q;rw[m7 (z8 z hn)];exact z
 tbls:=λ b ps q=>by have z:=u.tbls b ps q;rw[m7 (z8 z hn)];exact z
structure CompScope(N N':List Str)(sc osc:Scope)(fr:List (Option Nat)):Prop where
 kind:sc.kind=.function
 nd:N'.Nodup
 snd:(sc.names.map (·.1)).Nodup
 len:fr.length=N'.length
 fre:∀(j i:Nat),fr[j]? = some (some i)->∃x,N'[j]? = some x/\N[i]? = some x/\(x,NameKind.free)∈sc.names
 out:∀y∈sc.names,y.2=NameKind.free->osc.names.lookup y.1=some .cell\/osc.names.lookup y.1=some .free
noncomputable def inner(fr:on (JF Nat))(σ:St):St:=fr.map λ o=>o.bind λ i=>(σ[i]?).join
noncomputable def t5(X:Cx)(scope:JR)(N':on Str)(C:JI)(cells:on (Str×JI))(s₂:JH)(H₂:Hp)(fp:on JI):Cx:=
 {X with N:=N',s₀:=s₂,H₀:=H₂,env:=compEnvC scope cells C X.env,outer:=X.stack,stack:=X.stack,ex:=fp,fn:=λ x=>scope.names.lookup x==some .cell,pn:=[],xe:=λ _ _=>False}
abbrev N7:Obj:={cls:=.type "list",dict:=none,data:=.seq ([]:on JG).toArray}
abbrev cL:Obj:={cls:=.type "dict",data:=.dict #[]}
def zE(S:CompScope X.N N' scope X.env.scope fr)(I:Inv X O σ H d)(f:∀b∈fp,FpOk X O H b)(ho:∀b∈fp,@LT.lt Nat _ b d.heap.objs.size)(hC:C=d.heap.objs.size+1)(M:U=pushCells ((d.heap.push N7).push cL) scope.names) :
  Inv (t5 X scope N' C (cellsFrom (C+1) scope.names (o6 X.env.cells scope.names [])) d H fp) [] (inner fr σ) H {d with heap:=U} /\ U.get? d.heap.objs.size=some N7/\(∀b o,d.heap.get? b=some o->U.get? b=some o):=by
 have Q:(d.heap.push N7).objs.size=d.heap.objs.size+1:=D5 ..;have P:((d.heap.push N7).push cL).objs.size=C+1:=by rw[D5,Q,hC]
 have h:∀b o,d.heap.get? b=some o->U.get? b=some o:=λ b o e=>by rw[M];exact cg _ _ b o (k6 _ (k6 _ e))
 have hD:U.get? d.heap.objs.size=some N7:=by rw[M];exact cg _ _ _ _ (k6 _ (p8 _ rfl))
 have a4:U.Ns C λ _=>none:=by have q:=(Heap.Ns.new (d.heap.push N7) (.type "dict")).keeps (cg scope.names _);rw[Q,←hC]at q;rw[M];exact q
 have ok:=jc scope.names ((d.heap.push N7).push cL) (C+1) [] ⟨λ _ _ A=>(nomatch A),List.Pairwise.nil⟩ (by rw[P];exact i6 _);rw[P,←M]at ok;have J:∀y∈scope.names,y.2=NameKind.free->∃c,X.env.cells.lookup y.1=some c:=λ y hy hk=>I.ok.has y.1 (S.out y hy hk);generalize Z:o6 X.env.cells scope.names []=cl;have F:∀{x:Str} {c:JI},(x,c)∈cl->X.env.cells.lookup x=some c/\(x,NameKind.free)∈scope.names:=λ {x c} A=>by
  rw[←Z]at A;rcases aV J A with z | z
  ·exact nomatch z
  ·exact z
 generalize s:cellsFrom (C+1) scope.names []=own at ok;have a6:cellsFrom (C+1) scope.names cl=own++cl:=by rw[aW,s]
 rw[a6];have L:∀{x:Str} {c:JI},(x,c)∈own->(x,NameKind.cell)∈scope.names:=λ {x c} A=>by rw[←s]at A;exact fE A
 have L1:∀x c,(own++cl).lookup x=some c->((x,c)∈own)\/(X.env.cells.lookup x=some c/\(x,NameKind.free)∈scope.names/\own.lookup x=none):=λ x c e=>by
  rw[M5]at e;cases q:own.lookup x with
  | some c'=>rw[q]at e;cases e;exact .inl (x8 q)
  | none=>rw[q]at e;have z:=F (x8 (show cl.lookup x=some c from e));exact .inr ⟨z.1,z.2,rfl⟩
 have g:=λ {x c} A=>(ok.empty x c A).2;have n:∀{x:Str} {c:Nat},X.env.cells.lookup x=some c->@LT.lt Nat _ c d.heap.objs.size:=λ {x c} e=>by obtain⟨v,z⟩:=I.cell x c e;exact z.lt
 have K:∀{x:Str},(x,NameKind.free)∈scope.names->own.lookup x=none:=λ {x} A=>by refine jA λ c Y=>?_;have a:=R8 S.snd A;have b:=R8 S.snd (L Y);rw[a]at b;cases b
 have B:∀{x:Str} {c:JI},(x,NameKind.free)∈scope.names->X.env.cells.lookup x=some c->(own++cl).lookup x=some c:=λ {x c} A Y=>by rw[M5,K A];obtain⟨c',e⟩:=jC (l:=cl) (by rw[←Z];exact fD A Y);have z:=(F (x8 e)).1;rw[Y]at z;cases z;exact e
 have hX:(t5 X scope N' C (own++cl) d H fp).Ok:=by
  refine⟨I.ok.mod,S.kind,I.ok.glob,I.ok.blt,?_,λ x y c h1 h2=>?_,λ x hx=>?_,λ x c hf Y=>?_,I.ok.hd,I.ok.frames,.inl rfl,λ b R=>⟨?_,λ x c e=>?_⟩,I.bs,i9 I.ok.bsz I.sz,λ b o e R=>?_,λ b R hs=>?_,I.stack,⟨I.stkFree,I.tabs⟩⟩
  ·show d.heap.objs.size<=C;rw[hC];exact aQ _
  ·have h1:(own++cl).lookup x=some c:=h1;have h2:(own++cl).lookup y=some c:=h2;rcases L1 x c h1 with a | ⟨a,_⟩<;>rcases L1 y c h2 with b | ⟨b,_⟩
   ·exact iZ ok.apart a b
   ·exfalso;have q1:=g a;have q2:=n b;omega
   ·exfalso;have q1:=g b;have q2:=n a;omega
   ·exact I.ok.inj x y c a b
  ·have E:(relabel scope X.env).names.lookup x=some .cell\/(relabel scope X.env).names.lookup x=some .free:=hx;show ∃c,(own++cl).lookup x=some c;rw[jD]at E;cases q:scope.names.lookup x with
   | none=>rw[q]at E;rcases E with z | z<;>cases z
   | some k=>
    have km:=x8 q;by_cases k1:k=.cell
    ·subst k1;have z:=eC scope.names (C+1) [] (.inl q);rw[s]at z;obtain⟨c,z⟩:=X2.mp z;exact⟨c,by rw[M5,z];rfl⟩
    ·by_cases k2:k=.free
     ·subst k2;obtain⟨c,e⟩:=J _ km rfl;exact⟨c,B km e⟩
     ·exfalso;rw[q]at E;have e0:(k==NameKind.free)=false:=A1.mpr k2;simp only[K7,e0,eX]at E;rcases E with z | z
      ·exact k1 (by simpa using z)
      ·exact k2 (by simpa using z)
  ·have a5:(scope.names.lookup x==some .cell)=true:=hf;have q:scope.names.lookup x=some .cell:=by simpa using a5
   have z:=eC scope.names (C+1) [] (.inl q);rw[s]at z;obtain⟨c',z⟩:=X2.mp z;have a0:(own++cl).lookup x=some c:=Y;rw[M5,z]at a0;have e:c'=c:=A8 a0;subst e;have:=g (x8 z);show @LE.le Nat _ d.heap.objs.size c';omega
  ·have:=ho b R;show @Ne Nat b C;omega
  ·rcases L1 x c e with a | ⟨a,_⟩
   ·have:=g a;have:=ho b R;show @Ne Nat c b;omega
   ·exact(f b R).2.2.2.2.1 x c a
  ·rcases(f b R).2.2.2.1 with z | z
   ·exact I.ok.noex b o e z
   ·exact absurd (t6 (k7 e) (i9 I.ok.bsz z)) (D6 _)
  ·rcases i5.mp (I.stkSub b hs)with z | z
   ·exact(f b R).2.1 z
   ·exact(f b R).2.2.1 z
 refine⟨⟨hX,rfl,I.bare,Un.kept h,⟨_,a4,λ i x v e1 W e3=>?_⟩,λ x c e=>?_,I.hok.fresh (by show @LE.le Nat _ d.heap.objs.size C;omega),λ x c e=>?_,λ p hp=>absurd (show p∈([]:on (JI×Obj))from hp) (by simp),I.hok.kept h,?_⟩,hD,h⟩
 ·have e1:N'[i]? = some x:=e1;unfold inner at W;rw[p5]at W;cases q:fr[i]? with
  | none=>rw[q]at W;cases W
  | some o=>
   rw[q]at W;cases o with
   | none=>cases W
   | some j=>
    have N:(σ[j]?).join=some v:=A8 W;have hv:σ[j]? = some (some v):=by
     cases z:σ[j]? with
     | none=>rw[z]at N;cases N
     | some o=>rw[z]at N;rw[show o=some v from N]
    obtain⟨x',a1,a2,a3⟩:=S.fre i j q;rw[e1]at a1;cases a1;obtain⟨m,hn,hl⟩:=I.loc;have ko:=S.out _ a3 rfl;obtain⟨u,r,l⟩:=hl j x v a2 hv (ko.elim (λ z=>.inr (.inl z)) λ z=>.inr (.inr z));rcases l with⟨k,_⟩ | ⟨k,c,e,z⟩
    ·have k':X.env.scope.names.lookup x=some .local:=k;rcases ko with w | w<;>(rw[show X.env.scope.names.lookup x=_ from w]at k';cases k')
    ·refine⟨u,r,.inr ⟨?_,c,B a3 e,z.keeps h⟩⟩;show(relabel scope X.env).names.lookup x=some .cell\/(relabel scope X.env).names.lookup x=some .free;rw[jD,R8 S.snd a3];simp only[K7];split
     ·exact .inl rfl
     ·exact .inr rfl
 ·rcases L1 x c e with a | ⟨a,_⟩
  ·exact⟨none,(ok.empty x c a).1⟩
  ·obtain⟨v,z⟩:=I.cell x c a;exact⟨v,z.keeps h⟩
 ·rcases L1 x c e with a | ⟨a,_⟩
  ·exact I.hok.fresh (by have:=g a;show @LE.le Nat _ d.heap.objs.size c;omega)
  ·exact I.freeC x c a
 ·show(inner fr σ).length=N'.length;unfold inner;rw[g7,S.len]
def PTs(X:Cx)(ifs:on JK)(t:TT):Prop:=
 ∀(pins:on (JI×Obj)) (s:JH) (σ:St) (H:Hp) (Q:Bool->Hp->Prop),Inv X pins σ H s->t σ H Q ->
  wpAny Kb X.A (forIn ifs true λ c r=>if r=true then do let ok ←isTrue c X.env (eval c X.env);pure (ForInStep.yield ok)else pure (ForInStep.yield r)) (TP X pins σ Q) X.xe s
def tYes:TT:=λ _ H Q=>Q true H
def zF:PTs X [] tYes:=λ _ _ _ H _ I h=>wpAny_tests_nil ⟨H,I,h⟩
def zG(h:PT X c t):PTs X [c] t:=λ a s b H Q I d=>wpAny_tests_one (h a s b H Q I d)
def jE(J:It)(g:TG)(tc:TT)(te:TE)(Fin:on V->Hp->Prop)(σ:St)(H:Hp):Prop:=
 ∃W:Nat->Nat->on V->St->Hp->Prop,(∃m,W 0 m [] σ H)/\∀i m ys σ H,W i m ys σ H ->
  (J.stop i H/\Fin ys H)\/(J.go i H/\ys.length<sizeLine/\∀x H',J.yld i H x H'->g x σ H' λ σ2 H2=>tc σ2 H2 λ b H3=>
   if b=true then te σ2 H3 λ y H4=>∃m',m'<m/\W (i+1) m' (ys++[y]) σ2 H4 else ∃m',m'<m/\W (i+1) m' ys σ2 H3)
def Vals.snoc(r:Vals xs a)(q:RelV x u):Vals (xs++[x]) (a++[u]):=r.append (.cons q .nil)
def oZ{K:on (JI×Obj)}
   {RR:JG->JI->Result->JH->Prop}
  (S:CompScope X.N L scope X.env.scope fr) (hc:X.calm=true)
  (hg:∀C j a B fp,PG (t5 X scope L C j a B fp) tg g) (ht:∀C j a B fp,PTs (t5 X scope L C j a B fp) a3 tc) (he:∀C j a B fp,PE (t5 X scope L C j a B fp) elt te)
  (I:Inv X K σ H a) (T:Turn X.prog X.w X.K tg J fp it tn) (st:tn 0 a.heap) (f:∀b∈fp,FpOk X K H b) (h:jE J g tc te c0 (inner fr σ) H)
  (c4:∀D C A P m O,Inv X K σ (upd A D (.lst O)) P->A D=none->P.heap.Ns C m->upd A D (.lst O) C=none->C≠X.env.locals->X.s₀.heap.objs.size<=C->(∀x c,X.env.cells.lookup x=some c->c≠C)->(∀p∈X.pn++K,p.1≠C)->c0 O A->RR (.ref D) C (.ok .next) P) :
  wpAny Kb X.A (newList []) (λ b8 a8=>wpAny Kb X.A (newFunctionEnv scope X.env.globals (o6 X.env.cells scope.names []) [] X.env.qual none .none (some X.env)) (λ a1 a7=>
   codeAny Kb X.A (.compStart (.ListComp elt [⟨tg,a0,a3,0⟩] scope pos) 0 (.ref it) b8 {a1 with scope:=relabel scope X.env}) (RR b8 a1.locals) a7) E a8) E a:=by
 have ho:∀b∈fp,b<a.heap.objs.size:=λ b s=>by obtain⟨o,e,_⟩:=T.obj _ _ st b s;exact k7 e
 refine C3 (zx ?_);have b0:(a.heap.push N7).objs.size=a.heap.objs.size+1:=D5 ..;obtain⟨I4,b6,Z⟩:=zE (C:=a.heap.objs.size+1) S I f ho rfl rfl;show codeAny _ _ _ (RR (.ref a.heap.objs.size) (a.heap.push N7).objs.size) {a with heap:=pushCells ((a.heap.push N7).push cL) scope.names};rw[b0];generalize b4:a.heap.objs.size=D at *;generalize cellsFrom (D+1+1) scope.names (o6 X.env.cells scope.names [])=j at *;generalize pushCells ((a.heap.push N7).push cL) scope.names=h4 at *;have a4:∀{w:on (JI×Obj)} {A:Hp},(∀b∈fp,A b=none)->(∀p∈w,p.1=D)->∀b∈fp,FpOk (t5 X scope L (D+1) j a H fp) w A b:=λ {w A} hn N b s=>
  ⟨hn b s,(I4.ok.exf b s).1,I4.ok.exfs b s,.inl s,(I4.ok.exf b s).2,λ p R z=>by
   have R:p∈([]:on (JI×Obj))++w:=R;rw[iO]at R;have:=ho b s;rw[←z,N p R]at this;exact D6 _ this⟩
 obtain⟨W,⟨m0,w0⟩,a6⟩:=h;have b5:D≠(t5 X scope L (D+1) j a H fp).env.locals:=by show D≠D+1;omega
 have U:∀x c,(t5 X scope L (D+1) j a H fp).env.cells.lookup x=some c->c≠D:=λ x c e z=>by
  obtain⟨v,o,c1,hd⟩:=I4.cell x c e;have q:h4.get? D=some o:=by rw[←z];exact c1
  rw[b6]at q;cases q;cases hd
 have b3:D∉(t5 X scope L (D+1) j a H fp).fs:=λ z=>by
  obtain⟨_,o,c2,_⟩:=I4.ok.funs.mem z
  have:=k7 c2;have e:a.heap.objs.size=D:=b4;exact absurd this (by show ¬D<a.heap.objs.size;omega)
 have Y:codeAny Kb X.A (.compLoop (.ListComp elt [⟨tg,a0,a3,0⟩] scope pos) 0 (.ref it) (.ref D) (compEnvC scope j (D+1) X.env)) (RR (.ref D) (D+1)) {a with heap:=h4}:=by
  refine zC (λ n P=>∃i O l k a5 A,Inv (t5 X scope L (D+1) j a H fp) [] a5 A P/\tn i P.heap/\(∀b∈fp,A b=none)/\A D=none /\
   P.heap.get? D=some {cls:=.type "list",data:=.seq (l:on JG).toArray k} /\ Vals O l/\O.length<=sizeLine/\W i n O a5 A) ?_ m0
   ⟨0,[],[],_,_,H,I4,T.keep _ _ _ st λ b _ o e=>Z b o e,λ b s=>(f b s).1,I.hok.fresh JX,b6,.nil,F3 _,w0⟩
  rintro n s3 ⟨i,O,l,k,σ3,H3,I3,st3,fr3,hD3,oD3,rv,hl,w3⟩
  have b9:Inv (t5 X scope L (D+1) j a H fp) [(D,{cls:=.type "list",data:=.seq l.toArray k})] σ3 H3 s3:=I3.pins_of λ p N=>by
   have e:p=(D,{cls:=.type "list",data:=.seq l.toArray k}):=by simpa using N
   subst e;exact⟨oD3,hD3,b5,b3,λ v z=>by cases z⟩
  have Q:∀p∈[((D:JI),({cls:=.type "list",data:=.seq l.toArray k}:Obj))],p.1=D:=λ p N=>by
   have e:p=(D,{cls:=.type "list",data:=.seq l.toArray k}):=by simpa using N
   subst e;rfl
  rcases a6 i n O σ3 H3 w3 with⟨a9,c8⟩ | ⟨go,hlt,step⟩
  ·refine thn (T.done (t5 X scope L (D+1) j a H fp) rfl rfl rfl hc i _ s3 σ3 H3 _ b9 (a4 fr3 Q) st3 a9) λ r s4 t0=>?_;obtain⟨hr,F⟩:=t0;subst hr;have oD:=(F.pin (D,_) (u4 _ k8)).1;have un:Un (frs X.stack) fp H H3 a.heap s4.heap:=F.base;have hn:a.heap.get? D=none:=aD (by rw[b4];exact i6 _);obtain⟨mC,c3,_⟩:=F.loc;refine c4 D (D+1) H3 s4 mC O (I.call' F.os (un.track hD3 hn) (F.hok.track hD3 ⟨hl,l,k,rv,oD⟩) F.bare λ b s=>?_) hD3 c3 ?_ ?_ ?_ (λ x c e=>?_) (λ p N=>?_) c8
   ·obtain⟨_,f1,f2,f3,f4,f5⟩:=f b s;exact⟨f3,f1,f4,f5⟩
   ·rw[m7 (show @Ne Nat (D+1) D by omega)];exact F.free
   ·have q:@LT.lt Nat _ X.env.locals a.heap.objs.size:=I.lt;show @Ne Nat (D+1) X.env.locals;omega
   ·have q:@LE.le Nat _ X.s₀.heap.objs.size a.heap.objs.size:=I.sz;show @LE.le Nat _ X.s₀.heap.objs.size (D+1);omega
   ·obtain⟨v,z⟩:=I.cell x c e;have q:@LT.lt Nat _ c a.heap.objs.size:=z.lt;show @Ne Nat c (D+1);omega
   ·have q:@LT.lt Nat _ p.1 a.heap.objs.size:=k7 (I.pin p N).1;show @Ne Nat p.1 (D+1);omega
  ·refine thn (T.item (t5 X scope L (D+1) j a H fp) rfl rfl rfl hc i _ s3 σ3 H3 _ b9 (a4 fr3 Q) st3 go) λ r s4 t0=>?_;obtain⟨u,hr,c6⟩:=t0;subst hr;refine thn c6 λ _ s5 t0=>?_;obtain⟨x,H5,I5,r5,y5,a2,c7⟩:=t0;have c9:=I5.pinned (a4 c7 Q) (T.obj _ _ a2);refine B3 (hg (D+1) j a H fp _ s5 σ3 H5 x u _ c9 r5 (step x H5 y5)) (λ _ s6 ⟨M,H6,I6,q6⟩=>?_) λ _ _ z=>z.elim;refine B3 (ht (D+1) j a H fp _ s6 M H6 _ I6 q6) (λ b s7 ⟨H7,I7,q7⟩=>?_) λ _ _ z=>z.elim;have b7:∀{A:Hp} {P:JH},Inv (t5 X scope L (D+1) j a H fp) ([(D,{cls:=.type "list",data:=.seq l.toArray k})]++fA fp s5.heap) M A P->tn (i+1) P.heap/\(∀b∈fp,A b=none)/\P.heap.get? D=some {cls:=.type "list",data:=.seq l.toArray k} /\ A D=none:=λ {A P} J'=>by
    refine⟨T.keep _ _ _ a2 λ b s o e=>(J'.pin (b,o) (u4 _ (u4 _ (U4 s e)))).1,λ b s=>?_,?_,?_⟩
    ·obtain⟨o,e,d⟩:=T.obj _ _ a2 b s;exact(J'.pin (b,o) (u4 _ (u4 _ (U4 s e)))).2.1
    ·exact(J'.pin (D,_) (u4 _ (B4 _ k8))).1
    ·exact(J'.pin (D,_) (u4 _ (B4 _ k8))).2.1
   cases b with
   | false=>
    rw[g8 z7]at q7 ⊢;obtain⟨m',hm,w7⟩:=q7;obtain⟨k1,k2,k3,k4⟩:=b7 I7;exact⟨m',hm,i+1,O,l,k,M,H7,I7.pins_of (λ p N=>(nomatch N)),k1,k2,k4,k3,rv,hl,w7⟩
   | true=>
    rw[f8 rfl]at q7 ⊢;refine B3 (he (D+1) j a H fp _ s7 M H7 _ I7 q7) (λ y s8 ⟨v8,H8,I8,r8,q8⟩=>?_) λ _ _ z=>z.elim
    obtain⟨m',hm,w8⟩:=q8;obtain⟨k1,k2,k3,k4⟩:=b7 I8;have b2:l.length<=sizeLine:=by rw[←rv.length];exact hl
    refine append_at k3 (λ h9 b1 c5=>?_) (by rw[t8];exact b2);have I9:Inv (t5 X scope L (D+1) j a H fp) [] M H8 s8:=I8.pins_of λ p N=>(nomatch N);refine⟨m',hm,i+1,O++[v8],l++[y],k+1,M,H8,I9.turned (it:=D) (t':=s8.toks) (λ b o s e=>(b1.2 b s).trans e) k4 b5 (.inr (by show a.heap.objs.size<=D;omega)) U (λ p N=>(nomatch N)),?_,k2,k4,?_,rv.snoc r8,?_,w8⟩
    ·exact T.keep _ _ _ k1 λ b s o e=>(b1.2 b (by have q:@LT.lt Nat _ b D:=ho b s;show @Ne Nat b D;omega)).trans e
    ·rw[c5,List.push_toArray]
    ·rw[t7,im];omega
 exact codeAny_compStart_list Y (T.self X.A 0 _ _ _ (T.keep _ _ _ st λ b _ o e=>Z b o e) Y)
def jF(fr:on (JF Nat))(wi:TI)(g:TG)(tc:TT)(te:TE):TE:=λ σ H Q=>wi σ H λ J H1=>jE J g tc te (λ ys H'=>∀p,H' p=none->Q (.ref p) (upd H' p (.lst ys))) (inner fr σ) H1
def zH{K:TT}(S:CompScope X.N k scope X.env.scope fr)(hc:X.calm=true)(Y:PI X tg f E)
  (Z:∀C a c d fp,PG (t5 X scope k C a c d fp) tg g) (P:∀C a c d fp,PTs (t5 X scope k C a c d fp) j K) (he:∀C a c d fp,PE (t5 X scope k C a c d fp) elt F)
  (R:∀x,foldedSetIterable f X.env x=pure x:=by intro _;rfl):PE X (.ListComp elt [⟨tg,f,j,0⟩] scope pos) (jF fr E g K F):=by
 intro i s L H Q I h;rw[eval_ListComp];refine nu rfl R (fC (λ y N W=>I.ok.has y.1 (S.out y N W))) S.kind (λ x O U=>R8 S.snd (by rw[←U];exact O)) (thn (Y i s L H _ I h) λ v s1 h1=>thn h1 λ M s2 h2=>?_);obtain⟨it,fp,tn,J,H2,e,I2,T,l,f2,w⟩:=h2;subst e;refine oZ S hc Z P he I2 T l f2 w ?_;intro D C H' s' m ys I' hD p u A q z r B;exact⟨m,p,λ h' n=>⟨.ref D,_,I'.turned (λ b o hb e=>(n.2 b hb).trans e) u A (.inr q) z r,rfl,B D hD⟩⟩
def zI(S:CompScope X.N u scope X.env.scope fr)(hc:X.calm=true)(hN:X.N.Nodup)(L:X.N[i]? = some y)
  (r:X.env.scope.names.lookup y=some .local) (hi:PI X tg j R)
  (hg:∀C c d f fp,PG (t5 X scope u C c d f fp) tg g) (ht:∀C c d f fp,PTs (t5 X scope u C c d f fp) l W) (he:∀C c d f fp,PE (t5 X scope u C c d f fp) elt U)
  (B:swapsWith (.ListComp elt [⟨tg,j,l,0⟩] scope pos) (some (.Name y Y)) k.line X.env=pure true:=by rfl)
  (hs:∀x,foldedSetIterable j X.env x=pure x:=by intro _;rfl):PS X (.Assign [.Name y Y] (.ListComp elt [⟨tg,j,l,0⟩] scope pos) k) (tAsg (jF fr R g W U) (cI i)):=by
 intro n s Z H Dn I h;rw[exec_Assign_Name_used _ _ _ _ B];refine f0 (cr (f0 ?_));show wpAny _ _ _ _ _ s;refine f0 (B3 (nu rfl hs (fC (λ y r hk=>I.ok.has y.1 (S.out y r hk))) S.kind (λ x hx hl=>R8 S.snd (by rw[←hl];exact hx))
  (thn (hi n s Z H _ I h) λ v s1 h1=>thn h1 λ itv s2 h2=>?_)) (λ _ s' hq=>f9 (f9 hq)) λ _ _ e=>e)
 obtain⟨it,fp,tn,J,H2,e,I2,T,A,f2,w⟩:=h2;subst e;refine oZ S hc hg ht he I2 T A f2 w ?_;intro D C H' s' m ys I' hD K O q M p N P;refine wpAny_assign_Name (nU (v:=.ref D) I' hN L (Or.inl r) rfl (λ s'' Q ⟨a,E,ha⟩=>⟨m,K.sameBut E ?_,λ h' F=>⟨_,_,Q.turned (λ b o hb e=>(F.2 b hb).trans e) O q (.inr M) p N,P D hD⟩⟩) (.inr r));rcases ha with z | z
 ·rw[z];exact q
 ·exact Ne.symm (p y a z)
abbrev cxD(P:JN)(w:JM)(K:JQ)(mg:Str->JF JG)(base:JJ)(N:on Str)(qual:Str)(scope:JR)(f:JI)(cd:JG)(A:JO)(outer:on Env)(s:JH)(H:Hp):Cx:=cxOf CX0 P w K mg base N qual scope f cd A outer s H E0
theorem Inv.track(I:Inv X pins σ H s)(f:H a=none)(k:X.s₀.heap.get? a=none)(j:a≠X.env.locals)(i:∀x c,X.env.cells.lookup x=some c->c≠a)(h:∀p∈X.pn++pins,p.1≠a)(new:u9 X.prog X.w (upd H a o) s.heap a o) :
  Inv X pins σ (upd H a o) s:=
 ⟨I.ok,I.os,I.bare,I.base.track f k,I.loc,I.cell,by rw[m7 j.symm];exact I.free,λ x c e=>by rw[m7 (i x c e)];exact I.freeC x c e,λ p b=>by
  obtain⟨e,n,ne,g,d⟩:=I.pin p b;exact⟨e,by rwa [m7 (h p b)],ne,g,d⟩,I.hok.track f new,I.len⟩
structure Src(P:Program)(w:World)(ia la:Addr)(vs:Array Value)(S:Nat->Heap->Prop):Prop where
 keep:∀k h h',S k h->(∀o,h.get? ia=some o->h'.get? ia=some o)->(∀o,h.get? la=some o->h'.get? la=some o)->S k h'
 there:∀k h,S k h->∃o xs,h.get? ia=some o/\o.data=.fields xs
 step:∀{A:Around} {E:Value->Shared->Prop} {s:Shared} {Q:Value->Shared->Prop} (k:Nat) (x:Value),S k s.heap->vs[k]? = some x->(∀h',S (k+1) h'->Heap.SameBut ia s.heap h'->Q x {s with heap:=h'}) ->
  wpAny (model P w) A (Builtin.SmallTypes.nextOf (.ref ia)) Q E s
 stop:∀{A:Around} {E:Value->Shared->Prop} {s:Shared} {Q:Value->Shared->Prop} (k:Nat),A.handled=none->S k s.heap->vs[k]? = none ->
  (∀h' e,Heap.ExtBut ia s.heap h'->(∃o,h'.get? e=some o/\o.cls=.type "StopIteration")->E (.ref e) {s with heap:=h'})->wpAny (model P w) A (Builtin.SmallTypes.nextOf (.ref ia)) Q E s
noncomputable def sL(ia la:JI)(vs:JL JG):Nat->JJ->Prop:=λ k h=>h.IsListIter ia la k/\h.IsList la vs
noncomputable def sT(ia la:JI)(vs:JL JG):Nat->JJ->Prop:=λ k h=>h.IsTupleIter ia la k/\h.IsTuple la vs
def zJ(ne:a≠b):Src P w b a vs (sL b a vs) where
 keep:=λ k h i ⟨p,q⟩ n m=>⟨p.at n,q.at m⟩
 there:=λ k h ⟨p,q⟩=>by obtain⟨o,e,_,d⟩:=p;exact⟨o,_,e,d⟩
 step:=λ k x ⟨p,q⟩ c f=>wpAny_nextOf_list_item p q c λ i j g=>f i ⟨j,q.extBut g.extBut ne⟩ g
 stop:=λ k l ⟨p,q⟩ c f=>wpAny_nextOf_list_end l p q c f
def zK(p:s.heap.IsTupleIter b a k)(q:s.heap.IsTuple a vs)(f:vs[k]? = some x)(g:∀e,e.IsTupleIter b a (k+1)->Heap.SameBut b s.heap e->Q x {s with heap:=e}) :
  wpAny (model P w) A (Builtin.SmallTypes.nextOf (.ref b)) Q E s:=by
 obtain⟨ob,d,j,c⟩:=id p;obtain⟨ot,i,_,nn,h⟩:=q;unfold Builtin.SmallTypes.nextOf;refine f0 (O1 p.typeIs eA (F2 eA p.typeIs ng ?_ (mZ _)));show wpAny _ _ (field (.ref b) 0 >>= _) _ _ s;refine f0 (E7 d c (x:=.ref a) rfl ?_);show wpAny _ _ _ _ _ s;rw[g8 (show ¬((Value.ref a==Value.none)=true)from z7)];show wpAny _ _ (field (.ref b) 1 >>= _) _ _ s;refine f0 (E7 d c (x:=.int k 0) rfl ?_);show wpAny _ _ (seqItems? (.ref a) >>= _) _ _ s;refine f0 (P0 i h ?_);simp only[B2,f];refine f0 (U0 d c (by simp) (f9 ⟨x,rfl,f9 (g _ ?_ (K3 ..))⟩));exact⟨_,Q8 _ d (io (aG c _)),(iB ..).trans j,by rw[aG c];simp[rawInt]⟩
def zL(g:A.handled=none)(p:s.heap.IsTupleIter b a k)(q:s.heap.IsTuple a vs)(h:vs[k]? = none)(i:∀c e,Heap.ExtBut b s.heap c->(∃o,c.get? e=some o/\o.cls=.type "StopIteration")->E (.ref e) {s with heap:=c}) :
  wpAny (model P w) A (Builtin.SmallTypes.nextOf (.ref b)) Q E s:=by
 obtain⟨ob,f,e2,d⟩:=id p;obtain⟨ot,l,_,nn,j⟩:=q;unfold Builtin.SmallTypes.nextOf;refine f0 (O1 p.typeIs eA (F2 eA p.typeIs ng ?_ (mZ _)));show wpAny _ _ (field _ 0 >>= _) _ _ s;refine f0 (E7 f d (x:=.ref a) rfl ?_);show wpAny _ _ _ _ _ s;rw[g8 (show ¬((Value.ref a==Value.none)=true)from z7)];show wpAny _ _ _ _ _ s;refine f0 (E7 f d rfl ?_);show wpAny _ _ _ _ _ s;refine f0 (P0 l j ?_);simp only[B2,h];refine f0 (U3 (f0 (U0 f d (by simp) ?_)));show wpAny _ _ _ _ _ _;refine f0 ?_;simp only[newExc,newTuple];refine f0 (C3 ?_ (by size_fits));refine f0 (Y6 (by first | rfl | (simp only[firstArgMember];rfl)) ?_);refine C3 ?_ (by size_fits);refine f0 (iW ?_)
 first | rw[show A.in1.handled=none from g] | rw[g]
 refine f0 (f9 (wpAny_throw (i _ _ (((K3 ..).extBut.push _).push _) ⟨_,p8 _ rfl,rfl⟩)))
def zM(ne:a≠b):Src P w b a vs (sT b a vs) where
 keep:=λ k h i ⟨p,q⟩ n m=>⟨by obtain⟨o,e,r⟩:=p;exact⟨o,n o e,r⟩,by obtain⟨o,e,r⟩:=q;exact⟨o,m o e,r⟩⟩
 there:=λ k h ⟨p,q⟩=>by obtain⟨o,e,_,d⟩:=p;exact⟨o,_,e,d⟩
 step:=λ k x ⟨p,q⟩ c f=>zK p q c λ i j g=>f i ⟨j,q.extBut g.extBut ne⟩ g
 stop:=λ k l ⟨p,q⟩ c f=>zL l p q c f
def Src.ext{P:JN}{w:JM}{k:Nat}{ia la:JI}{vs:JL JG}{S:Nat->JJ->Prop}{h h':JJ}{e:JI}(R:Src P w ia la vs S)(q:S k h)(hs:Heap.ExtBut e h h')(n1:ia≠e)(n2:la≠e):S k h':=R.keep k h h' q (λ o z=>hs _ _ n1 z) (λ o z=>hs _ _ n2 z)
def SqK(t:Bool)(h:JJ)(l:JI)(vs:JL JG):Prop:=match t with | false=>h.IsList l vs | true=>h.IsTuple l vs
def sK(t:Bool)(ia la:JI)(vs:JL JG):Nat->JJ->Prop:=match t with | false=>sL ia la vs | true=>sT ia la vs
def pc(t:Bool)(ne:a≠b):Src P w b a vs (sK t b a vs):=by
 cases t
 ·exact zJ ne
 ·exact zM ne
noncomputable def itN:Bool->JW | false=>"list_iterator" | true=>"tuple_iterator"
abbrev itO(t:Bool)(l:JI):Obj:={cls:=.type (itN t),data:=.fields #[.ref l,.int 0 0]}
abbrev zH1(h:JJ)(t1:Bool)(l1:JI):JJ:=h.push (itO t1 l1)
def zN{t:Bool}{ia la:JI}{vs:JL JG}{h h':JJ}(e:h'.get? ia=some (itO t la))(q:SqK t h la vs)(k:∀c o,h.get? c=some o->h'.get? c=some o):sK t ia la vs 0 h':=by
 cases t
 ·exact⟨⟨_,e,rfl,rfl⟩,Heap.IsList.at q λ o z=>k _ o z⟩
 ·exact⟨⟨_,e,rfl,rfl⟩,by obtain⟨o,z,r⟩:=q;exact⟨o,k _ o z,r⟩⟩
end L2
end
noncomputable section
namespace PySem.SeqAt
open AutoSeq1 (wpAny_loadPart')
open MeetsSeq MeetsSeq2 MeetsSeq3 SeqRoads2
def zQ(f:Nat->β->Sem (ForInStep β))(I:on Nat->β->JH->Prop)(Q:β->JH->Prop)
   (turn:∀x rest b s,I (x::rest) b s->wpAny M A (f x b) (λ r c=>match r with | .yield b'=>I rest b' c | .done b'=>Q b' c) E s)
  (fin:∀b s,I [] b s->Q b s) (h:I (List.range' 0 n 1) b s):wpAny M A (forIn [:n] b f) Q E s:=by
 rw[Std.Legacy.Range.forIn_eq_forIn_range'];have a:([:n]:Std.Legacy.Range).size=n:=by simp[Std.Legacy.Range.size]
 show wpAny M A _ Q E s;rw[a];exact wpAny_forIn_list f I Q turn fin _ b h
def zR(l:JI)(items:JL JG)(n:Nat)(dd:JF JI)(v:JL (JF JG))(x:JG)(e:JG->Bool)(j:Nat)(hj:j<items.size)
  (p:e items[j]=true) (o:∀m (f:m<items.size),m<j->e items[m]=false) :
  Meets (Builtin.«tuple.index» ⟨[.ref l,x],[]⟩)
   (λ A R s=>s.heap.get? l=some {cls:=.type "tuple",dict:=dd,data:=.seq items n,slots:=v} /\ (∀y,y∈items->EqAt A.in1 s y x (e y))/\R (.ok (.ret (.int j s.toks))) {s with toks:=s.toks+1}):=
 .of_wp λ c w A R s h=>by
  obtain⟨B,g,d,u,z⟩:=s;obtain⟨C,E,h⟩:=h
  wp_walk using bR C,zQ _ (λ rest b k=>b.1=none/\k=⟨B,g,d,u,z⟩/\∃i,i<=j/\rest=List.range' i (items.size - i) 1) _
  case turn=>
   rintro i rest b k ⟨hb,rfl,r,hi',hr⟩
   obtain⟨m,f⟩:∃m,items.size - r=m+1:=⟨items.size - r - 1,by omega⟩;rw[f,List.range'_succ]at hr;obtain⟨rfl,rfl⟩:=List.cons.inj hr;have a:i<items.size:=by omega
   rw[show items[i]? = some items[i] by simp[a]];refine f0 (E _ (Array.getElem_mem a) c w _ _ ?_);by_cases q:i=j
   ·subst q;rw[p]
    wp_walk
    exact⟨_,rfl,h⟩
   ·rw[o i a JX]
    wp_walk
    exact⟨rfl,rfl,i+1,by omega,by congr 1;omega⟩
  case fin=>
   rintro⟨b1,b2⟩ k ⟨hb,rfl,i,hi,hr⟩
   obtain⟨m,f⟩:∃m,items.size - i=m+1:=⟨items.size - i - 1,by omega⟩;rw[f,List.range'_succ]at hr;cases hr
  case h=>
   exact⟨rfl,rfl,0,F3 _,by simp⟩
def zT:∀(a:on PyData) (b:on JG) (c:on JI),PyData.canLayAll0 a=true->ReadsAll h b a c->b.length=a.length/\∀m (i:m<b.length) (g:m<a.length),PyData.eqv (readOf h b[m]) d=PyData.eqv a[m] d:=by
 intro a b c f r;have e:=readsAll_map a b c f r;refine⟨(by rw[←e,g7]),λ m i g=>?_⟩
 congr 1
 subst e;rw[ce]
def index_tuple_reads(B:Reads s.heap c (.tuple xs) M)(z:Reads s.heap x d bs)(a:PyData.canLayAll0 xs=true)(J:d.canLay0=true)
  (C:A.units+1+min (PyData.depthAll xs) d.depth<cLine) (I:j<xs.length) (g:PyData.eqv xs[j] d=true) (e:∀m (i:m<xs.length),m<j->PyData.eqv xs[m] d=false) (h:Q (.int j s.toks) {s with toks:=s.toks+1}):wpAny Kc A (call (.builtin "tuple.index") [c,x]) Q E s:=by
 cases B with
 | tuple u r q p=>
  rename_i l o b n;obtain⟨L,K,v,y⟩:=o;simp only at r q;subst r q;obtain⟨H,k⟩:=zT xs b.toList _ a p;have F:b.size=xs.length:=by rw[←H];simp
  refine PySem.call_meets nv ⟨_,u,rfl⟩ PySem.F.entry_tuple_index (PySem.F.args_tuple_index_2 _ _)
   (zR l b _ K y x _ j JX ?_ ?_) ⟨u,items_eqAt p z a J C,h⟩
  ·rw[←g];exact k j (by simpa using(by omega:j<b.size)) I
  ·intro m i f;rw[←e m JX f];exact k m (by simpa using i) JX
end PySem.SeqAt
end
noncomputable section
namespace L2
open PySem
set_option genInjectivity true in
inductive DKey where
 | i (n:Int) | s (x:Str) | t (l:List (Sum Int Str))
 deriving DecidableEq
inductive Bi where
 | len | min | max | sum | sset | int | tuple | list | abs
 deriving DecidableEq
inductive Mt where
 | bitLength | index | get
 deriving DecidableEq
inductive Tg where
 | one (i:Nat) | many (is:List Nat)
inductive ME where
  | var (i:Nat) | int (i:Int) | bl (b:Bool) | str (x:Str) | non | glb (x:Str)
  | bin (op:Operator) (a b:ME) | neg (a:ME)  | not (a:ME)
  | cmp (op:CmpOp) (a b:ME) | chain (op op':CmpOp) (a b c:ME)
  | and (es:List ME) | or (es:List ME)
  | lst (es:List ME) | tup (es:List ME)
  | ix (a b:ME) | sl (a lo hi:ME) | ite (c a b:ME)
   | call (f:Nat) (es:List ME)    | bi (f:Bi) (es:List ME) | isi (a:ME) (ts:List Str) | meth (m:Mt) (a:ME) (es:List ME)
  | comp (elt:ME) (tg:Tg) (it:ME) (fr:List (Option Nat)) | compi (elt:ME) (tg:Tg) (it c:ME) (fr:List (Option Nat))
   | dix (a k:ME)   | callv (i:Nat) (xs:List (Str×Nat)) (es:List ME)
  | maxk (a:ME) (N:List Str) (np:Nat) (lb:ME) (fr:List Nat) | self (np nc:Nat) (es:List ME)
  | idx (a b:ME)
  | rng (es:List ME) | enu (a:ME)  | itm (a:ME)
structure LamD where
 N:List Str
 np:Nat
 body:ME
 fn:List Str
 bl:List Str
 cl:List Str
set_option genInjectivity true in
inductive DV where
 | non | bl (b:Bool) | int (i:Int) | str (x:Str) | tup (ds:List DV) | lst (ds:List DV) | dct (ks:List DKey) (vs:List DV) | dcl (ks:List DKey) (vs:List DV)
 | fn (x:Str)
 | lam (m:LamD) (ds:List DV)
 | scr (ns:List Int)
inductive Cl where
 | weak | top | strong | fresh
 deriving DecidableEq
set_option genInjectivity true in
inductive Re where
 | ok (d:DV) (c:Cl)
inductive Rs where
 | ok (l:List (DV×Cl))
inductive Rt where
 | ok (b:Bool)
inductive Sv where
 | no | val (d:DV) | own (d:DV)
 | od (d:DV)
inductive Ou where
 | v (d:DV) (fr:Bool)
inductive Out where
 | nx (δ:List Sv) | rt (d:DV) (fr:Bool)
inductive MS where
 | set (i:Nat) (own:Bool) (e:ME)
 | app (i:Nat) (e:ME) | ext (i:Nat) (e:ME) | seti (i:Nat) (k e:ME)
 | exp (e:ME) | ret (e:ME)  | iff (c:ME) (a b:List MS) | fo (tg:Tg) (it:ME) (body:List MS) | wh (c:ME) (body:List MS)
  | retd (i:Nat)
 | sep (i:Nat) | dpp (i:Nat) (ks:List ME) (e:ME)
 | unk | sett (is:List Nat) (e:ME) | aug (i:Nat) (e:ME) | frz (i:Nat)
 | dfr (i:Nat) (fr:List Nat) (a:ME) (es:List ME)
structure CloD where
 N:List Str
 np:Nat
 nc:Nat
 body:List MS
structure FD where
 n:Nat
 np:Nat
 clo:Option CloD:=none
 body:List MS
noncomputable def Re.thn(r:JF Re)(k:DV->Cl->JF Re):JF Re:=match r with
 | none=>none
 | some (.ok d c)=>k d c
def Rs.thn(r:JF Rs)(k:on (DV×Cl)->JF Re):JF Re:=match r with
 | none=>none
 | some (.ok l)=>k l
def Rt.thn(r:JF Rt)(k:Bool->JF Re):JF Re:=match r with
 | none=>none
 | some (.ok b)=>k b
noncomputable def Re.thnT(r:JF Re)(k:DV->Cl->JF Rt):JF Rt:=match r with
 | none=>none
 | some (.ok d c)=>k d c
mutual
noncomputable def DV.immut:DV->Bool
 | .non=>true | .bl _=>true | .int _=>true | .str _=>true | .fn _=>true | .scr _=>true
 | .tup ds=>DV.immuts ds
 | .lst _=>false
 | .lam _ _=>false
 | .dcl _ _=>false
 | .dct _ vs=>DV.immuts vs
noncomputable def DV.immuts:on DV->Bool
 | []=>true
 | d::r=>d.immut&&DV.immuts r
end
mutual
noncomputable def DV.nolam:DV->Bool
 | .lam _ _=>false
 | .tup ds=>DV.nolams ds
 | .lst ds=>DV.nolams ds
 | .dct _ vs=>DV.nolams vs
 | .dcl _ _=>false
 | _=>true
noncomputable def DV.nolams:on DV->Bool
 | []=>true
 | d::r=>d.nolam&&DV.nolams r
end
def stro(d:DV):Cl->Bool
 | .strong=>true | .fresh=>true | _=>d.immut
def stros(l:on (DV×Cl)):Bool:=l.all λ p=>stro p.1 p.2
def Cl.item:Cl->Cl
 | .weak=>.weak | _=>.strong
noncomputable def Cl.anew:Cl->Cl->Cl
 | .weak,_=>.weak | _,.weak=>.weak | _,_=>.fresh
def Cl.notF:Cl->Cl
 | .fresh=>.strong | c=>c
def m9:Nat:=1000000
mutual
noncomputable def deq:DV->DV->Bool
 | .non,.non=>true
 | .bl a,.bl b=>a==b
 | .bl a,.int j=>(if a then 1 else 0)==j
 | .int i,.bl b=>i==(if b then 1 else 0)
 | .int i,.int j=>i==j
 | .str a,.str b=>decide (a=b)
 | .tup a,.tup b=>deqs a b
 | .lst a,.lst b=>deqs a b
 | _,_=>false
noncomputable def deqs:on DV->on DV->Bool
 | [],[]=>true
 | a::r,b::s=>deq a b&&deqs r s
 | _,_=>false
end
mutual
noncomputable def DV.plain:Nat->DV->Bool
 | _,.non=>true | _,.bl _=>true | _,.int _=>true
 | _,.str x=>x.cps.all (· < 0x110000)
 | 0,_=>false
 | n+1,.tup ds=>DV.plains n ds | n+1,.lst ds=>DV.plains n ds
 | _,_=>false
noncomputable def DV.plains:Nat->on DV->Bool
 | _,[]=>true
 | n,d::r=>d.plain n&&DV.plains n r
end
noncomputable def J3:DV->JF Bool
 | .non=>some false
 | .bl b=>some b
 | .int i=>some (i != 0)
 | .str x=>some (x.cps.size != 0)
 | .tup ds=>some (!ds.isEmpty)
 | .lst ds=>some (!ds.isEmpty)
 | _=>none
noncomputable def C9(n:Nat)(i:Int):JF Nat:=if 0<=i then(if i<n then some i.toNat else none)else if -(n:Int)<=i then some (i+n).toNat else none
def atD(ds:on DV)(i:Int):JF DV:=(C9 ds.length i).bind λ j=>ds[j]?
noncomputable def U6(k:DKey):on DKey->on DV->JF DV
 | k'::ks,v::vs=>if k'=k then some v else U6 k ks vs
 | _,_=>none
noncomputable def putD(k:DKey)(d:DV)(ks:on DKey)(vs:on DV):on DKey×on DV:=
 if k∈ks then(ks,(ks.zip vs).map λ p=>if p.1=k then d else p.2)else(ks++[k],vs++[d])
def ixD(a b:DV):JF DV:=match a,b with
 | .scr ns,.int i=>((C9 ns.length i).bind λ j=>ns[j]?).map DV.int
 | .lst ds,.int i=>atD ds i
 | .tup ds,.int i=>atD ds i
 | _,_=>none
noncomputable def slIx(n d:Nat):JF Int->Nat
 | none=>d
 | some v=>if v<0 then(v+(n:Int)).toNat else min v.toNat n
def cutD(ds:on DV)(lo hi:JF Int):on DV:=(ds.drop (slIx ds.length 0 lo)).take (slIx ds.length ds.length hi - slIx ds.length 0 lo)
def slD(a:DV)(lo hi:JF Int):JF DV:=match a with
 | .scr ns=>some (.lst (cutD (ns.map DV.int) lo hi))
 | .lst ds=>some (.lst (cutD ds lo hi))
 | .tup ds=>if slIx ds.length 0 lo=0/\slIx ds.length ds.length hi=ds.length then none else some (.tup (cutD ds lo hi))
 | _=>none
def slCl(a:DV)(c:Cl):Cl:=match a with
 | .scr _=>.fresh
 | .lst _=>Cl.anew c c
 | _=>c.item
noncomputable def E8(i j:Int):Bool:=(decide (-(2^64)<i)&&decide (i<2^64))||(decide (-(2^64)<j)&&decide (j<2^64))||(decide (i.natAbs<2^2000)&&decide (j.natAbs<2^2000))
def asI:DV->JF Int
 | .int i=>some i
 | _=>none
def asL:DV->JF (on DV)
 | .lst i=>some i
 | _=>none
noncomputable def asTp:DV->JF (on DV)
 | .tup i=>some i
 | _=>none
def binD(op:JV)(a b:DV)(ca cb:Cl):JF Re:=match op with
 | .Add=>match a with
  | .int i=>(asI b).bind λ j=>some (.ok (.int (i+j)) .strong)
  | .lst x=>(asL b).bind λ y=>if x.length+y.length<=m9 then some (.ok (.lst (x++y)) (Cl.anew ca cb))else none
  | .tup x=>(asTp b).bind λ y=>if x.length+y.length<=m9/\x≠[]then some (.ok (.tup (x++y)) (Cl.anew ca cb).notF)else none
  | _=>none
 | .Sub=>(asI a).bind λ i=>(asI b).bind λ j=>some (.ok (.int (i - j)) .strong)
 | .Mult=>match a with
  | .int i=>(asI b).bind λ j=>if E8 i j then some (.ok (.int (i*j)) .strong)else none
  | .lst x=>(asI b).bind λ k=>if x.length*k.toNat<=m9 /\ -(2^63)<=k/\k<2^63 then some (.ok (.lst (List.replicate k.toNat x).flatten) (Cl.anew ca ca))else none
  | _=>none
 | .Mod=>(asI a).bind λ i=>(asI b).bind λ j=>if 0<j then some (.ok (.int (i%j)) .strong)else if j≠0 then some (.ok (.int (i.fmod j)) .strong)else none
 | .FloorDiv=>(asI a).bind λ i=>(asI b).bind λ j=>if 0<j/\j<2^200 then some (.ok (.int (i/j)) .strong)else none
 | .LShift=>(asI a).bind λ i=>(asI b).bind λ j=>if 0<=j/\j<=1000000/\i.natAbs<2^64 then some (.ok (.int (i*2^j.toNat)) .strong)else none
 | .RShift=>(asI a).bind λ i=>(asI b).bind λ j=>if 0<=j then some (.ok (.int (i/2^j.toNat)) .strong)else none
 | .BitAnd=>(asI a).bind λ i=>(asI b).bind λ j=>some (.ok (.int (Builtin.bitAnd i j)) .strong)
 | _=>none
def isN:DV->Bool
 | .non=>true
 | _=>false
def cmpD(op:CmpOp)(a b:DV):JF Bool:=match op with
 | .Lt=>(asI a).bind λ i=>(asI b).bind λ j=>some (decide (i<j))
 | .LtE=>(asI a).bind λ i=>(asI b).bind λ j=>some (decide (i<=j))
 | .Gt=>(asI a).bind λ i=>(asI b).bind λ j=>some (decide (j<i))
 | .GtE=>(asI a).bind λ i=>(asI b).bind λ j=>some (decide (j<=i))
 | .Eq=>if a.plain 60&&b.plain 60 then some (deq a b)else none
 | .NotEq=>if a.plain 60&&b.plain 60 then some (!deq a b)else none
 | .Is=>match b with
  | .non=>some (isN a)
  | _=>none
 | _=>none
noncomputable def ints?:on DV->JF (on Int)
 | []=>some []
 | .int i::r=>(ints? r).map (i :: ·)
 | _=>none
noncomputable def minI:Int->on Int->Int
 | m,[]=>m
 | m,x::r=>minI (if x<m then x else m) r
noncomputable def maxI:Int->on Int->Int
 | m,[]=>m
 | m,x::r=>maxI (if m<x then x else m) r
noncomputable def insI(x:Int):on Int->on Int
 | []=>[x]
 | y::r=>if x<y then x::y::r else y::insI x r
def F5:on Int->on Int
 | []=>[]
 | x::r=>insI x (F5 r)
noncomputable def dk(σ:on Int)(k:Int):on Int:=if k∈σ then σ else σ++[k]
noncomputable def aX(i:Int):Int:=if i=0 then 0 else(i.natAbs.log2:Int)+1
noncomputable def lenD:on (DV×Cl)->JF Re
 | [(.lst ds,_)]=>some (.ok (.int ds.length) .strong)
 | [(.tup ds,_)]=>some (.ok (.int ds.length) .strong)
 | [(.scr ns,_)]=>some (.ok (.int ns.length) .strong)
 | _=>none
noncomputable def absD:on (DV×Cl)->JF Re
 | [(.int i,_)]=>some (.ok (.int (if i<0 then -i else i)) .strong)
 | _=>none
noncomputable def trips?:on DV->JF (on (Int×Int×Int))
 | []=>some []
 | .tup [.int a,.int b,.int c]::r=>(trips? r).map ((a,b,c) :: ·)
 | _=>none
noncomputable def ltT(p q:Int×Int×Int):Bool:=decide (p.1<q.1)||(p.1==q.1&&(decide (p.2.1<q.2.1)||(p.2.1==q.2.1&&decide (p.2.2<q.2.2))))
def E9:Int×Int×Int->on (Int×Int×Int)->Int×Int×Int
 | m,[]=>m
 | m,x::r=>E9 (if ltT x m then x else m) r
noncomputable def trD(p:Int×Int×Int):DV:=.tup [.int p.1,.int p.2.1,.int p.2.2]
def minD:on (DV×Cl)->JF Re
 | [(.int i,_),(.int j,_)]=>some (.ok (.int (if j<i then j else i)) .strong)
 | [(.lst ds,c)]=>match ints? ds with
  | some (n::r)=>some (.ok (.int (minI n r)) .strong)
  | _=>match trips? ds with
   | some (n::r)=>some (.ok (trD (E9 n r)) c.item)
   | _=>none
 | _=>none
def maxD:on (DV×Cl)->JF Re
 | [(.int i,_),(.int j,_)]=>some (.ok (.int (if j>i then j else i)) .strong)
 | [(.lst ds,_)]=>match ints? ds with
  | some (n::r)=>some (.ok (.int (maxI n r)) .strong)
  | _=>none
 | [(.tup ds,_)]=>match ints? ds with
  | some (n::r)=>some (.ok (.int (maxI n r)) .strong)
  | _=>none
 | _=>none
def fF:on (DV×Cl)->JF Re
 | [(.lst ds,_)]=>match ints? ds with
  | some ns=>if ns.length<4000/\(ns.foldl dk []).length<64 then some (.ok (.lst ((F5 (ns.foldl dk [])).map DV.int)) .fresh)else none
  | none=>none
 | _=>none
def sumD:on (DV×Cl)->JF Re
 | [(.lst ds,_)]=>(ints? ds).map λ ns=>.ok (.int ns.sum) .strong
 | _=>none
noncomputable def intD:on (DV×Cl)->JF Re
 | [(.int i,_)]=>some (.ok (.int i) .strong)
 | [(.bl b,_)]=>some (.ok (.int (if b then 1 else 0)) .strong)
 | _=>none
def jG:on (DV×Cl)->JF Re
 | [(.scr ns,_)]=>some (.ok (.lst (ns.map DV.int)) .fresh)
 | [(.lst ds,c)]=>some (.ok (.lst ds) (Cl.anew c c))
 | [(.tup ds,c)]=>some (.ok (.lst ds) (Cl.anew c c))
 | _=>none
noncomputable def jH:on (DV×Cl)->JF Re
 | [(.lst ds,c)]=>some (.ok (.tup ds) c.item)
 | [(.tup ds,c)]=>some (.ok (.tup ds) c)
 | _=>none
def biD(f:Bi)(l:on (DV×Cl)):JF Re:=match f with
 | .len=>lenD l
 | .min=>minD l
 | .max=>maxD l
 | .int=>intD l
 | .tuple=>jH l
 | .list=>jG l
 | .abs=>absD l
 | .sset=>fF l
 | .sum=>sumD l
noncomputable def biOk:Bi->Bool
 | .len=>true | .min=>true | .max=>true | .int=>true | .tuple=>true | .list=>true | .abs=>true | .sset=>true | .sum=>true
def mtD(m:Mt)(a:DV):JF Re:=match m,a with
 | .bitLength,.int i=>some (.ok (.int (aX i)) .strong)
 | _,_=>none
structure Gs where
 con:List (Str×DV)
 fnl:List Str:=[]
 bll:List Str:=[]
 cll:List Str:=[]
 clo:Option CloD:=none
noncomputable def tyOf:DV->on Str
 | .non=>["NoneType"]
 | .bl _=>["bool","int"]
 | .int _=>["int"]
 | .str _=>["str"]
 | .tup _=>["tuple"]
 | .lst _=>["list"]
 | .dct _ _=>["dict"]
 | _=>[]
noncomputable def U7:on Str:=["int","bool","str","list","tuple","dict"]
def isiD(G:Gs)(d:DV)(ts:on Str):JF Bool:=match d with
 | .scr _=>none
 | .fn _=>none
 | .lam _ _=>none
 | .dcl _ _=>none
 | d=>match ts with
  | [t]=>if U7.contains t then some ((tyOf d).contains t)else none
  | _=>none
noncomputable def upTo(lo:Int)(n:Nat):on DV:=(List.range n).map λ (i:Nat)=>DV.int (lo+i)
noncomputable def F6(i:Int):Bool:=decide (-(2^62)<=i)&&decide (i<2^62)
def R9(y:DV):on DV->JF Nat
 | []=>none
 | d::r=>if deq d y then some 0 else(R9 y r).map (· + 1)
def seqB:DV->Bool
 | .tup _=>true | _=>false
def idxD(x y:DV):JF DV:=match x with
 | .tup ds=>if y.plain 60&&DV.plains 60 ds&&decide (ds.length<=m9)then(R9 y ds).map λ (j:Nat)=>DV.int (j:Int)else none
 | _=>none
def rngD(l:on (DV×Cl)):JF (on DV):=match l with
 | [(.int j,_)]=>if F6 j&&decide (j<=m9)then some (upTo 0 j.toNat)else none
 | [(.int i,_),(.int j,_)]=>if F6 i&&F6 j&&decide (j - i<=m9)then some (upTo i (j - i).toNat)else none
 | _=>none
noncomputable def enuD:Nat->on DV->on DV
 | _,[]=>[]
 | k,d::r=>.tup [.int k,d]::enuD (k+1) r
def Cl.meet:Cl->Cl->Cl
 | .weak,_=>.weak | _,.weak=>.weak | .top,_=>.top | _,.top=>.top | _,_=>.strong
noncomputable def P8:DV->JF (Bool×on DV)
 | .lst ds=>some (false,ds)
 | .tup ds=>some (true,ds)
 | _=>none
def fG(x:DV)(c:Cl):JF Re:=match P8 x with
 | some (_,xs)=>some (.ok (.lst (enuD 0 xs)) (Cl.meet c c))
 | _=>none
def kP(k:on Int):on (Sum Int Str):=k.map Sum.inl
noncomputable def unP:on (Sum Int Str)->JF (on Int)
 | []=>some []
 | .inl a::r=>(unP r).map (a :: ·)
 | _=>none
def kvp?:on DKey->on DV->JF (on (on Int×Int))
 | [],[]=>some []
 | .t l::ks,.int v::vs=>(unP l).bind λ k=>(kvp? ks vs).map ((k,v) :: ·)
 | _,_=>none
def itmD(x:DV)(c:Cl):JF Re:=match x with
 | .dct ks vs=>if c=.strong/\ks.isEmpty=false then(kvp? ks vs).map (λ l=>.ok (.lst (l.map λ p=>.tup [.tup (p.1.map .int),.int p.2])) .strong)else none
 | _=>none
noncomputable def asDc:DV->JF (on DKey×on DV)
 | .dct ks vs=>some (ks,vs)
 | .dcl ks vs=>some (ks,vs)
 | _=>none
def keyI(y:DV):JF (on Int):=(asTp y).bind ints?
def dixD(x y:DV):JF Re:=(asDc x).bind λ p=>(keyI y).bind λ k=>(U6 (.t (kP k)) p.1 p.2).bind λ d=>(asI d).bind λ v=>some (.ok (.int v) .strong)
noncomputable def asOd:JF Sv->JF (on DKey×on DV)
 | some (.od (.dcl ks vs))=>some (ks,vs)
 | _=>none
def dppD(i:Nat)(δ:on Sv)(p:on DKey×on DV)(l:on (DV×Cl))(d:DV):JF (on Sv):=(ints? (l.map (·.1))).bind λ k=>(asI d).bind λ z=>if p.1.length<m9/\k.length<=3 then some (δ.set i (.od (.dcl (putD (.t (kP k)) (.int z) p.1 p.2).1 (putD (.t (kP k)) (.int z) p.1 p.2).2)))else none
noncomputable def seqD:DV->JF (on DV)
 | .scr ns=>some (ns.map DV.int)
 | .lst ds=>some ds
 | .tup ds=>some ds
 | _=>none
noncomputable def S0(δ:on Sv):on Nat->on DV->JF (on Sv)
 | [],[]=>some δ
 | i::is,d::ds=>S0 (δ.set i (.val d)) is ds
 | _,_=>none
def Tg.bind(tg:Tg)(d:DV)(δ:on Sv):JF (on Sv):=match tg with
 | .one i=>some (δ.set i (.val d))
 | .many is=>match d with
  | .tup ds=>S0 δ is ds
  | _=>none
noncomputable def x4(fr:on (JF Nat))(δ:on Sv):on Sv:=fr.map λ o=>match o with
 | some i=>δ.getD i .no
 | none=>.no
inductive Rc where
 | skip | item (d:DV)
noncomputable def u0(g:DV->JF Rc):on DV->JF (on DV)
 | []=>some []
 | d::r=>match g d with
  | none=>none
  | some .skip=>u0 g r
  | some (.item x)=>match u0 g r with
   | none=>none
   | some xs=>some (x::xs)
noncomputable def U8(r:JF (on DV)):JF Re:=match r with
 | none=>none
 | some xs=>some (.ok (.lst xs) .fresh)
noncomputable def fH(r:JF (on DV)):JF Re:=match r with
 | none=>none
 | some xs=>some (.ok (.lst xs) .weak)
def Rc.of(r:JF Re):JF Rc:=match r with
 | some (.ok d c)=>if stro d c then some (.item d)else none
 | _=>none
noncomputable def Rc.test(t:JF Rt)(r:JF Rc):JF Rc:=match t with
 | some (.ok true)=>r
 | some (.ok false)=>some .skip
 | _=>none
inductive Ri where
 | ok (ds:List DV) (c:Cl)
def Ri.thn(r:JF Ri)(k:on DV->Cl->JF Re):JF Re:=match r with
 | none=>none
 | some (.ok ds c)=>k ds c
noncomputable def Re.thnI(r:JF Re)(k:DV->Cl->JF Ri):JF Ri:=match r with
 | none=>none
 | some (.ok d c)=>k d c
def zU(d:DV)(c:Cl):JF Ri:=(seqD d).map λ ds=>.ok ds c
def imL:DV->Bool
 | .lst ds=>DV.immuts ds
 | _=>false
def J4(F:Nat->on DV->JF Ou)(f:Nat)(l:on (DV×Cl)):JF Re:=match F f (l.map (·.1))with
 | none=>none
 | some (.v d fr)=>some (.ok d (if l.all λ p=>p.2 == .strong||p.2 == .fresh then(if fr then .fresh else .strong)else if fr&&imL d then .fresh else .weak))
def F0:Nat:=1001
def capD(δ:on Sv):on Nat->JF (on DV)
 | []=>some []
 | i::r=>match δ[i]?,capD δ r with
  | some (.val d),some ds=>if d.nolam then some (d::ds)else none
  | _,_=>none
def sS:DV->JF Str | .str i=>some i | _=>none
def tT:DV->JF (on DV) | .tup l=>some l | _=>none
noncomputable def P9(F:Nat->on DV->JF Ou)(m:DV):on DV->JF (on Int)
 | []=>some []
 | d::r=>match F F0 [m,d]with
  | some (.v (.int k) false)=>(P9 F m r).map (k :: ·)
  | _=>none
noncomputable def M6(ks:on Int):JF Nat:=(List.range ks.length).find? λ i=>(List.range ks.length).all λ j=>decide (ks.getD j 0<=ks.getD i 0)&&(decide (i<=j)||decide (ks.getD j 0<ks.getD i 0))
def mxkL(F:Nat->on DV->JF Ou)(m:DV)(x:DV)(c:Cl):JF Re:=match x with
 | .lst ds=>if(c == .strong||c == .fresh||c == .top)=true then(P9 F m ds).bind λ ks=>(M6 ks).bind λ i=>ds[i]?.map λ d=>.ok d .strong else none
 | _=>none
def fI(G:Gs)(F:Nat->on DV->JF Ou)(ra:JF Re)(N:on Str)(np:Nat)(lb:ME)(o:JF (on DV)):JF Re:=match o with
  | some cs=>if G.fnl.isEmpty then none else Re.thn (ra) λ x cx=>mxkL F (.lam ⟨N,np,lb,G.fnl,G.bll,G.cll⟩ cs) x cx
  | none=>none
def D7:Nat:=1003
def n7:Str:="plan_of"
def M7(F:Nat->on DV->JF Ou)(np:Nat)(cs:on DV)(l:on (DV×Cl)):JF Re:=if(l.all λ p=>p.2 == .strong||p.2 == .fresh)=true/\l.length=np then(match F D7 (l.map (·.1)++cs)with
 | some (.v d false)=>if d.nolam then some (.ok d .strong)else none
 | _=>none)else none
def cM(G:Gs)(F:Nat->on DV->JF Ou)(np nc:Nat)(rs:JF Rs)(o:JF (on DV)):JF Re:=match G.clo with
  | some C=>if C.np=np/\C.nc=nc then o.bind λ cs=>Rs.thn rs λ l=>M7 F np cs l else none
  | none=>none
def andD(x:DV)(c:Cl)(r:JF Re):JF Re:=match J3 x with
 | none=>none
 | some true=>r
 | some false=>some (.ok x c)
def orD(x:DV)(c:Cl)(r:JF Re):JF Re:=match J3 x with
 | none=>none
 | some true=>some (.ok x c)
 | some false=>r
def tstD(r:JF Re):JF Rt:=Re.thnT r λ x _=>(J3 x).map Rt.ok
def q9(r:JF Re):JF Ri:=Re.thnI r λ x c=>zU x c
def varE(o:JF Sv):JF Re:=match o with
  | some (.val d)=>some (.ok d .strong)
  | some (.own d)=>some (.ok d .top)
  | some (.od (.dcl ks vs))=>some (.ok (.dcl ks vs) .weak)
  | _=>none
def fK(F:Nat->on DV->JF Ou)(xs:on (Str×Nat))(rs:JF Rs)(o:JF Sv):JF Re:=match o with
  | some (.val (.fn x))=>(match xs.lookup x with
   | some f=>Rs.thn (rs) λ l=>J4 F f l
   | none=>none)
  | _=>none
mutual
def evE(G:Gs)(F:Nat->on DV->JF Ou):ME->on Sv->JF Re
 | .var i,δ=>varE δ[i]?
 | .int i,_=>some (.ok (.int i) .strong)
 | .bl i,_=>some (.ok (.bl i) .strong)
 | .str i,_=>some (.ok (.str i) .strong)
 | .non,_=>some (.ok .non .strong)
 | .glb x,_=>(G.con.lookup x).map λ d=>.ok d .strong
 | .bin op a b,δ=>Re.thn (evE G F a δ) λ x cx=>Re.thn (evE G F b δ) λ y cy=>binD op x y cx cy
 | .neg a,δ=>Re.thn (evE G F a δ) λ x _=>match x with | .int i=>some (.ok (.int (-i)) .strong) | _=>none
 | .not a,δ=>Re.thn (evE G F a δ) λ x _=>(J3 x).map λ k=>.ok (.bl (!k)) .strong
 | .cmp op a b,δ=>Re.thn (evE G F a δ) λ x _=>Re.thn (evE G F b δ) λ y _=>(cmpD op x y).map λ k=>.ok (.bl k) .strong
 | .chain op op' a b c,δ=>Re.thn (evE G F a δ) λ x _=>Re.thn (evE G F b δ) λ y _=>match cmpD op x y with
  | none=>none
  | some false=>some (.ok (.bl false) .strong)
  | some true=>Re.thn (evE G F c δ) λ z _=>(cmpD op' y z).map λ k=>.ok (.bl k) .strong
 | .and es,δ=>L4 G F es δ
 | .or es,δ=>evOr G F es δ
 | .lst es,δ=>Rs.thn (evEs G F es δ) λ l=>if l.length<=m9 then some (.ok (.lst (l.map (·.1))) (if stros l then .fresh else .weak))else none
 | .tup es,δ=>Rs.thn (evEs G F es δ) λ l=>if l.length<=m9 then some (.ok (.tup (l.map (·.1))) (if stros l then .strong else .weak))else none
 | .ix a b,δ=>Re.thn (evE G F a δ) λ x cx=>Re.thn (evE G F b δ) λ y _=>(ixD x y).map λ d=>.ok d cx.item
 | .sl a lo hi,δ=>Re.thn (evE G F a δ) λ x cx=>Re.thn (evE G F lo δ) λ l _=>match l with
  | .int l=>Re.thn (evE G F hi δ) λ h _=>(match h with
   | .int h=>(slD x (some l) (some h)).map λ d=>.ok d (slCl x cx)
   | _=>none)
  | _=>none
 | .ite c a b,δ=>Rt.thn (tstD (evE G F c δ)) λ k=>if k then evE G F a δ else evE G F b δ
 | .call f es,δ=>Rs.thn (evEs G F es δ) λ l=>J4 F f l
 | .bi f es,δ=>if biOk f then Rs.thn (evEs G F es δ) λ l=>biD f l else none
 | .isi a ts,δ=>Re.thn (evE G F a δ) λ x _=>(isiD G x ts).map λ k=>.ok (.bl k) .strong
 | .meth m a _,δ=>if m=.bitLength then Re.thn (evE G F a δ) λ x _=>mtD m x else none
 | .comp elt tg it fr,δ=>Ri.thn (q9 (evE G F it δ)) λ ds c=>if c=.weak\/m9<ds.length then(if c=.weak/\ds.length<=m9 then fH (u0 (λ d=>(tg.bind d (x4 fr [])).bind λ δ'=>Rc.of (evE G F elt δ')) ds)else none)else U8 (u0 (λ d=>(tg.bind d (x4 fr δ)).bind λ δ'=>Rc.of (evE G F elt δ')) ds)
 | .compi elt tg it cd fr,δ=>Ri.thn (q9 (evE G F it δ)) λ ds c=>if c=.weak\/m9<ds.length then none else U8 (u0 (λ d=>(tg.bind d (x4 fr δ)).bind λ δ'=>Rc.test (tstD (evE G F cd δ')) (Rc.of (evE G F elt δ'))) ds)
 | .idx a b,δ=>Re.thn (evE G F a δ) λ x _=>if seqB x then Re.thn (evE G F b δ) λ y _=>(idxD x y).map λ d=>.ok d .strong else none
 | .rng es,δ=>Rs.thn (evEs G F es δ) λ l=>(rngD l).map λ ds=>.ok (.lst ds) .fresh
 | .enu a,δ=>Re.thn (evE G F a δ) λ x c=>fG x c
 | .itm a,δ=>Re.thn (evE G F a δ) λ x c=>itmD x c
 | .dix a k,δ=>Re.thn (evE G F a δ) λ x _=>Re.thn (evE G F k δ) λ y _=>dixD x y
 | .callv i xs es,δ=>fK F xs (evEs G F es δ) δ[i]?
 | .maxk a N np lb fr,δ=>fI G F (evE G F a δ) N np lb (capD δ fr)
 | .self np nc es,δ=>cM G F np nc (evEs G F es δ) (capD δ (List.range' np nc))
def evEs(G:Gs)(F:Nat->on DV->JF Ou):on ME->on Sv->JF Rs
 | [],_=>some (.ok [])
 | e::es,δ=>match evE G F e δ with
  | none=>none
  | some (.ok d c)=>match evEs G F es δ with
   | none=>none
   | some (.ok l)=>some (.ok ((d,c)::l))
def L4(G:Gs)(F:Nat->on DV->JF Ou):on ME->on Sv->JF Re
 | [],_=>none
 | e::es,δ=>if es.isEmpty then evE G F e δ else Re.thn (evE G F e δ) λ x c=>andD x c (L4 G F es δ)
def evOr(G:Gs)(F:Nat->on DV->JF Ou):on ME->on Sv->JF Re
 | [],_=>none
 | e::es,δ=>if es.isEmpty then evE G F e δ else Re.thn (evE G F e δ) λ x c=>orD x c (evOr G F es δ)
end
def jI:Nat:=1000
noncomputable def Re.thnS(δ:on Sv)(r:JF Re)(k:DV->Cl->JF Out):JF Out:=match r with
 | none=>none
 | some (.ok d c)=>k d c
def Rs.thnS(δ:on Sv)(r:JF Rs)(k:on (DV×Cl)->JF Out):JF Out:=match r with
 | none=>none
 | some (.ok l)=>k l
def Rt.thnS(δ:on Sv)(r:JF Rt)(k:Bool->JF Out):JF Out:=match r with
 | none=>none
 | some (.ok b)=>k b
def Ri.thnS(δ:on Sv)(r:JF Ri)(k:on DV->Cl->JF Out):JF Out:=match r with
 | none=>none
 | some (.ok ds c)=>k ds c
def q0(tg:Tg)(body:on Sv->JF Out):on DV->on Sv->JF Out
 | [],δ=>some (.nx δ)
 | d::r,δ=>match tg.bind d δ with
  | none=>none
  | some δ1=>match body δ1 with
   | some (.nx δ2)=>q0 tg body r δ2
   | o=>o
def G3(test:on Sv->JF Rt)(body:on Sv->JF Out):Nat->on Sv->JF Out
 | 0,_=>none
 | n+1,δ=>match test δ with
  | none=>none
  | some (.ok false)=>some (.nx δ)
  | some (.ok true)=>match body δ with
   | some (.nx δ2)=>G3 test body n δ2
   | o=>o
def frD:DV->Cl->Bool
 | .lst _,.fresh=>true | .lst _,.top=>true
 | _,_=>false
noncomputable def noOt(i:Nat)(δ:on Sv):Bool:=(List.range δ.length).all λ j=>j==i||(match δ[j]? with | some (.od _)=>false | _=>true)
noncomputable def cN(i:Nat)(δ:on Sv)(d:DV)(c:Cl):JF Out:=match c with
 | .fresh=>some (.nx (δ.set i (.own d)))
 | _=>match d with
  | .non=>some (.nx (δ.set i (.val .non)))
  | _=>none
def retD(d:DV)(c:Cl):Out:=.rt d (frD d c)
def appS(δ:on Sv)(i:Nat)(re:JF Re)(o:JF Sv):JF Out:=match o with
  | some (.own (.lst ds))=>Re.thnS δ (re) λ d c=>if stro d c/\ds.length<m9 then some (.nx (δ.set i (.own (.lst (ds++[d])))))else none
  | _=>none
def pd(δ:on Sv)(i:Nat)(rk re:JF Re)(o:JF Sv):JF Out:=match o with
  | some (.own (.lst ds))=>Re.thnS δ (re) λ d c=>Re.thnS δ (rk) λ k _=>(match k with
   | .int k=>(match C9 ds.length k with
    | some j=>if stro d c then some (.nx (δ.set i (.own (.lst (ds.set j d)))))else none
    | none=>none)
   | _=>none)
  | _=>none
def noB:JF Sv->Bool
 | some .no=>true
 | _=>false
def dfrS(G:Gs)(F:Nat->on DV->JF Ou)(fr:on Nat)(ra:JF Re)(rs:JF Rs)(o:JF (on DV))(oi:JF Sv):JF Out:=match G.clo with
  | some C=>if C.nc=fr.length/\noB oi=true/\G.fnl.isEmpty=false then o.bind λ cs=>(Re.thn ra λ x _=>(asI x).bind λ n=>Rs.thn rs λ l=>(M7 F C.np cs l).bind λ r=>(match r with
   | .ok d _=>some (.ok (.tup [.int n,d]) .strong))).bind λ r=>(match r with
   | .ok d _=>some (.rt d false))else none
  | none=>none
noncomputable def frzS(δ:on Sv)(i:Nat)(o:JF Sv):JF Out:=match o with
 | some (.own d)=>some (.nx (δ.set i (.val d)))
 | _=>some (.nx δ)
noncomputable def asIv:JF Sv->JF Int
 | some (.val d)=>asI d
 | _=>none
mutual
def evS(G:Gs)(F:Nat->on DV->JF Ou)(fu:Nat):MS->on Sv->JF Out
 | .set i own e,δ=>Re.thnS δ (evE G F e δ) λ d c=>if own then cN i δ d c else(if stro d c then some (.nx (δ.set i (.val d)))else none)
 | .app i e,δ=>appS δ i (evE G F e δ) δ[i]?
 | .ext i e,δ=>match δ[i]? with
  | some (.own (.lst ds))=>Re.thnS δ (evE G F e δ) λ d c=>if c=.strong\/c=.fresh then(match P8 d with
   | some (_,ys)=>if ds.length+ys.length<=m9 then some (.nx (δ.set i (.own (.lst (ds++ys)))))else none
   | none=>none)else none
  | _=>none
 | .seti i k e,δ=>pd δ i (evE G F k δ) (evE G F e δ) δ[i]?
 | .exp e,δ=>Re.thnS δ (evE G F e δ) λ _ _=>some (.nx δ)
 | .ret e,δ=>Re.thnS δ (evE G F e δ) λ d c=>some (retD d c)
 | .iff c a b,δ=>Rt.thnS δ (tstD (evE G F c δ)) λ k=>if k then evSs G F fu a δ else evSs G F fu b δ
 | .fo tg it body,δ=>Ri.thnS δ (q9 (evE G F it δ)) λ ds c=>if c=.strong\/c=.fresh then q0 tg (λ δ'=>evSs G F fu body δ') ds δ else none
 | .wh c body,δ=>G3 (λ δ'=>tstD (evE G F c δ')) (λ δ'=>evSs G F fu body δ') fu δ
 | .retd i,δ=>(asOd δ[i]?).bind λ p=>some (.rt (.dct p.1 p.2) false)
 | .sep i,δ=>if noOt i δ then some (.nx (δ.set i (.od (.dcl [] []))))else none
 | .dpp i ks e,δ=>(asOd δ[i]?).bind λ p=>Re.thnS δ (evE G F e δ) λ d _=>Rs.thnS δ (evEs G F ks δ) λ l=>(dppD i δ p l d).map Out.nx
 | .sett is e,δ=>Re.thnS δ (evE G F e δ) λ d c=>if c=.strong\/c=.fresh then(match P8 d with
  | some (_,ds)=>(S0 δ is ds).map .nx
  | none=>none)else none
 | .aug i e,δ=>(asIv δ[i]?).bind λ a=>Re.thnS δ (evE G F e δ) λ d _=>(asI d).bind λ b=>some (.nx (δ.set i (JZ (a+b))))
 | .frz i,δ=>frzS δ i δ[i]?
 | .unk,_=>none
 | .dfr i fr a es,δ=>dfrS G F fr (evE G F a δ) (evEs G F es δ) (capD δ fr) δ[i]?
def evSs(G:Gs)(F:Nat->on DV->JF Ou)(fu:Nat):on MS->on Sv->JF Out
 | [],δ=>some (.nx δ)
 | s::r,δ=>match evS G F fu s δ with
  | some (.nx δ')=>evSs G F fu r δ'
  | o=>o
end
noncomputable def p7(n:Nat)(ds:on DV):on Sv:=ds.map Sv.val++List.replicate (n - ds.length) .no
def Ou.of(o:JF Out):JF Ou:=match o with
 | some (.nx _)=>some (.v .non false)
 | some (.rt d fr)=>some (.v d fr)
 | none=>none
def cloR(G:Gs)(ev:on MS->on Sv->JF Out)(ds:on DV):JF Ou:=G.clo.bind λ C=>if ds.length=C.np+C.nc/\DV.nolams ds=true then(match ev C.body (p7 C.N.length ds)with
  | some (.rt d false)=>if d.nolam then some (.v d false)else none
  | _=>none)else none
def lamR(ev:ME->on Sv->JF Re)(ds:on DV):JF Ou:=match ds with
 | .lam m cs::args=>if args.length=m.np/\args.length+cs.length=m.N.length/\DV.nolams args=true/\DV.nolams cs=true then(match ev m.body ((args++cs).map Sv.val)with
  | some (.ok d .strong)=>if d.nolam then some (.v d false)else none
  | _=>none)else none
 | _=>none
def run(G:Gs)(T:on FD)(fu:Nat):Nat->Nat->on DV->JF Ou
 | 0,_,_=>none
 | k+1,f,ds=>match T[f]? with
  | none=>if f=F0 then lamR (evE G (run G T fu k)) ds else if f=D7 then cloR G (evSs G (run G T fu k) fu) ds else none
  | some fd=>if ds.length=fd.np then Ou.of (evSs G (run G T fu k) fu fd.body (p7 fd.n ds))else none
def G4:Re.thn (some (.ok d c)) k=k d c:=rfl
def cO:Rs.thn (some (.ok l)) k=k l:=rfl
def aY:Ri.thn (some (.ok ds c)) k=k ds c:=rfl
def pf:Re.thnS δ (some (.ok d c)) k=k d c:=rfl
def zV{G:Gs}{F:Nat->on DV->JF Ou}{fu:Nat}{δ:on Sv}{m:MS}{r:on MS}{δ':on Sv}(h:evS G F fu m δ=some (.nx δ')):evSs G F fu (m::r) δ=evSs G F fu r δ':=by
 rw[show evSs G F fu (m::r) δ=(match evS G F fu m δ with | some (.nx δ')=>evSs G F fu r δ' | o=>o)from rfl,h]
def zW(h:evS G F fu m δ=some (.rt d fr)):evSs G F fu (m::r) δ=some (.rt d fr):=by
 rw[show evSs G F fu _ δ=(match evS G F fu m δ with | some (.nx δ')=>evSs G F fu r δ' | o=>o)from rfl,h]
def ph(h:T[f]? = none):run G T fu (k+1) f ds=if f=F0 then lamR (evE G (run G T fu k)) ds else if f=D7 then cloR G (evSs G (run G T fu k) fu) ds else none:=by
 unfold run;rw[h]
def jJ(h:T[f]? = some fd):run G T fu (k+1) f ds=if ds.length=fd.np then Ou.of (evSs G (run G T fu k) fu fd.body (p7 fd.n ds))else none:=by
 rw[run];rw[h]
def o8(h:T[f]? = some fd)(a:ds.length=fd.np):run G T fu (k+1) f ds=Ou.of (evSs G (run G T fu k) fu fd.body (p7 fd.n ds)):=(jJ h).trans (f8 a)
end L2
namespace L2
open PySem
theorem pi{I:on Sv->Prop}:∀{ds:on DV} {δ:on Sv},(∀d∈ds,∀δ,I δ->∃b a,tg.bind d δ=some b/\body b=some (.nx a)/\I a)->I δ->∃c,q0 tg body ds δ=some (.nx c)/\I c
 | [],δ,_,i=>⟨δ,rfl,i⟩
 | d::r,δ,h,i=>by obtain⟨b,a,l,k,f⟩:=h d (k8 ..) δ i;obtain⟨c,j,e⟩:=pi (λ d g=>h d (k5 _ g)) f;refine⟨c,?_,e⟩;show(match tg.bind d δ with | none=>none | some b=>(match body b with | some (.nx a)=>q0 tg body r a | o=>o))=_;rw[l];show(match body b with | some (.nx a)=>q0 tg body r a | o=>o)=_;rw[k];exact j
theorem pj:∀{a:on DV},(∀d∈a,g d=some (if p d then .item d else .skip))->u0 g a=some (a.filter p)
 | [],_=>rfl
 | d::r,h=>by
  have b:=pj (λ d e=>h d (k5 _ e));unfold u0;rw[(h d (k8 ..))];cases c:p d with
  | false=>rw[eB (by grind)];exact b
  | true=>
   rw[bQ c];show(match u0 g r with | none=>none | some xs=>some _)=_;rw[b]
theorem pk:∀{a:on DV},(∀d∈a,g d=some (.item (f d)))->u0 g a=some (a.map f)
 | [],_=>rfl
 | d::r,h=>by unfold u0;rw[(h d (k8 ..))];show(match u0 g r with | none=>none | some xs=>some _)=_;rw[(pk (λ d b=>h d (k5 _ b)))];rfl
def zX(h:d∈upTo a n):∃j:Nat,j<n/\d=.int (a+j):=by
 unfold upTo at h;rw[k9]at h;obtain⟨j,b,rfl⟩:=h;exact⟨j,o4.mp b,rfl⟩
end L2
namespace L2
open PySem
def o9(h:evSs G F fu r δ=some (.rt d fr)):Ou.of (evSs G F fu r δ)=some (.v d fr):=by rw[h];rfl
def jK{G:Gs}{F:Nat->on DV->JF Ou}{fu:Nat}{δ δ':on Sv}{r:on MS}(h:evSs G F fu r δ=some (.nx δ')):Ou.of (evSs G F fu r δ)=some (.v .non false):=by rw[h];rfl
def i4(h:evS G F fu m δ=some (.nx δ'))(a:evSs G F fu r δ'=o):evSs G F fu (m::r) δ=o:=(zV h).trans a
def n9(h:evS G F fu m δ=some (.rt d fr)):evSs G F fu (m::r) δ=some (.rt d fr):=zW h
def fL(d:tstD (evE G F c δ)=some (.ok bb)):evS G F fu (.iff c a b) δ=if bb then evSs G F fu a δ else evSs G F fu b δ:=by
 show Rt.thnS δ _ _=_;rw[d];rfl
def pq(d:tstD (evE G F c δ)=some (.ok true))(h:evSs G F fu a δ=some (.nx δ'))(e:evSs G F fu r δ'=o):evSs G F fu (.iff c a b::r) δ=o:=i4 ((fL d).trans h) e
def pu(d:tstD (evE G F c δ)=some (.ok false))(h:evSs G F fu b δ=some (.nx δ'))(e:evSs G F fu r δ'=o):evSs G F fu (.iff c a b::r) δ=o:=i4 ((fL d).trans h) e
def Z1(e:tstD (evE G F c δ)=some (.ok true))(h:evSs G F fu a δ=some (.rt d fr)):evSs G F fu (.iff c a b::r) δ=some (.rt d fr):=n9 ((fL e).trans h)
def D8(b:tstD (evE G F c δ)=some (.ok false))(d:evSs G F fu r δ=o):evSs G F fu (.iff c a []::r) δ=o:=pu b rfl d
def B6(b:q9 (evE G F it δ)=some (.ok ds cl))(c:cl=.strong\/cl=.fresh)(h:q0 tg (λ δ'=>evSs G F fu body δ') ds δ=some (.nx δ'))(d:evSs G F fu r δ'=o):evSs G F fu (.fo tg it body::r) δ=o:=by
 refine i4 ?_ d;show Ri.thnS δ _ _=_;rw[b];show(if cl=.strong\/cl=.fresh then q0 tg _ ds δ else none)=_
 rwa [f8 c]
def n5(h:evE G F e δ=some (.ok d cl))(hs:stro d cl=true):evS G F fu (.set i false e) δ=some (.nx (δ.set i (.val d))):=by
 show Re.thnS δ _ _=_;rw[h];show(if stro d cl then some _ else none)=_;rw[f8 hs]
def Z2(h:evE G F e δ=some (.ok d .fresh)):evS G F fu (.set i true e) δ=some (.nx (δ.set i (.own d))):=by
 show Re.thnS δ _ _=_;rw[h];rfl
def p6(h:evE G F e δ=some (.ok d cl)):evS G F fu (.ret e) δ=some (.rt d (frD d cl)):=by
 show Re.thnS δ _ _=_;rw[h];rfl
def cP(h:evE G F e δ=some (.ok d cl)):evS G F fu (.exp e) δ=some (.nx δ):=by
 show Re.thnS δ _ _=_;rw[h];rfl
def i7(a:evEs G F es δ=some (.ok l))(hs:(l.all λ p=>p.2 == .strong||p.2 == .fresh)=true)(h:F f (l.map (·.1))=some (.v d fr)):evE G F (.call f es) δ=some (.ok d (if fr then .fresh else .strong)):=by
 show Rs.thn _ _=_;rw[a];show J4 F f l=_;unfold J4;rw[h,hs];rfl
def pv(c:evEs G F es δ=some (.ok l))(a:(l.all λ p=>p.2 == .strong||p.2 == .fresh)=false)(h:F f (l.map (·.1))=some (.v d fr))(b:(fr&&imL d)=false:=by rfl):evE G F (.call f es) δ=some (.ok d .weak):=by
 show Rs.thn _ _=_;rw[c];show J4 F f l=_;unfold J4;rw[h,a];show some _=_;rw[b];rfl
def r6(h:Ka e cl (.bl x)):tstD (evE G F e δ)=some (.ok x):=by rw[h];rfl
def fM(h:Ka e cl (.bl x)):evE G F (.not e) δ=some (.ok (.bl (!x)) .strong):=by
 show Re.thn _ _=_;rw[h];rfl
end L2
namespace L2
open PySem
def E4(d:evE G F a δ=some (.ok x cx))(c:evE G F b δ=some (.ok y cy))(h:binD op x y cx cy=r):evE G F (.bin op a b) δ=r:=by
 show Re.thn _ _=_;rw[d,G4,c,G4,h]
def G5(d:evE G F a δ=some (.ok x cx))(c:evE G F b δ=some (.ok y cy))(h:cmpD op x y=some t):evE G F (.cmp op a b) δ=some (.ok (.bl t) .strong):=by
 show Re.thn _ _=_;rw[d,G4,c,G4,h];rfl
def o7(e:evE G F a δ=some (.ok x cx))(c:evE G F b δ=some (.ok y cy))(h:ixD x y=some d):evE G F (.ix a b) δ=some (.ok d cx.item):=by
 show Re.thn _ _=_;rw[e,G4,c,G4,h];rfl
def zY(d:Ka a cx (.bl true))(c:evE G F b δ=o):evE G F (.and [a,b]) δ=o:=by
 show Re.thn _ _=_;rw[d];exact c
def fN(d:Ka a cx (.bl false))(c:evE G F b δ=o):evE G F (.or [a,b]) δ=o:=by
 show Re.thn _ _=_;rw[d];exact c
def Aa(c:Ka a cx (.bl true)):evE G F (.or [a,b]) δ=some (.ok (.bl true) cx):=by
 show Re.thn _ _=_;rw[c];rfl
def i8:evEs G F [] δ=some (.ok []):=rfl
def f7(b:evE G F a δ=some (.ok x cx))(h:evEs G F es δ=some (.ok l)):evEs G F (a::es) δ=some (.ok ((x,cx)::l)):=by
 unfold evEs;rw[b,h]
end L2
namespace L2
open PySem
def jL(c:δ[i]? = some (.own (.lst ds)))(h:evE G F e δ=some (.ok d cl))(a:stro d cl=true)(b:ds.length<m9):evS G F fu (.app i e) δ=some (.nx (δ.set i (.own (.lst (ds++[d]))))):=by
 show appS δ i _ δ[i]? = _;rw[c];show Re.thnS δ _ _=_;rw[h];exact f8 ⟨a,b⟩
def pz(f:δ[i]? = some (.own (.lst ds)))(h:evE G F e δ=some (.ok d cl))(b:Ka k cx (.int n))(a:stro d cl=true)(c:C9 ds.length n=some j):evS G F fu (.seti i k e) δ=some (.nx (δ.set i (.own (.lst (ds.set j d))))):=by
 show pd δ i _ _ δ[i]? = _;rw[f];show Re.thnS δ _ _=_;rw[h,pf,b,pf];show(match C9 ds.length n with | some j=>if stro d cl then some (Out.nx _)else none | none=>none)=_;rw[c];exact f8 a
def jM(h:test δ=some (.ok false)):G3 test body (n+1) δ=some (.nx δ):=by
 unfold G3;rw[h]
def fO(h:test δ=some (.ok true))(a:body δ=some (.nx δ'))(hr:G3 test body n δ'=o):G3 test body (n+1) δ=o:=by
 unfold G3
 rwa [h,a]
def pA(h:G3 (λ δ'=>tstD (evE G F c δ')) (λ δ'=>evSs G F fu body δ') fu δ=some (.nx δ'))(b:evSs G F fu r δ'=o):evSs G F fu (.wh c body::r) δ=o:=i4 h b
end L2
namespace L2
open PySem
theorem M8{I:Nat->on Sv->Prop}:∀(n:Nat) (c:Int) {δ:on Sv},(∀j<n,∀δ,I j δ->∃b,body (δ.set i (JZ (c+j)))=some (.nx b)/\I (j+1) b)->I 0 δ->∃d,q0 (.one i) body (upTo c n) δ=some (.nx d)/\I n d
 | 0,_,δ,_,g=>⟨δ,rfl,g⟩
 | n+1,c,δ,h,g=>by
  have e:upTo c (n+1)=.int c::upTo (c+1) n:=by
   unfold upTo;rw[nL,o5,r3]
   congr 1
   ·congr 1;omega
   ·apply K4;intro a _;show DV.int _=DV.int _
    congr 1
    push_cast
    omega
  obtain⟨b,k,r⟩:=h 0 JX δ g;rw[show c+_=c by omega]at k;obtain⟨d,u,p⟩:=M8 n (c+1) (λ j hj δ q=>by
   obtain⟨f,m,l⟩:=h (j+1) JX δ q;refine⟨f,?_,l⟩;rw[show c+1+_=c+((j+1:Nat):Int) by push_cast;omega];exact m) r
  refine⟨d,?_,p⟩;rw[e];show(match body (δ.set i _)with | some (.nx b)=>q0 _ body _ b | o=>o)=_;rw[k];exact u
def Ab(b:q9 (evE G F it δ)=some (.ok ds cl))(hc:cl ≠ .weak)(hl:ds.length<=m9)
  (h:∀d∈ds,∃a,tg.bind d (x4 fr δ)=some a/\tstD (evE G F cd a)=some (.ok (p d))/\evE G F elt a=some (.ok d .strong)):evE G F (.compi elt tg it cd fr) δ=some (.ok (.lst (ds.filter p)) .fresh):=by
 show Ri.thn _ _=_;rw[b,aY,g8 (by grind),pj (λ d c=>?_)]
 ·rfl
 ·obtain⟨a,g,f,e⟩:=h d c;rw[g,K6,f,e];cases p d<;>rfl
def pB(hw:q9 (evE G F it δ)=some (.ok ds cl))(b:cl ≠ .weak)(hl:ds.length<=m9)
  (h:∀d∈ds,∃a,tg.bind d (x4 fr δ)=some a/\evE G F elt a=some (.ok (f d) .strong)):evE G F (.comp elt tg it fr) δ=some (.ok (.lst (ds.map f)) .fresh):=by
 show Ri.thn _ _=_;rw[hw,aY,g8 (by rintro(z | z);exact b z;omega),pk (λ d hd=>?_)]
 ·rfl
 ·obtain⟨a,e,c⟩:=h d hd;rw[e,K6,c];rfl
def pC{l:on Int}(h:j<l.length):ixD (.lst (l.map DV.int)) (.int j)=some (.int l[j]):=by
 have a:(j:Int)<((l.map DV.int).length:Int):=by rw[g7];exact_mod_cast h
 simp only[ixD,atD,C9,f8 (C2 j),f8 a,K6,B2,p5,n6 h,K7]
def fP{l:on Int}{i:Int}(a:0<=i)(h:i<l.length):∃v,ixD (.lst (l.map DV.int)) (.int i)=some (.int v):=by
 obtain⟨j,rfl⟩:=Int.eq_ofNat_of_zero_le a;exact⟨_,pC JX⟩
end L2
namespace L2
open PySem
def Ac{J:on Sv->Prop}(hw:q9 (evE G F it δ)=some (.ok ds cl))(b:cl=.strong\/cl=.fresh)(lp:∃a,q0 tg (λ a=>evSs G F fu body a) ds δ=some (.nx a)/\J a)(c:∀a,J a->evSs G F fu r a=o):evSs G F fu (.fo tg it body::r) δ=o:=by
 obtain⟨a,h,j⟩:=lp;exact B6 hw b h (c a j)
end L2
namespace L2
open PySem
def i3:evE G F (.int i) δ=some (.ok (.int i) .strong):=rfl
def f6(h:δ[n]? = some (.val d)):evE G F (.var n) δ=some (.ok d .strong):=congrArg varE h
def cQ(h:δ[n]? = some (.own d)):evE G F (.var n) δ=some (.ok d .top):=congrArg varE h
def D0(d:Ka a cx (.int i))(c:Ka b cy (.int j)):evE G F (.bin .Add a b) δ=some (.ok (.int (i+j)) .strong):=E4 d c rfl
def L5(d:Ka a cx (.int i))(c:Ka b cy (.int j)):evE G F (.bin .Sub a b) δ=some (.ok (.int (i - j)) .strong):=E4 d c rfl
def F1(d:Ka a cx (.int i))(c:Ka b cy (.int j))(h:E8 i j=true):evE G F (.bin .Mult a b) δ=some (.ok (.int (i*j)) .strong):=E4 d c (f8 h)
def D1(d:Ka a cx (.int i))(c:Ka b cy (.int j))(h:0<j):evE G F (.bin .Mod a b) δ=some (.ok (.int (i%j)) .strong):=E4 d c (f8 h)
def aZ(d:Ka a cx (.int i))(c:Ka b cy (.int j))(h:0<j/\j<1073741824):evE G F (.bin .FloorDiv a b) δ=some (.ok (.int (i/j)) .strong):=E4 d c (f8 ⟨h.1,Int.lt_trans h.2 JY⟩)
def b_eq(d:Ka a cx (.int i))(c:Ka b cy (.int j)):evE G F (.cmp .Eq a b) δ=some (.ok (.bl (i==j)) .strong):=G5 d c rfl
def b_lt(d:Ka a cx (.int i))(c:Ka b cy (.int j)):evE G F (.cmp .Lt a b) δ=some (.ok (.bl (decide (i<j))) .strong):=G5 d c rfl
end L2
namespace L2
open PySem
def Q0:evE G F (.str x) δ=some (.ok (.str x) .strong):=rfl
def F7(h:evEs G F es δ=some (.ok l))(b:l.length<=m9)(a:stros l=true):evE G F (.tup es) δ=some (.ok (.tup (l.map (·.1))) .strong):=by
 show Rs.thn _ _=_;rw[h,cO,f8 b,a];rfl
end L2
namespace L2
open PySem
theorem pD:∀{ds es:on DV} {f e:on Sv},q0 tg body ds f=some (.nx e)->q0 tg body (ds++es) f=q0 tg body es e
 | [],es,f,e,h=>by cases h;rfl
 | d::r,es,f,e,h=>by
  show(match tg.bind d f with | none=>none | some b=>(match body b with | some (.nx a)=>q0 tg body _ a | o=>o))=_;have g:(match tg.bind d f with | none=>none | some b=>(match body b with | some (.nx a)=>q0 tg body r a | o=>o))=some _:=h;cases j:tg.bind d f with
  | none=>rw[j]at g;cases g
  | some b=>
   rw[j]at g;have c:(match body b with | some (.nx a)=>q0 tg body r a | o=>o)=some _:=g;show(match body b with | some (.nx a)=>q0 tg body _ a | o=>o)=_;cases i:body b with
   | none=>rw[i]at c;cases c
   | some o=>
    rw[i]at c;cases o with
    | nx a=>exact pD c
    | rt d fr=>cases c
end L2
namespace L2
open PySem
def jN(c:tg.bind d δ=some δ1)(b:body δ1=some (.nx a)):q0 tg body [d] δ=some (.nx a):=by
 unfold q0;rw[c];simp only[b];rfl
def Rise(xs:JL Nat):Prop:=∀(i k x y:Nat),i<k->xs[i]? = some x->xs[k]? = some y->x<y
def pE(v:Rise xs):∀(c b a:Nat),b<=a->a<=xs.size->a - b<=c ->
  (∀i x,i<b->xs[i]? = some x->x<j)->(∀i x,a<=i->xs[i]? = some x->j<=x) ->
  (∀i x,i<SetTable.below.go xs j c b a->xs[i]? = some x->x<j)/\(∀i x,SetTable.below.go xs j c b a<=i->xs[i]? = some x->j<=x):=by
 intro c
 induction c with
 | zero=>
  intro b a z w y l k;have:b=a:=by omega
  subst this;exact⟨l,k⟩
 | succ n u=>
  intro b a z w y l k;unfold SetTable.below.go;by_cases g:b<a
  ·rw[f8 g];have hm:(b+a)/2<a:=by omega
   have o:b<=(b+a)/2:=by omega
   have m:(b+a)/2<xs.size:=by omega
   have h:=O0 m;have r:xs.getD ((b+a)/2) j=xs[(b+a)/2]:=(by rw[aA,h];rfl);dsimp only;rw[r];by_cases f:xs[(b+a)/2]<j
   ·rw[f8 f];refine u _ _ JX w JX (λ i x p d=>?_) k;rcases U1 i ((b+a)/2)with q | q
    ·exact P2 (v i _ x _ q d h) f
    ·have e:i=(b+a)/2:=by omega
     subst e;rw[h]at d;cases d;exact f
   ·rw[g8 f];refine u _ _ o JX JX l λ i x p d=>?_
    rcases U1 ((b+a)/2) i with q | q
    ·exact i9 (iI f) (K9 (v _ i _ x q h d))
    ·have e:i=(b+a)/2:=by omega
     subst e;rw[h]at d;cases d;exact iI f
  ·rw[g8 g];have:b=a:=by omega
   subst this;exact⟨l,k⟩
def jO(b:Rise xs)(h:i<SetTable.below xs j)(a:xs[i]? = some x):x<j:=
 (pE b xs.size 0 xs.size (F3 _) (i6 _) JX (λ i x h=>by omega) λ i x h a=>by
  rw[O3 h]at a;cases a).1 i x h a
def fQ(b:Rise xs)(h:SetTable.below xs j<=i)(a:xs[i]? = some x):j<=x:=
 (pE b xs.size 0 xs.size (F3 _) (i6 _) JX (λ i x h=>by omega) λ i x h a=>by
  rw[O3 h]at a;cases a).2 i x h a
def Ad:∀(a c b:Nat),c<=b->SetTable.below.go xs j a c b<=b:=by
 intro a
 induction a with
 | zero=>intro c b h;exact h
 | succ n d=>
  intro c b h;unfold SetTable.below.go;dsimp;split
  ·split
   ·exact d _ _ JX
   ·exact i9 (d _ _ JX) JX
  ·exact h
def pF:SetTable.below xs j<=xs.size:=Ad _ _ _ (F3 _)
def Ae(d:Rise xs)(c:xs[i]? = some x):SetTable.below xs (x+1)=i+1:=by
 have hi:i<xs.size:=by
  rcases U1 i xs.size with h | h
  ·exact h
  ·rw[O3 h]at c;cases c
 rcases Nat.lt_trichotomy _ _ with h | h | h
 ·have:=fQ d (j:=x+1) (Nat.le_of_lt_succ h) c;omega
 ·exact h
 ·have h2:SetTable.below xs (x+1)<=xs.size:=pF;have f:i+1<xs.size:=by omega
  have e:=O0 f;have a:=jO d h e;have b:=d i _ x _ (T6 _) c e;omega
def Af(b:Rise xs):SetTable.below xs 0=0:=by
 rcases eJ _ with h | h
 ·exact h
 ·have h2:SetTable.below xs 0<=xs.size:=pF;have a:=jO b h (O0 JX);omega
def Rise.empty:Rise #[]:=λ i k x y _ a=>by simp at a
theorem Rise.range(n:Nat):Rise (Array.range n):=λ i k x y h b a=>by
 rw[Array.getElem?_range]at b a;split at b
 ·split at a
  ·cases b;cases a;exact h
  ·cases a
 ·cases b
def pG{l:on Nat}(h:l.Pairwise (· < ·)):Rise l.toArray:=λ i k x y a c b=>by
 obtain⟨e,g⟩:=v9.mp (by simpa using c);obtain⟨d,f⟩:=v9.mp (by simpa using b);rw[←g,←f];exact nj.mp h i k e d a
def Ag(h:Rise xs):xs.toList.Pairwise (· < ·):=by
 refine nj.mpr λ i k c b a=>?_;exact h i k _ _ a (by rw[←K0];exact n6 c) (by rw[←K0];exact n6 b)
structure Tab(t:SetTable)(b:Bool):Prop where
 rise:Rise t.place
 dum:t.dummies = #[]
 led:t.led=b
theorem Tab.fresh(b:Bool):Tab (SetTable.fresh 0 0 b) b:=⟨Rise.empty,rfl,rfl⟩
theorem Tab.standIn(h:Tab t b)(n:Nat):Tab (t.standIn n) b:=⟨Rise.range n,rfl,h.led⟩
def pH(j:Nat):SetTable.has #[] j=false:=by
 unfold SetTable.has;simp
def Ah(h:Tab t b)(f:Nat->Int)(z:Int):∀(a:Nat) (p:SetTable.Probe) (j:Nat) (d:JF Nat),p.dummy=none->SetTable.probe.go t f z a p=some (.empty j d)->d=none/\t.slot j=.empty:=by
 intro a
 induction a with
 | zero=>intro p j d c e;cases e
 | succ n g=>
  intro p j d c e;unfold SetTable.probe.go at e;cases hs:t.slot p.j with
  | empty=>rw[hs]at e;cases e;exact⟨c,hs⟩
  | dummy=>
   unfold SetTable.slot at hs;rw[h.dum,pH]at hs;dsimp at hs;split at hs
   ·cases hs
   ·cases hs
  | live i=>
   rw[hs]at e;dsimp at e;split at e
   ·cases e
   ·refine g _ j d ?_ e;unfold SetTable.advance;split
    ·exact c
    ·exact c
def Ai(h:Tab t b)(e:t.freeSlot z=some (j,w)):t.slot j=.empty:=by
 unfold SetTable.freeSlot at e;split at e
 ·rename_i j' d a;obtain⟨c,hs⟩:=Ah h _ _ _ _ _ _ rfl a;subst c;cases e;exact hs
 ·cases e
theorem Tab.put(h:Tab t b)(hs:t.slot j=.empty):Tab (t.put j).1 b:=by
 have m:t.place[SetTable.below t.place j]? ≠ some j:=λ z=>by unfold SetTable.slot at hs;dsimp only at hs;rw[z]at hs;simp at hs
 refine⟨?_,?_,h.led⟩
 ·show Rise _;have g:=Ag h.rise;have:(SetTable.insertAt t.place (SetTable.below t.place j) j).toList.Pairwise (· < ·):=by
   rw[(SetTable.toList_insertAt _ _ _),List.pairwise_append];refine⟨g.sublist (iA _ _),K5.mpr ⟨λ y f=>?_,g.sublist (List.drop_sublist _ _)⟩,λ x l y f=>?_⟩
   ·obtain⟨i,d⟩:=eF.mp f;rw[aH,K0]at d;rcases Nat.lt_or_eq_of_le (fQ h.rise (eN _ _) d)with q | q
    ·exact q
    ·exfalso;subst q;rcases eJ i with z | z
     ·subst z;exact m d
     ·have n:SetTable.below t.place j<t.place.size:=by
       rcases U1 (SetTable.below t.place j+i) t.place.size with q | q
       ·omega
       ·rw[O3 q]at d;cases d
      have k:=O0 n;have a:=fQ h.rise (i6 _) k;have c:=h.rise _ _ _ _ JX k d;omega
   ·have e:x<j:=by
     obtain⟨i,d⟩:=eF.mp l;rw[List.getElem?_take]at d;split at d
     ·rw[K0]at d;exact jO h.rise JX d
     ·cases d
    rcases i5.mp f with q | q
    ·rw[q];exact e
    ·obtain⟨i,d⟩:=eF.mp q;rw[aH,K0]at d;exact t6 e (fQ h.rise (eN _ _) d)
  have r:=pG this
  rwa [Array.toArray_toList]at r
 ·show(if SetTable.has t.dummies j then _ else t.dummies) = #[];rw[h.dum,pH];rfl
theorem Tab.orStandIn(h:Tab t b)(n:Nat):Tab (t.orStandIn n) b:=by
 unfold SetTable.orStandIn;split
 ·exact h
 ·exact h.standIn n
theorem Tab.layNew{t:JT}{b:Bool}(h:Tab t b)(es:JL (Int×JG))(z:Int)(x:JG):Tab (layNew t es z x).2.1 b:=by
 unfold PySem.layNew;split
 ·rename_i j w e;exact(h.put (Ai h e)).orStandIn _
 ·exact h.standIn _
theorem pI{f:Nat->JF Nat}:∀{l:on Nat},l.Pairwise (· < ·)->((l.filterMap λ j=>(f j).map (j,·)).map (·.1)).Pairwise (· < ·)
 | [],_=>.nil
 | a::l,h=>by
  obtain⟨o,n⟩:=K5.mp h;have d:=pI (f:=f) n;rw[eI];cases e:f a with
  | none=>exact d
  | some c=>
   refine K5.mpr ⟨λ y i=>?_,d⟩;obtain⟨p,k,rfl⟩:=k9.mp i;obtain⟨j,m,b⟩:=bX.mp k;cases g:f j with
   | none=>rw[g]at b;cases b
   | some c2=>rw[g]at b;cases b;exact o j m
theorem Tab.relayAll{t:JT}{b:Bool}(h:Tab t b)(es:JL (Int×JG))(n:Nat):Tab (relayAll t es n).2.1 b:=by
 unfold PySem.relayAll;split
 ·rename_i t' order e;dsimp only;split
  ·show Tab t' b;unfold SetTable.relaid SetTable.laid at e;cases hl:SetTable.layClean (SetTable.sizeAbove n - 1) (es.map (·.1))with
   | none=>rw[hl]at e;cases e
   | some owner=>
    rw[hl]at e;cases e;exact⟨pG (pI (nM)),rfl,h.led⟩
  ·exact h.standIn _
 ·exact h.standIn _
theorem jP{b:Type}{x:b}:∀{l:on b} {i:Nat} (h:i<l.length),l[i]=x->(x::l.eraseIdx i).Perm l
 | [],i,h,_=>by cases h
 | a::l,0,_,e=>by have e:=e;subst e;exact .rfl
 | a::l,i+1,h,e=>by rw[List.eraseIdx_cons_succ];exact(List.Perm.swap a x _).trans (List.Perm.cons a (jP (by simpa using h) (by simpa using e)))
def Aj(d:Nat->Nat):∀(c k:Nat) (b:on i) (f:JL i),b.length<=c->(pickOrder.go d c k b f).toList.Perm (f.toList++b):=by
 intro c
 induction c with
 | zero=>
  intro k b f h;have:b=[]:=X4.mp JX;subst this;unfold pickOrder.go;rw[C8]
 | succ n j=>
  intro k b f h;unfold pickOrder.go;cases e:b[d k%b.length]? with
  | none=>
   have:b=[]:=by
    cases b with
    | nil=>rfl
    | cons a r=>
     have g:d k%(a::r).length<(a::r).length:=cE _ (by simp);rw[n6 g]at e;cases e
   subst this;rw[C8]
  | some x=>
   obtain⟨g,l⟩:=v9.mp e;refine(j _ _ _ ((by rw[List.length_eraseIdx,f8 g];omega))).trans ?_;rw[Array.toList_push,O7];refine List.Perm.append_left _ ?_;exact jP g l
def pJ(a:Nat->Nat)(xs:JL b):(pickOrder a xs).toList.Perm xs.toList:=by
 unfold pickOrder;exact(Aj a xs.size 0 xs.toList #[] (by simp)).trans (by simp)
def M9:JG->Int
 | .int n _=>n
 | _=>0
def D3(w:JM):Bool:=w.params.followText "set-order"
def SetI(prog:JN)(w:JM)(h:JJ)(a:JI)(ks:on Int):Prop:=
 ∃o es ep t,h.get? a=some o/\o.ExactSet/\o.data=.set es ep t/\ElemsOf (intKind prog w) es.toList/\(es.toList.map λ e=>M9 e.2).Perm ks/\es.size<scanBound/\t.fits es.size=true/\Tab t (!D3 w)
def pK(h:ElemsOf (intKind prog w) es)(b:e∈es):∃t,e.2=.int (M9 e.2) t:=by
 obtain⟨⟨k,a,_⟩,_⟩:=h e b;obtain⟨t,q⟩:=Value.isInt_shape a;exact⟨t,by rw[q];rfl⟩
def pL(h:ElemsOf (intKind prog w) es)(a:e∈es)(k:Int):(intKind prog w).is k e.2=true↔M9 e.2=k:=by
 obtain⟨t,q⟩:=pK h a;rw[q];show Value.isInt k (.int _ t)=true↔_;simp[Value.isInt,M9]
def SetI.at{prog:JN}{w:JM}{a:JI}{ks:on Int}{h h':JJ}(x:SetI prog w h a ks)(k:∀o,h.get? a=some o->h'.get? a=some o):SetI prog w h' a ks:=by
 obtain⟨o,es,ep,t,ho,r⟩:=x;exact⟨o,es,ep,t,k o ho,r⟩
def pM{h:JJ}(c:h.get? a=some o)(b:o.data=.set es ep t) :
  (h.update a (Obj.putSet es' t')).get? a=some {o with data:=.set es' (ep+1) t'}:=by
 have q:=Q8 (Obj.putSet es' t') c (by rw[putSet_of es' t' b];rfl)
 rwa [putSet_of es' t' b]at q
def Ak{prog:JN}{w:JM}{A:JO}{E:JG->JH->Prop}{s:JH}{a:JI}{ks:on Int}{k:Int}{tk:Tok}{Q:JF Bool->JH->Prop}{o:Obj}{es:JL (Int×JG)}{ep:Nat}{t:JT}(ho:s.heap.get? a=some o)(hx:o.ExactSet)(hd:o.data=.set es ep t)
  (hel:ElemsOf (intKind prog w) es.toList) (hp:(es.toList.map λ e=>M9 e.2).Perm ks) (hb:es.size+1<scanBound) (ht:Tab t (!D3 w))
  {es1:JL (Int×JG)} {t1:JT} (p1:es1.toList.Perm (es.toList++[(hashInt k,Value.int k tk)])) (f1:t1.fits es1.size=true) (g1:Tab t1 (!D3 w)) (wd:Bool) {g:Bool->Sem Unit}
  (hg:∀(b:Bool) (s₁:JH) (Q':Unit->JH->Prop),Q' () s₁->wpAny Kc A (g b) Q' E s₁)
  (h:∀h',Heap.SameBut a s.heap h'->SetI prog w h' a (ks++[k])->Q (some true) {s with heap:=h'}) :
  wpAny Kc A (do
   storeSet a es1 t1
   if(!wd&&t1.tooFull)=true then do
    g (relayAll t1 es1 (SetTable.grown es1.size)).2.2
    storeSet a (relayAll t1 es1 (SetTable.grown es1.size)).1 (relayAll t1 es1 (SetTable.grown es1.size)).2.1
    pure (some true)
   else pure (some true)) Q E s:=by
 have z1:es1.size=es.size+1:=(by have:=p1.length_eq;rw[t7,A4,A4]at this;exact this);have e1:ElemsOf (intKind prog w) es1.toList:=(hel.push (intKind_is prog w k tk) rfl).perm p1;have m1:(es1.toList.map λ e=>M9 e.2).Perm (ks++[k]):=(by refine(p1.map _).trans ?_;rw[A9];exact hp.append_right _);have b1:es1.size<scanBound:=by omega
 refine f0 (wpAny_storeSet_of ho hd ?_ (iC b1));have o1:=pM (es':=es1) (t':=t1) ho hd;have sb:=K3 s.heap a (Obj.putSet es1 t1);split
 ·have p2:=relayAll_perm t1 es1 (SetTable.grown es1.size);have f2:=relayAll_fits t1 es1 (SetTable.grown es1.size);have g2:=g1.relayAll es1 (SetTable.grown es1.size);generalize relayAll t1 es1 (SetTable.grown es1.size)=R at p2 f2 g2 ⊢;have z2:R.1.size=es1.size:=by
   have:=p2.length_eq
   rwa [A4,A4]at this
  have b2:R.1.size<scanBound:=by omega
  refine f0 (hg _ _ _ ?_);refine f0 (wpAny_storeSet_of o1 rfl ?_ (iC b2));refine f9 (h _ (sb.trans (K3 _ a _)) ?_);exact⟨_,R.1,_,R.2.1,pM o1 rfl,hx,rfl,e1.perm p2,(p2.map _).trans m1,b2,f2,g2⟩
 ·refine f9 (h _ sb ?_);exact⟨_,es1,_,t1,o1,hx,rfl,e1,m1,b1,f1,g1⟩
def Al(Z:SetI prog w s.heap a ks)(hr:ks.length+1<scanBound)
  (h:∀n b,Heap.SameBut a s.heap n->SetI prog w n a (dk ks k)->Q b {s with heap:=n}) :
  wpAny Kc A (setAddHashed a (.int k tk) (hashInt k)) Q E s:=by
 obtain⟨o,es,ep,t,B,W,F,f,u,Y,P,K⟩:=id Z;have hz:es.size=ks.length:=by
  have:=u.length_eq
  rwa [g7,A4]at this
 have M:∀(b:Bool) (d:JH) (H:Unit->JH->Prop),H () d->wpAny Kc A (match b with | true=>rule "set.scan.the-table-gave-way" | false=>pure ()) H E d:=λ b d H q=>by
  cases b with
  | true=>exact U3 q
  | false=>exact f9 q
 unfold setAddHashed setAddHashedIn;refine C5 (f0 (aI B F P ?_));dsimp only;rw[byScan_of rfl Y f,f8 rfl];unfold setAddByScan;refine f0 (f0 (U3 (f0 ?_)));refine wpAny_setScan_of (intKind_is prog w k tk) B F P f ?_;cases O:es.toList.findIdx? _ with
 | some j=>
  obtain⟨N,X,_⟩:=List.findIdx?_eq_some_iff_getElem.mp O;have C:=u.mem_iff.mp (k9.mpr ⟨es.toList[j],T7 N,(pL f (T7 N) k).mp X⟩);have m:dk ks k=ks:=by unfold dk;rw[f8 C]
  refine f9 (f9 ?_);have:=h s.heap false (Heap.SameBut.refl a s.heap) (by grind);exact this
 | none=>
  have C:k∉ks:=λ z=>by obtain⟨e,R,q⟩:=k9.mp (u.mem_iff.mpr z);have:=List.findIdx?_eq_none_iff.mp O e R;rw[(pL f R k).mpr q]at this;cases this
  have m:dk ks k=ks++[k]:=(by unfold dk;rw[g8 C]);rw[m]at h;dsimp only;have p1:=layNew_perm t es (hashInt k) (.int k tk);have y:=layNew_fits t es (hashInt k) (.int k tk);have v:=K.layNew es (hashInt k) (.int k tk);show wpAny _ _ _ _ _ _
  change wpAny _ A (match layNew t es (hashInt k) (.int k tk)with | _=>_) _ _ _
  generalize layNew t es _ _=L at p1 y v ⊢;obtain⟨c,J,I,gv⟩:=L;rw[Array.toList_push]at p1;dsimp only at p1 y v ⊢;refine f0 (M gv _ _ ?_);have p:∀g:JT,g.fits c.size=true->Tab g (!D3 w)->wpAny Kc A (do
   storeSet a c g
   if(!I&&g.tooFull)=true then do
    (λ b:Bool=>match b with | true=>rule "set.scan.the-table-gave-way" | false=>pure ()) (relayAll g c (SetTable.grown c.size)).2.2
    storeSet a (relayAll g c (SetTable.grown c.size)).1 (relayAll g c (SetTable.grown c.size)).2.1
    pure (some true)
   else pure (some true)) (λ r U=>wpAny Kc A (match r with | some l=>pure l | none=>setAddHashedIn a (.int k tk) (hashInt k) 99999) Q E U) E s:=λ g f2 g2=>
   Ak B W F f u JX K p1 f2 g2 I M λ n S S'=>f9 (h n true S S')
  split
  ·refine f0 ?_;rw[hashByValue_scannable 8 rfl];refine f9 ?_;exact p J y v
  ·refine f0 (f9 ?_);exact p J y v
open PySem.Spec PyProof.Rows
def fm(val:Nat->Int)(i:Nat):on Int:=((List.range i).map val).foldl dk []
def pN(a:Nat->Int)(i:Nat):fm a (i+1)=dk (fm a i) (a i):=by
 unfold fm;rw[aM,A9,List.foldl_append];rfl
def fR(σ:on Int)(k:Int):(dk σ k).length<=σ.length+1:=by
 unfold dk;split
 ·exact aQ _
 ·rw[t7];exact i6 _
theorem pO(a:Nat->Int):∀i,(fm a i).length<=i
 | 0=>i6 _
 | i+1=>by rw[pN];exact i9 (fR _ _) (Nat.succ_le_succ (pO a i))
def SetI.moved(x:SetI prog w s.heap S ks)(b:Moved wr G s a)(c:S∉wr):SetI prog w a.heap S ks:=x.at λ o e=>b.heap S o c e
def Am{prog:JN}{w:JM}{A:JO}{R:Result->JH->Prop}{I:JI}{fp wr:on JI}{G:JL GenState->JL GenState->Prop}{n:Nat}{P:Nat->JG->Prop}{St:Nat->JH->Prop}(W:WalksS prog w A.in1 I fp wr G n P St)(S:JI)(hSf:S∉fp)(val:Nat->Int)(hval:∀i v,P i v->∃t,v=.int (val i) t)(hb:n+1<scanBound) :
  ∀(k i:Nat) (s:JH),i+k=n->St i s->SetI prog w s.heap S (fm val i) ->
   (∀s',Moved (S::wr) G s s'->SetI prog w s'.heap S (fm val n)->R (.ok (.ret .none)) s')->codeAny Kc A (.builtin "set.update.loop" ⟨[.ref S,.ref I],[]⟩) R s:=by
 have hw:S∉wr:=λ z=>hSf (W.sub S z);have up:∀b∈wr,b∈S::wr:=λ b z=>k5 S z;intro k
 induction k with
 | zero=>
  intro i s e st hs hR;have e:i=n:=e;subst e;refine M2 nz ?_;rw[N4 ie];show wpAny Kc A.in1 (pyNext (.ref I) >>= _) _ _ s;refine f0 (W.done s _ _ st λ s' hm=>?_);show wpAny Kc A.in1 (ret Value.none) _ _ s';exact f9 (hR s' (hm.mono up) (hs.moved hm hw))
 | succ k ih=>
  intro i s e st hs hR;have hi:i<n:=by omega
  refine M2 nz ?_;rw[N4 ie];show wpAny Kc A.in1 (pyNext (.ref I) >>= _) _ _ s;refine f0 (W.item i s _ _ hi st λ v s' hP st' hm=>?_);obtain⟨t,hv⟩:=hval i v hP;subst hv;have hs':=hs.moved hm hw;show wpAny Kc A.in1 (holding [Value.int (val i) t] (setAdd S (.int (val i) t)) >>= _) _ _ s';refine f0 (C5 ?_);unfold setAdd;refine C5 (f0 ((intKind prog w).pyHash (k:=val i) (intKind_is prog w (val i) t) ?_));have hl:=pO val i;refine Al (s:={s' with toks:=s'.toks+1}) (k:=val i) (tk:=t) hs' JX λ h' b sb S'=>?_;have hkeep:∀b o,b≠S->s'.heap.get? b=some o->h'.get? b=some o:=λ b o hb e=>by rw[sb.2 b hb];exact e
  refine f9 ⟨K8 ie _,ih (i+1) _ JX (W.frame (i+1) s' h' _ st' (aQ _) λ b hb o e=>hkeep b o (λ z=>hSf (z▸hb)) e) (by rw[pN];exact S') λ s2 hm2 S2=>?_⟩;refine hR s2 (Moved.trans W.gtrans ((hm.mono up).then_heap (aQ _) λ b o hb e=>hkeep b o (λ z=>hb (z▸k8)) e) hm2) S2
noncomputable def set0(w:JM):Obj:={cls:=.type "set",dict:=none,data:=.set #[] 0 (.fresh 0 0 (!D3 w))}
def An(e:h.get? a=some (set0 w)):SetI prog w h a []:=
 ⟨_,#[],0,_,e,⟨rfl,rfl,rfl⟩,rfl,λ _ z=>by simp at z,by simp,by decide,by rfl,Tab.fresh _⟩
def Ao(v:JG)(h:Q (.ref s.heap.objs.size) {s with heap:=s.heap.push (set0 w)}) :
  codeAny Kc A (.call (.builtin "set.__new__") ⟨[.type "set",v],[]⟩) (wants Q E) s:=by
 refine codeAny_of_tree ?_;show wpAny _ A.in1 _ _ _ s;refine f0 (Y6 (F.newCall_set_1 v) ?_);refine f9 ⟨K8 F.plain_set_new _,M2 F.entry_set_new ?_⟩;rw[N4 F.plain_set_new];unfold Builtin.«set.__new__» Builtin.Frozenset.newClass;have q:=sub_set_self;obtain⟨h0,g0,d0,t0,o0⟩:=s
 wp_walk
 refine aJ (f9 ?_);simp[newObj];exact f0 (wpAny_alloc (f9 (f9 h)))
def Ap{prog:JN}{w:JM}{A:JO}{E:JG->JH->Prop}{s:JH}{l:JI}{items:JL JG}{ns:on Int}{Q:JG->JH->Prop}(hh:A.handled=none)(hl:s.heap.IsList l items)(hi:IntsAre items.toList ns)(hb:items.size+1<scanBound)
  (h:∀h' tk,SetI prog w h' s.heap.objs.size (fm (λ i=>ns.getD i 0) items.size)->(∀b o,s.heap.get? b=some o->h'.get? b=some o)->Q (.ref s.heap.objs.size) {s with heap:=h',toks:=tk}) :
  wpAny Kc A (call (.type "set") [.ref l]) Q E s:=by
 have m0:=F.called_set.mro;obtain⟨c0,r0,m1⟩:=m0;have m2:=F.called_set.made;have m3:=F.called_set.sub;have m4:=F.called_set.notType;have m5:=F.called_set.canCreate;have m6:=F.typeCall_set_1 (.ref l);refine fv (codeAny_of_tree ?_);show wpAny Kc _ (callAny (.type "set") _) _ _ _;refine f9 ⟨Code.quiet_builtin _ (by decide +kernel),M2 F.entry_type_call ?_⟩;rw[Around.under_plain (weight_type_call_type "set" [.ref l] []) rfl]
 repeat (any_goals (first | assumption | wp_step))
 refine R6 (Ao (.ref l) (E:=E) (Q:=λ v s1=>v=.ref s.heap.objs.size/\s1 = {s with heap:=s.heap.push (set0 w)}) ⟨rfl,rfl⟩) λ r s1 q=>?_;cases r with
 | error e=>exact q
 | ok f=>
  cases f with
  | ret v=>
   obtain⟨e1,e2⟩:=q;subst e1;subst e2;have g0:(s.heap.push (set0 w)).get? s.heap.objs.size=some (set0 w):=p8 _ rfl;have ty:Shared.TypeIs {s with heap:=s.heap.push (set0 w)} (.ref s.heap.objs.size) "set":=⟨_,g0,rfl⟩;have n1:=F.called_set.init.lookup;have n2:=F.called_set.init.bind (.ref s.heap.objs.size)
   repeat (any_goals (first | assumption | wp_step))
   refine R6 (codeAny_call_builtin (R:=wants (λ v s2=>v=.none/\∃h' tk,s2 = {s with heap:=h',toks:=tk} /\ SetI prog w h' s.heap.objs.size (fm (λ i=>ns.getD i 0) items.size) /\
     ∀b o,s.heap.get? b=some o->h'.get? b=some o) E) F.called_set.init.plain F.entry_set_init (check_set_init_1 ty ?_)) λ r2 s2 q2=>?_
   ·obtain⟨⟨k1,k2,k3,k4⟩,kl,kc,kn,kd⟩:=hl;dsimp only at kc kd;subst kc;subst kd;have kl':(s.heap.push (set0 w)).get? l=some {cls:=.type "list",dict:=k2,data:=.seq items kn,slots:=k4}:=k6 _ kl;have il:(s.heap.push (set0 w)).IsList l items:=⟨_,kl',rfl,kn,rfl⟩;have p1:=F.sub_list_set;have p2:=F.sub_list_frozenset;have p3:(Value.type "list" == Value.type "dict")=false:=by decide
    unfold Builtin.«set.__init__» noKeywords Builtin.Frozenset.updateFrom;generalize hP:pyIter=PI
    wp_walk
    subst hP;refine bZ il (f0 (wpAny_runValue ?_));have l0:l<s.heap.objs.size:=k7 kl;have z1:(s.heap.push (set0 w)).objs.size=s.heap.objs.size+1:=D5 _ _;have a1:l≠(s.heap.push (set0 w)).objs.size:=by rw[z1];exact q5 (T4 l0)
    have a2:s.heap.objs.size∉[(s.heap.push (set0 w)).objs.size,l]:=by
     rw[z1];intro z;rcases i5.mp z with z | z
     ·exact absurd z (q5 (T6 _))
     ·exact absurd (u7.mp z) (R5 l0)
    refine Am ((cF (by show A.handled=none;exact hh) _ l a1 items).toS) s.heap.objs.size a2 (λ i=>ns.getD i 0) (λ i v e=>IntsAre.int_at hi i v (by rw[K0];exact e)) hb
     items.size 0 _ (aO _) ⟨⟨_,p8 _ rfl,rfl,rfl⟩,il.push _⟩ (An (k6 _ g0)) λ s3 hm S3=>?_
    obtain⟨h3,g3,d3,t3,o3⟩:=s3;have b1:g3=s.gens:=hm.gens;have b2:d3=s.drawn:=hm.drawn;have b3:o3=s.os:=hm.os;subst b1;subst b2;subst b3;show wpAny Kc _ _ _ _ _;refine f9 ?_;show wpAny Kc _ (ret Value.none) _ _ _;refine f9 ⟨rfl,h3,t3,rfl,S3,λ b o e=>?_⟩;have b4:=k7 e;refine hm.heap b o (λ z=>?_) (k6 _ (k6 _ e));rcases i5.mp z with z | z
    ·exact absurd z (q5 b4)
    ·have:=u7.mp z;rw[z1]at this;exact absurd this (q5 (T4 b4))
   ·cases r2 with
    | error e=>exact q2
    | ok f2=>
     cases f2 with
     | ret v2=>
      obtain⟨c1,h',tk,c2,c3,c4⟩:=q2;subst c1;subst c2
      repeat (any_goals (first | assumption | wp_step))
      exact h h' tk c3 c4
     | _=>exact q2.elim
  | _=>exact q.elim
def E5(h:JJ)(I a:JI)(f:JG)(i n ep:Nat):Prop:=∃o,h.get? I=some o/\o.cls=.type "set_iterator" /\ o.data=.fields #[f,.int i 0,.ref a,.int n 0,.int ep 0]
def G6(h:JJ)(a:JI)(es:JL (Int×JG))(ep:Nat)(t:JT):Prop:=∃o,h.get? a=some o/\o.ExactSet/\o.data=.set es ep t
def E5.typeIs{s:JH}(x:E5 s.heap I a f i n ep):s.TypeIs (.ref I) "set_iterator":=let ⟨o,e,c,_⟩:=x;⟨o,e,c⟩
def E5.at{h h':JJ}{I a:JI}{f:JG}{i n ep:Nat}(x:E5 h I a f i n ep)(k:∀o,h.get? I=some o->h'.get? I=some o):E5 h' I a f i n ep:=let ⟨o,e,c⟩:=x;⟨o,k o e,c⟩
def G6.at{h h':JJ}{a:JI}{es:JL (Int×JG)}{ep:Nat}{t:JT}(x:G6 h a es ep t)(k:∀o,h.get? a=some o->h'.get? a=some o):G6 h' a es ep t:=let ⟨o,e,c⟩:=x;⟨o,k o e,c⟩
def G6.typeIs{s:JH}(x:G6 s.heap a es ep t):s.TypeIs (.ref a) "set":=let ⟨o,e,c,_⟩:=x;⟨o,e,c.1⟩
def N8:Slot "set_iterator" "__next__" "set_iterator.__next__":=
 .of (owner:="set_iterator") (n:="__next__") (by rw[typeLookup_type,nT];kernel_rfl) (by decide +kernel) (by decide +kernel) (by decide +kernel)
  (by first | exact .inl (by decide +kernel) | exact .inr (by decide +kernel)) (by rw[iU];kernel_rfl)
def fT:entryFor table "set_iterator.__next__" = some Builtin.«set_iterator.__next__»:=entryFor_of_tree (by kernel_rfl)
def fU(v:JG):argsOk "set_iterator.__next__" ⟨[v],[]⟩:=by unfold argsOk;kernel_rfl
def Aq:entryFor table "set.__iter__" = some Builtin.«frozenset.__iter__»:=entryFor_alias (id':="frozenset.__iter__") (by kernel_rfl) rfl (by decide +kernel) (by kernel_rfl)
def pP{ep:Nat}{h:JJ}{i:Nat}{n:Nat}(e:h.get? I=some o)(c:o.cls=.type "set_iterator")(d:o.data=.fields #[f,.int i 0,.ref a,.int n 0,.int ep 0]) :
  E5 (h.update I (Obj.mapFields (·.setIfInBounds 1 (rawInt ((i:Int)+1))))) I a f (i+1) n ep:=by
 refine⟨_,Q8 _ e (io (aG d _)),(iB ..).trans c,?_⟩;rw[aG d];simp[rawInt]
def pQ{ep:Nat}{h:JJ}(g:JG){i:Nat}{n:Nat}(e:h.get? I=some o)(c:o.cls=.type "set_iterator")(d:o.data=.fields #[f,.int i 0,.ref a,.int n 0,.int ep 0]) :
  E5 (h.update I (Obj.mapFields (·.setIfInBounds 0 g))) I a g i n ep:=by
 refine⟨_,Q8 _ e (io (aG d _)),(iB ..).trans c,?_⟩;rw[aG d];simp
def pR{prog:JN}{w:JM}{A:JO}{E:JG->JH->Prop}{s:JH}{I a:JI}{es:JL (Int×JG)}{ep:Nat}{t:JT}{Q:JF JG->JH->Prop}{slot i j:Nat}{x:JG}(hI:E5 s.heap I a (.int slot 0) i es.size ep)(hS:G6 s.heap a es ep t)(hf:t.fits es.size=true)
  (hn:∀(A:JO) (E':JG->JH->Prop) (Q':JF (JG×Nat)->JH->Prop),Q' (some (x,j)) s->wpAny Kc A (setNext a slot i ep) Q' E' s)
  (hQ:∀h',E5 h' I a (.int j 0) (i+1) es.size ep->Heap.SameBut I s.heap h'->Q (some x) {s with heap:=h'}):wpAny Kc A (pyNext (.ref I)) Q E s:=by
 obtain⟨o,ho,hc,hd⟩:=id hI;obtain⟨p,hp,hx,hq⟩:=id hS;unfold pyNext;refine f0 (Y4 (O1 (name:=Str.ofString "__next__") hI.typeIs N8 (F2 N8 hI.typeIs fT ?_ (fU _))));unfold Builtin.«set_iterator.__next__»;refine f0 (f9 ?_);dsimp only;refine f0 (cq ho hd ?_);dsimp only;refine f0 (bS hp hq hf ?_);rw[show(((es.size:Nat):Int) != ((es.size:Nat):Int))=false by simp,g8 z7];simp only[B2];refine f0 (hn _ _ _ ?_);dsimp only;refine f0 (U0 ho hd (by simp) ?_);have I1:=pQ (ep:=ep) (rawInt j) ho hc hd;obtain⟨o1,ho1,hc1,hd1⟩:=id I1;refine f0 (U0 ho1 hd1 (by simp) (f9 ⟨x,rfl,f9 (hQ _ (pP ho1 hc1 hd1) ?_)⟩));exact(K3 ..).trans (K3 ..)
def pS{prog:JN}{w:JM}{A:JO}{E:JG->JH->Prop}{s:JH}{I a:JI}{es:JL (Int×JG)}{ep:Nat}{t:JT}{Q:JF JG->JH->Prop}{slot i:Nat}(hh:A.handled=none)(hI:E5 s.heap I a (.int slot 0) i es.size ep)(hS:G6 s.heap a es ep t)(hf:t.fits es.size=true)
  (hn:∀(A:JO) (E':JG->JH->Prop) (Q':JF (JG×Nat)->JH->Prop),Q' none s->wpAny Kc A (setNext a slot i ep) Q' E' s)
  (hQ:∀h',Heap.ExtBut I s.heap h'->Q none {s with heap:=h'}):wpAny Kc A (pyNext (.ref I)) Q E s:=by
 obtain⟨o,ho,hc,hd⟩:=id hI;obtain⟨p,hp,hx,hq⟩:=id hS;unfold pyNext;refine f0 (Y4 (O1 (name:=Str.ofString "__next__") hI.typeIs N8 (F2 N8 hI.typeIs fT ?_ (fU _))));unfold Builtin.«set_iterator.__next__»;refine f0 (f9 ?_);dsimp only;refine f0 (cq ho hd ?_);dsimp only;refine f0 (bS hp hq hf ?_);rw[show(((es.size:Nat):Int) != ((es.size:Nat):Int))=false by simp,g8 z7];simp only[B2];refine f0 (hn _ _ _ ?_);dsimp only;refine f0 (U0 ho hd (by simp) ?_);refine f0 ?_;simp only[newExc,newTuple];refine f0 (C3 ?_ (by size_fits));refine f0 (m:=firstArgMember _ _) (Y6 (a:=Value.none) (by first | rfl | (simp only[firstArgMember];rfl)) ?_);refine C3 ?_ (by size_fits);simp only[raiseNew];refine f0 (iW ?_);rw[show A.in1.handled=none from hh];refine f0 (f9 (wpAny_throw ?_));refine f0 (aK (T:="StopIteration") (b:=true) ⟨_,p8 _ rfl,rfl⟩ eY ?_);exact f9 (hQ _ (((K3 ..).extBut.push _).push _))
def Ar{k:Nat}(f:E5 s.heap I a (.ref q) i es.size ep)(B:G6 s.heap a es ep t)(l:t.fits es.size=true)(r:IsTup s.heap q ps)(u:ps[i]? = some (.int k 0))(n:es[k]? = some (z,x))
  (C:∀g,E5 g I a (.ref q) (i+1) es.size ep->Heap.SameBut I s.heap g->Q (some x) {s with heap:=g}):wpAny Kc A (pyNext (.ref I)) Q E s:=by
 obtain⟨o,c,y,e⟩:=id f;obtain⟨p,j,m,h⟩:=id B;unfold pyNext;refine f0 (Y4 (O1 f.typeIs N8 (F2 N8 f.typeIs fT ?_ (fU _))));unfold Builtin.«set_iterator.__next__»;refine f0 (f9 ?_);refine f0 (cq c e ?_);refine f0 (bS j h l ?_);rw[show(_ != _)=false by simp,g8 z7];simp[B2];obtain⟨oq,b,v,nq,d⟩:=r;refine f0 (P0 b d ?_);dsimp only;rw[u];unfold setNextDrawn;simp only[B2];refine f0 (f0 (aI j h l ?_));rw[show(ep != ep)=false by simp,g8 z7];rw[n];refine f9 ?_;refine f0 (U0 c e (by simp) (f9 ⟨x,rfl,f9 (C _ (pP c y e) (K3 ..))⟩))
def As(v:A.handled=none)(j:E5 s.heap I a (.ref q) i es.size ep)(C:G6 s.heap a es ep t)(x:t.fits es.size=true)(l:IsTup s.heap q ps)(u:ps[i]? = none)
  (F:∀k,Heap.ExtBut I s.heap k->Q none {s with heap:=k}):wpAny Kc A (pyNext (.ref I)) Q E s:=by
 obtain⟨o,e,B,h⟩:=id j;obtain⟨p,r,hx,n⟩:=id C;unfold pyNext;refine f0 (Y4 (O1 j.typeIs N8 (F2 N8 j.typeIs fT ?_ (fU _))));unfold Builtin.«set_iterator.__next__»;refine f0 (f9 ?_);dsimp only;refine f0 (cq e h ?_);dsimp only;refine f0 (bS r n x ?_);rw[show(((es.size:Nat):Int) != ((es.size:Nat):Int))=false by simp,g8 z7];simp only[B2];obtain⟨oq,c,y,nq,f⟩:=l;refine f0 (P0 c f ?_);dsimp only;rw[u];dsimp only;refine f0 (U0 e h (by simp) ?_);obtain⟨o1,d,z,g⟩:=pQ (ep:=ep) (rawInt 0) e B h;refine f0 (U0 d g (by simp) ?_);refine f0 ?_;simp only[newExc,newTuple];refine f0 (C3 ?_ (by size_fits));refine f0 (m:=firstArgMember _ _) (Y6 (a:=Value.none) (by first | rfl | (simp only[firstArgMember];rfl)) ?_);refine C3 ?_ (by size_fits);simp only[raiseNew];refine f0 (iW ?_);rw[show A.in1.handled=none from v];refine f0 (f9 (wpAny_throw ?_));refine f0 (aK (T:="StopIteration") (b:=true) ⟨_,p8 _ rfl,rfl⟩ eY ?_);exact f9 (F _ ((((K3 ..).trans (K3 ..)).extBut.push _).push _))
section
variable {prog:JN} {w:JM} {A:JO} {E:JG->JH->Prop} {s:JH} {I a:JI} {es:JL (Int×JG)} {ep:Nat} {t:JT}
def pT(d:D3 w=true)(g:G6 s.heap a es ep t)(f:t.fits es.size=true)
  (h:Q (((pickOrder (w.params.setOrder a ep) es)[i]?).map λ e=>(e.2,slot)) s):wpAny Kc A (setNext a slot i ep) Q E s:=by
 obtain⟨p,c,hx,b⟩:=id g;unfold setNext;refine f0 (aI c b f ?_);dsimp only;unfold setsByText;refine f0 (f0 (aJ (f9 ?_)));show wpAny _ A (if D3 w=true then _ else _) Q E s;rw[f8 d];rw[show(ep != ep)=false by simp,g8 z7];refine f0 ?_;unfold setWalk;refine f0 (aI c b f ?_);dsimp only;unfold setsByText;refine f0 (f0 (aJ (f9 ?_)));show wpAny Kc A (if D3 w=true then _ else _) _ E s;rw[f8 d];exact f0 (aJ (f9 (f9 h)))
def pU(d:D3 w=false)(g:(!t.plain&&decide (es.size>1))=false)(e:t.led=true)(k:G6 s.heap a es ep t)(f:t.fits es.size=true)
  (h:Q (match es[SetTable.below t.place slot]?,t.place[SetTable.below t.place slot]? with | some (_,x),some j=>some (x,j+1) | _,_=>none) s):wpAny Kc A (setNext a slot i ep) Q E s:=by
 obtain⟨p,c,hx,b⟩:=id k;unfold setNext;refine f0 (aI c b f ?_);dsimp only;unfold setsByText;refine f0 (f0 (aJ (f9 ?_)));show wpAny _ A (if D3 w=true then _ else _) Q E s;rw[g8 (by rw[d];exact z7)];show wpAny _ A (if(!t.plain&&decide (es.size>1))=true then _ else _) Q E s;rw[g,g8 z7];refine f0 ?_;show wpAny Kc A (if(!t.led && !es.isEmpty)=true then _ else _) _ E s;rw[e];exact f9 (f9 h)
def At:∀(n:Nat) (a:on e) (s:JH),a.length=n->(∀l d,l.Perm a->Q l {s with drawn:=d})->wpAny Kc A (drawOrder n a) Q E s:=by
 intro n
 induction n generalizing Q with
 | zero=>
  intro a s c h;have:=X4.mp c;subst this;exact f9 (h [] s.drawn .rfl)
 | succ n g=>
  intro a s c h;cases a with
  | nil=>cases c
  | cons y r=>
   show wpAny _ A _ Q E s;have b:∀i,i<(y::r).length->wpAny _ A (match _[i]? with
     | some x=>do return x::(←drawOrder n ((y::r).eraseIdx i))
     | none=>unsupported "internal:drawOrder") Q E {s with drawn:=s.drawn.bump .order}:=λ i f=>by
    rw[(n6 f)];refine f0 (g _ _ (by grind) λ l d p=>f9 (h _ d ?_));exact(List.Perm.cons _ p).trans (jP f rfl)
   refine f0 λ Γ p j=>⟨by simp,?_⟩;exact b _ (cE _ (by simp))
noncomputable def pV(f:JG)(a:JI)(n ep:Nat):Obj:={cls:=.type "set_iterator",data:=.fields #[f,.int 0 0,.ref a,.int n 0,.int ep 0]}
def jQ{h:JJ}:E5 (h.push (pV f a n ep)) h.objs.size a f 0 n ep:=⟨_,p8 _ rfl,rfl,rfl⟩
end
section
variable {prog:JN} {w:JM} {A:JO} {E:JG->JH->Prop} {s:JH} {I a:JI} {es:JL (Int×JG)} {ep:Nat} {t:JT}
abbrev Nx(prog:JN)(w:JM)(I:JI)(fp:on JI)(n:Nat)(ws:on JG)(St:Nat->JJ->Prop):Prop:=
 ∀A:JO,A.handled=none->WalksS prog w A I fp [I] (λ a b=>b=a) n (λ i v=>ws[i]? = some v) (λ i s=>St i s.heap)
def jR {fp : on JI} {n : Nat} {ws : on JG} {St : Nat -> JJ -> Prop} (hI : I ∈ fp) (hz : ws.length = n)
    (fr : ∀ i h h', St i h -> (∀ b ∈ fp, ∀ o, h.get? b = some o -> h'.get? b = some o) -> St i h')
    (it : ∀ (A : JO) (E : JG -> JH -> Prop) (Q : JF JG -> JH -> Prop) (s : JH) i v, A.handled = none -> ws[i]? = some v -> St i s.heap -> (∀ h', St (i + 1) h' -> Heap.SameBut I s.heap h' -> Q (some v) { s with heap := h' }) -> wpAny Kc A (pyNext (.ref I)) Q E s)
    (dn : ∀ (A : JO) (E : JG -> JH -> Prop) (Q : JF JG -> JH -> Prop) (s : JH), A.handled = none -> St n s.heap -> (∀ h', Heap.ExtBut I s.heap h' -> Q none { s with heap := h' }) -> wpAny Kc A (pyNext (.ref I)) Q E s)
    (sf : ∀ (A : JO) (E : JG -> JH -> Prop) (Q : JG -> JH -> Prop) (s : JH) i, St i s.heap -> Q (.ref I) s -> wpAny Kc A (pyIter (.ref I)) Q E s) : Nx prog w I fp n ws St := λ A hh =>
  { sub := λ b hb => by rw [u7.mp hb]; exact hI
    grefl := λ _ => rfl
    gtrans := λ _ _ _ h1 h2 => h2.trans h1
    frame := λ i s h' tk st _ k => fr i s.heap h' st k
    item := λ i s Q E hi st hQ => by have hg : ws[i]? = some ws[i] := n6 JX;exact it A E Q s i _ hh hg st λ h' st' sb => hQ _ _ hg st' ⟨λ b o hb e => sb.extBut b o (λ z => hb (u7.mpr z)) e, rfl, rfl, rfl, i6 _⟩
    done := λ s Q E st hQ => dn A E Q s hh st λ h' eb => hQ _ ⟨λ b o hb e => eb b o (λ z => hb (u7.mpr z)) e, rfl, rfl, rfl, i6 _⟩
    self := λ i s Q E st hQ => sf A E Q s i st hQ }
def fV{h h':JJ}{b:JI}(sb:Heap.SameBut I h h')(hb:b≠I):∀o,h.get? b=some o->h'.get? b=some o:=λ o e=>sb.extBut b o hb e
def pW:Slot "set_iterator" "__iter__" "set_iterator.__iter__":=
 .of (owner:="set_iterator") (n:="__iter__") (by rw[typeLookup_type,nT];kernel_rfl) (by decide +kernel) (by decide +kernel) (by decide +kernel)
  (by first | exact .inl (by decide +kernel) | exact .inr (by decide +kernel)) (by rw[iU];kernel_rfl)
def Au:entryFor table "set_iterator.__iter__" = some Builtin.«dict_keyiterator.__iter__»:=entryFor_alias (id':="dict_keyiterator.__iter__") (by kernel_rfl) rfl (by decide +kernel) (by kernel_rfl)
def Av(v:JG):argsOk "set_iterator.__iter__" ⟨[v],[]⟩:=by unfold argsOk;kernel_rfl
def jS(b:E5 s.heap I a f i n ep)(h:Q (.ref I) s):wpAny Kc A (pyIter (.ref I)) Q E s:=by
 refine iE b.typeIs pW (F2 pW b.typeIs Au ?_ (Av _));show wpAny _ _ _ _ _ s;exact f9 ⟨_,rfl,"set_iterator",_,b.typeIs,N8.lookup,h⟩
def Aw(l:D3 w=true)(c:t.fits es.size=true)(f:a≠I) :
  Nx prog w I [I,a] es.size ((pickOrder (w.params.setOrder a ep) es).toList.map (·.2)) (λ i h=>E5 h I a (.int (0:Nat) 0) i es.size ep/\G6 h a es ep t):=by
 have hz:(pickOrder (w.params.setOrder a ep) es).size=es.size:=by
  have:=(pJ (w.params.setOrder a ep) es).length_eq
  rwa [A4,A4]at this
 refine jR (by simp) (by grind) (λ i h n st k=>⟨st.1.at (k I (by simp)),st.2.at (k a (by simp))⟩) (λ A E Q s i v m b st g=>?_) (λ A E Q s m st g=>?_) λ A E Q s i st h=>jS st.1 h
 ·obtain⟨e,he,hev⟩:∃e,(pickOrder (w.params.setOrder a ep) es)[i]? = some e/\e.2=v:=by
   rw[p5,K0]at b;cases q:(pickOrder _ es)[i]? with
   | none=>rw[q]at b;cases b
   | some e=>rw[q]at b;cases b;exact⟨e,rfl,rfl⟩
  refine pR st.1 st.2 c (λ A p o q=>pT l st.2 c (by rwa [he,K7,hev])) λ n d j=>?_;exact g n ⟨d,st.2.at (fV j f)⟩ j
 ·refine pS m st.1 st.2 c (λ A p o q=>pT l st.2 c (by grind)) g
noncomputable def cR(t:JT):Nat->Nat
 | 0=>0
 | i+1=>t.place.getD i 0+1
def pX(a:Rise t.place):∀{i:Nat},i<=t.place.size->SetTable.below t.place (cR t i)=i
 | 0,_=>Af a
 | i+1,h=>by have b:t.place[i]? = some t.place[i]:=O0 JX;show SetTable.below t.place (t.place.getD i 0+1)=i+1;rw[aA,b];exact Ae a b
def Ax(g:D3 w=false)(y:(!t.plain&&decide (es.size>1))=false)(f:Tab t (!D3 w))(b:t.fits es.size=true)(l:a≠I) :
  Nx prog w I [I,a] es.size (es.toList.map (·.2)) (λ i h=>E5 h I a (.int (cR t i:Nat) 0) i es.size ep/\G6 h a es ep t/\i<=es.size):=by
 have p:t.led=true:=by rw[f.led,g];rfl
 have hz:t.place.size=es.size:=(by unfold SetTable.fits at b;rw[g6]at b;exact g9.mp b.1);refine jR (by simp) (by rw[g7,A4]) (λ i h B st k=>⟨st.1.at (k I (by simp)),st.2.1.at (k a (by simp)),st.2.2⟩) (λ A E Q s i v r c st n=>?_) (λ A E Q s r st n=>?_) λ A E Q s i st h=>jS st.1 h
 ·obtain⟨z,he⟩:∃z,es[i]? = some (z,v):=by
   rw[p5,K0]at c;cases q:es[i]? with
   | none=>rw[q]at c;cases c
   | some e=>rw[q]at c;cases c;exact⟨e.1,rfl⟩
  have F:i<es.size:=by
   rcases U1 i es.size with h | h
   ·exact h
   ·rw[O3 h]at he;cases he
  have u:t.place[i]? = some t.place[i]:=O0 JX;have m:=pX f.rise (i:=i) JX;have C:cR t (i+1)=t.place[i]+1:=(by show t.place.getD i 0+1=_;rw[aA,u];rfl);refine pR (slot:=cR t i) (j:=cR t (i+1)) (x:=v) st.1 st.2.1 b (λ A J H q=>pU g y p st.2.1 b (by rw[m,he,u];rw[C]at q;exact q)) λ B d o=>?_;exact n B ⟨d,st.2.1.at (fV o l),F⟩ o
 ·have m:=pX f.rise (i:=es.size) JX;refine pS r st.1 st.2.1 b (λ A J H q=>pU g y p st.2.1 b (by rw[m,O3 (i6 _)];exact q)) n
def Ay{l:on Nat}(n:l.Perm (List.range es.size))(u:t.fits es.size=true)(g:a≠I)(B:q≠I) :
  Nx prog w I [I,a,q] es.size (l.map λ i=>(es.getD i (0,.none)).2) (λ i h=>E5 h I a (.ref q) i es.size ep/\G6 h a es ep t/\IsTup h q (l.map λ (i:Nat)=>Value.int i 0).toArray):=by
 have hl:l.length=es.size:=by rw[n.length_eq,u8]
 refine jR (by simp) (by grind) (λ i h z st k=>⟨st.1.at (k I (by simp)),st.2.1.at (k a (by simp)),let ⟨o,e,r⟩:=st.2.2;⟨o,k q (by simp) o e,r⟩⟩) (λ A E Q s i v p b st m=>?_) (λ A E Q s p st m=>?_) λ A E Q s i st h=>jS st.1 h
 ·obtain⟨k,hk,hkv⟩:∃k,l[i]? = some k/\(es.getD k _).2=v:=by
   rw[p5]at b;cases q:l[i]? with
   | none=>rw[q]at b;cases b
   | some k=>rw[q]at b;cases b;exact⟨k,rfl,rfl⟩
  have j:=(by have:=n.mem_iff.mp (eF.mpr ⟨i,hk⟩);exact o4.mp this);have y:=O0 j;have f:es[k].2=v:=(by rw[←hkv,aA,y];rfl);refine Ar (x:=v) st.1 st.2.1 u st.2.2 (by rw[←K0,List.toList_toArray,p5,hk];rfl) (by rw[y,←f]) λ z c d=>?_;exact m z ⟨c,st.2.1.at (fV d g),let ⟨o,e,r⟩:=st.2.2;⟨o,fV d B o e,r⟩⟩ d
 ·refine As p st.1 st.2.1 u st.2.2 (O3 (by grind)) m
def Az(m:G6 s.heap a es ep t)(f:t.fits es.size=true)(r:es.size<=sizeLine)
  (B:Tab t (!D3 w)) (h:∀I h' d fp ws St,Nx prog w I fp es.size ws St->St 0 h'->ws.Perm (es.toList.map (·.2))->(∀b o,s.heap.get? b=some o->h'.get? b=some o)->(∀b∈fp,b=a\/s.heap.objs.size<=b)->s.heap.objs.size<=I->Q (.ref I) {s with heap:=h',drawn:=d}) :
  wpAny Kc A (pyIter (.ref a)) Q E s:=by
 have g:=let ⟨_,n,_⟩:=m;k7 n;obtain⟨p,n,hx,u⟩:=id m;refine iE m.typeIs F.slot_set_iter (F2 F.slot_set_iter m.typeIs Aq ?_ (F.args_set_iter_1 _));unfold Builtin.«frozenset.__iter__» Builtin.Frozenset.slot0 slotArgs;simp only[iJ,cu,G1,↓reduceIte,bind_assoc,Y1,bne_self_eq_false];unfold Builtin.Frozenset.addrOf Builtin.Frozenset.sizeOf;refine f0 (f9 ?_)
 try dsimp only
 refine f0 (f9 ?_);refine f0 (f0 (bS n u f (f9 ?_)));unfold setDrawn;refine f0 (f0 (aI n u f ?_));dsimp only;unfold setsByText;refine f0 (f0 (aJ (f9 (f9 ?_))));show wpAny Kc _ (if(!D3 w&&(!t.plain&&decide (es.size>1)))=true then _ else _) _ _ _;by_cases q:(!D3 w&&(!t.plain&&decide (es.size>1)))=true
 ·rw[f8 q];have ho:D3 w=false:=by
   cases e:D3 w with
   | false=>rfl
   | true=>rw[e]at q;cases q
  refine f0 (At es.size _ s (u8) λ l d v=>?_);have hl:l.length=es.size:=by rw[v.length_eq,u8]
  unfold newTuple;refine f0 (C3 ?_ (by show(l.map _).toArray.size<=_;simp;omega));refine f0 (wpAny_setEpoch_of (k6 _ n) u f ?_);refine f0 (C3 (f9 ⟨_,rfl,"set_iterator",_,⟨_,p8 _ rfl,rfl⟩,N8.lookup,?_⟩));have z:(s.heap.push {cls:=.type "tuple",data:=.seq (l.map λ (i:Nat)=>rawInt i).toArray}).objs.size=s.heap.objs.size+1:=D5 _ _;refine h _ _ d _ _ _ (Ay (ep:=ep) (t:=t) v f ?_ ?_) ⟨jQ,m.at λ _ e=>k6 _ (k6 _ e),_,k6 _ (p8 _ rfl),rfl,_,rfl⟩ ?_ (λ b o e=>k6 _ (k6 _ e)) ?_ ?_
  ·rw[z];exact q5 (T4 g)
  ·rw[z];exact q5 (T6 _)
  ·refine(v.map _).trans (List.Perm.of_eq ?_);refine iF λ j=>?_;have H:es.toList[j]? = es[j]?:=K0;rw[p5,p5,H];by_cases y:j<es.size
   ·rw[aE y,K7,aA,O0 y];rfl
   ·have C:(List.range es.size)[j]? = none:=Q9 (by rw[u8];omega);rw[C,O3 JX];rfl
  ·intro b r;simp only[i5,O8,P4]at r;rcases r with rfl | rfl | rfl
   ·exact .inr (z▸aQ _)
   ·exact .inl rfl
   ·exact .inr (i6 _)
  ·exact z▸aQ _
 ·rw[g8 q];refine f0 (f9 ?_);refine f0 (wpAny_setEpoch_of n u f ?_);refine f0 (C3 (f9 ⟨_,rfl,"set_iterator",_,⟨_,p8 _ rfl,rfl⟩,N8.lookup,?_⟩));have k:=λ b o (e:s.heap.get? b=some o)=>k6 (pV (.int 0 0) a es.size ep) e
  have x:∀b∈[s.heap.objs.size,a],b=a\/s.heap.objs.size<=b:=λ b r=>by
   simp only[i5,O8,P4]at r;rcases r with rfl | rfl
   ·exact .inr (i6 _)
   ·exact .inl rfl
  by_cases c:D3 w=true
  ·exact h _ _ s.drawn _ _ _ (Aw (t:=t) (ep:=ep) c f (q5 g)) ⟨jQ,m.at λ _ e=>k _ _ e⟩ ((pJ _ es).map _) k x (i6 _)
  ·have c:D3 w=false:=by simpa using c
   rw[c]at q;exact h _ _ s.drawn _ _ _ (Ax (ep:=ep) c (by simpa using q) B f (q5 g)) ⟨jQ,m.at λ _ e=>k _ _ e,F3 _⟩ .rfl k x (i6 _)
end
def AA(d:s.TypeIs (.ref a) "set")(h:Q false s):wpAny Kc A (Builtin.List.listLengthHint (.ref a)) Q E s:=by
 unfold Builtin.List.listLengthHint;refine f0 (iP d F.slot_set_len.lookup ?_);generalize c:("set.__len__" : JW)=id0
 wp_delta
 rw[show splitId id0=some ("set","__len__")from by subst c;decide +kernel];subst c;refine f0 (aK (b:=true) d (by rw[iU];kernel_rfl) ?_);refine iQ (λ z=>absurd z JY) λ _=>?_
 refine iQ (λ _=>?_) λ z=>absurd (by decide +kernel) z;exact f0 (fg d (f9 h))
def AB{prog:JN}{w:JM}{A:JO}{I a:JI}{S:JI}{fp:on JI}{n c0:Nat}{ws:on JG}{St:Nat->JJ->Prop}{c:Bool->Bool}{s1:JH}{res:JG}{R:Result->JH->Prop}{EE:JG->JH->Prop}(W:Nx prog w I fp n ws St)(hh:A.handled=none)(hn:n<=sizeLine)(hSf:S∉fp)
  (hT:s1.TypeIs (.ref a) "set") (st:St 0 s1.heap) (hS:s1.heap.get? S=some {cls:=.type "list",data:=.seq #[] c0})
  (hR:∀h' tk acc c',(∀b o,b≠S->b≠I->s1.heap.get? b=some o->h'.get? b=some o)->h'.get? S=some {cls:=.type "list",dict:=none,data:=.seq acc c',slots:=#[]} -> acc.toList=ws->R (.ok (.ret res)) {s1 with heap:=h',toks:=tk}) (hw:ws.length=n) :
  wpAny Kc A.in1 (do
   let room ←holding [Value.ref I] (Builtin.List.listLengthHint (.ref a))
   if c room=true then do
    rule "list.extend.makes-room"
    Builtin.List.listTouch (.ref S)
    again (.builtin "list.extend.loop" ⟨[.ref S,.ref I,res],[]⟩)
   else again (.builtin "list.extend.loop" ⟨[.ref S,.ref I,res],[]⟩))
   (λ fin s'=>match fin with | .done f=>R (.ok f) s' | .again c'=>c'.quiet=true/\codeAny Kc A c' R s') EE s1:=by
 have loop:∀(h:JJ) (c1 tk:Nat),St 0 h->(∀b o,b≠S->s1.heap.get? b=some o->h.get? b=some o)->h.get? S=some {cls:=.type "list",data:=.seq #[] c1} ->
   codeAny Kc A (.builtin "list.extend.loop" ⟨[.ref S,.ref I,res],[]⟩) R {s1 with heap:=h,toks:=tk}:=λ h c1 tk st1 k e=>by
  refine codeAny_extend_loopS (W A.in1 hh) hn S hSf res n 0 _ #[] c1 rfl (F3 _) st1 e (ItemsOf.nil _) λ s' acc c' hm e' ac=>?_;have b1:s' = {s1 with heap:=s'.heap,toks:=s'.toks}:=(by have q1:s'.gens=s1.gens:=hm.gens;have q2:s'.drawn=s1.drawn:=hm.drawn;have q3:s'.os=s1.os:=hm.os;obtain⟨h',g',d',t',o'⟩:=s';dsimp only at q1 q2 q3;subst q1;subst q2;subst q3;rfl);rw[b1];refine hR s'.heap s'.toks acc c' (λ b o hb hi q=>hm.heap b o (λ z=>?_) (k b o hb q)) e' ?_
  ·rcases i5.mp z with z | z
   ·exact hb z
   ·exact hi (u7.mp z)
  ·refine iF λ j=>?_;by_cases hj:j<n
   ·have hj':j<acc.size:=by rw[ac.1];exact hj
    have q1:acc[j]? = some acc[j]:=O0 hj';rw[K0,q1];exact(ac.2 j _ q1).symm
   ·rw[Q9 (by rw[A4,ac.1];omega),Q9 JX]
 refine f0 (C5 (AA hT ?_));refine iQ (λ _=>?_) λ _=>f9 ⟨K8 F.plain_extend_loop _,loop s1.heap c0 s1.toks st (λ b o _ e=>e) hS⟩;refine f0 (U3 (f0 ?_));show wpAny Kc A.in1 (updateSeq S (·.push .none) >>= λ _=>updateSeq S (·.pop)) _ _ _;refine f0 (T9 hS rfl ?_);have e2:=Q8 (Obj.mapSeq (·.push Value.none)) hS rfl;refine T9 (hz:=by seq_fits) e2 rfl ?_;have e3:=Q8 (Obj.mapSeq (·.pop)) e2 rfl;have oth:∀b o,b≠S->s1.heap.get? b=some o->((s1.heap.update S (Obj.mapSeq (·.push Value.none))).update S (Obj.mapSeq (·.pop))).get? b=some o:=λ b o hb e=>
  (Q7 _ _ (Ne.symm hb)).trans ((Q7 _ _ (Ne.symm hb)).trans e)
 refine f9 ⟨K8 F.plain_extend_loop _,loop _ _ s1.toks ?_ oth e3⟩;exact(W A.in1 hh).frame 0 s1 _ s1.toks st (i6 _) λ b hb o e=>oth b o (λ z=>hSf (z▸hb)) e
def AC(hh:A.handled=none)(hS:SetI prog w s.heap a ks)
  (h:∀vs h' tk d,IntsAre vs (vs.map M9)->(vs.map M9).Perm ks->(∀b o,s.heap.get? b=some o->h'.get? b=some o)->s.heap.objs.size<h'.objs.size->Q vs {s with heap:=h',toks:=tk,drawn:=d}):wpAny Kc A (collect (.ref a)) Q E s:=by
 obtain⟨o,S,ep,t,y,C,hd,J,hp,hb,hf,ht⟩:=id hS;have O:S.size<=sizeLine:=iC hb;have i:∀vs:on JG,vs.Perm (S.toList.map (·.2))->IntsAre vs (vs.map M9)/\(vs.map M9).Perm ks:=λ vs p=>by
  refine⟨?_,(p.map _).trans (by rw[r3];exact hp)⟩;have all:∀v∈vs,∃tk,v=.int (M9 v) tk:=λ v hv=>by obtain⟨e,he,q⟩:=k9.mp (p.mem_iff.mp hv);obtain⟨tk,m⟩:=pK J he;exact⟨tk,by rw[←q];exact m⟩
  clear p
  induction vs with
  | nil=>exact .nil
  | cons v r ih=>
   obtain⟨tk,e⟩:=all v (k8 ..);rw[o5];have q:=ih λ u hu=>all u (k5 _ hu)
   generalize hn:M9 v=n at e;subst e;exact .cons n tk q
 have l:=k7 y;unfold collect;refine f0 (wpAny_runValue (M2 F.entry_proto_collect ?_));rw[N4 F.plain_proto_collect];show wpAny Kc A.in1 _ _ _ s;refine f0 (C3 ?_);refine f9 ⟨K8 F.plain_list_iadd _,M2 F.entry_list_iadd ?_⟩;rw[N4 F.plain_list_iadd];show wpAny Kc A.in1 (Builtin.List.listExtendWith (.ref s.heap.objs.size) (.ref a) (.ref s.heap.objs.size)) _ _ _;unfold Builtin.List.listExtendWith;refine f0 (fg (T:="set") ⟨o,k6 _ y,C.1⟩ ?_);have h1:Builtin.List.listSameRef (.ref s.heap.objs.size) (.ref a)=false:=(by unfold Builtin.List.listSameRef;exact A1.mpr (R5 l));have P:(Value.type "set" == Value.type "list")=false:=by decide
 have h3:(Value.type "set" == Value.type "tuple")=false:=by decide
 simp only[h1,P,h3,fe,G1,if_false];refine f0 (Az (t:=t) (⟨o,k6 _ y,C,hd⟩) hf O ht λ I P d fp N St W U p B Z kI=>?_);rw[D5]at kI;have K:s.heap.objs.size∉fp:=λ z=>by
  rcases Z _ z with q | q
  ·exact absurd q (R5 l)
  ·rw[D5]at q;omega
 obtain⟨Y,X⟩:=i N p;refine B3 (AB (A:=A) (a:=a) (c0:=0) (R:=λ r x=>∃h' tk c j,r=.ok (.ret (.ref s.heap.objs.size))/\x = {s with heap:=h',toks:=tk,drawn:=d} /\ h'.get? s.heap.objs.size=some {cls:=.type "list",dict:=none,data:=.seq c j,slots:=#[]} /\ Q c.toList x)
  W hh O K ⟨o,B _ _ (k6 _ y),C.1⟩ U (B _ _ (p8 _ rfl)) (λ h' tk c j k e ea=>⟨h',tk,c,j,rfl,rfl,e,by rw[ea];exact h N h' tk d Y X (λ b u q=>k b u (q5 (k7 q)) (q5 (P2 (k7 q) kI)) (B _ _ (k6 _ q))) (k7 e)⟩) (by rw[p.length_eq,g7,A4])) ?_ λ _ _ e=>e
 intro L x g;cases L with
 | done f=>
  obtain⟨h',tk,c,j,M,m,e,H⟩:=g;cases M;subst m;exact f0 (wpAny_load e (f9 H))
 | again j=>
  refine⟨g.1,R6 g.2 λ r x hr=>?_⟩;obtain⟨h',tk,c,j,M,m,e,H⟩:=hr;subst M;subst m;exact f0 (wpAny_load e (f9 H))
def AD(B:A.handled=none)(F:SetI prog w s.heap a ks)(H:ks.length<64)
  (h:∀k g d p c f e,(∀b o,s.heap.get? b=some o->k.get? b=some o)->s.heap.objs.size<=p->k.get? p=some (seqObj "list" c e)->IntsAre c.toList f->f.Perm ks->f.Pairwise (· <= ·)->Q (.ref p) {s with heap:=k,toks:=g,drawn:=d}) :
  wpAny Kc A (call (.builtin "sorted") [.ref a]) Q E s:=by
 refine Calls.call_function_entry kind_sorted plain_sorted entry_sorted (args_sorted1 _) ?_
 unfold Builtin.«sorted»;refine f0 (f9 ?_);refine f0 (AC (B) F λ c n g d y p1 l r=>?_);have z:c.length<64:=by have:=p1.length_eq;rw[g7]at this;omega
 refine f0 (wpAny_newList ?_ (by rw[cC];omega));have j:(n.push (seqObj "list" c.toArray 0)).get? n.objs.size=some _:=p8 _ rfl;refine f0 (C5 (F2 slot_list_sort ⟨_,j,rfl⟩ entry_list_sort (list_sort_tree j y z λ i f x v u=>⟨_,rfl,?_⟩) (args_list_sort _)));refine f9 ⟨_,rfl,?_⟩;obtain⟨e,C⟩:=sortedHeap_at j;refine h _ g d _ i f e (λ b o q=>?_) (K9 r) C x (v.trans p1) u;have m:=k7 (l b o q);rw[sortedHeap_old (q5 m) (by rw[size_push'];exact T4 m)];exact k6 _ (l b o q)
def AE(b:l≠it):∀(k i:Nat) (s:JH) (Q:on JG->JH->Prop),s.heap.IsListIter it l i->s.heap.IsList l items->i+k=items.size ->
  (∀h',h'.IsListIter it l items.size->Heap.SameBut it s.heap h'->Q (items.toList.drop i) {s with heap:=h'})->wpAny Kc A (draw (.ref it) k) Q E s:=by
 intro k
 induction k with
 | zero=>
  intro i s Q d c e h;show wpAny _ A _ Q E s;have e:=e;subst e;have:=h s.heap d (Heap.SameBut.refl _ _);rw[List.drop_of_length_le (by rw[A4];exact i6 _)]at this;exact f9 this
 | succ k g=>
  intro i s Q d c e h;have a:i<items.size:=by omega
  show wpAny _ A _ Q E s;refine f0 (nF d c (O0 a) λ h1 m f=>?_);refine f0 (C5 (g (i+1) _ _ m (c.extBut f.extBut b) JX λ n j o=>f9 ?_));have:=h n j (f.trans o);rw[hV (by rw[A4];exact a)]at this;exact this
def asgL(m:A.handled=none)(c:s.heap.IsList l items)
  (k:(assignEach elts env).length=items.size) (d:(assignEach elts env).findIdx? (·.1)=none)
  (h:∀h',Heap.ExtBut s.heap.objs.size s.heap h'->wpAny Kc A (assignInOrder ((assignEach elts env).map (·.2)) items.toList) Q E {s with heap:=h'}) :
  wpAny Kc A (assign (.Tuple elts x1 pos) env (.ref l)) Q E s:=by
 have a:l≠s.heap.objs.size:=(by obtain⟨o,j,_⟩:=c;exact q5 (k7 j));rw[assign_Tuple];refine f0 (cr ?_);unfold unpack;rw[k,d];refine f0 (C5 ?_);unfold unpackItems;refine f0 ?_;unfold notIterableAtAll;refine f0 (iP c.typeIs slot_list_iter.lookup (f9 ?_));simp only[G1,if_false];refine f0 (C5 (bZ c ?_));refine f0 (C5 (AE a items.size 0 _ _ ⟨_,p8 _ rfl,rfl,rfl⟩ (c.push _) (aO _) λ h1 i g=>?_));rw[List.drop_zero,g8 (by rw[A4];exact D6 _)];refine f0 (C5 (nQ m i ((c.push _).extBut g.extBut a) (O3 (i6 _)) λ n p=>?_));simp only[Option.isSome_none,G1,if_false];exact f9 (h n λ b o f e=>p b o f (g.extBut b o f (k6 _ e)))
def jT{l:on Int}(h:i<l.length):l.getD i 0∈l:=by
 rw[r9,n6 h];exact T7 h
def minL{prog:JN}{w:JM}{A:JO}{E:JG->JH->Prop}{s:JH}{l:JI}{vs:on JG}{ns:on Int}{Q:JG->JH->Prop}(hh:A.handled=none)(hl:s.heap.IsList l vs.toArray)(hi:IntsAre vs ns)(hz:ns≠[])
  (h:∀h' M (t:Tok) tk,(∀b o,s.heap.get? b=some o->h'.get? b=some o)->M∈ns->(∀a∈ns,M<=a)->Q (.int M t) {s with heap:=h',toks:=tk}):wpAny Kc A (call (.builtin "min") [.ref l]) Q E s:=by
 obtain⟨ys,e⟩:=hi.allInts.items;have en:ns=ys.toList.map (·.1):=by rw[←hi.numsOf,←ff,←e]
 have zy:0<ys.size:=by
  have q:0<ns.length:=ir.mpr hz
  rwa [en,g7,A4]at q
 rw[e]at hl;refine min_intList hh hl zy λ v h1 tk q k=>?_
 obtain⟨t,ev⟩:=fk q;subst ev;obtain⟨g1,g2⟩:=argBest_lt (numAt ys) (ys.size - 1);refine h h1 _ t tk k ?_ λ a ha=>?_
 ·rw[en,aR];exact jT (by rw[g7,A4];omega)
 ·rw[en]at ha;obtain⟨j,hj,ej⟩:=mem_getD ha;subst ej;rw[g7,A4]at hj;rw[←aR];exact g2 j JX
def maxL{prog:JN}{w:JM}{A:JO}{E:JG->JH->Prop}{s:JH}{l:JI}{vs:on JG}{ns:on Int}{Q:JG->JH->Prop}(hh:A.handled=none)(hl:s.heap.IsList l vs.toArray)(hi:IntsAre vs ns)(hz:ns≠[])
  (h:∀h' M (t:Tok) tk,(∀b o,s.heap.get? b=some o->h'.get? b=some o)->M∈ns->(∀a∈ns,a<=M)->Q (.int M t) {s with heap:=h',toks:=tk}):wpAny Kc A (call (.builtin "max") [.ref l]) Q E s:=by
 obtain⟨ys,e⟩:=hi.allInts.items;have en:ns=ys.toList.map (·.1):=by rw[←hi.numsOf,←ff,←e]
 have zy:0<ys.size:=by
  have q:0<ns.length:=ir.mpr hz
  rwa [en,g7,A4]at q
 rw[e]at hl;refine max_intList hh hl zy λ v h1 tk q k=>?_
 obtain⟨t,ev⟩:=fk q;subst ev;obtain⟨g1,g2⟩:=argBest_gt (numAt ys) (ys.size - 1);refine h h1 _ t tk k ?_ λ a ha=>?_
 ·rw[en,aR];exact jT (by rw[g7,A4];omega)
 ·rw[en]at ha;obtain⟨j,hj,ej⟩:=mem_getD ha;subst ej;rw[g7,A4]at hj;rw[←aR];exact g2 j JX
def extL(e:s.heap.get? l=some {cls:=.type "list",data:=.seq items n})(m:s.heap.IsList b new\/IsTup s.heap b new)(k:items.size+new.size<=sizeLine)
  (h:Q .none {s with heap:=s.heap.update l (Obj.mapSeq (· ++ new))}):wpAny Kc A (call (.builtin "list.extend") [.ref l,.ref b]) Q E s:=by
 refine F2 F.slot_list_extend (⟨_,e,rfl⟩) F.entry_list_extend ?_ (F.args_list_extend_2 _ _);unfold Builtin.«list.extend»;refine f0 (f9 ?_);show wpAny _ _ _ _ _ _;unfold Builtin.List.listExtendWith;obtain⟨a,eb,T,hT,j,hd⟩:∃a,s.heap.get? b=some a/\∃T:JW,(a.cls=.type T/\(T = "list" \/ T = "tuple"))/\∃j,a.data=.seq new j:=by
  rcases m with⟨o,i,g,f,d⟩ | ⟨o,i,g,f,d⟩
  ·exact⟨o,i,"list",⟨g,.inl rfl⟩,f,d⟩
  ·exact⟨o,i,"tuple",⟨g,.inr rfl⟩,f,d⟩
 refine f0 (fg ⟨a,eb,hT.1⟩ ?_);have c:(Builtin.List.listSameRef (.ref l) (.ref b)||Value.type T == .type "list" || Value.type T == .type "tuple")=true:=by
  rcases hT.2 with z | z<;>subst z
  ·rw[show(Value.type "list" == Value.type "list")=true by decide,jd,je]
  ·rw[show(Value.type "tuple" == Value.type "tuple")=true by decide,jd]
 rw[f8 c];refine f0 (listItems_at eb hd (f0 (listItems_at e rfl ?_)));rw[g8 (by rw[oV k,Bool.and_false];exact z7)];refine f0 (listUpdate_at e rfl ?_ JX (by grind));exact f9 ⟨_,rfl,h⟩
noncomputable def gSeq(K:JQ)(n:Nat)(t:TGs):TG:=λ v σ H Q=>∃a xs,v=.ref a/\(SqL K H a xs\/SqT K H a xs)/\xs.length=n/\t xs σ H Q
def AF(q:X.calm=true)(h:PGs X es t)(m:(assignEach es X.env).length=n)(d:(assignEach es X.env).findIdx? (·.1)=none):PG X (.Tuple es k pos) (gSeq X.K n t):=by
 intro c s i H v u Q I r g;obtain⟨a,j,w,f,p,g⟩:=g;rcases f with f | f
 ·subst w;cases r;obtain⟨x,l,pl,hz⟩:=I.list f;refine asgL (I.ok.hd q) pl.isList (by rw[m,t8,←l.length,p]) d λ h' y=>?_
  exact h c _ i H j _ Q (I.kept λ b o e=>y b o (q5 (k7 e)) e) l g
 ·exact oh q h m d c s i H v u Q I r ⟨a,j,w,f,p,g⟩
def AG(K:JQ):V->on V->Hp->VK->Prop:=λ x vs H Q=>∃l b xs zs,x=.ref l/\vs=[.ref b]/\H l=some (.lst xs)/\(SqL K H b zs\/SqT K H b zs)/\xs.length+zs.length<=sizeLine/\Q .non (upd H l (.lst (xs++zs)))
def AH:MtM X "list.extend" (AG X.K):=by
 intro g s σ H x vs v us Q I k m h;obtain⟨l,b,xs,j,rfl,rfl,i,d,hz,q⟩:=h;cases k;obtain⟨u,rfl,o⟩:=m.one;cases o;obtain⟨z,p,n,r,hl,e⟩:=I.lstM i;obtain⟨a,c,ob⟩:∃a:on JG,Vals j a/\(s.heap.IsList b a.toArray\/IsTup s.heap b a.toArray):=by
  rcases d with d | d
  ·obtain⟨a,c,f,_⟩:=I.list d;exact⟨a,c,.inl f.isList⟩
  ·obtain⟨a,c,f,_⟩:=I.tuple d;exact⟨a,c,.inr f⟩
 have e2:=c.length;refine extL e ob (by grind) ?_;refine⟨.non,_,I.lset i e (by simp) (r.append c) ?_,rfl,q⟩;rw[t7];omega
theorem ba:∀{b:on Int} {a:on JG},Vals (b.map V.int) a->IntsAre a b
 | [],a,h=>by cases h;exact .nil
 | n::b,a,h=>by
  cases h with
  | cons r t=>
   obtain⟨c,rfl⟩:=r;exact .cons n c (ba t)
theorem pY:∀{a:on Int} {us:on JG},IntsAre us a->Vals (a.map V.int) us
 | _,_,.nil=>.nil
 | _,_,.cons n t h=>.cons ⟨t,rfl⟩ (pY h)
def AI(o:X.calm=true):z9 X (.builtin "min") (λ c H Q=>∃(a:JI) (b:on Int),c=[.ref a]/\SqL X.K H a (b.map V.int)/\b≠[]/\∀M,M∈b->(∀x∈b,M<=x)->Q (.int M) H):=by
 intro d s σ H c us Q I r h;obtain⟨a,b,rfl,n,m,q⟩:=h;obtain⟨u,rfl,f⟩:=G2 r;cases f;obtain⟨l,e,g,_⟩:=I.list n;exact minL (I.ok.hd o) g.isList (ba e) m λ h' M t tk k j i=>⟨.int M,H,I.kept k,⟨t,rfl⟩,q M j i⟩
def AJ(m:X.calm=true):z9 X (.builtin "max") (λ c H Q=>∃(a:JI) (b:on Int),c=[.ref a]/\SqL X.K H a (b.map V.int)/\b≠[]/\∀M,M∈b->(∀x∈b,x<=M)->Q (.int M) H):=by
 intro d s σ H c us Q I r h;obtain⟨a,b,rfl,l,j,q⟩:=h;obtain⟨u,rfl,r1⟩:=G2 r;cases r1;obtain⟨i,rv,e,_⟩:=I.list l;exact maxL (I.ok.hd m) e.isList (ba rv) j λ h' M t tk k g f=>⟨.int M,H,I.kept k,⟨t,rfl⟩,q M g f⟩
noncomputable def setO(P:JN)(w:JM)(a:JI)(ks:on Int):HO:=.ext λ h=>SetI P w h a ks
def AK{P:JN}{w:JM}{H:Hp}{h:JJ}{a:JI}{ks:on Int}(x:SetI P w h a ks):u9 P w H h a (setO P w a ks):=
 ⟨x,let ⟨o,_,_,_,e,_⟩:=x;⟨o,e⟩,λ h1 h2 q k=>q.at k⟩
def AL(a:on Int):fm (λ i=>a.getD i 0) a.length=a.foldl dk []:=by
 unfold fm
 congr 1
 refine iF λ j=>?_;rw[p5];by_cases b:j<a.length
 ·rw[aE b,K7,r9,n6 b];rfl
 ·rw[Q9 (by grind),Q9 JX];rfl
def AM(n:X.calm=true):z9 X (.type "set") (λ e H Q=>∃(a:JI) (b:on Int),e=[.ref a]/\SqL X.K H a (b.map V.int)/\b.length<4000/\∀p,H p=none->Q (.ref p) (upd H p (setO X.prog X.w p (b.foldl dk [])))):=by
 intro g s σ H e us Q I r h;obtain⟨a,b,rfl,m,hz,q⟩:=h;obtain⟨u,rfl,j⟩:=G2 r;cases j;obtain⟨c,f,l,_⟩:=I.list m;have i:c.length=b.length:=by rw[←f.length,g7]
 refine Ap (I.ok.hd n) l.isList (ba f) (by rw[t8,i];show _<4096;omega) λ h' tk S k=>?_;have d:c.toArray.size=b.length:=by rw[t8,i]
 rw[d,AL]at S;exact⟨.ref s.heap.objs.size,_,I.laid k (i6 _) (AK S),rfl,q _ I.fresh⟩
def AN(z:X.calm=true):z9 X (.builtin "sorted") (λ l H Q=>∃(p:JI) (f:on Int),l=[.ref p]/\H p=some (setO X.prog X.w p f)/\f.length<64/\∀(q:JI) (i:on Int),H q=none->i.Perm f->i.Pairwise (· <= ·)->Q (.ref q) (upd H q (.lst (i.map V.int)))):=by
 intro m s σ H l us Q I r h;obtain⟨p,f,rfl,A,x,q⟩:=h;obtain⟨u,rfl,w⟩:=G2 r;cases w;refine AD (I.ok.hd z) ((I.hok p _ A).1) x λ B v d c o g e k n he y b j=>?_
 have hl:g.length<=sizeLine:=(by rw[b.length_eq,cC];omega);have ok:u9 X.prog X.w (upd H c (.lst (g.map V.int))) B c (.lst _):=⟨by rwa [g7],o.toList,e,(pY y),by rwa [Array.toArray_toList]⟩;have a:=I.laid (t':=v) k n ok;refine⟨.ref c,_,?_,rfl,q c g (I.hok.fresh n) b j⟩;exact⟨a.ok,a.os,a.bare,a.base,a.loc,a.cell,a.free,a.freeC,a.pin,a.hok,a.len⟩
open PySem.Calls PySem.W
def AO(m:A.handled=none)(d:s.heap.IsTuple t (intItems xs))(f:0<xs.size)
  (h:∀v h' tk,(intItems xs)[argBest (λ i j=>decide (numAt xs i>numAt xs j)) (xs.size - 1)]? = some v->(∀b o,s.heap.get? b=some o->h'.get? b=some o)->Q v {s with heap:=h',toks:=tk}) :
  wpAny Kc A (call (.builtin "max") [.ref t]) Q E s:=by
 obtain⟨o,k,hc,n,hd⟩:=id d;have a:=k7 k;refine call_max_walk (bV d ?_);refine⟨_,_,_,_,_,_,_,rfl,Walks.tuple (A:=A.in1) m _ t (q5 a) _,⟨⟨_,p8 _ rfl,rfl,rfl⟩,d.push _⟩,λ b c=>?_,by simpa[intItems]using f,CmpOf.ints_gt _ (λ _ _=>fk),λ v h' tk p l=>?_⟩
 ·show b<(s.heap.push _).objs.size;rw[D5];rcases i5.mp c with rfl | c
  ·exact T6 _
  ·rcases i5.mp c with rfl | c
   ·exact T4 a
   ·cases c
 ·refine h v h' tk (by simpa[intItems]using p) λ b o e=>l b o (λ g=>?_) (k6 _ e);rcases i5.mp g with q | g
  ·exact absurd (q▸k7 e) (D6 _)
  ·cases g
def maxT{prog:JN}{w:JM}{A:JO}{E:JG->JH->Prop}{s:JH}{l:JI}{vs:on JG}{ns:on Int}{Q:JG->JH->Prop}(hh:A.handled=none)(hl:s.heap.IsTuple l vs.toArray)(hi:IntsAre vs ns)(hz:ns≠[])
  (h:∀h' M (t:Tok) tk,(∀b o,s.heap.get? b=some o->h'.get? b=some o)->M∈ns->(∀a∈ns,a<=M)->Q (.int M t) {s with heap:=h',toks:=tk}):wpAny Kc A (call (.builtin "max") [.ref l]) Q E s:=by
 obtain⟨ys,e⟩:=hi.allInts.items;have en:ns=ys.toList.map (·.1):=by rw[←hi.numsOf,←ff,←e]
 have zy:0<ys.size:=by
  have q:0<ns.length:=ir.mpr hz
  rwa [en,g7,A4]at q
 rw[e]at hl;refine AO hh hl zy λ v h1 tk q k=>?_
 obtain⟨t,ev⟩:=fk q;subst ev;obtain⟨g1,g2⟩:=argBest_gt (numAt ys) (ys.size - 1);refine h h1 _ t tk k ?_ λ a ha=>?_
 ·rw[en,aR];exact jT (by rw[g7,A4];omega)
 ·rw[en]at ha;obtain⟨j,hj,ej⟩:=mem_getD ha;subst ej;rw[g7,A4]at hj;rw[←aR];exact g2 j JX
def AQ(m:X.calm=true):z9 X (.builtin "max") (λ c H Q=>∃(a:JI) (b:on Int),c=[.ref a]/\SqT X.K H a (b.map V.int)/\b≠[]/\∀M,M∈b->(∀x∈b,x<=M)->Q (.int M) H):=by
 intro d s σ H c us Q I r h;obtain⟨a,b,rfl,l,j,q⟩:=h;obtain⟨u,rfl,r1⟩:=G2 r;cases r1;obtain⟨i,rv,e,_⟩:=I.tuple l;exact maxT (I.ok.hd m) e (ba rv) j λ h' M t tk k g f=>⟨.int M,H,I.kept k,⟨t,rfl⟩,q M g f⟩
def jU(prog:JN)(w:JM)(A:JO)(P:Nat->JG->Prop)(St:Nat->JJ->Prop)(bt:Nat->Nat->Bool):Prop:=
 ∀k i j vi vj (s:JH) (Q:JG->JH->Prop) (E:JG->JH->Prop),St k s.heap->P i vi->P j vj->Q (.bool (bt i j)) s->wpAny Kc A (richCompare .Lt vi vj) Q E s
def AR{St:Nat->JJ->Prop}(W:Walks prog w A.in1 I fp wr n P St)(K:Nat->Nat->Bool)(C:jU prog w A.in1 P St K)(S:JI)(H:S∉fp) :
  ∀(k j:Nat) (s:JH) (r:JG) (c:Nat),n - (j+1)=k->j+1<=n->St (j+1) s.heap->P (argBest K j) r ->
  s.heap.get? S=some {cls:=.type "list",dict:=none,data:=.seq #[r,r] c,slots:=#[]} ->
  (∀v h' tk,P (argBest K (n - 1)) v->(∀b o,b∉wr->b≠S->s.heap.get? b=some o->h'.get? b=some o)->R (.ok (.ret v)) {s with heap:=h',toks:=tk}) ->
  codeAny Kc A (.builtin "min.loop" ⟨[.ref I,.none,.ref S],[]⟩) R s:=by
 have E:=λ h=>H (W.sub _ h);have l:(toString "min" ++ toString ".loop" : JW) = "min.loop":=by decide
 intro k
 induction k with
 | zero=>
  intro j s r c X Y u q J L;have B:j+1=n:=by omega
  refine M2 iK ?_;rw[N4 X9 _];show wpAny _ A.in1 _ _ _ s;refine f0 (P0 J rfl ?_);show wpAny _ A.in1 _ _ _ s;refine f0 (P1 (W.done s _ _ (B▸u) λ h' tk d=>?_));have p:=d S _ E J;show wpAny _ A.in1 _ _ _ _;refine f0 ?_;refine T9 p rfl (f0 (P3 (f9 ?_)));exact L r _ tk (by rw[←B];exact q) λ b o a f e=>(Q7 _ _ (Ne.symm f)).trans (d b o a e)
 | succ k O=>
  intro j s r c X Y u q J L;have x:j+1<n:=by omega
  refine M2 iK ?_;rw[N4 X9 _];show wpAny _ A.in1 _ _ _ s;refine f0 (P0 J rfl ?_);show wpAny _ A.in1 _ _ _ s;refine f0 (P1 (W.item (j+1) s _ _ x u λ v h' tk U i d=>?_));have p:=d S _ E J;show wpAny _ A.in1 (tryCatch _ _ >>= _) _ _ _;refine f0 (P1 (C5 (f0 (C _ (j+1) _ v r _ _ _ i U q ?_))));refine f0 (C5 (X7 ?_));refine f0 (P3 (f9 ?_));cases Q:K (j+1) (argBest K j)with
  | true=>
   simp only[if_true];refine f0 ?_;refine T9 p rfl (f0 (P3 ?_));rw[l];refine f9 ⟨K8 X9 _,O (j+1) _ v _ JX x (W.frame _ _ _ i λ b N o e=>?_) (by simp only[argBest,Q,if_true];exact U) (Q8 _ p rfl)
    λ M z g y m=>?_⟩
   ·exact(Q7 _ _ (λ h:S=b=>H (by rw[h];exact N))).trans e
   ·exact L M z g y λ b o a f e=>m b o a f ((Q7 _ _ (Ne.symm f)).trans (d b o a e))
  | false=>
   simp only[G1,if_false];refine f0 (P3 ?_);rw[l];refine f9 ⟨K8 X9 _,O (j+1) _ r c JX x i (by simp only[argBest,Q,G1,if_false];exact q) p λ M z g y m=>?_⟩;exact L M z g y λ b o a f e=>m b o a f (d b o a e)
def AS{St:Nat->JJ->Prop}(W:Walks prog w A.in1 I fp wr n P St)(y:Nat->Nat->Bool)(k:jU prog w A.in1 P St y)(S:JI)(d:S∉fp)(z:0<n)(q:St 0 s.heap)
  (B:s.heap.get? S=some {cls:=.type "list",dict:=none,data:=.seq #[] c,slots:=#[]})
  (E:∀v h' tk,P (argBest y (n - 1)) v->(∀b o,b∉wr->b≠S->s.heap.get? b=some o->h'.get? b=some o)->R (.ok (.ret v)) {s with heap:=h',toks:=tk}) :
  codeAny Kc A (.builtin "min.loop" ⟨[.ref I,.none,.ref S],[]⟩) R s:=by
 have a:(toString "min" ++ toString ".loop" : JW) = "min.loop":=by decide
 refine M2 iK ?_;rw[N4 X9 _];show wpAny _ A.in1 _ _ _ s;refine f0 (P0 B rfl ?_);show wpAny _ A.in1 _ _ _ s;refine f0 (P1 (W.item 0 s _ _ z q λ v h' tk H g j=>?_));have p:=j S _ (λ h=>d (W.sub _ h)) B;show wpAny _ A.in1 (updateSeq S _ >>= _) _ _ _;refine f0 ?_;refine T9 p rfl ?_;rw[a];refine f9 ⟨K8 X9 _,AR W y k S d _ 0 _ v _ rfl z (W.frame _ _ _ g λ b r o e=>?_) H (Q8 _ p rfl) λ C x f u i=>?_⟩
 ·exact(Q7 _ _ (λ h:S=b=>d (by rw[h];exact r))).trans e
 ·exact E C x f u λ b o l m e=>i b o l m ((Q7 _ _ (Ne.symm m)).trans (j b o l e))
def AT
  (h:wpAny Kc A.in1 (pyIter x) (λ l a=>∃I fp wr n P St g,l=.ref I/\Walks prog w A.in1 I fp wr n P St/\St 0 a.heap/\(∀b∈fp,b<a.heap.objs.size)/\0<n/\jU prog w A.in1 P St g /\
   ∀v h' tk,P (argBest g (n - 1)) v->(∀b o,b∉wr->a.heap.get? b=some o->h'.get? b=some o)->Q v {a with heap:=h',toks:=tk}) E s) :
  wpAny Kc A (call (.builtin "min") [x]) Q E s:=by
 have c:(toString "min" ++ toString ".loop" : JW) = "min.loop":=by decide
 refine call_function_tree F.kind_min F.plain_min F.entry_min (F.args_min1 _) ?_
 show wpAny _ A.in1 _ _ _ s;refine f0 (Y6 (show Builtin.Builtins.bindParams "min" _ 0 ⟨[],[]⟩=pure [none,none]from rfl) ?_);refine f0 (f9 ?_);refine f0 (B3 h (λ l a d=>?_) λ _ _ e=>e);obtain⟨I,fp,wr,n,P,St,g,rfl,W,i,j,m,f,r⟩:=d;refine f0 (C3 ?_);rw[c];refine f9 ⟨K8 X9 _,AS W g f a.heap.objs.size (λ p=>D6 _ (j _ p)) m (W.frame _ _ _ i λ b _ o e=>k6 _ e) (p8 _ rfl) λ v h' tk u q=>?_⟩;exact r v h' tk u λ b o k e=>q b o k (q5 (k7 e)) (k6 _ e)
def Walks.know{St:Nat->JJ->Prop}(W:Walks prog w A I fp wr n P St)(K:JJ->Prop)(l:∀h h',K h->(∀b∈f,∀o,h.get? b=some o->h'.get? b=some o)->K h')(hd:∀t∈f,t∉wr) :
  Walks prog w A I (fp++f) wr n P (λ i h=>St i h/\K h) where
 sub:=λ b c=>B4 _ (W.sub b c)
 frame:=λ i h h' a k=>⟨W.frame i h h' a.1 λ b c=>k b (B4 _ c),l h h' a.2 λ b c=>k b (u4 _ c)⟩
 item:=λ i s Q E p a d=>W.item i s Q E p a.1 λ v h' m q g j=>d v h' m q ⟨g,l _ _ a.2 λ b c o e=>j b o (hd b c) e⟩ j
 done:=λ s Q E a d=>W.done s Q E a.1 d
 self:=λ i s Q E a d=>W.self i s Q E a.1 d
def TrAt(h:JJ)(v:JG)(p:Int×Int×Int):Prop:=∃a o n t1 t2 t3,v=.ref a/\h.get? a=some o/\o.cls=.type "tuple" /\ o.data=.seq #[.int p.1 t1,.int p.2.1 t2,.int p.2.2 t3] n
def AU(B:A.units<cLine)(z:TrAt s.heap u p)(hv:TrAt s.heap v q)(h:Q (.bool (ltT p q)) s):wpAny Kc A (richCompare .Lt u v) Q E s:=by
 obtain⟨a,y,na,r,o,n,rfl,i,J,H⟩:=z;obtain⟨b,x,nb,m,l,k,rfl,g,I,C⟩:=hv;have j:s.TypeIs (.ref a) "tuple":=⟨y,i,J⟩;have Tb:s.TypeIs (.ref b) "tuple":=⟨x,g,I⟩;refine wpAny_richCompare_same_room (op:=.Lt) j Tb F.slot_tuple_lt (F2 F.slot_tuple_lt j F.entry_tuple_lt ?_ (F.args_tuple_lt_2 _ _)) B;show wpAny _ _ (isInstance (.ref b) (.type "tuple") >>= _) _ _ s;refine f0 (aK Tb isSubtype_tuple_tuple ?_);simp only[cu,G1,if_false];refine f0 (wpAny_tupleItemsOf i H ?_);refine f0 (wpAny_tupleItemsOf g C ?_);refine f0 ?_;show wpAny _ _ (forIn [(Value.int p.1 r,Value.int q.1 m),(Value.int p.2.1 o,Value.int q.2.1 l),(Value.int p.2.2 n,Value.int q.2.2 k)] _ _) _ _ s;unfold ltT at h;rw[aL];refine f0 (f0 (eM ?_));by_cases d:p.1=q.1
 ·rw[show(p.1==q.1)=true from g9.mpr d];rw[show(p.1==q.1)=true from g9.mpr d,A7 JX,iX,cw]at h;simp only[cu,G1,if_false];refine f9 ?_;dsimp only;rw[aL];refine f0 (f0 (eM ?_));by_cases c:p.2.1=q.2.1
  ·rw[show(p.2.1==q.2.1)=true from g9.mpr c];rw[show(p.2.1==q.2.1)=true from g9.mpr c,A7 JX,iX,cw]at h;simp only[cu,G1,if_false];refine f9 ?_;dsimp only;rw[aL];refine f0 (f0 (eM ?_));by_cases f:p.2.2=q.2.2
   ·rw[show(p.2.2==q.2.2)=true from g9.mpr f];rw[A7 JX]at h;simp only[cu,G1,if_false];refine f9 ?_;dsimp only;rw[List.forIn_nil];refine f9 ?_;dsimp only;refine f9 ⟨_,rfl,(λ e=>nomatch e),?_⟩;exact h
   ·rw[show(p.2.2==q.2.2)=false from A1.mpr f];simp only[iV,if_true];refine f0 (U3 (f0 (jf (f0 (f9 (f9 ?_))))));dsimp only;refine f9 ?_;dsimp only;exact f9 ⟨_,rfl,(λ e=>nomatch e),h⟩
  ·rw[show(p.2.1==q.2.1)=false from A1.mpr c];rw[show(p.2.1==q.2.1)=false from A1.mpr c,eX,fe]at h;simp only[iV,if_true];refine f0 (U3 (f0 (jf (f0 (f9 (f9 ?_))))));dsimp only;refine f9 ?_;dsimp only;exact f9 ⟨_,rfl,(λ e=>nomatch e),h⟩
 ·rw[show(p.1==q.1)=false from A1.mpr d];rw[show(p.1==q.1)=false from A1.mpr d,eX,fe]at h;simp only[iV,if_true];refine f0 (U3 (f0 (jf (f0 (f9 (f9 ?_))))));dsimp only;refine f9 ?_;dsimp only;exact f9 ⟨_,rfl,(λ e=>nomatch e),h⟩
noncomputable def L6(h:JJ):on JG->on (Int×Int×Int)->Prop
 | [],[]=>True
 | v::vs,p::ps=>TrAt h v p/\L6 h vs ps
 | _,_=>False
noncomputable def fW:on JG->on JI
 | []=>[]
 | .ref a::vs=>a::fW vs
 | _::vs=>fW vs
theorem L6.len:∀{vs:on JG} {ps:on (Int×Int×Int)},L6 h vs ps->vs.length=ps.length
 | [],[],_=>rfl
 | _::_,_::_,x=>by rw[p9,p9,x.2.len]
 | [],_::_,x=>x.elim
 | _::_,[],x=>x.elim
theorem L6.keep:∀{vs:on JG} {ps:on (Int×Int×Int)},L6 h vs ps->(∀b∈fW vs,∀o,h.get? b=some o->h'.get? b=some o)->L6 h' vs ps
 | [],[],_,_=>trivial
 | _::_,_::_,x,k=>by obtain⟨⟨a,o,n,i,g,f,rfl,e,c,d⟩,y⟩:=x;exact⟨⟨a,o,n,i,g,f,rfl,k a (k8 ..) o e,c,d⟩,y.keep λ b j=>k b (k5 _ j)⟩
 | [],_::_,x,_=>x.elim
 | _::_,[],x,_=>x.elim
theorem L6.get:∀{vs:on JG} {ps:on (Int×Int×Int)} {i:Nat} {v:JG},L6 h vs ps->vs[i]? = some v->TrAt h v (ps.getD i (0,0,0))
 | [],[],_,_,_,e=>by simp at e
 | _::_,_::_,0,_,x,e=>by have:=A8 e;subst this;exact x.1
 | _::_,_::_,i+1,_,x,e=>x.2.get (by simpa using e)
 | [],_::_,_,_,x,_=>x.elim
 | _::_,[],_,_,x,_=>x.elim
theorem L6.lt:∀{vs:on JG} {ps:on (Int×Int×Int)},L6 h vs ps->∀b∈fW vs,b<h.objs.size
 | [],[],_,_,f=>nomatch f
 | _::_,_::_,x,b,f=>by
  obtain⟨⟨a,o,n,t1,t2,t3,rfl,e,c,d⟩,y⟩:=x;rcases i5.mp f with rfl | f
  ·exact k7 e
  ·exact y.lt b f
 | [],_::_,x,_,_=>x.elim
 | _::_,[],x,_,_=>x.elim
theorem pZ(x:Int×Int×Int):∀(m:Int×Int×Int) (l:on (Int×Int×Int)),E9 m (l++[x])=if ltT x (E9 m l)then x else E9 m l
 | m,[]=>rfl
 | m,y::l=>pZ x _ l
theorem qc(p:Int×Int×Int)(r:on (Int×Int×Int)):∀k,k<=r.length->(p::r).getD (argBest (λ i j=>ltT ((p::r).getD i (0,0,0)) ((p::r).getD j (0,0,0))) k) (0,0,0)=E9 p (r.take k)
 | 0,_=>by rw[List.take_zero];rfl
 | k+1,h=>by
  have q:=qc p r k JX;have e:r.take (k+1)=r.take k++[r[k]]:=by rw[List.take_append_getElem]
  have a:(p::r).getD (k+1) (0,0,0)=r[k]:=(by rw[r9,nA,n6 JX];rfl);rw[e,pZ];unfold argBest;rw[q,a];cases ltT r[k] (E9 p _)with
  | true=>rw[f8 rfl,f8 rfl];exact a
  | false=>rw[g8 z7,g8 z7];exact q
def AV(J:A.handled=none)(L:A.units+1<cLine)(m:s.heap.IsList l vs.toArray)(f:L6 s.heap vs (p::r))
  (h:∀i v h' tk,vs[i]? = some v->(p::r).getD i (0,0,0)=E9 p r->i<(p::r).length->(∀b o,s.heap.get? b=some o->h'.get? b=some o)->Q v {s with heap:=h',toks:=tk}) :
  wpAny Kc A (call (.builtin "min") [.ref l]) Q E s:=by
 have d:l<s.heap.objs.size:=by obtain⟨_,e,_⟩:=m;exact k7 e
 have B:=f.len;rw[p9]at B;refine AT (bZ m ?_);refine⟨_,_,_,_,_,_,λ i j=>ltT ((p::r).getD i (0,0,0)) ((p::r).getD j (0,0,0)),rfl,Walks.know (cF (A:=A.in1) J s.heap.objs.size l (q5 d) vs.toArray) (λ h=>L6 h vs (p::r)) (λ h h' x k=>x.keep k) (λ t ht z=>?_),
  ⟨⟨⟨_,p8 _ rfl,rfl,rfl⟩,m.push _⟩,f.keep λ b a o e=>k6 _ e⟩,λ b a=>?_,by simp;omega,λ k i j y vj s' Q' E' u I H q=>?_,λ v h' tk K F=>?_⟩
 ·have:=f.lt t ht;rw[u7.mp z]at this;exact D6 _ this
 ·show b<(s.heap.push _).objs.size;rw[D5];rcases C7.mp a with a | a
  ·rcases i5.mp a with rfl | a
   ·exact T6 _
   ·rcases i5.mp a with rfl | a
    ·exact T4 d
    ·cases a
  ·exact T4 (f.lt b a)
 ·have n:vs[i]? = some y:=by simpa using I
  exact AU L (u.2.get n) (u.2.get (by simpa using H)) q
 ·have g:vs.toArray.size - 1=r.length:=by rw[t8];omega
  have c:vs[argBest (λ i j=>ltT ((p::r).getD i (0,0,0)) ((p::r).getD j (0,0,0))) (vs.toArray.size - 1)]? = some v:=by simpa using K
  rw[g]at c;have a:=qc p r r.length (i6 _);rw[List.take_length]at a;refine h _ v h' tk c a ?_ λ b o e=>F b o (λ C=>?_) (k6 _ e)
  ·have:=(v9.mp c).1;rw[p9];omega
  ·rw[u7.mp C]at e;exact absurd (k7 e) (D6 _)
noncomputable def TrsV(K:JQ)(H:Hp):on V->on (Int×Int×Int)->Prop
 | [],[]=>True
 | v::vs,p::ps=>(∃a,v=.ref a/\SqT K H a [.int p.1,.int p.2.1,.int p.2.2])/\TrsV K H vs ps
 | _,_=>False
def AW(h:Vals [x,y,z] a):∃u v w,a=[u,v,w]/\RelV x u/\RelV y v/\RelV z w:=by
 cases h with
 | cons r t=>
  obtain⟨v,w,rfl,c,b⟩:=cJ t;exact⟨_,v,w,rfl,r,c,b⟩
theorem TrsV.at(I:Inv X c σ H s):∀{vs:on V} {ps:on (Int×Int×Int)} {b:on JG},TrsV X.K H vs ps->Vals vs b->L6 s.heap b ps
 | [],[],b,_,r=>by cases r;exact trivial
 | _::_,p::ps,b,x,r=>by
  obtain⟨⟨a,rfl,j⟩,i⟩:=x;cases b with
  | nil=>cases r
  | cons u us=>
   cases r;rename_i r1 h;cases r1;obtain⟨d,g,⟨o,m,l,n,k⟩,_⟩:=I.tuple j;obtain⟨u1,u2,u3,rfl,⟨t,rfl⟩,⟨f,rfl⟩,⟨e,rfl⟩⟩:=AW g;exact⟨⟨a,o,n,t,f,e,rfl,m,l,k⟩,i.at I h⟩
 | [],_::_,_,x,_=>x.elim
 | _::_,[],_,x,_=>x.elim
theorem qd:∀{xs:on V} {us:on JG} {i:Nat} {u:JG},Vals xs us->us[i]? = some u->∃x,xs[i]? = some x/\RelV x u
 | _,_,0,_,.cons r _,e=>by cases e;exact⟨_,rfl,r⟩
 | _,_,i+1,_,.cons _ t,e=>by obtain⟨x,b,a⟩:=qd t (by simpa using e);exact⟨x,by simpa using b,a⟩
 | _,_,_,_,.nil,e=>by simp at e
def AX(m:X.calm=true)(g:X.A.units+1<cLine):z9 X (.builtin "min") (λ b H Q=>∃(a:JI) (vs:on V) (p:Int×Int×Int) (r:on (Int×Int×Int)),b=[.ref a]/\SqL X.K H a vs/\TrsV X.K H vs (p::r) /\
  ∀i v,vs[i]? = some v->(p::r).getD i (0,0,0)=E9 p r->i<(p::r).length->Q v H):=by
 intro d s σ H b us Q I r h;obtain⟨a,vs,p,ps,rfl,j,l,q⟩:=h;obtain⟨u,rfl,r1⟩:=G2 r;cases r1;obtain⟨f,c,e,_⟩:=I.list j;refine AV (I.ok.hd m) g e.isList (l.at I c) λ i v h' tk z y w k=>?_
 obtain⟨x,o,n⟩:=qd c z;exact⟨x,H,I.kept k,n,q i x o y w⟩
def sumL{prog:JN}{w:JM}{A:JO}{E:JG->JH->Prop}{s:JH}{l:JI}{vs:on JG}{ns:on Int}{Q:JG->JH->Prop}(hh:A.handled=none)(hl:s.heap.IsList l vs.toArray)(hi:IntsAre vs ns)
  (h:∀h' tk t,(∀b o,s.heap.get? b=some o->h'.get? b=some o)->Q (.int ns.sum t) {s with heap:=h',toks:=tk}):wpAny Kc A (call (.builtin "sum") [.ref l]) Q E s:=by
 obtain⟨ys,e⟩:=hi.allInts.items;have en:ns=ys.toList.map (·.1):=by rw[←hi.numsOf,←ff,←e]
 rw[e]at hl;refine sum_intListG hh hl λ h' tk t' hk=>?_
 have:=h h' tk t' hk;rw[preSum_eq,List.take_of_length_le (by simp)];rw[en]at this;exact this
def AY(l:X.calm=true):z9 X (.builtin "sum") (λ c H Q=>∃(a:JI) (b:on Int),c=[.ref a]/\SqL X.K H a (b.map V.int)/\Q (.int b.sum) H):=by
 intro d s σ H c us Q I r h;obtain⟨a,b,rfl,j,q⟩:=h;obtain⟨u,rfl,f⟩:=G2 r;cases f;obtain⟨i,e,g,_⟩:=I.list j;exact sumL (I.ok.hd l) g.isList (ba e) λ h' tk t k=>⟨.int _,H,I.kept k,⟨t,rfl⟩,q⟩
noncomputable section
open PySem
structure Sg where
 N:List Str
 sc:List (Str×NameKind)
 fn:List Str
 bl:List Str
 cl:List Str
 top:Bool
 lp:Bool
 co:Arguments->List Stmt->Scope->List Str->Bool
noncomputable def noCo:JS->on JP->JR->on Str->Bool:=λ _ _ _ _=>false
def s9:JK->Bool | .Starred _ _=>true | _=>false
def Z3:JK->Bool | .Slice _ _ _ _=>true | _=>false
def F8:JK->Bool | .Set _ _ _=>true | _=>false
noncomputable def S4:JK->Bool | .ListComp _ _ _ _=>true | .SetComp _ _ _ _=>true | .DictComp _ _ _ _ _=>true | _=>false
noncomputable def any1{α:Type}(o:JF α)(f:α->Bool):Bool:=o.rec false f
def A3(h:any1 o f=true):∃a,o=some a/\f a=true:=by
 cases o with
 | none=>cases h
 | some a=>exact⟨a,rfl,h⟩
@[elab_as_elim] def jV{o:JF b}(h:any1 o f=true){C:JF b->Prop}(k:∀a,f a=true->C (some a)):C o:=let ⟨_,q,h⟩:=A3 h;Eq.mpr (congrArg C q) (k _ h)
noncomputable def inNo{α:Type}(o:JF α)(f:Bool):Bool:=o.rec f λ _=>false
@[elab_as_elim] def S5{o:JF b}(h:inNo o f=true){C:JF b->Prop}(k:f=true->C none):C o:=by
 cases o with
 | none=>exact k h
 | some a=>cases h
noncomputable def in0{α:Type}(l:on α)(f:Bool):Bool:=l.rec f λ _ _ _=>false
@[elab_as_elim] def D9{l:on b}(h:in0 l f=true){C:on b->Prop}(k:f=true->C []):C l:=by
 cases l with
 | nil=>exact k h
 | cons a r=>cases h
noncomputable def inC{α:Type}(l:on α)(f:α->on α->Bool):Bool:=l.rec false λ a r _=>f a r
@[elab_as_elim] def qe{f:b->on b->Bool}(h:inC l f=true){C:on b->Prop}(k:∀a r,f a r=true->C (a::r)):C l:=by
 cases l with
 | nil=>cases h
 | cons a r=>exact k a r h
def in1{α:Type}(l:on α)(f:α->Bool):Bool:=inC l λ a r=>in0 r (f a)
@[elab_as_elim] def N9{f:b->Bool}(h:in1 l f=true){C:on b->Prop}(k:∀a,f a=true->C [a]):C l:=qe h λ a _ h=>D9 h (k a)
def AZ(h:in1 l f=true):∃a,l=[a]/\f a=true:=N9 h λ a h=>⟨a,rfl,h⟩
def in2{α:Type}(l:on α)(f:α->α->Bool):Bool:=inC l λ a r=>in1 r (f a)
@[elab_as_elim] def Z4{f:c->c->Bool}(h:in2 l f=true){C:on c->Prop}(k:∀a b,f a b=true->C [a,b]):C l:=qe h λ a _ h=>N9 h (k a)
noncomputable def qf(e:JK):JF {t:Str×Pos // e=.Name t.1 t.2}:=match e with | .Name x p=>some ⟨(x,p),rfl⟩ | _=>none
@[irreducible] def G7(e:JK)(f:Str->Bool):Bool:=any1 (qf e) λ t=>f t.1.1
@[elab_as_elim] def J5(h:G7 e g=true){C:JK->Prop}(k:∀x p,g x=true->C (.Name x p)):C e:=by
 unfold G7 at h;exact let ⟨t,_,h⟩:=A3 h;Eq.mpr (congrArg C t.2) (k _ _ h)
noncomputable def Ba(e:JK):JF {t:Const×Nat×Pos // e=.Constant t.1 t.2.1 t.2.2}:=match e with | .Constant x k p=>some ⟨(x,k,p),rfl⟩ | _=>none
noncomputable def qg(e:JK):JF {t:JK×JV×JK×Pos // e=.BinOp t.1 t.2.1 t.2.2.1 t.2.2.2}:=match e with | .BinOp a o b p=>some ⟨(a,o,b,p),rfl⟩ | _=>none
@[irreducible] def jW(e:JK)(f:JK->JV->JK->Bool):Bool:=any1 (qg e) λ t=>f t.1.1 t.1.2.1 t.1.2.2.1
@[elab_as_elim] def qh(h:jW e g=true){C:JK->Prop}(k:∀a o b p,g a o b=true->C (.BinOp a o b p)):C e:=by
 unfold jW at h;exact let ⟨t,_,h⟩:=A3 h;Eq.mpr (congrArg C t.2) (k _ _ _ _ h)
noncomputable def Bb(e:JK):JF {t:UnaryOp×JK×Pos // e=.UnaryOp t.1 t.2.1 t.2.2}:=match e with | .UnaryOp o a p=>some ⟨(o,a,p),rfl⟩ | _=>none
@[irreducible] def inUn(e:JK)(f:UnaryOp->JK->Bool):Bool:=any1 (Bb e) λ t=>f t.1.1 t.1.2.1
@[elab_as_elim] def fX(h:inUn e g=true){C:JK->Prop}(k:∀o a p,g o a=true->C (.UnaryOp o a p)):C e:=by
 unfold inUn at h;exact let ⟨t,_,h⟩:=A3 h;Eq.mpr (congrArg C t.2) (k _ _ _ h)
noncomputable def Bc(e:JK):JF {t:JK×(on CmpOp)×(on JK)×Pos // e=.Compare t.1 t.2.1 t.2.2.1 t.2.2.2}:=match e with | .Compare a os bs p=>some ⟨(a,os,bs,p),rfl⟩ | _=>none
@[irreducible] def fY(e:JK)(f:JK->(on CmpOp)->(on JK)->Bool):Bool:=any1 (Bc e) λ t=>f t.1.1 t.1.2.1 t.1.2.2.1
@[elab_as_elim] def qi(h:fY e g=true){C:JK->Prop}(k:∀a b bs p,g a b bs=true->C (.Compare a b bs p)):C e:=by
 unfold fY at h;exact let ⟨t,_,h⟩:=A3 h;Eq.mpr (congrArg C t.2) (k _ _ _ _ h)
noncomputable def Bd(e:JK):JF {t:BoolOp×(on JK)×Pos // e=.BoolOp t.1 t.2.1 t.2.2}:=match e with | .BoolOp o es p=>some ⟨(o,es,p),rfl⟩ | _=>none
@[irreducible] def fZ(e:JK)(f:BoolOp->(on JK)->Bool):Bool:=any1 (Bd e) λ t=>f t.1.1 t.1.2.1
@[elab_as_elim] def ga(h:fZ e g=true){C:JK->Prop}(k:∀o a p,g o a=true->C (.BoolOp o a p)):C e:=by
 unfold fZ at h;exact let ⟨t,_,h⟩:=A3 h;Eq.mpr (congrArg C t.2) (k _ _ _ h)
noncomputable def Be(e:JK):JF {t:JK×JK×JK×Pos // e=.IfExp t.1 t.2.1 t.2.2.1 t.2.2.2}:=match e with | .IfExp c a b p=>some ⟨(c,a,b,p),rfl⟩ | _=>none
@[irreducible] def inIf(e:JK)(f:JK->JK->JK->Bool):Bool:=any1 (Be e) λ t=>f t.1.1 t.1.2.1 t.1.2.2.1
@[elab_as_elim] def qj(h:inIf e g=true){C:JK->Prop}(k:∀c a b p,g c a b=true->C (.IfExp c a b p)):C e:=by
 unfold inIf at h;exact let ⟨t,_,h⟩:=A3 h;Eq.mpr (congrArg C t.2) (k _ _ _ _ h)
noncomputable def Bf(e:JK):JF {t:(on JK)×Pos // e=.List t.1 t.2}:=match e with | .List es p=>some ⟨(es,p),rfl⟩ | _=>none
@[irreducible] def jX(e:JK)(f:(on JK)->Bool):Bool:=any1 (Bf e) λ t=>f t.1.1
@[elab_as_elim] def qk(h:jX e g=true){C:JK->Prop}(k:∀a p,g a=true->C (.List a p)):C e:=by
 unfold jX at h;exact let ⟨t,_,h⟩:=A3 h;Eq.mpr (congrArg C t.2) (k _ _ h)
noncomputable def ql(e:JK):JF {t:(on JK)×Nat×Pos // e=.Tuple t.1 t.2.1 t.2.2}:=match e with | .Tuple es k p=>some ⟨(es,k,p),rfl⟩ | _=>none
@[irreducible] def cS(e:JK)(f:(on JK)->Bool):Bool:=any1 (ql e) λ t=>f t.1.1
@[elab_as_elim] def gb(h:cS e g=true){C:JK->Prop}(k:∀a k p,g a=true->C (.Tuple a k p)):C e:=by
 unfold cS at h;exact let ⟨t,_,h⟩:=A3 h;Eq.mpr (congrArg C t.2) (k _ _ _ h)
noncomputable def Bg(e:JK):JF {t:JK×JK×Pos // e=.Subscript t.1 t.2.1 t.2.2}:=match e with | .Subscript a b p=>some ⟨(a,b,p),rfl⟩ | _=>none
@[irreducible] def Z5(e:JK)(f:JK->JK->Bool):Bool:=any1 (Bg e) λ t=>f t.1.1 t.1.2.1
@[elab_as_elim] def U9(h:Z5 e g=true){C:JK->Prop}(k:∀a b p,g a b=true->C (.Subscript a b p)):C e:=by
 unfold Z5 at h;exact let ⟨t,_,h⟩:=A3 h;Eq.mpr (congrArg C t.2) (k _ _ _ h)
noncomputable def Bh(e:JK):JF {t:(JF JK)×(JF JK)×(JF JK)×Pos // e=.Slice t.1 t.2.1 t.2.2.1 t.2.2.2}:=match e with | .Slice a b c p=>some ⟨(a,b,c,p),rfl⟩ | _=>none
@[irreducible] def jY(e:JK)(f:(JF JK)->(JF JK)->(JF JK)->Bool):Bool:=any1 (Bh e) λ t=>f t.1.1 t.1.2.1 t.1.2.2.1
@[elab_as_elim] def Bj(h:jY e g=true){C:JK->Prop}(k:∀a b c p,g a b c=true->C (.Slice a b c p)):C e:=by
 unfold jY at h;exact let ⟨t,_,h⟩:=A3 h;Eq.mpr (congrArg C t.2) (k _ _ _ _ h)
noncomputable def Bk(e:JK):JF {t:JK×(on JK)×(on Keyword)×Pos // e=.Call t.1 t.2.1 t.2.2.1 t.2.2.2}:=match e with | .Call f as ks p=>some ⟨(f,as,ks,p),rfl⟩ | _=>none
@[irreducible] def gc(e:JK)(f:JK->(on JK)->(on Keyword)->Pos->Bool):Bool:=any1 (Bk e) λ t=>f t.1.1 t.1.2.1 t.1.2.2.1 t.1.2.2.2
@[elab_as_elim] def qm(h:gc e g=true){C:JK->Prop}(k:∀f as a p,g f as a p=true->C (.Call f as a p)):C e:=by
 unfold gc at h;exact let ⟨t,_,h⟩:=A3 h;Eq.mpr (congrArg C t.2) (k _ _ _ _ h)
noncomputable def Bl(e:JK):JF {t:JK×Str×Pos // e=.Attribute t.1 t.2.1 t.2.2}:=match e with | .Attribute a n p=>some ⟨(a,n,p),rfl⟩ | _=>none
@[irreducible] def Z6(e:JK)(f:JK->Str->Pos->Bool):Bool:=any1 (Bl e) λ t=>f t.1.1 t.1.2.1 t.1.2.2
@[elab_as_elim] def cT(h:Z6 e g=true){C:JK->Prop}(k:∀a n p,g a n p=true->C (.Attribute a n p)):C e:=by
 unfold Z6 at h;exact let ⟨t,_,h⟩:=A3 h;Eq.mpr (congrArg C t.2) (k _ _ _ h)
noncomputable def Bm(e:JK):JF {t:JK×(on Comprehension)×JR×Pos // e=.ListComp t.1 t.2.1 t.2.2.1 t.2.2.2}:=match e with | .ListComp x gs sc p=>some ⟨(x,gs,sc,p),rfl⟩ | _=>none
@[irreducible] def jZ(e:JK)(f:JK->(on Comprehension)->JR->Bool):Bool:=any1 (Bm e) λ t=>f t.1.1 t.1.2.1 t.1.2.2.1
@[elab_as_elim] def Bn(h:jZ e g=true){C:JK->Prop}(k:∀x a sc p,g x a sc=true->C (.ListComp x a sc p)):C e:=by
 unfold jZ at h;exact let ⟨t,_,h⟩:=A3 h;Eq.mpr (congrArg C t.2) (k _ _ _ _ h)
noncomputable def Bo(e:JK):JF {t:(on (JF JK))×(on JK)×Pos // e=.Dict t.1 t.2.1 t.2.2}:=match e with | .Dict ks vs p=>some ⟨(ks,vs,p),rfl⟩ | _=>none
@[irreducible] def ka(e:JK)(f:(on (JF JK))->(on JK)->Bool):Bool:=any1 (Bo e) λ t=>f t.1.1 t.1.2.1
@[elab_as_elim] def Bp(h:ka e g=true){C:JK->Prop}(k:∀ks vs p,g ks vs=true->C (.Dict ks vs p)):C e:=by
 unfold ka at h;exact let ⟨t,_,h⟩:=A3 h;Eq.mpr (congrArg C t.2) (k _ _ _ h)
noncomputable def Bq(e:JK):JF {t:JS×JK×JR×Pos // e=.Lambda t.1 t.2.1 t.2.2.1 t.2.2.2}:=match e with | .Lambda pr bd sc p=>some ⟨(pr,bd,sc,p),rfl⟩ | _=>none
@[irreducible] def kb(e:JK)(f:JS->JK->JR->Pos->Bool):Bool:=any1 (Bq e) λ t=>f t.1.1 t.1.2.1 t.1.2.2.1 t.1.2.2.2
@[elab_as_elim] def Br(h:kb e g=true){C:JK->Prop}(k:∀a b sc p,g a b sc p=true->C (.Lambda a b sc p)):C e:=by
 unfold kb at h;exact let ⟨t,_,h⟩:=A3 h;Eq.mpr (congrArg C t.2) (k _ _ _ _ h)
noncomputable def Bs(e:JP):JF {t:(on JK)×JK×Pos // e=.Assign t.1 t.2.1 t.2.2}:=match e with | .Assign t v p=>some ⟨(t,v,p),rfl⟩ | _=>none
@[irreducible] def ke(e:JP)(f:(on JK)->JK->Pos->Bool):Bool:=any1 (Bs e) λ t=>f t.1.1 t.1.2.1 t.1.2.2
@[elab_as_elim] def Bt(h:ke e g=true){C:JP->Prop}(k:∀t v p,g t v p=true->C (.Assign t v p)):C e:=by
 unfold ke at h;exact let ⟨t,_,h⟩:=A3 h;Eq.mpr (congrArg C t.2) (k _ _ _ h)
noncomputable def Bu(e:JP):JF {t:JK×Pos // e=.Expr t.1 t.2}:=match e with | .Expr v p=>some ⟨(v,p),rfl⟩ | _=>none
@[irreducible] def cU(e:JP)(f:JK->Pos->Bool):Bool:=any1 (Bu e) λ t=>f t.1.1 t.1.2
@[elab_as_elim] def kf(h:cU e g=true){C:JP->Prop}(k:∀v p,g v p=true->C (.Expr v p)):C e:=by
 unfold cU at h;exact let ⟨t,_,h⟩:=A3 h;Eq.mpr (congrArg C t.2) (k _ _ h)
noncomputable def Bv(e:JP):JF {t:(JF JK)×Pos // e=.Return t.1 t.2}:=match e with | .Return v p=>some ⟨(v,p),rfl⟩ | _=>none
@[irreducible] def kg(e:JP)(f:(JF JK)->Pos->Bool):Bool:=any1 (Bv e) λ t=>f t.1.1 t.1.2
@[elab_as_elim] def Bw(h:kg e g=true){C:JP->Prop}(k:∀v p,g v p=true->C (.Return v p)):C e:=by
 unfold kg at h;exact let ⟨t,_,h⟩:=A3 h;Eq.mpr (congrArg C t.2) (k _ _ h)
noncomputable def Bx(e:JP):JF {t:JK×(on JP)×(on JP)×Pos // e=.If t.1 t.2.1 t.2.2.1 t.2.2.2}:=match e with | .If c a b p=>some ⟨(c,a,b,p),rfl⟩ | _=>none
@[irreducible] def kh(e:JP)(f:JK->(on JP)->(on JP)->Pos->Bool):Bool:=any1 (Bx e) λ t=>f t.1.1 t.1.2.1 t.1.2.2.1 t.1.2.2.2
@[elab_as_elim] def By(h:kh e g=true){C:JP->Prop}(k:∀c a b p,g c a b p=true->C (.If c a b p)):C e:=by
 unfold kh at h;exact let ⟨t,_,h⟩:=A3 h;Eq.mpr (congrArg C t.2) (k _ _ _ _ h)
noncomputable def Bz(e:JP):JF {t:JK×JK×(on JP)×(on JP)×Pos // e=.For t.1 t.2.1 t.2.2.1 t.2.2.2.1 t.2.2.2.2}:=match e with | .For t i b o p=>some ⟨(t,i,b,o,p),rfl⟩ | _=>none
@[irreducible] def ki(e:JP)(f:JK->JK->(on JP)->(on JP)->Pos->Bool):Bool:=any1 (Bz e) λ t=>f t.1.1 t.1.2.1 t.1.2.2.1 t.1.2.2.2.1 t.1.2.2.2.2
@[elab_as_elim] def BA(h:ki e g=true){C:JP->Prop}(k:∀t i b o p,g t i b o p=true->C (.For t i b o p)):C e:=by
 unfold ki at h;exact let ⟨t,_,h⟩:=A3 h;Eq.mpr (congrArg C t.2) (k _ _ _ _ _ h)
noncomputable def BB(e:JP):JF {t:JK×(on JP)×(on JP)×Pos // e=.While t.1 t.2.1 t.2.2.1 t.2.2.2}:=match e with | .While t b o p=>some ⟨(t,b,o,p),rfl⟩ | _=>none
@[irreducible] def inWh(e:JP)(f:JK->(on JP)->(on JP)->Pos->Bool):Bool:=any1 (BB e) λ t=>f t.1.1 t.1.2.1 t.1.2.2.1 t.1.2.2.2
@[elab_as_elim] def BC(h:inWh e g=true){C:JP->Prop}(k:∀t b o p,g t b o p=true->C (.While t b o p)):C e:=by
 unfold inWh at h;exact let ⟨t,_,h⟩:=A3 h;Eq.mpr (congrArg C t.2) (k _ _ _ _ h)
noncomputable def BD(e:JP):JF {t:JK×JV×JK×Pos // e=.AugAssign t.1 t.2.1 t.2.2.1 t.2.2.2}:=match e with | .AugAssign t o v p=>some ⟨(t,o,v,p),rfl⟩ | _=>none
@[irreducible] def kj(e:JP)(f:JK->JV->JK->Pos->Bool):Bool:=any1 (BD e) λ t=>f t.1.1 t.1.2.1 t.1.2.2.1 t.1.2.2.2
@[elab_as_elim] def BE(h:kj e g=true){C:JP->Prop}(k:∀t o v p,g t o v p=true->C (.AugAssign t o v p)):C e:=by
 unfold kj at h;exact let ⟨t,_,h⟩:=A3 h;Eq.mpr (congrArg C t.2) (k _ _ _ _ h)
def qo(e:JK)(f:JK->CmpOp->JK->Bool):Bool:=fY e λ a os bs=>in1 os λ o=>in1 bs λ b=>f a o b
@[elab_as_elim] def qp(h:qo e f=true){C:JK->Prop}(k:∀a o b p,f a o b=true->C (.Compare a [o] [b] p)):C e:=qi h λ a _ _ p h=>N9 h λ o h=>N9 h λ b h=>k a o b p h
def qr(e:JK)(f:JK->CmpOp->CmpOp->JK->JK->Bool):Bool:=fY e λ a os bs=>in2 os λ o o2=>in2 bs λ b c=>f a o o2 b c
@[elab_as_elim] def qt(h:qr e f=true){C:JK->Prop}(k:∀a o d b c p,f a o d b c=true->C (.Compare a [o,d] [b,c] p)):C e:=qi h λ a _ _ p h=>Z4 h λ o d h=>Z4 h λ b c h=>k a o d b c p h
def qu(e:JK)(f:JK->JK->Bool):Bool:=jY e λ a b c=>inNo c (any1 a λ x=>any1 b (f x))
@[elab_as_elim] def BF(h:qu e f=true){C:JK->Prop}(k:∀x y p,f x y=true->C (.Slice (some x) (some y) none p)):C e:=Bj h λ _ _ _ p h=>S5 h λ h=>jV h λ x h=>jV h λ y h=>k x y p h
def inCl(e:JK)(f:JK->on JK->Pos->Bool):Bool:=gc e λ g as ks p=>in0 ks (f g as p)
@[elab_as_elim] def J6(h:inCl e f=true){C:JK->Prop}(k:∀g as p,f g as p=true->C (.Call g as [] p)):C e:=qm h λ g as _ p h=>D9 h (k g as p)
def kq(e:JK)(f:JK->Pos->Bool):Bool:=inCl e λ g as p=>in0 as (f g p)
@[elab_as_elim] def kr(h:kq e f=true){C:JK->Prop}(k:∀g p,f g p=true->C (.Call g [] [] p)):C e:=J6 h λ g _ p h=>D9 h (k g p)
def cV(e:JK)(f:JK->JK->Pos->Bool):Bool:=inCl e λ g as p=>in1 as λ a=>f g a p
@[elab_as_elim] def cW(h:cV e f=true){C:JK->Prop}(k:∀g a p,f g a p=true->C (.Call g [a] [] p)):C e:=J6 h λ g _ p h=>N9 h λ a h=>k g a p h
def qv(e:JK)(f:JK->JK->JK->Pos->Bool):Bool:=inCl e λ g as p=>in2 as λ a b=>f g a b p
@[elab_as_elim] def qw(h:qv e f=true){C:JK->Prop}(k:∀g a b p,f g a b p=true->C (.Call g [a,b] [] p)):C e:=J6 h λ g _ p h=>Z4 h λ a b h=>k g a b p h
def qx(e:JK)(f:Bool):Bool:=ka e λ ks vs=>in0 ks (in0 vs f)
@[elab_as_elim] def BG(h:qx e f=true){C:JK->Prop}(k:∀p,f=true->C (.Dict [] [] p)):C e:=Bp h λ _ _ p h=>D9 h λ h=>D9 h λ h=>k p h
noncomputable def BH(e:JP):JF {t:Str×JS×on JP×JR×Str×Pos // e=.FunctionDef t.1 t.2.1 t.2.2.1 [] none [] t.2.2.2.1 none t.2.2.2.2.1 t.2.2.2.2.2}:=match e with | .FunctionDef n a b [] none [] sc none bd p=>some ⟨(n,a,b,sc,bd,p),rfl⟩ | _=>none
@[irreducible] def inFd(e:JP)(f:Str->JS->on JP->JR->Str->Bool):Bool:=any1 (BH e) λ t=>f t.1.1 t.1.2.1 t.1.2.2.1 t.1.2.2.2.1 t.1.2.2.2.2.1
@[elab_as_elim] def BI(h:inFd e g=true){C:JP->Prop}(k:∀n a b sc bd p,g n a b sc bd=true->C (.FunctionDef n a b [] none [] sc none bd p)):C e:=by
 unfold inFd at h;exact let ⟨t,_,h⟩:=A3 h;Eq.mpr (congrArg C t.2) (k _ _ _ _ _ _ h)
def qy(e:JK)(f:JK->on JK->JF Str->JK->Bool):Bool:=gc e λ g as ks p=>in1 ks λ w=>f g as w.arg w.value
@[elab_as_elim] def BJ(h:qy e f=true){C:JK->Prop}(k:∀g b a v q p,f g b a v=true->C (.Call g b [⟨a,v,q⟩] p)):C e:=qm h λ g b _ p h=>N9 h λ ⟨a,v,q⟩ h=>k g b a v q p h
def inCk(e:JK)(f:JK->JK->JF Str->JK->Bool):Bool:=qy e λ g as a v=>in1 as λ b=>f g b a v
@[elab_as_elim] def qz(h:inCk e f=true){C:JK->Prop}(k:∀g b a v q p,f g b a v=true->C (.Call g [b] [⟨a,v,q⟩] p)):C e:=BJ h λ g _ a v q p h=>N9 h λ b h=>k g b a v q p h
def bc(e:JP)(f:JK->JK->Pos->Bool):Bool:=ke e λ ts v p=>in1 ts λ t=>f t v p
@[elab_as_elim] def cX(h:bc e f=true){C:JP->Prop}(k:∀t v p,f t v p=true->C (.Assign [t] v p)):C e:=Bt h λ _ v p h=>N9 h λ t h=>k t v p h
def gf(e:JP)(f:JK->Pos->Bool):Bool:=kg e λ o p=>any1 o λ v=>f v p
@[elab_as_elim] def kt(h:gf e f=true){C:JP->Prop}(k:∀v p,f v p=true->C (.Return (some v) p)):C e:=Bw h λ _ p h=>jV h λ v h=>k v p h
def qA(e:JP)(f:JK->JK->on JP->Pos->Bool):Bool:=ki e λ t i b o p=>in0 o (f t i b p)
@[elab_as_elim] def BK(h:qA e f=true){C:JP->Prop}(k:∀t i b p,f t i b p=true->C (.For t i b [] p)):C e:=BA h λ t i b _ p h=>D9 h (k t i b p)
def qB(e:JP)(f:JK->on JP->Pos->Bool):Bool:=inWh e λ t b o p=>in0 o (f t b p)
@[elab_as_elim] def BL(h:qB e f=true){C:JP->Prop}(k:∀t b p,f t b p=true->C (.While t b [] p)):C e:=BC h λ t b _ p h=>D9 h (k t b p)
def J7(e:JK):JF Str:=(qf e).map λ t=>t.1.1
def be(e:JK):JF Const:=(Ba e).map λ t=>t.1.1
def L7(e:JK):JF (on JK):=(ql e).map λ t=>t.1.1
def qC(e:JK):JF (JK×JV×JK):=(qg e).map λ t=>(t.1.1,t.1.2.1,t.1.2.2.1)
def mpd{o:JF d}(h:o.map f=some b):∃a,f a=b:=by
 cases o with
 | none=>cases h
 | some a=>cases h;exact⟨a,rfl⟩
def S6(h:J7 e=some x):∃p,e=.Name x p:=let ⟨t,h⟩:=mpd h;⟨_,h▸t.2⟩
def qD(h:be e=some x):∃k p,e=.Constant x k p:=let ⟨t,h⟩:=mpd h;⟨_,_,h▸t.2⟩
def cY{e:JK}{es:on JK}(h:L7 e=some es):∃k p,e=.Tuple es k p:=let ⟨t,h⟩:=mpd h;⟨_,_,h▸t.2⟩
def BM(h:qC e=some (a,o,b)):∃p,e=.BinOp a o b p:=by
 obtain⟨⟨⟨_,_,_,p⟩,z⟩,h⟩:=mpd h;cases h;exact⟨p,z⟩
structure CParts where
 elt:Expr
 tg:Expr
 it:Expr
 ifs:List Expr
 sc:Scope
def inCp(e:JK)(f:CParts->Bool):Bool:=jZ e λ x gs sc=>in1 gs λ g=>decide (g.is_async=0)&&f ⟨x,g.target,g.iter,g.ifs,sc⟩
@[elab_as_elim] def gh(h:inCp e f=true){C:JK->Prop}(k:∀c p,f c=true->C (.ListComp c.elt [⟨c.tg,c.it,c.ifs,0⟩] c.sc p)):C e:=by
 refine Bn h λ x gs d p h=>N9 h λ ⟨b,g,a,w⟩ h=>?_;obtain⟨i,h⟩:=J1.mp h;obtain rfl:=eL i;exact k ⟨x,b,g,a,d⟩ p h
noncomputable def visB(sg:Sg)(x:Str):Bool:=sg.sc.lookup x==some .local||sg.sc.lookup x==some .cell||sg.sc.lookup x==some .free
noncomputable def gloB(sg:Sg)(x:Str):Bool:=sg.sc.lookup x==some .globalImplicit
noncomputable def locB(sg:Sg)(x:Str):Bool:=sg.sc.lookup x==some .local||sg.sc.lookup x==some .cell
def S7(sg:Sg)(i:Nat)(x:Str):Bool:=sg.N[i]? == some x&&visB sg x&&x != "__debug__" && x != "__classdict__"
def bltB(sg:Sg)(x:Str)(f:JK):Bool:=J7 f==some x&&gloB sg x&&sg.bl.contains x
noncomputable def BN:Bi->Str
 | .len=>"len" | .min=>"min" | .max=>"max" | .sum=>"sum" | .sset=>"sorted" | .int=>"int" | .tuple=>"tuple" | .list=>"list" | .abs=>"abs"
noncomputable def qE:Mt->Str
 | .bitLength=>"bit_length" | .index=>"index" | .get=>"get"
noncomputable def F9(sg:Sg)(tn:on Str)(fr:on (JF Nat)):on Str:=tn++(fr.drop tn.length).map λ o=>match o with | some i=>sg.N.getD i "" | none=>""
def qF:Tg->JK->JF (on Str)
 | .one _,e=>(J7 e).map λ x=>[x]
 | .many is,e=>match L7 e with
  | some es=>if es.length=is.length then es.mapM J7 else none
  | none=>none
def tgOk(sg:Sg):Tg->JK->Bool
 | .one i,e=>match J7 e with
  | some x=>sg.N[i]? == some x&&locB sg x
  | none=>false
 | .many is,e=>match L7 e with
  | some es=>es.length==is.length&&2<=es.length&&(is.zip es).all λ p=>match J7 p.2 with
   | some x=>sg.N[p.1]? == some x&&locB sg x
   | none=>false
  | none=>false
noncomputable def N0:on Str->Bool
 | []=>true
 | x::r=>!r.contains x&&N0 r
def Z7:Tg->on Nat
 | .one i=>[i]
 | .many is=>is
def Z8(sg:Sg)(N':on Str)(fr:on (JF Nat))(sc:JR)(tg:Tg):Bool:=(Z7 tg).all (λ i=>fr[i]? == some none) &&
 sc.kind == .function&&N0 N'&&N0 (sc.names.map (·.1))&&fr.length==N'.length &&
 (fr.zip N').all (λ p=>match p.1 with | some i=>sg.N[i]? == some p.2&&sc.names.contains (p.2,.free) | none=>true) &&
 sc.names.all λ y=>if y.2 == .free then sg.sc.lookup y.1==some .cell||sg.sc.lookup y.1==some .free else true
def BO(p:JS)(ps:on Str):Bool:=match p with | ⟨po,ar,va,ko,kd,kw,df⟩=>in0 po (in2 ar λ a b=>inNo va (in0 ko (in0 kd (inNo kw (in0 df (a.arg == "r" && b.arg == "c" && ps==(["r","c"]:on Str)))))))
def BP(p:JS)(ps:on Str):Bool:=match p with | ⟨po,ar,va,ko,kd,kw,df⟩=>in0 po (in1 ar λ a=>inNo va (in0 ko (in0 kd (inNo kw (in0 df ((["way","entry","word"]:on Str).contains a.arg&&ps==[a.arg]))))))
def cZ(p:JS)(ps:on Str):Bool:=BO p ps||BP p ps
@[elab_as_elim] def qG(h:cZ p ps=true){C:JS->on Str->Prop}(k:∀x y z w,C ⟨[],[⟨"r",x,y⟩,⟨"c",z,w⟩],none,[],[],none,[]⟩ ["r","c"])
  (k1:∀a x y,a∈(["way","entry","word"]:on Str)->C ⟨[],[⟨a,x,y⟩],none,[],[],none,[]⟩ [a]):C p ps:=by
 obtain⟨po,ar,va,ko,kd,kw,df⟩:=p;rcases Bool.or_eq_true_iff.mp h with h | h
 ·refine D9 h λ h=>Z4 h λ ⟨x,b,p1⟩ ⟨y,c,p2⟩ h=>S5 h λ h=>D9 h λ h=>D9 h λ h=>S5 h λ h=>D9 h λ h=>?_;simp only[g6,g9]at h;obtain⟨⟨rfl,rfl⟩,rfl⟩:=h;exact k b p1 c p2
 ·refine D9 h λ h=>N9 h λ ⟨x,b,p1⟩ h=>S5 h λ h=>D9 h λ h=>D9 h λ h=>S5 h λ h=>D9 h λ h=>?_;simp only[g6,g9,O4]at h;obtain⟨d,rfl⟩:=h;exact k1 x b p1 d
def qH(sg:Sg)(N:on Str)(np:Nat)(fr:on Nat)(pr:JS)(sc:JR):Bool:=cZ pr (N.take np)&&sc.kind == .function && !sc.isCoroutine && !sc.isGenerator&&N0 N&&N0 (sc.names.map (·.1))&&decide (N.length=np+fr.length) &&
 (N.take np).all (λ x=>sc.names.lookup x==some .local)&&sc.names.all (λ y=>y.2 != .cell)&&(N.drop np).all (λ x=>sc.names.lookup x==some .free)&&(fr.zip (N.drop np)).all (λ p=>sg.N[p.1]? == some p.2) &&
 sg.sc.lookup n7 != some .cell&&sc.names.all λ y=>if y.2 == .free then sg.sc.lookup y.1==some .cell||(!sg.top&&sg.sc.lookup y.1==some .free)else true
def da(p:JS)(ps:on Str):Bool:=match p with | ⟨po,ar,va,ko,kd,kw,df⟩=>in0 po (in2 ar λ a b=>inNo a.annotation (inNo b.annotation (inNo va (in0 ko (in0 kd (inNo kw (in0 df (a.arg == "part" && b.arg == "left" && ps==(["part","left"]:on Str)))))))))
@[elab_as_elim] def ku(h:da p ps=true){C:JS->on Str->Prop}(k:∀x y,C ⟨[],[⟨"part",none,x⟩,⟨"left",none,y⟩],none,[],[],none,[]⟩ ["part","left"]):C p ps:=by
 obtain⟨po,ar,va,ko,kd,kw,df⟩:=p;refine D9 h λ h=>Z4 h λ ⟨x,b,d⟩ ⟨y,a,c⟩ h=>S5 (o:=b) h λ h=>S5 (o:=a) h λ h=>S5 h λ h=>D9 h λ h=>D9 h λ h=>S5 h λ h=>D9 h λ h=>?_
 simp only[g6,g9]at h;obtain⟨⟨rfl,rfl⟩,rfl⟩:=h;exact k d c
def ky(sg:Sg)(i:Nat)(fr:on Nat)(ss:on JP)(f:JK->on JK->Bool):Bool:=sg.top&&sg.sc.lookup n7==some .cell&&(in2 ss λ a b=>inFd a λ n pr bd sc x=>n==n7&&x==n7&&sg.N[i]? == some n7&&sg.co pr bd sc (fr.map λ j=>sg.N.getD j "")&&fr.all (λ j=>decide (j<sg.N.length)) &&
 (sc.names.all λ y=>if y.2 == .free then sg.sc.lookup y.1==some .cell else true)&&(gf b λ v _=>cS v λ ts=>in2 ts λ ea ec=>inCl ec λ ef es _=>(G7 ef λ x=>x==n7) && !es.isEmpty && !s9 ea&&f ea es))
noncomputable def qI:ME->Bool
 | .comp _ _ _ _=>true
 | .compi _ _ _ _ _=>true
 | _=>false
noncomputable def isZp:ME->Bool
 | .enu _=>true
 | .itm _=>true
 | _=>false
mutual
def corE(sg:Sg)(w:Bool):ME->JK->Bool
 | .var i,e=>G7 e λ x=>S7 sg i x
 | .int i,e=>be e==some (.int i)
 | .bl i,e=>be e==some (.bool i)
 | .str x,e=>be e==some (.str x)&&decide (x.length<=1000)
 | .non,e=>be e==some .none
 | .glb x,e=>J7 e==some x&&gloB sg x&&x != "__debug__"
 | .bin op a b,e=>jW e λ ea o eb=>o==op&&corE sg false a ea&&corE sg false b eb
 | .neg a,e=>inUn e λ o ea=>o == .USub&&corE sg false a ea
 | .not a,e=>inUn e λ o ea=>o == .Not&&corE sg false a ea
 | .cmp op a b,e=>qo e λ ea o eb=>o==op&&corE sg false a ea&&corE sg false b eb && !F8 eb
 | .chain op op' a b c,e=>qr e λ ea o o' eb ec=>o==op&&o'==op'&&corE sg false a ea&&corE sg false b eb&&corE sg false c ec && !F8 ec
 | .and ms,e=>fZ e λ o es=>o == .And&&t4 sg ms es
 | .or ms,e=>fZ e λ o es=>o == .Or&&t4 sg ms es
 | .lst ms,e=>jX e λ es=>t4 sg ms es
 | .tup ms,e=>cS e λ es=>t4 sg ms es
 | .ix a b,e=>Z5 e λ ea eb=>corE sg false a ea&&corE sg false b eb && !Z3 eb
 | .sl a lo hi,e=>Z5 e λ ea es=>(qu es λ el eh=>corE sg false a ea&&corE sg false lo el&&corE sg false hi eh)
 | .ite c a b,e=>inIf e λ ec ea eb=>corE sg false c ec&&corE sg false a ea&&corE sg false b eb
 | .call f ms,e=>inCl e λ ef es _=>(G7 ef λ x=>sg.fn[f]? == some x&&gloB sg x&&x != "__debug__") && !es.isEmpty&&t4 sg ms es
 | .bi f ms,e=>inCl e λ ef es _=>bltB sg (BN f) ef && !es.isEmpty&&(match f with
   | .sset=>(in1 es λ e1=>inCl e1 λ ef' es' _=>bltB sg "set" ef'&&es'.length==1&&t4 sg ms es')
   | _=>t4 sg ms es)
 | .isi a ts,e=>qv e λ ef ea et _=>bltB sg "isinstance" ef&&corE sg false a ea && !s9 ea && !s9 et&&(match ts with
   | [t]=>J7 et==some t&&gloB sg t&&sg.bl.contains t&&U7.contains t
   | _=>false)
 | .meth m a ms,e=>kq e λ ef pos=>(Z6 ef λ ea n apos=>n==qE m&&corE sg false a ea&&((J7 ea).isSome||(qC ea).isSome)&&apos.endLine==pos.line&&ms.isEmpty)
 | .comp elt tg it fr,e=>inCp e λ c=>c.ifs.isEmpty&&(corE sg true it c.it&&(!isZp it||(L7 c.tg).isSome)) && !F8 c.it&&(any1 (qF tg c.tg) λ tn=>Z8 sg (F9 sg tn fr) fr c.sc tg&&tgOk ⟨F9 sg tn fr,c.sc.names,sg.fn,sg.bl,sg.cl,false,false,noCo⟩ tg c.tg&&corE ⟨F9 sg tn fr,c.sc.names,sg.fn,sg.bl,sg.cl,false,false,noCo⟩ false elt c.elt)
 | .compi elt tg it cd fr,e=>inCp e λ c=>(corE sg true it c.it&&(!isZp it||(L7 c.tg).isSome)) && !F8 c.it&&(any1 (qF tg c.tg) λ tn=>in1 c.ifs λ ec=>Z8 sg (F9 sg tn fr) fr c.sc tg&&tgOk ⟨F9 sg tn fr,c.sc.names,sg.fn,sg.bl,sg.cl,false,false,noCo⟩ tg c.tg&&corE ⟨F9 sg tn fr,c.sc.names,sg.fn,sg.bl,sg.cl,false,false,noCo⟩ false elt c.elt&&corE ⟨F9 sg tn fr,c.sc.names,sg.fn,sg.bl,sg.cl,false,false,noCo⟩ false cd ec)
 | .idx a b,e=>cV e λ ef eb pos=>(Z6 ef λ ea n apos=>n == "index" && corE sg false a ea&&(J7 ea).isSome&&apos.endLine==pos.line&&corE sg false b eb && !s9 eb)
 | .rng ms,e=>w&&(inCl e λ ef es _=>bltB sg "range" ef&&t4 sg ms es&&decide (es.length<=2))
 | .enu a,e=>w&&(cV e λ ef ea _=>bltB sg "enumerate" ef&&corE sg false a ea && !s9 ea)
 | .itm a,e=>w&&(kq e λ ef pos=>(Z6 ef λ o n apos=>n == "items" && corE sg false a o&&apos.endLine==pos.line&&(J7 o).isSome))
 | .dix a k,e=>Z5 e λ ea eb=>corE sg false a ea&&corE sg false k eb && !Z3 eb
 | .callv i xs ms,e=>inCl e λ ef es _=>(G7 ef λ x=>S7 sg i x)&&(xs.all λ p=>sg.fn[p.2]? == some p.1) && !es.isEmpty&&t4 sg ms es
 | .maxk a N np lb fr,e=>sg.lp&&(inCk e λ ef ea kn el=>bltB sg "max" ef&&kn==some "key" && corE sg false a ea && !s9 ea&&(kb el λ pr bd sc _=>qH sg N np fr pr sc&&corE ⟨N,sc.names,sg.fn,sg.bl,sg.cl,false,false,noCo⟩ false lb bd))
 | .self _ _ ms,e=>(sg.lp && !sg.top)&&(inCl e λ ef es _=>(G7 ef λ x=>x==n7) && !es.isEmpty&&t4 sg ms es)
def t4(sg:Sg):on ME->on JK->Bool
 | [],[]=>true
 | m::ms,e::es=>corE sg false m e && !s9 e&&t4 sg ms es
 | _,_=>false
end
def kz(v:JK):Bool:=match L7 v with
 | none=>true
 | some vs=>vs.all (foldedForSure 8)
mutual
def corS(sg:Sg):MS->JP->Bool
 | .set i _ e,s=>bc s λ t v pos=>(G7 t λ x=>sg.N[i]? == some x&&locB sg x&&corE sg false e v&&(!S4 v||qI e))
 | .app i e,s=>cU s λ v _=>(cV v λ ef ea pos=>(Z6 ef λ o n apos=>n == "append" && (G7 o λ x=>S7 sg i x)&&corE sg false e ea && !s9 ea&&apos.endLine==pos.line))
 | .ext i e,s=>cU s λ v _=>(cV v λ ef ea pos=>(Z6 ef λ o n apos=>n == "extend" && (G7 o λ x=>S7 sg i x)&&corE sg false e ea && !s9 ea&&apos.endLine==pos.line))
 | .seti i k e,s=>bc s λ t v _=>(Z5 t λ o ek=>(G7 o λ x=>S7 sg i x)&&corE sg false k ek && !Z3 ek&&corE sg false e v)
 | .exp e,s=>cU s λ v _=>corE sg false e v && !S4 v
 | .ret e,s=>gf s λ v _=>corE sg false e v
 | .iff c a b,s=>kh s λ ec ea eb _=>corE sg false c ec&&C6 sg a ea&&C6 sg b eb
 | .fo tg it body,s=>qA s λ t i b _=>sg.lp&&tgOk sg tg t&&(corE sg true it i&&(!isZp it||(L7 t).isSome)) && !F8 i&&C6 sg body b
 | .wh c body,s=>qB s λ t b _=>sg.lp&&corE sg false c t&&C6 sg body b
 | .sep i,s=>bc s λ t v _=>(G7 t λ x=>(qx v (sg.N[i]? == some x&&locB sg x)))
 | .dpp i ks e,s=>bc s λ t v _=>(Z5 t λ o ek=>(G7 o λ x=>S7 sg i x)&&(cS ek λ es=>t4 sg ks es)&&corE sg false e v && !S4 v)
 | .retd i,s=>gf s λ v _=>(G7 v λ x=>S7 sg i x)
 | .unk,_=>true
 | .sett is e,s=>bc s λ t v _=>tgOk sg (.many is) t&&corE sg false e v&&kz v && !S4 v
 | .aug i e,s=>kj s λ t o v _=>o == .Add&&(G7 t λ x=>sg.N[i]? == some x&&locB sg x)&&corE sg false e v
 | .frz _,_=>false
 | .dfr _ _ _ _,_=>false
def C6(sg:Sg):on MS->on JP->Bool
 | [],[]=>true
 | .dfr i fr a es::ms,ss=>ky sg i fr ss (λ e l=>corE sg false a e&&t4 sg es l)&&ms.isEmpty
 | .frz _::ms,ss=>C6 sg ms ss
 | m::ms,s::ss=>corS sg m s&&C6 sg ms ss
 | _,_=>false
end
def V0(C:CloD)(fn bl cl:on Str)(pr:JS)(bd:on JP)(sc:JR)(cap:on Str):Bool:=da pr (C.N.take C.np)&&C.np==2&&sc.kind == .function && !sc.isCoroutine && !sc.isGenerator&&N0 C.N&&decide (2+C.nc<=C.N.length)&&N0 (sc.names.map (·.1)) &&
 sc.names.lookup ("part" : Str)==some .local&&sc.names.lookup ("left" : Str)==some .cell&&(cap==(C.N.drop 2).take C.nc)&&cap.all (λ x=>sc.names.lookup x==some .free)&&sc.names.lookup n7==some .free&&C6 ⟨C.N,sc.names,fn,bl,cl,false,true,noCo⟩ C.body bd
end
end L2
end
noncomputable section
namespace L2
open PySem PySem.Spec PyProof.Rows
def N1(H:Hp)(q:Str)(params:JS)(body:JK)(scope:JR)(cl:on (Str×JI))(f:JI):Prop:=
 ∃c' oc u vs t pm ctv,H f=some (.frz (PySem.W.kla_obj "<lambda>" q params body scope cl pm c' ctv) (.own f))/\H c'=some (.frz oc u)/\oc.data=.fields vs/\vs[1]? = some (.str q t)
def N1.mono(e:Same H c)(h:N1 H q a body scope cl f):N1 c q a body scope cl f:=by
 obtain⟨l,i,u,d,t,g,b,k,j,r⟩:=h;exact⟨l,i,u,d,t,g,b,e _ _ k,e _ _ j,r⟩
structure LamScope(N ps:List Str)(sc:Scope)(cl:List (Str×Addr))(l:List Addr):Prop where
 kind:sc.kind=.function
 co:sc.isCoroutine=false
 gen:sc.isGenerator=false
 nd:N.Nodup
 pre:N.take ps.length=ps
 par:∀x∈ps,sc.names.lookup x=some .local
 nocell:∀y∈sc.names,y.2 ≠ .cell
 fre:∀i x,ps.length<=i->N[i]? = some x->sc.names.lookup x=some .free
 has:∀x,sc.names.lookup x=some .free->∃c,cl.lookup x=some c
 inj:∀x y c,cl.lookup x=some c->cl.lookup y=some c->x=y
 mem:∀x c,cl.lookup x=some c->c∈l
def db(H:Hp)(N:on Str)(np:Nat)(cl:on (Str×JI))(l:on JI)(ws:on V):Prop:=N.length=np+ws.length/\(∀c∈l,∃o v,H c=some (.frz o (.own c))/\o.data=.cell v) /\
 ∀(i:Nat) x v,N[np+i]? = some x->ws[i]? = some v->∃c o u,cl.lookup x=some c/\H c=some (.frz o (.own c))/\o.data=.cell (some u)/\RelV v u
def db.mono(e:Same H d)(h:db H N np cl l ws):db d N np cl l ws:=
 ⟨h.1,λ c f=>by obtain⟨o,v,b,a⟩:=h.2.1 c f;exact⟨o,v,e _ _ b,a⟩,λ i x v j g=>by obtain⟨c,o,u,b,a,r⟩:=h.2.2 i x v j g;exact⟨c,o,u,b,e _ _ a,r⟩⟩
noncomputable def Z9(m:LamD)(params:JS)(body:JK)(scope:JR):Bool:=cZ params (m.N.take m.np)&&corE ⟨m.N,scope.names,m.fn,m.bl,m.cl,false,false,noCo⟩ false m.body body
def BQ(h:cZ c ps=true)(d:e.length=ps.length):bindArgs (PySem.W.kla_fn "<lambda>" q c b sc cl pm cd g) ⟨e,[]⟩=pure (ps.zip e):=by
 revert d;refine qG h (λ x y z w d=>?_) λ a x y f d=>?_
 ·obtain⟨u,v,rfl⟩:∃u v,e=[u,v]:=by
   cases e with
   | nil=>cases d
   | cons u r=>cases r with
    | nil=>cases d
    | cons v r=>cases r with
     | nil=>exact⟨u,v,rfl⟩
     | cons _ _=>cases d
  rfl
 ·obtain⟨u,rfl⟩:∃u,e=[u]:=by
   cases e with
   | nil=>cases d
   | cons u r=>cases r with
    | nil=>exact⟨u,rfl⟩
    | cons _ _=>cases d
  simp only[i5,O8,P4]at f;rcases f with z | z | z<;>(subst z;rfl)
structure Dm where
 K:PySem.W.Frag
 mg:Str->Option Value
abbrev Cx.D(X:Cx):Dm:=⟨X.K,X.mg⟩
def SqS(K:JQ)(H:Hp)(a:JI)(xs:on V):Prop:=(∃o,H a=some (.frz o (.lst xs))) \/
 ∃(o:Obj) (its:JL JG) (n:Nat),K.lookup a=some o/\o.cls=.type "list" /\ o.dict=none/\o.data=.seq its n/\its.size<=sizeLine/\Vals xs its.toList
def SqS.sq{K:JQ}(h:SqS K H a xs):SqL K H a xs:=by
 rcases h with h | h
 ·exact .inl (.inr h)
 ·exact .inr h
def SqS.of{K:JQ}(b:Only H)(h:SqL K H a xs):SqS K H a xs:=by
 rcases h with(h | h) | h
 ·rcases b a with z | z
  ·rw[h]at z;cases z
  ·rcases z with⟨o,ys,z⟩ | ⟨q,z⟩<;>(rw[h]at z;cases z)
 ·exact .inl h
 ·exact .inr h
def Same.sqs{K:JQ}(e:Same H b)(h:SqS K H a xs):SqS K b a xs:=by
 rcases h with⟨o,h⟩ | h
 ·exact .inl ⟨o,e _ _ h⟩
 ·exact .inr h
noncomputable def mutO:HO->Bool
 | .lst _=>true
 | .dK _=>true
 | .dT _=>true
 | _=>false
mutual
noncomputable def Rep(D:Dm)(H:Hp):DV->V->Prop
 | .non,v=>v=.non
 | .bl b,v=>v=.bl b
 | .int i,v=>v=.int i
 | .str x,v=>v=.str x/\x.length<=sizeLine
 | .tup ds,v=>∃a xs,v=.ref a/\SqT D.K H a xs/\RepL D H ds xs
 | .lst ds,v=>∃a xs,v=.ref a/\H a=some (.lst xs)/\RepL D H ds xs
 | .dct ks vs,v=>∃a o kvs,v=.ref a/\H a=some (.frz o (.dT kvs))/\kvs.map (λ p=>DKey.t p.1)=ks/\RepL D H vs (kvs.map (·.2))
 | .dcl ks vs,v=>∃a kvs,v=.ref a/\H a=some (.dT kvs)/\kvs.map (λ p=>DKey.t p.1)=ks/\RepL D H vs (kvs.map (·.2))
 | .fn x,v=>∃f,v=.ref f/\D.mg x=some (.ref f)
 | .lam m cs,v=>∃f pr bd sc q cl l ws,v=.ref f/\N1 H q pr bd sc cl f/\Z9 m pr bd sc=true/\LamScope m.N (m.N.take m.np) sc cl l/\RepL D H cs ws/\db H m.N m.np cl l ws
 | .scr ns,v=>∃a,v=.ref a/\SqS D.K H a (ns.map V.int)
noncomputable def RepL(D:Dm)(H:Hp):on DV->on V->Prop
 | [],xs=>xs=[]
 | d::ds,xs=>∃v vs,xs=v::vs/\Rep D H d v/\RepL D H ds vs
end
def Same.tseq{K:JQ}(e:Same H b)(h:SqT K H a xs):SqT K b a xs:=by
 rcases h with(h | ⟨o,h⟩) | h
 ·exact .inl (.inl (e _ _ h))
 ·exact .inl (.inr ⟨o,e _ _ h⟩)
 ·exact .inr h
mutual
theorem Rep.mono{D:Dm}{H H':Hp}(e:Same H H'):∀{d:DV} {v:V},Rep D H d v->Rep D H' d v
 | .non,_,h=>by unfold Rep at h ⊢;exact h
 | .bl _,_,h=>by unfold Rep at h ⊢;exact h
 | .int _,_,h=>by unfold Rep at h ⊢;exact h
 | .str _,_,h=>by unfold Rep at h ⊢;exact h
 | .tup ds,_,h=>by unfold Rep at h ⊢;obtain⟨a,xs,e1,e2,e3⟩:=h;exact⟨a,xs,e1,e.tseq e2,RepL.mono e e3⟩
 | .lst ds,_,h=>by unfold Rep at h ⊢;obtain⟨a,xs,e1,e2,e3⟩:=h;exact⟨a,xs,e1,e _ _ e2,RepL.mono e e3⟩
 | .dct _ _,_,h=>by unfold Rep at h ⊢;obtain⟨a,o,kvs,e1,e2,e3,e4⟩:=h;exact⟨a,o,kvs,e1,e _ _ e2,e3,RepL.mono e e4⟩
 | .dcl _ _,_,h=>by unfold Rep at h ⊢;obtain⟨a,kvs,e1,e2,e3,e4⟩:=h;exact⟨a,kvs,e1,e _ _ e2,e3,RepL.mono e e4⟩
 | .fn _,_,h=>by unfold Rep at h ⊢;exact h
 | .lam m cs,_,h=>by unfold Rep at h ⊢;obtain⟨f,pr,bd,sc,q,cl,l,ws,e1,e2,e3,e4,e5,e6⟩:=h;exact⟨f,pr,bd,sc,q,cl,l,ws,e1,e2.mono e,e3,e4,RepL.mono e e5,e6.mono e⟩
 | .scr _,_,h=>by unfold Rep at h ⊢;obtain⟨a,e1,e2⟩:=h;exact⟨a,e1,e.sqs e2⟩
theorem RepL.mono{D:Dm}{H H':Hp}(e:Same H H'):∀{ds:on DV} {xs:on V},RepL D H ds xs->RepL D H' ds xs
 | [],_,h=>by unfold RepL at h ⊢;exact h
 | d::ds,_,h=>by unfold RepL at h ⊢;obtain⟨v,vs,e1,e2,e3⟩:=h;exact⟨v,vs,e1,Rep.mono e e2,RepL.mono e e3⟩
end
def u6:Rep D H (.int i) v↔v=.int i:=by unfold Rep;exact L0
def aa:Rep D H (.bl i) v↔v=.bl i:=by unfold Rep;exact L0
def de:Rep D H (.str i) v↔(v=.str i/\i.length<=sizeLine):=by unfold Rep;exact L0
def V1:Rep D H .non v↔v=.non:=by unfold Rep;exact L0
def D4:Rep D H (.tup ds) v↔∃a b,v=.ref a/\SqT D.K H a b/\RepL D H ds b:=by unfold Rep;exact L0
def G8:Rep D H (.lst ds) v↔∃a b,v=.ref a/\H a=some (.lst b)/\RepL D H ds b:=by unfold Rep;exact L0
def kA:Rep D H (.lam m cs) v↔∃f pr c a q cl l b,v=.ref f/\N1 H q pr c a cl f/\Z9 m pr c a=true/\LamScope m.N (m.N.take m.np) a cl l/\RepL D H cs b/\db H m.N m.np cl l b:=by unfold Rep;exact L0
def kB:Rep D H (.fn x) v↔∃f,v=.ref f/\D.mg x=some (.ref f):=by unfold Rep;exact L0
def S8{D:Dm}{H:Hp}{v:V}{ns:on Int}:Rep D H (.scr ns) v↔∃a,v=.ref a/\SqS D.K H a (ns.map V.int):=by unfold Rep;exact L0
def ae:Rep D H (.dct ks vs) v↔∃a o b,v=.ref a/\H a=some (.frz o (.dT b))/\b.map (λ p=>DKey.t p.1)=ks/\RepL D H vs (b.map (·.2)):=by unfold Rep;exact L0
def kC:Rep D H (.dcl ks vs) v↔∃a b,v=.ref a/\H a=some (.dT b)/\b.map (λ p=>DKey.t p.1)=ks/\RepL D H vs (b.map (·.2)):=by unfold Rep;exact L0
def B7{D:Dm}{H:Hp}{xs:on V}:RepL D H [] xs↔xs=[]:=by unfold RepL;exact L0
def v5:RepL D H (d::ds) xs↔∃v a,xs=v::a/\Rep D H d v/\RepL D H ds a:=by
 constructor
 ·intro h;exact h
 ·intro h;exact h
theorem RepL.length:∀{a:on DV} {xs:on V},RepL D H a xs->xs.length=a.length
 | [],_,h=>by rw[B7.mp h];rfl
 | d::a,_,h=>by obtain⟨v,vs,c,_,b⟩:=v5.mp h;rw[c,p9,p9,RepL.length b]
theorem RepL.get:∀{ds:on DV} {xs:on V} {i:Nat} {d:DV},RepL D H ds xs->ds[i]? = some d->∃v,xs[i]? = some v/\Rep D H d v
 | [],_,_,_,_,e=>by simp at e
 | d::ds,_,i,d',h,e=>by
  obtain⟨v,vs,c,b,a⟩:=v5.mp h;subst c;cases i with
  | zero=>simp at e;subst e;exact⟨v,rfl,b⟩
  | succ i=>simpa using RepL.get a (by simpa using e)
theorem RepL.append:∀{a es:on DV} {xs ys:on V},RepL D H a xs->RepL D H es ys->RepL D H (a++es) (xs++ys)
 | [],_,_,_,h,b=>by rwa [B7.mp h]
 | d::a,_,_,_,h,b=>by obtain⟨v,vs,f,e,c⟩:=v5.mp h;subst f;exact v5.mpr ⟨v,_,rfl,e,RepL.append c b⟩
def RepL.one(h:Rep D H d v):RepL D H [d] [v]:=v5.mpr ⟨v,[],rfl,h,B7.mpr rfl⟩
theorem RepL.take:∀{a:on DV} {xs:on V} (n:Nat),RepL D H a xs->RepL D H (a.take n) (xs.take n)
 | _,_,0,_=>B7.mpr rfl
 | [],_,n+1,h=>by rw[B7.mp h];exact B7.mpr rfl
 | d::a,_,n+1,h=>by obtain⟨v,vs,e,c,b⟩:=v5.mp h;subst e;exact v5.mpr ⟨v,_,rfl,c,RepL.take n b⟩
theorem RepL.drop:∀{a:on DV} {xs:on V} (n:Nat),RepL D H a xs->RepL D H (a.drop n) (xs.drop n)
 | _,_,0,h=>h
 | [],_,n+1,h=>by rw[B7.mp h];exact B7.mpr rfl
 | d::a,_,n+1,h=>by obtain⟨v,vs,c,e2,b⟩:=v5.mp h;subst c;exact RepL.drop n b
theorem RepL.set(q:Rep D H d v):∀{a:on DV} {xs:on V} (n:Nat),RepL D H a xs->RepL D H (a.set n d) (xs.set n v)
 | [],_,n,h=>by rw[B7.mp h];exact B7.mpr rfl
 | _::a,_,0,h=>by obtain⟨v,f,c,e,b⟩:=v5.mp h;subst c;exact v5.mpr ⟨_,_,rfl,q,b⟩
 | _::a,_,n+1,h=>by obtain⟨v,f,c,e,b⟩:=v5.mp h;subst c;exact v5.mpr ⟨_,_,rfl,e,RepL.set q n b⟩
theorem RepL.rep{D:Dm}{H:Hp}{ds:on DV}{xs:on V}(h:RepL D H ds xs):∀k:Nat,RepL D H (List.replicate k ds).flatten (List.replicate k xs).flatten
 | 0=>B7.mpr rfl
 | k+1=>by rw[O5,O5,O6,O6];exact h.append (RepL.rep h k)
theorem bf:∀(a:on Int),RepL D H (a.map DV.int) (a.map V.int)
 | []=>B7.mpr rfl
 | n::a=>v5.mpr ⟨_,_,rfl,u6.mpr rfl,bf a⟩
theorem kF:∀{k:on Int} {xs:on V},RepL D H (k.map DV.int) xs->xs=k.map V.int
 | [],_,h=>B7.mp h
 | a::r,_,h=>by obtain⟨v,vs,d,c,b⟩:=v5.mp h;rw[d,u6.mp c,kF b];rfl
theorem kH:∀{ds:on DV} {k:on Int},ints? ds=some k->ds=k.map DV.int
 | [],k,h=>by cases h;rfl
 | d::r,k,h=>by
  cases d with
  | int n=>
   obtain⟨k',b,a⟩:=v4.mp (h);rw[←a,kH b];rfl
  | _=>cases h
noncomputable def wo(O:on JI)(H:Hp):Hp:=λ b=>if b∈O then none else H b
def V2(h:b∈O):wo O H b=none:=f8 h
def j9(h:b∉O):wo O H b=H b:=g8 h
def B8(h:wo O H b=some o):b∉O/\H b=some o:=by
 by_cases a:b∈O
 ·rw[V2 a]at h;cases h
 ·rw[j9 a]at h;exact⟨a,h⟩
theorem Same.wo{O:on JI}{H H':Hp}(e:Same H H'):Same (wo O H) (wo O H'):=λ b o h=>by
 obtain⟨hb,h⟩:=B8 h;rw[j9 hb];exact e b o h
def v6:Same (L2.wo O H) H:=λ b o h=>(B8 h).2
def G0(h:∀b∈a,b∈O):Same (L2.wo O H) (L2.wo a H):=λ b o e=>by
 obtain⟨c,e⟩:=B8 e
 rwa [j9 λ z=>c (h b z)]
def v7(h:H p=none):Same H (upd H p o):=λ b u q=>by rwa [m7 (z8 q h)]
structure Hid(O W:List Addr)(H0 H:Hp):Prop where
 ot:∀a∈O++W,H0 a≠none
 same:Same H0 H
 wl:∀a∈W,∃o,H0 a=some o/\mutO o=true
 dj:∀a∈W,a∉O
 om:∀a∈O,∃o,H0 a=some o/\mutO o=true
def Hdn(O:on JI)(H:Hp):Prop:=∀a∈O,∃o,H a=some o/\mutO o=true
def Hdn.ne(h:Hdn O H):∀a∈O,H a≠none:=λ a b q=>by obtain⟨o,e,_⟩:=h a b;rw[q]at e;cases e
def Hid.omS(h:Hid O W b H)(e:Same b c):Hdn O c:=λ a d=>by obtain⟨o,q,m⟩:=h.om a d;exact⟨o,e _ _ q,m⟩
def Hid.omW(h:Hid O W b H)(c:p∈W):Hdn O (upd b p x):=λ a d=>by
 obtain⟨o,q,m⟩:=h.om a d;exact⟨o,by rw[m7 λ z=>h.dj p c (by grind)];exact q,m⟩
def Hid.hdO(h:Hid O W a H):Hdn O H:=h.omS h.same
def Hid.hdA(h:Hid O W c H):Hdn (O++W) H:=λ a b=>by
 rcases C7.mp b with z | z
 ·exact h.hdO a z
 ·obtain⟨o,q,m⟩:=h.wl a z;exact⟨o,h.same _ _ q,m⟩
def Hid.mono(h:Hid O W a H)(e:Same H b):Hid O W a b:=⟨h.ot,h.same.trans e,h.wl,h.dj,h.om⟩
def Hid.newOut(h:Hid O W b H)(a:H p=none):p∉O++W:=λ z=>h.ot p z (h.same.free a)
mutual
theorem Rep.immut{D:Dm}{O W:on JI}{H:Hp}(hw:∀a∈W,∃o,H a=some o/\mutO o=true):∀{d:DV} {v:V},d.immut=true->Rep D (L2.wo O H) d v->Rep D (L2.wo (O++W) H) d v
 | .non,_,_,h=>by unfold Rep at h ⊢;exact h
 | .bl _,_,_,h=>by unfold Rep at h ⊢;exact h
 | .int _,_,_,h=>by unfold Rep at h ⊢;exact h
 | .str _,_,_,h=>by unfold Rep at h ⊢;exact h
 | .tup ds,_,m,h=>by
  unfold Rep at h ⊢;obtain⟨a,xs,e1,e2,e3⟩:=h;have m':DV.immuts ds=true:=by unfold DV.immut at m;exact m
  refine⟨a,xs,e1,?_,RepL.immut hw m' e3⟩;rcases e2 with(h | ⟨o,h⟩) | h
  ·obtain⟨ha,h⟩:=B8 h;refine .inl (.inl ?_);rw[j9 λ z=>?_]
   ·exact h
   ·rcases C7.mp z with z | z
    ·exact ha z
    ·obtain⟨ys,q,m⟩:=hw a z;rw[h]at q;cases q;cases m
  ·obtain⟨ha,h⟩:=B8 h;refine .inl (.inr ⟨o,?_⟩);rw[j9 λ z=>?_]
   ·exact h
   ·rcases C7.mp z with z | z
    ·exact ha z
    ·obtain⟨ys,q,m⟩:=hw a z;rw[h]at q;cases q;cases m
  ·exact .inr h
 | .lst ds,_,m,_=>by unfold DV.immut at m;cases m
 | .dct ks vs,_,m,h=>by
  have m':DV.immuts vs=true:=by unfold DV.immut at m;exact m
  have ou:∀{a:JI} {o:Obj} {u:HO},L2.wo O H a=some (.frz o u)->L2.wo (O++W) H a=some (.frz o u):=λ {a o u} e=>by
   obtain⟨ha,h⟩:=B8 e;rw[j9 λ z=>?_]
   ·exact h
   ·rcases C7.mp z with z | z
    ·exact ha z
    ·obtain⟨ys,q,m⟩:=hw a z;rw[h]at q;cases q;cases m
  obtain⟨a,o,kvs,e1,e2,e3,e4⟩:=ae.mp h;exact ae.mpr ⟨a,o,kvs,e1,ou e2,e3,RepL.immut hw m' e4⟩
 | .fn _,_,_,h=>by unfold Rep at h ⊢;exact h
 | .lam _ _,_,m,_=>by unfold DV.immut at m;cases m
 | .dcl _ _,_,m,_=>by unfold DV.immut at m;cases m
 | .scr ns,_,_,h=>by
  unfold Rep at h ⊢;obtain⟨a,e1,e2⟩:=h;refine⟨a,e1,?_⟩;rcases e2 with⟨o,h⟩ | h
  ·obtain⟨ha,h⟩:=B8 h;refine .inl ⟨o,?_⟩;rw[j9 λ z=>?_]
   ·exact h
   ·rcases C7.mp z with z | z
    ·exact ha z
    ·obtain⟨ys,q,m⟩:=hw a z;rw[h]at q;cases q;cases m
  ·exact .inr h
theorem RepL.immut{D:Dm}{O W:on JI}{H:Hp}(hw:∀a∈W,∃o,H a=some o/\mutO o=true):∀{ds:on DV} {xs:on V},DV.immuts ds=true->RepL D (L2.wo O H) ds xs->RepL D (L2.wo (O++W) H) ds xs
 | [],_,_,h=>by unfold RepL at h ⊢;exact h
 | d::ds,_,m,h=>by unfold RepL at h ⊢;obtain⟨v,vs,e1,e2,e3⟩:=h;unfold DV.immuts at m;rw[g6]at m;exact⟨v,vs,e1,Rep.immut hw m.1 e2,RepL.immut hw m.2 e3⟩
end
def RepT(D:Dm)(W:on JI)(Ht H:Hp)(d:DV)(v:V):Prop:=match d with
 | .lst ds=>∃a xs,v=.ref a/\a∈W/\Ht a=some (.lst xs)/\RepL D H ds xs
 | d=>Rep D H d v
theorem RepT.mono(k:Same g f)(e:Same H i)(h:RepT D W g H d v):RepT D W f i d v:=by
 cases d with
 | lst ds=>obtain⟨a,j,n,o,m,l⟩:=h;exact⟨a,j,n,o,k _ _ m,l.mono e⟩
 | non=>exact Rep.mono e h
 | bl b=>exact Rep.mono e h
 | int b=>exact Rep.mono e h
 | str b=>exact Rep.mono e h
 | tup b=>exact Rep.mono e h
 | dct b c=>exact Rep.mono e h
 | dcl b c=>exact Rep.mono e h
 | fn b=>exact Rep.mono e h
 | lam b c=>exact Rep.mono e h
 | scr b=>exact Rep.mono e h
def RepT.rep(e:Same H f)(h:RepT D W f H d v):Rep D f d v:=by
 cases d with
 | lst ds=>obtain⟨a,g,k,e0,j,i⟩:=h;exact G8.mpr ⟨a,g,k,j,i.mono e⟩
 | non=>exact Rep.mono e h
 | bl b=>exact Rep.mono e h
 | int b=>exact Rep.mono e h
 | str b=>exact Rep.mono e h
 | tup b=>exact Rep.mono e h
 | dct b c=>exact Rep.mono e h
 | dcl b c=>exact Rep.mono e h
 | fn b=>exact Rep.mono e h
 | lam b c=>exact Rep.mono e h
 | scr b=>exact Rep.mono e h
def Got(D:Dm)(O W:on JI)(H0 H:Hp)(d:DV)(c:Cl)(v:V):Prop:=match c with
 | .weak=>Rep D (L2.wo O H) d v
 | .top=>RepT D W (L2.wo O H) (L2.wo (O++W) H) d v
 | .strong=>Rep D (L2.wo (O++W) H) d v
 | .fresh=>∃p xs ds,v=.ref p/\d=.lst ds/\H0 p=none/\H p=some (.lst xs)/\RepL D (L2.wo (p::(O++W)) H) ds xs
section
variable {D:Dm} {O W:on JI} {H0 H H':Hp} {d:DV} {ds:on DV} {c:Cl} {v:V}
def bg:∀b∈O,b∈O++W:=λ _ h=>B4 _ h
theorem Got.mono(h:Got D O W H0 H d c v)(e:Same H H'):Got D O W H0 H' d c v:=by
 cases c with
 | weak=>exact Rep.mono e.wo h
 | top=>exact RepT.mono e.wo e.wo h
 | strong=>exact Rep.mono e.wo h
 | fresh=>
  obtain⟨p,a,k,j,i,g,f,b⟩:=h;exact⟨p,a,k,j,i,g,e _ _ f,b.mono e.wo⟩
def Got.since(h:Got D O W a H d c v)(e:Same H0 a):Got D O W H0 H d c v:=by
 cases c with
 | weak=>exact h
 | top=>exact h
 | strong=>exact h
 | fresh=>
  obtain⟨p,b,l,k,j,i,g,f⟩:=h;exact⟨p,b,l,k,j,e.free i,g,f⟩
def Got.strong(h:Got D O W H0 H d .fresh v)(c:Hid O W H0 H):Rep D (L2.wo (O++W) H) d v:=by
 obtain⟨p,a,ds,j,i,g,e4,f⟩:=h;rw[i];exact G8.mpr ⟨p,a,j,by rwa [j9 (λ z=>c.ot p z g)],f.mono (G0 λ b e=>k5 _ e)⟩
theorem Got.weak(h:Got D O W H0 H d c v)(hd:Hid O W H0 H):Rep D (L2.wo O H) d v:=by
 cases c with
 | weak=>exact h
 | top=>exact RepT.rep (G0 bg) h
 | strong=>exact Rep.mono (G0 bg) h
 | fresh=>exact Rep.mono (G0 bg) (h.strong hd)
def Got.all(h:Got D O W H0 H d c v)(a:Hid O W H0 H):Rep D H d v:=Rep.mono v6 (h.weak a)
theorem Got.stro(h:Got D O W H0 H d c v)(hd:Hid O W H0 H)(g:L2.stro d c=true):Rep D (L2.wo (O++W) H) d v:=by
 cases c with
 | strong=>exact h
 | fresh=>exact h.strong hd
 | weak=>exact Rep.immut (λ a f=>by obtain⟨b,e,m⟩:=hd.wl a f;exact⟨b,hd.same _ _ e,m⟩) g (h.weak hd)
 | top=>exact Rep.immut (λ a f=>by obtain⟨b,e,m⟩:=hd.wl a f;exact⟨b,hd.same _ _ e,m⟩) g (h.weak hd)
def Got.items(h:Got D O W H0 H (.lst ds) c v)(hd:Hid O W H0 H)(f:c ≠ .weak):∃a xs,v=.ref a/\H a=some (.lst xs)/\RepL D (L2.wo (O++W) H) ds xs:=by
 cases c with
 | weak=>exact absurd rfl f
 | top=>
  obtain⟨a,xs,e,e0,d,b⟩:=h;exact⟨a,xs,e,v6 _ _ d,b⟩
 | strong=>
  obtain⟨a,xs,e,d,b⟩:=G8.mp h;exact⟨a,xs,e,v6 _ _ d,b⟩
 | fresh=>
  obtain⟨a,xs,e,d,b⟩:=G8.mp (h.strong hd);exact⟨a,xs,e,v6 _ _ d,b⟩
def Got.itemsT(h:Got D O W H0 H (.tup f) c v)(hd:Hid O W H0 H)(g:c ≠ .weak):∃a xs,v=.ref a/\SqT D.K H a xs/\RepL D (L2.wo (O++W) H) f xs:=by
 cases c with
 | weak=>exact absurd rfl g
 | top=>
  obtain⟨a,xs,e,b,d⟩:=D4.mp (h);exact⟨a,xs,e,v6.tseq b,d⟩
 | strong=>
  obtain⟨a,xs,e,b,d⟩:=D4.mp h;exact⟨a,xs,e,v6.tseq b,d⟩
 | fresh=>
  obtain⟨p,xs,f,e,b,d,e4,e5⟩:=h;cases b
theorem Got.lst(h:Got D O W H0 H (.lst ds) c v)(d:Hid O W H0 H):∃a b,v=.ref a/\H a=some (.lst b)/\RepL D (L2.wo O H) ds b:=by
 obtain⟨a,b,g,f,e⟩:=G8.mp (h.weak d);exact⟨a,b,g,v6 _ _ f,e⟩
theorem Got.tup(h:Got D O W H0 H (.tup ds) c v)(d:Hid O W H0 H):∃a b,v=.ref a/\SqT D.K H a b/\RepL D (L2.wo O H) ds b:=by
 obtain⟨a,b,g,f,e⟩:=D4.mp (h.weak d);exact⟨a,b,g,v6.tseq f,e⟩
noncomputable def J8(O W:on JI):Cl->on JI
 | .weak=>O
 | _=>O++W
def Got.lstC(h:Got D O W H0 H (.lst ds) c v)(hd:Hid O W H0 H):∃a xs,v=.ref a/\H a=some (.lst xs)/\RepL D (L2.wo (J8 O W c) H) ds xs:=by
 cases c with
 | weak=>exact h.lst hd
 | top=>exact h.items hd (by intro z;cases z)
 | strong=>exact h.items hd (by intro z;cases z)
 | fresh=>exact h.items hd (by intro z;cases z)
def Got.tupC(h:Got D O W H0 H (.tup ds) c v)(hd:Hid O W H0 H):∃a xs,v=.ref a/\SqT D.K H a xs/\RepL D (L2.wo (J8 O W c) H) ds xs:=by
 cases c with
 | weak=>exact h.tup hd
 | top=>exact h.itemsT hd (by intro z;cases z)
 | strong=>exact h.itemsT hd (by intro z;cases z)
 | fresh=>exact h.itemsT hd (by intro z;cases z)
theorem Got.item(h:Rep D (L2.wo (J8 O W c) H) d v):Got D O W H0 H d c.item v:=by
 cases c<;>exact h
def A0(a:c ≠ .fresh:=by intro z;cases z):Got D O W H0 H (.int i) c (.int i):=by
 have q:∀H,Rep D H _ (.int i):=λ H=>u6.mpr rfl;cases c with
 | fresh=>exact absurd rfl a
 | weak=>exact q (L2.wo O H)
 | strong=>exact q (L2.wo (O++W) H)
 | top=>exact q (L2.wo (O++W) H)
def af:Got D O W H0 H (.bl i) .strong (.bl i):=(aa.mpr rfl:Rep D (L2.wo (O++W) H) _ _)
def BR:Got D O W H0 H .non .strong .non:=(V1.mpr rfl:Rep D (L2.wo (O++W) H) .non .non)
theorem Got.int(h:Got D O W H0 H (.int i) c v)(a:Hid O W H0 H):v=.int i:=u6.mp (h.weak a)
theorem Got.bl(h:Got D O W H0 H (.bl i) c v)(a:Hid O W H0 H):v=.bl i:=aa.mp (h.weak a)
def S9(c:Hid O W H0 H)(a:H p=none)(r:RepL D (L2.wo (O++W) H) ds xs):Got D O W H0 (upd H p (.lst xs)) (.lst ds) .fresh (.ref p):=by
 refine⟨p,xs,ds,rfl,rfl,c.same.free a,x3,r.mono λ b o e=>?_⟩;obtain⟨hb,e⟩:=B8 e
 rwa [j9 (by grind),m7 (z8 e a)]
def kJ(b:Hid O W H0 H)(a:H p=none)(r:RepL D (L2.wo O H) ds xs):Got D O W H0 (upd H p (.lst xs)) (.lst ds) .weak (.ref p):=by
 exact G8.mpr ⟨p,xs,rfl,by rw[j9 (λ z=>b.newOut a (B4 _ z))];exact x3,r.mono (v7 a).wo⟩
def gi(hd:Hid O W H0 H)(a:H p=none)(r:RepL D (L2.wo (J8 O W c) H) ds xs):Got D O W H0 (upd H p (.lst xs)) (.lst ds) (Cl.anew c c) (.ref p):=by
 cases c with
 | weak=>exact kJ hd a r
 | top=>exact S9 hd a r
 | strong=>exact S9 hd a r
 | fresh=>exact S9 hd a r
def dg(b:Hid O W H0 H)(a:H p=none)(r:RepL D (L2.wo (O++W) H) ds xs):Got D O W H0 (upd H p (.tup xs)) (.tup ds) .strong (.ref p):=
 D4.mpr ⟨p,xs,rfl,SqT.of (by rw[j9 (b.newOut a)];exact x3),r.mono (v7 a).wo⟩
def kO(b:Hid O W H0 H)(a:H p=none)(r:RepL D (L2.wo O H) ds xs):Got D O W H0 (upd H p (.tup xs)) (.tup ds) .weak (.ref p):=
 D4.mpr ⟨p,xs,rfl,SqT.of (by rw[j9 λ z=>b.newOut a (B4 _ z)];exact x3),r.mono (v7 a).wo⟩
def qK(hd:Hid O W H0 H)(a:H p=none)(r:RepL D (L2.wo (J8 O W c) H) ds xs):Got D O W H0 (upd H p (.tup xs)) (.tup ds) c.item (.ref p):=by
 cases c with
 | weak=>exact kO hd a r
 | top=>exact dg hd a r
 | strong=>exact dg hd a r
 | fresh=>exact dg hd a r
end
inductive GotL (D:Dm) (O W:List Addr) (H0 H:Hp):List (DV×Cl)->List V->Prop where
 | nil:GotL D O W H0 H [] []
 | cons {d:DV} {c:Cl} {v:V} {l:List (DV×Cl)} {vs:List V}:Got D O W H0 H d c v->GotL D O W H0 H l vs->GotL D O W H0 H ((d,c)::l) (v::vs)
def GotL.repL(h:GotL D O W H0 H l vs)(b:Hid O W H0 H):RepL D (L2.wo O H) (l.map (·.1)) vs:=by
 induction h with
 | nil=>exact B7.mpr rfl
 | cons h _ a=>exact v5.mpr ⟨_,_,rfl,h.weak b,a⟩
theorem GotL.stros(h:GotL D O W H0 H l vs)(b:Hid O W H0 H)(hs:L2.stros l=true):RepL D (L2.wo (O++W) H) (l.map (·.1)) vs:=by
 induction h with
 | nil=>exact B7.mpr rfl
 | cons h _ a=>
  unfold L2.stros at hs;rw[List.all_cons,g6]at hs;exact v5.mpr ⟨_,_,rfl,h.stro b hs.1,a hs.2⟩
theorem GotL.length(h:GotL D O W H0 H l vs):vs.length=l.length:=by
 induction h with
 | nil=>rfl
 | cons _ _ a=>rw[p9,p9,a]
theorem GotL.strong(h:GotL D O W H0 H l vs)(b:Hid O W H0 H)(hs:(l.all λ p=>p.2 == .strong||p.2 == .fresh)=true):RepL D (L2.wo (O++W) H) (l.map (·.1)) vs:=by
 refine h.stros b ?_;unfold L2.stros;rw[E6]at hs ⊢;intro p a;have:=hs p a;unfold L2.stro;cases e:p.2<;>rw[e]at this<;>first | rfl | cases this
def GotL.one(h:GotL D O W H0 H [(d,c)] vs):∃v,vs=[v]/\Got D O W H0 H d c v:=by
 cases h with
 | cons h t=>cases t;exact⟨_,rfl,h⟩
def GotL.two(h:GotL D O W H0 H [(d,c),(b,f)] vs):∃v a,vs=[v,a]/\Got D O W H0 H d c v/\Got D O W H0 H b f a:=by
 cases h with
 | cons h t=>obtain⟨a,e,g⟩:=t.one;subst e;exact⟨_,_,rfl,h,g⟩
noncomputable def oeK(L:on (on Int×Int)):on (on Key×V):=L.map λ p=>(kP p.1,.int p.2)
def kD(k:on Int):DKey:=.t (kP k)
noncomputable def dicO:HO->Bool
 | .dK _=>true
 | .dT _=>true
 | _=>false
def OdOk(d:DV)(_:JI)(o:HO):Prop:=∃L:on (on Int×Int),d=.dcl (L.map λ p=>kD p.1) (L.map λ p=>.int p.2)/\o=.dT (oeK L)
def qL(L:on (on Int×Int)):(oeK L).map (λ p=>DKey.t p.1)=L.map λ p=>kD p.1:=by
 unfold oeK;rw[r3];rfl
def qM(L:on (on Int×Int)):RepL D H (L.map λ p=>.int p.2) ((oeK L).map (·.2)):=by
 unfold oeK;rw[r3]
 induction L with
 | nil=>exact B7.mpr rfl
 | cons p r a=>exact v5.mpr ⟨_,_,rfl,u6.mpr rfl,a⟩
def OdOk.dic(h:OdOk d a o):dicO o=true:=by obtain⟨L,_,e⟩:=h;rw[e];rfl
def OdOk.mut(h:OdOk d a o):mutO o=true:=by obtain⟨L,_,e⟩:=h;rw[e];rfl
def OdAt(H:Hp)(σ:St)(δ:on Sv)(W:on JI):Prop:=∀(i:Nat) d,δ[i]? = some (.od d)->(∃a o,OdOk d a o/\σ[i]? = some (some (.ref a))/\a∈W/\H a=some o)/\∀(j:Nat) d',δ[j]? = some (.od d')->j=i
def OdAt.step{H H':Hp}{σ σ':St}{δ δ':on Sv}{W W':on JI}(h:OdAt H σ δ W)(hδ:∀(j:Nat) d,δ'[j]? = some (.od d)->δ[j]? = some (.od d)/\σ'[j]? = σ[j]?)(hW:∀a∈W,(∃o,H a=some o/\dicO o=true)->a∈W')(hH:∀a o,a∈W->H a=some o->dicO o=true->H' a=some o):OdAt H' σ' δ' W':=λ i d q=>by
 obtain⟨q1,q2⟩:=hδ i d q;obtain⟨⟨a,L,e0,e1,e2,e3⟩,u⟩:=h i d q1;exact⟨⟨a,L,e0,by rw[q2];exact e1,hW a e2 ⟨_,e3,e0.dic⟩,hH a _ e2 e3 e0.dic⟩,λ j d' z=>u j d' (hδ j d' z).1⟩
def kR{σ:St}{δ:on Sv}(x:JF V)(c:∀d,X ≠ .od d):∀(j:Nat) d,(δ.set i X)[j]? = some (.od d)->δ[j]? = some (.od d)/\(σ.set i x)[j]? = σ[j]?:=λ j d h=>by
 have b:j≠i:=λ z=>by
  subst z;have a:j<δ.length:=by have:=(v9.mp h).1;rw[C4]at this;exact this
  rw[L9 a]at h;exact c d (A8 h)
 rw[u5 b.symm]at h ⊢;exact⟨h,rfl⟩
def qN{σ:St}{δ:on Sv}(a:∀d,X ≠ .od d):∀(j:Nat) d,(δ.set i X)[j]? = some (.od d)->δ[j]? = some (.od d)/\σ[j]? = σ[j]?:=λ j d h=>⟨(kR (σ:=σ) none a j d h).1,rfl⟩
structure RSt(D:Dm)(H:Hp)(σ:St)(δ:List Sv)(O W:List Addr):Prop where
 val:∀(i:Nat) d,δ[i]? = some (.val d)->∃v,σ[i]? = some (some v)/\Rep D (L2.wo (O++W) H) d v
 own:∀(i:Nat) d,δ[i]? = some (.own d)->∃a xs ds,d=.lst ds/\σ[i]? = some (some (.ref a))/\a∈W/\H a=some (.lst xs)/\RepL D (L2.wo (O++W) H) ds xs
 inj:∀(i j:Nat) a d d',δ[i]? = some (.own d)->δ[j]? = some (.own d')->σ[i]? = some (some (.ref a))->σ[j]? = some (some (.ref a))->i=j
 od:OdAt H σ δ W
 len:σ.length=δ.length
 hid:Hid O W H H
def Hid.later(h:Hid O W H H)(e:Same H c):Hid O W c c:=⟨λ a b q=>h.ot a b (e.free q),Same.refl _,λ a b=>by obtain⟨d,q,m⟩:=h.wl a b;exact⟨d,e _ _ q,m⟩,h.dj,h.omS e⟩
theorem RSt.mono(R:RSt D H σ δ O W)(e:Same H g):RSt D g σ δ O W where
 val:=λ i d h=>by obtain⟨v,c,b⟩:=R.val i d h;exact⟨v,c,b.mono e.wo⟩
 own:=λ i f h=>by obtain⟨a,k,f,o,c,b,n,m⟩:=R.own i f h;exact⟨a,k,f,o,c,b,e _ _ n,m.mono e.wo⟩
 inj:=R.inj
 od:=R.od.step (λ j d h=>⟨h,rfl⟩) (λ _ h _=>h) (λ a l _ h _=>e _ _ h)
 len:=R.len
 hid:=R.hid.later e
noncomputable def Post(D:Dm)(O W:on JI)(H0 H:Hp)(Q:VK):Re->Prop
 | .ok d c=>∀v H',Same H H'->Got D O W H0 H' d c v->Q v H'
def dE(D:Dm)(δ:on Sv)(r:Re):TE:=λ σ H Q=>∃O W,RSt D H σ δ O W/\Post D O W H H Q r
noncomputable def BS(D:Dm)(O W:on JI)(H0 H:Hp)(Q:on V->Hp->Prop):Rs->Prop
 | .ok l=>∀vs H',Same H H'->GotL D O W H0 H' l vs->Q vs H'
def dA(D:Dm)(δ:on Sv)(r:Rs):TA:=λ σ H Q=>∃O W,RSt D H σ δ O W/\BS D O W H H Q r
noncomputable def gj(D:Dm)(H:Hp)(Q:Bool->Hp->Prop):Rt->Prop
 | .ok b=>∀H',Same H H'->Q b H'
def dT(D:Dm)(δ:on Sv)(r:Rt):TT:=λ σ H Q=>∃O W,RSt D H σ δ O W/\gj D H Q r
def Post.step(h:Post D O W b H Q r)(e:Same H a):Post D O W b a Q r:=by
 cases r with
 | ok d c=>exact λ v f s g=>h v f (e.trans s) g
def Post.later(h:Post D O W b H Q r)(e:Same H a)(f:Same b a):Post D O W a a Q r:=by
 cases r with
 | ok d c=>exact λ v i s g=>h v i (e.trans s) (g.since f)
theorem GotL.since(h:GotL D O W a H l vs)(e:Same b a):GotL D O W b H l vs:=by
 induction h with
 | nil=>exact .nil
 | cons g _ c=>exact .cons (g.since e) c
def gj.later(h:gj D H Q r)(e:Same H a):gj D a Q r:=by
 cases r with
 | ok b=>exact λ c s=>h c (e.trans s)
def PE.weak(h:PE X e t)(k:∀a H Q,t' a H Q->t a H Q):PE X e t':=λ b s a H Q I q=>h b s a H Q I (k a H Q q)
def PT.weak(h:PT X e t)(k:∀a H Q,t' a H Q->t a H Q):PT X e t':=λ b s a H Q I q=>h b s a H Q I (k a H Q q)
def PW.weak(h:PW X e t)(k:∀b H Q,t' b H Q->t b H Q):PW X e t':=λ a c s b H Q I q=>h a c s b H Q I (k b H Q q)
def PA.weak(h:PA X e t)(k:∀a H Q,t' a H Q->t a H Q):PA X e t':=λ c b s a H Q I q=>h c b s a H Q I (k a H Q q)
def PS.weak(h:PS X e t)(k:∀D a H,t' D a H->t D a H):PS X e t':=λ b s a H D I q=>h b s a H D I (k D a H q)
def PSs.weak(h:PSs X e t)(k:∀D a H,t' D a H->t D a H):PSs X e t':=λ b s a H D I q=>h b s a H D I (k D a H q)
def qO:PW X e (λ _ _ _=>False):=λ _ _ _ _ _ _ _ h=>h.elim
def qP:PT X e (λ _ _ _=>False):=λ _ _ _ _ _ _ h=>h.elim
def dh:PE X e (λ _ _ _=>False):=λ _ _ _ _ _ _ h=>h.elim
def Q1(h:n<=m9):n<=sizeLine:=i9 h JY
def qQ(g:∀j,PE X a j->PE X e (tUn r j))(m:∀q,f=some q->PE X a (dE X.D δ q))(h:Re.thn f k=some c)
  (l:∀O W i H x Q d cx (σ:St),k d cx=some c->Hid O W i H->Got X.D O W i H d cx x->Post X.D O W i H Q c->r x H Q):PE X e (dE X.D δ c):=by
 cases b:f with
 | none=>rw[b]at h;cases h
 | some q=>
  rw[b]at h;have A:=m q b;cases q with
  | ok d cx=>
   exact(g _ A).weak λ σ H Q ⟨O,W,R,p⟩=>⟨O,W,R,λ x o s1 n=>l O W H o x Q d cx σ h (R.hid.mono s1) n (p.step s1)⟩
def qR{k:DV->Cl->DV->Cl->JF Re}(v:∀q,m=some q->PE X a (dE X.D δ q))(u:∀q,l=some q->PE X b (dE X.D δ q))
  (h:(Re.thn m λ x cx=>Re.thn l λ y cy=>k x cx y cy)=some e)
  (s:∀O W j H x y Q i cx g cy (σ:St),k i cx g cy=some e->Hid O W j H->Got X.D O W j H i cx x->Got X.D O W j H g cy y->Post X.D O W j H Q e->r x y H Q) :
  ∃o n,PE X a o/\PE X b n/\∀σ H Q,dE X.D δ e σ H Q->tOp r o n σ H Q:=by
 cases d:m with
 | none=>rw[d]at h;cases h
 | some q=>
  rw[d]at h;have A:=v q d;cases q with
  | ok i cx=>
   have f:=h;cases c:l with
   | none=>rw[c]at f;cases f
   | some q=>
    rw[c]at f;have B:=u q c;cases q with
    | ok g cy=>
     exact⟨_,_,A,B,λ σ H Q ⟨O,W,R,p⟩=>⟨O,W,R,λ x H1 s1 z=>⟨O,W,R.mono s1,λ y C s2 w=>
      s O W H C x y Q i cx g cy σ f ((R.hid.mono s1).mono s2) (z.mono s2) (w.since s1) (p.step (s1.trans s2))⟩⟩⟩
def kS{k:DV->Cl->DV->Cl->JF Re}(i:∀g f,PE X a g->PE X b f->PE X e (tOp r g f))(s:∀q,l=some q->PE X a (dE X.D δ q))(p:∀q,j=some q->PE X b (dE X.D δ q))
  (h:(Re.thn l λ x cx=>Re.thn j λ y cy=>k x cx y cy)=some c)
  (o:∀O W d H x y Q n cx m cy (σ:St),k n cx m cy=some c->Hid O W d H->Got X.D O W d H n cx x->Got X.D O W d H m cy y->Post X.D O W d H Q c->r x y H Q):PE X e (dE X.D δ c):=by
 obtain⟨g,f,A,B,q⟩:=qR s p h o;exact(i _ _ A B).weak q
def di(d:∀t,PA X es t->PE X e (tCB r t))(i:∀q,c=some q->PA X es (dA X.D δ q))(h:Rs.thn c k=some b)
  (g:∀O W f H vs Q l (σ:St),k l=some b->Hid O W f H->GotL X.D O W f H l vs->Post X.D O W f H Q b->r vs H Q):PE X e (dE X.D δ b):=by
 cases a:c with
 | none=>rw[a]at h;cases h
 | some q=>
  rw[a]at h;have A:=i q a;cases q with
  | ok l=>
   exact(d _ A).weak λ σ H Q ⟨O,W,R,p⟩=>⟨O,W,R,λ vs m s1 j=>g O W H m vs Q l σ h (R.hid.mono s1) j (p.step s1)⟩
def BU{i:Nat}(k:X.N[i]? = some x)(hv:Vis X.env.scope x)(hd:(x==("__debug__" : Str))=false)(e:(x==("__classdict__" : Str))=false)
  (h:varE δ[i]? = some r):PE X (.Name x pos) (dE X.D δ r):=
 (Y9 k hv hd e).weak λ σ H Q ⟨O,W,R,p⟩=>by
  unfold varE at h;split at h
  ·rename_i d q;cases h;obtain⟨v,c,b⟩:=R.val i d q;exact⟨v,c,p v H (Same.refl H) b⟩
  ·rename_i d q;cases h;obtain⟨a,j,ds,g,c,b,f,m⟩:=R.own i d q;subst g;refine⟨.ref a,c,p _ H (Same.refl H) ⟨a,j,rfl,b,?_,m⟩⟩;rw[j9 (R.hid.dj a b)];exact f
  ·rename_i ks vs q;cases h;obtain⟨⟨a,o,⟨L,g,l⟩,c,b,f⟩,_⟩:=R.od i _ q;cases g;subst l;exact⟨.ref a,c,p _ H (Same.refl H) (kC.mpr ⟨a,oeK L,rfl,by rw[j9 (R.hid.dj a b)];exact f,qL L,qM L⟩:Rep X.D _ _ _)⟩
  ·cases h
def BV:PE X (.Constant (.int i) j pos) (dE X.D δ (.ok (.int i) .strong)):=xv.weak λ σ H Q ⟨O,W,R,p⟩=>p _ H (Same.refl H) A0
def BW:PE X (.Constant (.bool i) j pos) (dE X.D δ (.ok (.bl i) .strong)):=xw.weak λ σ H Q ⟨O,W,R,p⟩=>p _ H (Same.refl H) af
def BX(h:i.length<=sizeLine):PE X (.Constant (.str i) j pos) (dE X.D δ (.ok (.str i) .strong)):=xy.weak λ σ H Q ⟨O,W,R,p⟩=>p _ H (Same.refl H) (de.mpr ⟨rfl,h⟩:Rep X.D (L2.wo (O++W) H) _ _)
def BY:PE X (.Constant .none j pos) (dE X.D δ (.ok .non .strong)):=xx.weak λ σ H Q ⟨O,W,R,p⟩=>p _ H (Same.refl H) BR
section
variable {X:Cx} {δ:on Sv} {a b c e:JK} {pos:Pos} {ra rb:JF Re} {re:Re}
def bh{a:Hp}(b:Hid O W a H)(e:Got D O W a H (.int i) h x)(d:Got D O W a H (.int j) f y)(c:C i j)(q:Q (g i j) H):rI C g x y H Q:=
 ⟨i,j,e.int b,d.int b,c,q⟩
def kU{a:Hp}{e:Cl}(b:Hid O W a H)(d:Got D O W a H (.int i) f x)(c:Got D O W a H (.int j) e y)(q:Q (g i j) H):rI0 g x y H Q:=
 ⟨i,j,d.int b,c.int b,q⟩
def qU{b a:Cl}(h:b ≠ .weak)(c:a ≠ .weak):Cl.anew b a=.fresh:=by
 cases b<;>cases a<;>first | rfl | exact absurd rfl h | exact absurd rfl c
def gk(i j:Int):Prop:=CMul i j\/(i.natAbs<2^2000/\j.natAbs<2^2000)
def qV(h:i.natAbs<2^n):Builtin.Int.intBits i<=n:=by
 unfold Builtin.Int.intBits;by_cases a:i=0
 ·subst a;exact F3 n
 ·rw[g8 (by grind)];have:=λ z=>a (Int.natAbs_eq_zero.mp z)
  exact(fq this).mpr h
theorem gk.ok(h:gk i j):IntMulOk i j:=by
 rcases h with h | ⟨h1,h2⟩
 ·exact h.ok
 ·unfold IntMulOk;have b1:=qV h1;have b2:=qV h2;have:Builtin.Int.intTooBig ((Builtin.Int.intBits i:Int)+(Builtin.Int.intBits j:Int))=false:=by
   unfold Builtin.Int.intTooBig;rw[A7];have:((bitsLine:Nat):Int)=134217728:=by decide
   omega
  rw[this,Bool.and_false];exact z7
def BZ:OpR X (binaryOp .Mult) (rI gk λ i j=>.int (i*j)):=opI λ _ _ _ _ _ _ _ a q=>mul_int q a.ok
def Ca:OpR X (binaryOp .FloorDiv) (rI (λ _ j=>0<j/\j<2^200) λ i j=>.int (i/j)):=opI λ i j _ _ _ _ _ a q=>by
 have h1:=a.1;have b:j.natAbs<2^200:=by have:=a.2;omega
 refine floordiv_int JX (by rw[ni i JX];exact q) (.inl (PyProof.noPylong_of_log2 ?_));exact t6 ((fq JX).mpr b) JY
def binR(X:Cx):JV->R2
 | .Add=>λ x y H Q=>rI0 (λ i j=>.int (i+j)) x y H Q\/rCat x y H Q\/oP X.K x y H Q
 | .Sub=>rI0 λ i j=>.int (i - j)
 | .Mult=>λ x y H Q=>rI gk (λ i j=>.int (i*j)) x y H Q\/rRep x y H Q
 | .Mod=>λ x y H Q=>rI (λ _ j=>0<j) (λ i j=>.int (i%j)) x y H Q\/rI (λ _ j=>j≠0) (λ i j=>.int (i.fmod j)) x y H Q
 | .FloorDiv=>rI (λ _ j=>0<j/\j<2^200) λ i j=>.int (i/j)
 | .LShift=>rI CPow λ i j=>.int (i*2^j.toNat)
 | .RShift=>rI (λ _ j=>0<=j) λ i j=>.int (i/2^j.toNat)
 | .BitAnd=>rI0 λ i j=>.int (Builtin.bitAnd i j)
 | _=>λ _ _ _ _=>False
def Cb{op:JV}:OpR X (binaryOp op) (binR X op):=by
 cases op with
 | Add=>exact ye.or (zn.or yV)
 | Sub=>exact yf
 | Mult=>exact BZ.or zp
 | Mod=>exact yg.or yh
 | FloorDiv=>exact Ca
 | LShift=>exact yi
 | RShift=>exact yj
 | BitAnd=>exact yk
 | BitOr=>exact λ _ _ _ _ _ _ _ _ _ _ _ _ h=>h.elim
 | BitXor=>exact λ _ _ _ _ _ _ _ _ _ _ _ _ h=>h.elim
 | MatMult=>exact λ _ _ _ _ _ _ _ _ _ _ _ _ h=>h.elim
 | Div=>exact λ _ _ _ _ _ _ _ _ _ _ _ _ h=>h.elim
 | Pow=>exact λ _ _ _ _ _ _ _ _ _ _ _ _ h=>h.elim
def y9(h:asI d=some i):d=.int i:=by cases d<;>cases h;rfl
def Cc(h:asL d=some i):d=.lst i:=by cases d<;>cases h;rfl
def Cd(h:asTp d=some i):d=.tup i:=by cases d<;>cases h;rfl
def Cf{O W:on JI}{H0 H:Hp}{op:JV}{x y:V}{dx dy:DV}{cx cy:Cl}{Q:VK}(h:binD op dx dy cx cy=some re)(hd:Hid O W H0 H)(gx:Got X.D O W H0 H dx cx x)(gy:Got X.D O W H0 H dy cy y)
  (p:Post X.D O W H0 H Q re):binR X op x y H Q:=by
 unfold binD at h;cases op
 case Add=>
  dsimp only at h;split at h
  ·rename_i x1
   replace h:=p4.mp h
   obtain⟨x2,e2,h⟩:=h;have e2:=y9 e2;subst e2;cases h;exact .inl (kU hd gx gy (p _ H (Same.refl H) A0))
  ·rename_i xs
   replace h:=p4.mp h
   obtain⟨ys,e2,h⟩:=h;have e2:=Cc e2;subst e2;split at h
   ·rename_i m;cases h;by_cases hw:cx ≠ .weak/\cy ≠ .weak
    ·obtain⟨l1,v1,e1,k1,r1⟩:=gx.items hd hw.1;obtain⟨l2,v2,e2,k2,r2⟩:=gy.items hd hw.2;refine .inr (.inl ⟨l1,l2,v1,v2,e1,e2,k1,k2,by rw[r1.length,r2.length];exact Q1 m,λ q hq=>p _ _ (v7 hq) ?_⟩);rw[qU hw.1 hw.2];exact S9 hd hq (r1.append r2)
    ·obtain⟨l1,v1,e1,k1,r1⟩:=gx.lst hd;obtain⟨l2,v2,e2,k2,r2⟩:=gy.lst hd;refine .inr (.inl ⟨l1,l2,v1,v2,e1,e2,k1,k2,by rw[r1.length,r2.length];exact Q1 m,λ q hq=>p _ _ (v7 hq) ?_⟩);have:Cl.anew cx cy=.weak:=(by cases cx<;>cases cy<;>first | rfl | exact absurd ⟨(by intro z;cases z),(by intro z;cases z)⟩ hw);rw[this];exact kJ hd hq (r1.append r2)
   ·cases h
  ·rename_i xs
   replace h:=p4.mp h
   obtain⟨ys,e2,h⟩:=h;have e2:=Cd e2;subst e2;split at h
   ·rename_i m;cases h;by_cases hw:cx ≠ .weak/\cy ≠ .weak
    ·obtain⟨l1,v1,e1,k1,r1⟩:=gx.itemsT hd hw.1;obtain⟨l2,v2,e2,k2,r2⟩:=gy.itemsT hd hw.2;have cl:(Cl.anew cx cy).notF=.strong:=by rw[qU hw.1 hw.2];rfl
     rw[cl]at p;refine .inr (.inr ⟨l1,l2,v1,v2,e1,e2,k1,k2,λ z=>m.2 (by have:=r1.length;rw[z]at this;exact X4.mp this.symm),by rw[r1.length,r2.length];exact Q1 m.1,λ z=>?_,λ _ q hq=>p _ _ (v7 hq) (dg hd hq (r1.append r2))⟩);refine p _ _ (Same.refl _) ?_;have z2:ys=[]:=by have:=r2.length;rw[z]at this;exact X4.mp this.symm
     subst z2;rw[C8];cases cx with
     | weak=>exact absurd rfl hw.1
     | top=>rw[←e1];exact gx
     | strong=>rw[←e1];exact gx
     | fresh=>obtain⟨_,_,_,_,q,_⟩:=gx;cases q
    ·obtain⟨l1,v1,e1,k1,r1⟩:=gx.tup hd;obtain⟨l2,v2,e2,k2,r2⟩:=gy.tup hd;have cl:(Cl.anew cx cy).notF=.weak:=(by cases cx<;>cases cy<;>first | rfl | exact absurd ⟨(by intro z;cases z),(by intro z;cases z)⟩ hw);rw[cl]at p;refine .inr (.inr ⟨l1,l2,v1,v2,e1,e2,k1,k2,λ z=>m.2 (by have:=r1.length;rw[z]at this;exact X4.mp this.symm),by rw[r1.length,r2.length];exact Q1 m.1,λ z=>?_,λ _ q hq=>p _ _ (v7 hq) (kO hd hq (r1.append r2))⟩);refine p _ _ (Same.refl _) ?_;have z2:ys=[]:=by have:=r2.length;rw[z]at this;exact X4.mp this.symm
     subst z2;rw[C8,←e1];exact gx.weak hd
   ·cases h
  ·cases h
 case Sub=>
  dsimp only at h
  replace h:=p4.mp h
  obtain⟨x1,e1,h⟩:=h
  replace h:=p4.mp h
  obtain⟨x2,e2,h⟩:=h;have e1:=y9 e1;have e2:=y9 e2;subst e1 e2;cases h;exact kU hd gx gy (p _ H (Same.refl H) A0)
 case Mult=>
  dsimp only at h;split at h
  ·rename_i x1
   replace h:=p4.mp h
   obtain⟨x2,e2,h⟩:=h;have e2:=y9 e2;subst e2;split at h
   ·rename_i m;cases h;refine .inl (bh hd gx gy ?_ (p _ H (Same.refl H) A0));unfold E8 at m;simp only[B5,g6,A5]at m;exact m
   ·cases h
  ·rename_i xs
   replace h:=p4.mp h
   obtain⟨k,e2,h⟩:=h;have e2:=y9 e2;subst e2;split at h
   ·rename_i m;cases h;obtain⟨l1,v1,e1,k1,r1⟩:=gx.lstC hd;refine .inr ⟨l1,k,v1,e1,gy.int hd,k1,m.2.1,m.2.2,by rw[r1.length];exact Q1 m.1,λ q hq=>p _ _ (v7 hq) (gi hd hq (r1.rep _))⟩
   ·cases h
  ·cases h
 case Mod=>
  dsimp only at h
  replace h:=p4.mp h
  obtain⟨x1,e1,h⟩:=h
  replace h:=p4.mp h
  obtain⟨x2,e2,h⟩:=h;have e1:=y9 e1;have e2:=y9 e2;subst e1 e2;split at h
  ·rename_i m;cases h;exact .inl (bh hd gx gy m (p _ H (Same.refl H) A0))
  ·split at h
   ·rename_i m;cases h;exact .inr (bh hd gx gy m (p _ H (Same.refl H) A0))
   ·cases h
 case FloorDiv=>
  dsimp only at h
  replace h:=p4.mp h
  obtain⟨x1,e1,h⟩:=h
  replace h:=p4.mp h
  obtain⟨x2,e2,h⟩:=h;have e1:=y9 e1;have e2:=y9 e2;subst e1 e2;split at h
  ·rename_i m;cases h;exact bh hd gx gy m (p _ H (Same.refl H) A0)
  ·cases h
 case LShift=>
  dsimp only at h
  replace h:=p4.mp h
  obtain⟨x1,e1,h⟩:=h
  replace h:=p4.mp h
  obtain⟨x2,e2,h⟩:=h;have e1:=y9 e1;have e2:=y9 e2;subst e1 e2;split at h
  ·rename_i m;cases h;exact bh hd gx gy m (p _ H (Same.refl H) A0)
  ·cases h
 case RShift=>
  dsimp only at h
  replace h:=p4.mp h
  obtain⟨x1,e1,h⟩:=h
  replace h:=p4.mp h
  obtain⟨x2,e2,h⟩:=h;have e1:=y9 e1;have e2:=y9 e2;subst e1 e2;split at h
  ·rename_i m;cases h;exact bh hd gx gy m (p _ H (Same.refl H) A0)
  ·cases h
 case BitAnd=>
  dsimp only at h
  replace h:=p4.mp h
  obtain⟨x1,e1,h⟩:=h
  replace h:=p4.mp h
  obtain⟨x2,e2,h⟩:=h;have e1:=y9 e1;have e2:=y9 e2;subst e1 e2;cases h;exact kU hd gx gy (p _ H (Same.refl H) A0)
 all_goals (dsimp only at h;cases h)
def Cg(f:∀q,ra=some q->PE X a (dE X.D δ q))(e:∀q,rb=some q->PE X b (dE X.D δ q))(h:(Re.thn ra λ x d=>Re.thn rb λ y c=>binD op x y d c)=some re):PE X (.BinOp a op b pos) (dE X.D δ re):=
 kS (λ _ _=>yb Cb) f e h λ O W H0 H x y Q dx d dy c σ k hd i g p=>Cf k hd i g p
def Ch(b:∀q,ra=some q->PE X a (dE X.D δ q))(h:(Re.thn ra λ x _=>match x with | .int i=>some (.ok (.int (-i)) .strong) | _=>none)=some re):PE X (.UnaryOp .USub a pos) (dE X.D δ re):=
 qQ (λ _=>yc yl) b h λ O W H0 H x Q dx cx σ k hd c p=>by
  split at k
  ·cases k;exact⟨_,c.int hd,p _ H (Same.refl H) A0⟩
  ·cases k
def Ci:atD ds i=L2.atI ds i:=rfl
theorem RepL.atI(h:RepL D H ds xs)(e:atD ds i=some d):∃v,L2.atI xs i=some v/\Rep D H d v:=by
 rw[Ci]at e;unfold L2.atI at e ⊢;rw[h.length];cases q:ixN ds.length i with
 | none=>rw[q]at e;cases e
 | some j=>
  rw[q]at e;exact h.get e
def Cj(h:((ixD A w).map λ d=>Re.ok d cx.item)=some re)(hd:Hid O W k H)(s:Got X.D O W k H A cx x)(r:Got X.D O W k H w cy y)
  (p:Post X.D O W k H Q re):rIx X.K x y H Q:=by
 obtain⟨d,e,F⟩:=v4.mp h;cases F;unfold ixD at e;split at e
 ·rename_i c i;obtain⟨a,g,f⟩:=S8.mp (s.all hd);obtain⟨n,E,C⟩:=v4.mp e;cases C;have q:L2.atI (c.map V.int) i=some (.int n):=by
   unfold L2.atI;rw[g7];have b:((ixN c.length i).bind λ j=>c[j]?)=some n:=E;cases z:ixN c.length i with
   | none=>rw[z]at b;cases b
   | some j=>
    rw[z]at b;have B:c[j]? = some n:=b;show(c.map V.int)[j]? = _;rw[p5,B];rfl
  refine .inl ⟨a,_,i,_,g,r.int hd,f.sq,q,p _ H (Same.refl H) ?_⟩;cases cx<;>exact A0
 ·obtain⟨a,l,g,f,u⟩:=s.lstC hd;obtain⟨v,o,m⟩:=u.atI e;exact .inl ⟨a,l,_,v,g,r.int hd,SqL.of f,o,p _ H (Same.refl H) (Got.item m)⟩
 ·obtain⟨a,l,g,f,u⟩:=s.tupC hd;obtain⟨v,o,m⟩:=u.atI e;exact .inr (.inl ⟨a,l,_,v,g,r.int hd,f,o,p _ H (Same.refl H) (Got.item m)⟩)
 ·cases e
def Ck(g:∀q,ra=some q->PE X a (dE X.D δ q))(f:∀q,rb=some q->PE X b (dE X.D δ q))(e:Z3 b=false)(h:(Re.thn ra λ x c=>Re.thn rb λ y _=>(ixD x y).map λ d=>.ok d c.item)=some re):PE X (.Subscript a b pos) (dE X.D δ re):=
 kS (λ _ _ j i=>yX zb j i (by cases b<;>first | (intro _ _;rfl) | cases e)) g f h λ O W H0 H x y Q dx c dy cy σ k hd m l p=>Cj k hd m l p
def gl(n d:Nat)(o:JF Int):slIx n d o=HT.sIx n d o:=by cases o<;>rfl
def RepL.cut(h:RepL D H ds xs)(a b:JF Int):RepL D H (cutD ds a b) (cutV xs a b):=by
 unfold cutD cutV;rw[gl,gl,←h.length];exact(h.drop _).take _
def Cm{e:JF Int}(h:((slD n e f).map λ d=>Re.ok d (slCl n cx))=some re)(hd:Hid O W o H)(l:Got X.D O W o H n cx x)
  (p:Post X.D O W o H Q re):rSlL X.K x e f H Q\/rSlT X.K x e f H Q:=by
 obtain⟨d,c,s⟩:=v4.mp h;cases s;unfold slD at c;split at c
 ·rename_i r;cases c;obtain⟨a,i,g⟩:=S8.mp (l.all hd);exact .inl ⟨a,_,i,g.sq,λ q b=>p _ _ (v7 b) (S9 hd b ((bf r).cut e f))⟩
 ·cases c;obtain⟨a,k,i,g,j⟩:=l.lstC hd;exact .inl ⟨a,k,i,SqL.of g,λ q b=>p _ _ (v7 b) (gi hd b (j.cut e f))⟩
 ·rename_i ds;split at c
  ·cases c
  ·rename_i m;cases c;obtain⟨a,k,i,g,j⟩:=l.tupC hd;refine .inr ⟨a,k,i,g,?_,λ q b=>p _ _ (v7 b) (qK hd b (j.cut e f))⟩;rw[gl,gl,←j.length]at m;exact m
 ·cases c
def Cn:SlR X (λ x a b H Q=>rSlL X.K x a b H Q\/rSlT X.K x a b H Q):=zi.or yU
def qW(h:PE X b (dE X.D δ (.ok (.int i) cl))):PO X (some b) (λ d H Q=>∃O W,RSt X.D H d δ O W/\∀c,Same H c->Q (some i) c):=λ a s d H Q I ⟨O,W,R,p⟩=>
 yR h a s d H Q I ⟨O,W,R,λ v c s1 g=>⟨i,g.int (R.hid.mono s1),p c s1⟩⟩
def Co(v:∀q,ra=some q->PE X a (dE X.D δ q))(s:∀q,rb=some q->PE X b (dE X.D δ q))(r:∀q,j=some q->PE X c (dE X.D δ q))(h:(Re.thn ra λ x o=>Re.thn rb λ l _=>match l with
  | .int l=>Re.thn j λ u _=>(match u with
   | .int u=>(slD x (some l) (some u)).map λ d=>.ok d (slCl x o) | _=>none) | _=>none)=some re):PE X (.Subscript a (.Slice (some b) (some c) none p2) pos) (dE X.D δ re):=by
 cases g:ra with
 | none=>rw[g]at h;cases h
 | some q=>
  rw[g]at h;have A:=v q g;cases q with
  | ok n o=>
   cases f:rb with
   | none=>rw[f]at h;cases h
   | some q=>
    rw[f]at h;have B:=s q f;cases q with
    | ok z cy=>
     have i:(match(generalizing:=false) z with | .int l=>Re.thn j λ u _=>(match u with | .int u=>(slD n (some l) (some u)).map λ d=>Re.ok d _ | _=>none) | _=>none)=some re:=h;split at i
     ·rename_i l;cases e:j with
      | none=>rw[e]at i;cases i
      | some q=>
       rw[e]at i;have C:=r q e;cases q with
       | ok y cz=>
        have m:(match(generalizing:=false) y with | .int u=>(slD n (some l) (some u)).map λ d=>Re.ok d (slCl n o) | _=>none)=some re:=i;split at m
        ·rename_i u;exact(yT Cn A (qW B) (qW C)).weak λ σ H Q ⟨O,W,R,p⟩=>⟨O,W,R,λ x H1 s1 w=>⟨O,W,R.mono s1,λ H2 s2=>⟨O,W,(R.mono s1).mono s2,λ H3 k=>Cm m (((R.hid.mono s1).mono s2).mono k) ((w.mono s2).mono k) (p.step (s1.trans (s2.trans k)))⟩⟩⟩
        ·cases m
     ·cases i
end
mutual
noncomputable def toP:DV->PyData
 | .non=>.none | .bl b=>.bool b | .int i=>.int i | .str x=>.str x
 | .tup ds=>.tuple (toPs ds) | .lst ds=>.list (toPs ds)
 | _=>.none
noncomputable def toPs:on DV->on PyData
 | []=>[]
 | d::r=>toP d::toPs r
end
mutual
theorem gm:∀(n m:Nat) (d e:DV),d.plain n=true->e.plain m=true->PyData.eqv (toP d) (toP e)=deq d e
 | n,m,.non,e,_,h=>by cases e<;>first | (cases m<;>simp[DV.plain]at h;done) | (simp only[toP,PyData.eqv,deq])
 | n,m,.bl _,e,_,h=>by cases e<;>first | (cases m<;>simp[DV.plain]at h;done) | (simp only[toP,PyData.eqv,deq])
 | n,m,.int _,e,_,h=>by cases e<;>first | (cases m<;>simp[DV.plain]at h;done) | (simp only[toP,PyData.eqv,deq])
 | n,m,.str x,e,_,h=>by
  cases e with
  | str y=>simp only[toP,PyData.eqv,deq];rfl
  | non=>simp only[toP,PyData.eqv,deq]
  | bl _=>simp only[toP,PyData.eqv,deq]
  | int _=>simp only[toP,PyData.eqv,deq]
  | tup _=>simp only[toP,PyData.eqv,deq]
  | lst _=>simp only[toP,PyData.eqv,deq]
  | dct _ _=>cases m<;>simp[DV.plain]at h
  | dcl _ _=>cases m<;>simp[DV.plain]at h
  | fn _=>cases m<;>simp[DV.plain]at h
  | lam _ _=>cases m<;>simp[DV.plain]at h
  | scr _=>cases m<;>simp[DV.plain]at h
 | 0,_,.tup _,_,h,_=>by simp[DV.plain]at h
 | 0,_,.lst _,_,h,_=>by simp[DV.plain]at h
 | n+1,m,.tup ds,e,h,h'=>by
  cases e with
  | tup es=>
   cases m with
   | zero=>simp[DV.plain]at h'
   | succ m=>
    simp only[toP,PyData.eqv,deq];exact kW n m ds es (by simpa[DV.plain]using h) (by simpa[DV.plain]using h')
  | non=>simp only[toP,PyData.eqv,deq]
  | bl _=>simp only[toP,PyData.eqv,deq]
  | int _=>simp only[toP,PyData.eqv,deq]
  | str _=>simp only[toP,PyData.eqv,deq]
  | lst _=>simp only[toP,PyData.eqv,deq]
  | dct _ _=>cases m<;>simp[DV.plain]at h'
  | dcl _ _=>cases m<;>simp[DV.plain]at h'
  | fn _=>cases m<;>simp[DV.plain]at h'
  | lam _ _=>cases m<;>simp[DV.plain]at h'
  | scr _=>cases m<;>simp[DV.plain]at h'
 | n+1,m,.lst ds,e,h,h'=>by
  cases e with
  | lst es=>
   cases m with
   | zero=>simp[DV.plain]at h'
   | succ m=>
    simp only[toP,PyData.eqv,deq];exact kW n m ds es (by simpa[DV.plain]using h) (by simpa[DV.plain]using h')
  | non=>simp only[toP,PyData.eqv,deq]
  | bl _=>simp only[toP,PyData.eqv,deq]
  | int _=>simp only[toP,PyData.eqv,deq]
  | str _=>simp only[toP,PyData.eqv,deq]
  | tup _=>simp only[toP,PyData.eqv,deq]
  | dct _ _=>cases m<;>simp[DV.plain]at h'
  | dcl _ _=>cases m<;>simp[DV.plain]at h'
  | fn _=>cases m<;>simp[DV.plain]at h'
  | lam _ _=>cases m<;>simp[DV.plain]at h'
  | scr _=>cases m<;>simp[DV.plain]at h'
 | n,_,.dct _ _,_,h,_=>by cases n<;>simp[DV.plain]at h
 | n,_,.dcl _ _,_,h,_=>by cases n<;>simp[DV.plain]at h
 | n,_,.fn _,_,h,_=>by cases n<;>simp[DV.plain]at h
 | n,_,.lam _ _,_,h,_=>by cases n<;>simp[DV.plain]at h
 | n,_,.scr _,_,h,_=>by cases n<;>simp[DV.plain]at h
theorem kW:∀(n m:Nat) (ds es:on DV),DV.plains n ds=true->DV.plains m es=true->PyData.eqvAll (toPs ds) (toPs es)=deqs ds es
 | _,_,[],[],_,_=>by simp only[toPs,PyData.eqvAll,deqs]
 | _,_,[],_::_,_,_=>by simp only[toPs,PyData.eqvAll,deqs]
 | _,_,_::_,[],_,_=>by simp only[toPs,PyData.eqvAll,deqs]
 | n,m,d::ds,e::es,h,h'=>by simp only[DV.plains,g6]at h h';simp only[toPs,PyData.eqvAll,deqs,gm n m d e h.1 h'.1,kW n m ds es h.2 h'.2]
end
mutual
theorem kX:∀(n:Nat) (d:DV),d.plain n=true->(toP d).canLay0=true/\(toP d).depth<=n
 | n,.non,_=>by simp[toP,PyData.canLay0,PyData.depth]
 | n,.bl _,_=>by simp[toP,PyData.canLay0,PyData.depth]
 | n,.int _,_=>by simp[toP,PyData.canLay0,PyData.depth]
 | n,.str x,h=>by
  have h':(x.cps.all (· < 0x110000))=true:=by cases n<;>simpa[DV.plain]using h
  simp only[toP,PyData.canLay0,PyData.depth];exact⟨h',F3 _⟩
 | 0,.tup _,h=>by simp[DV.plain]at h
 | 0,.lst _,h=>by simp[DV.plain]at h
 | n+1,.tup ds,h=>by have q:=gn n ds (by simpa[DV.plain]using h);simp only[toP,PyData.canLay0,PyData.depth,q.1,true_and];have:=q.2;omega
 | n+1,.lst ds,h=>by have q:=gn n ds (by simpa[DV.plain]using h);simp only[toP,PyData.canLay0,PyData.depth,q.1,true_and];have:=q.2;omega
 | n,.dct _ _,h=>by cases n<;>simp[DV.plain]at h
 | n,.dcl _ _,h=>by cases n<;>simp[DV.plain]at h
 | n,.fn _,h=>by cases n<;>simp[DV.plain]at h
 | n,.lam _ _,h=>by cases n<;>simp[DV.plain]at h
 | n,.scr _,h=>by cases n<;>simp[DV.plain]at h
theorem gn:∀(n:Nat) (ds:on DV),DV.plains n ds=true->PyData.canLayAll0 (toPs ds)=true/\PyData.depthAll (toPs ds)<=n
 | _,[],_=>by simp[toPs,PyData.canLayAll0,PyData.depthAll]
 | n,d::ds,h=>by simp only[DV.plains,g6]at h;have q:=kX n d h.1;have q':=gn n ds h.2;simp only[toPs,PyData.canLayAll0,PyData.depthAll,q.1,q'.1,Bool.and_self,true_and];have a:=q.2;have b:=q'.2;omega
end
section
variable {X:Cx} {pins:on (JI×Obj)} {σ:St} {H:Hp} {s:JH}
mutual
theorem ag(I:Inv X pins σ H s):∀(n:Nat) {d:DV} {v:V} {u:JG},d.plain n=true->Rep X.D H d v->RelV v u->∃as,Reads s.heap u (toP d) as
 | _,.non,_,_,_,h,r=>by rw[V1.mp h]at r;cases r;exact⟨_,Reads.none⟩
 | _,.bl b,_,_,_,h,r=>by rw[aa.mp h]at r;cases r;exact⟨_,Reads.bool b⟩
 | _,.int i,_,_,_,h,r=>by rw[u6.mp h]at r;obtain⟨t,rfl⟩:=r;exact⟨_,Reads.int i t⟩
 | _,.str x,_,_,_,h,r=>by rw[(de.mp h).1]at r;obtain⟨t,rfl⟩:=r;exact⟨_,Reads.str x t⟩
 | 0,.tup _,_,_,p,_,_=>by simp[DV.plain]at p
 | 0,.lst _,_,_,p,_,_=>by simp[DV.plain]at p
 | n+1,.tup ds,_,_,p,h,r=>by obtain⟨a,xs,e1,e2,e3⟩:=D4.mp h;rw[e1]at r;cases r;obtain⟨its,rv,⟨o,h1,h2,k,h3⟩,_⟩:=I.tuple e2;obtain⟨as,q⟩:=kY I n (by simpa[DV.plain]using p) e3 rv;rw[toP];exact⟨as,Reads.tuple h1 h2 h3 (by simpa using q)⟩
 | n+1,.lst ds,_,_,p,h,r=>by obtain⟨a,xs,e1,e2,e3⟩:=G8.mp h;rw[e1]at r;cases r;obtain⟨_,its,k,rv,_,h1⟩:=I.lstM e2;obtain⟨as,q⟩:=kY I n (by simpa[DV.plain]using p) e3 rv;rw[toP];exact⟨_,Reads.list h1 rfl rfl (by simpa using q)⟩
 | n,.dct _ _,_,_,h,_,_=>by cases n<;>simp[DV.plain]at h
 | n,.dcl _ _,_,_,h,_,_=>by cases n<;>simp[DV.plain]at h
 | n,.fn _,_,_,h,_,_=>by cases n<;>simp[DV.plain]at h
 | n,.lam _ _,_,_,h,_,_=>by cases n<;>simp[DV.plain]at h
 | n,.scr _,_,_,h,_,_=>by cases n<;>simp[DV.plain]at h
theorem kY(I:Inv X pins σ H s):∀(n:Nat) {ds:on DV} {vs:on V} {us:on JG},DV.plains n ds=true->RepL X.D H ds vs->Vals vs us->∃as,ReadsAll s.heap us (toPs ds) as
 | _,[],_,_,_,h,r=>by rw[B7.mp h]at r;cases r;exact⟨_,ReadsAll.nil⟩
 | n,d::ds,_,_,p,h,r=>by
  simp only[DV.plains,g6]at p;obtain⟨v,vs,e1,e2,e3⟩:=v5.mp h;subst e1;cases r with
  | cons r1 r2=>
   obtain⟨as,q⟩:=ag I n p.1 e2 r1;obtain⟨bs,q'⟩:=kY I n p.2 e3 r2;rw[toPs];exact⟨_,ReadsAll.cons q q'⟩
end
def gp(h:d.plain 60=true):SeqAt.shaped (toP d)=true:=by
 have q:=kX 60 d h;unfold SeqAt.shaped;rw[q.1,cw];exact B1 (i9 q.2 JY)
end
section
variable {X:Cx} {δ:on Sv} {a b c e:JK} {pos:Pos} {ra rb rc:JF Re} {re:Re}
def cmpR(X:Cx)(op:CmpOp):R2:=λ x y H Q=>∃dx dy k,cmpD op dx dy=some k/\Rep X.D H dx x/\Rep X.D H dy y/\Q (.bl k) H
def Cp(r:Rep D H d v):decide (v=.non)=isN d:=by
 cases d with
 | non=>rw[V1.mp r];rfl
 | bl _=>rw[aa.mp r];rfl
 | int _=>rw[u6.mp r];rfl
 | str _=>rw[(de.mp r).1];rfl
 | tup _=>obtain⟨a,c,e,_⟩:=D4.mp r;rw[e];rfl
 | lst _=>obtain⟨a,c,e,_⟩:=G8.mp r;rw[e];rfl
 | fn _=>obtain⟨a,e,_⟩:=kB.mp r;rw[e];rfl
 | lam _ _=>obtain⟨a,_,_,_,_,_,_,_,e,_⟩:=kA.mp r;rw[e];rfl
 | scr _=>obtain⟨a,e,_⟩:=S8.mp r;rw[e];rfl
 | dct _ _=>obtain⟨a,o,b,e,_⟩:=ae.mp r;rw[e];rfl
 | dcl _ _=>obtain⟨a,b,e,_⟩:=kC.mp r;rw[e];rfl
def bj(z:X.A.units+64<cLine):OpR X (compareOp op) (cmpR X op):=by
 intro b s j H x y v u Q I g f h;obtain⟨dx,dy,k,a,r1,i,q⟩:=h;have l:∀{w:Bool},w=k->EP X b j Q _ s:=λ {w} e=>⟨.bl w,H,I,rfl,by rw[e];exact q⟩
 unfold cmpD at a;cases op
 case Lt=>
  dsimp only at a
  replace a:=p4.mp a
  obtain⟨n,d,a⟩:=a
  replace a:=p4.mp a
  obtain⟨m,c,a⟩:=a;have d:=y9 d;have c:=y9 c;subst d c;cases a;exact yn b s j H x y v u Q I g f ⟨_,_,u6.mp r1,u6.mp i,q⟩
 case LtE=>
  dsimp only at a
  replace a:=p4.mp a
  obtain⟨n,d,a⟩:=a
  replace a:=p4.mp a
  obtain⟨m,c,a⟩:=a;have d:=y9 d;have c:=y9 c;subst d c;cases a;exact yp b s j H x y v u Q I g f ⟨_,_,u6.mp r1,u6.mp i,q⟩
 case Gt=>
  dsimp only at a
  replace a:=p4.mp a
  obtain⟨n,d,a⟩:=a
  replace a:=p4.mp a
  obtain⟨m,c,a⟩:=a;have d:=y9 d;have c:=y9 c;subst d c;cases a;exact yq b s j H x y v u Q I g f ⟨_,_,u6.mp r1,u6.mp i,q⟩
 case GtE=>
  dsimp only at a
  replace a:=p4.mp a
  obtain⟨n,d,a⟩:=a
  replace a:=p4.mp a
  obtain⟨m,c,a⟩:=a;have d:=y9 d;have c:=y9 c;subst d c;cases a;exact yt b s j H x y v u Q I g f ⟨_,_,u6.mp r1,u6.mp i,q⟩
 case Eq=>
  dsimp only at a;split at a
  ·rename_i p;rw[g6]at p;cases a;obtain⟨A,r⟩:=ag I 60 p.1 r1 g;obtain⟨bs,o⟩:=ag I 60 p.2 i f;exact eq_dataH r o (gp p.1) (gp p.2) z (l (gm 60 60 _ _ p.1 p.2))
  ·cases a
 case NotEq=>
  dsimp only at a;split at a
  ·rename_i p;rw[g6]at p;cases a;obtain⟨A,r⟩:=ag I 60 p.1 r1 g;obtain⟨bs,o⟩:=ag I 60 p.2 i f;exact ne_dataH r o (gp p.1) (gp p.2) z (l (by rw[gm 60 60 _ _ p.1 p.2]))
  ·cases a
 case Is=>
  dsimp only at a;split at a
  ·cases a;exact yu b s j H x y v u Q I g f ⟨V1.mp i,by rw[Cp r1];exact q⟩
  ·cases a
 all_goals (cases a)
def kZ(h:F8 b=false):behindInMarks op b=false:=by
 cases b<;>first | rfl | cases h
def Cq(d:X.A.units+64<cLine)(g:∀q,ra=some q->PE X a (dE X.D δ q))(f:∀q,rb=some q->PE X b (dE X.D δ q))(e:F8 b=false)
  (h:(Re.thn ra λ x _=>Re.thn rb λ y _=>(cmpD op x y).map λ k=>.ok (.bl k) .strong)=some re):PE X (.Compare a [op] [b] pos) (dE X.D δ re):=
 kS (λ _ _ j i=>yv (bj d) j i (kZ e)) g f h λ O W H0 H x y Q s cx r cy σ k hd m l p=>by obtain⟨c,o,n⟩:=v4.mp k;cases n;exact⟨s,r,c,o,m.all hd,l.all hd,p _ H (Same.refl H) af⟩
def Cr(g:∀q,ra=some q->PE X a (dE X.D δ q))(f:∀q,rb=some q->PE X b (dE X.D δ q))
  (h:(Re.thn ra λ x _=>Re.thn rb λ y _=>(cmpD op x y).map λ k=>.ok (.bl k) .strong)=some re):∃d c,PE X a d/\PE X b c/\∀σ H Q,dE X.D δ re σ H Q->tOp (cmpR X op) d c σ H Q:=
 qR g f h λ O W H0 H x y Q o cx n cy σ k hd j i p=>by obtain⟨e,m,l⟩:=v4.mp k;cases l;exact⟨o,n,e,m,j.all hd,i.all hd,p _ H (Same.refl H) af⟩
def qX(b:∀d c,re=.ok d c->∃k,d=.bl k)(h:tstD (some re)=some r)(q:dT X.D δ r σ H Q):dE X.D δ re σ H (λ x a=>∃k,x=.bl k/\Q k a):=by
 obtain⟨O,W,R,p⟩:=q;cases re with
 | ok d c=>
  obtain⟨k,rfl⟩:=b d c rfl;cases h;exact⟨O,W,R,λ v a s g=>⟨k,g.bl (R.hid.mono s),p a s⟩⟩
def Cs(h:(Re.thn ra λ x _=>Re.thn rb λ y _=>(cmpD op x y).map λ k=>.ok (.bl k) .strong)=some re):∀d c,re=.ok d c->∃k,d=.bl k:=by
 intro d c e;subst e;cases ra with
 | none=>cases h
 | some q=>
  cases q with
  | ok d c=>
   cases rb with
   | none=>cases h
   | some q=>
    cases q with
    | ok d' c'=>
     obtain⟨k,_,e⟩:=v4.mp (h);cases e;exact⟨k,rfl⟩
def Cu(d:X.A.units+64<cLine)(g:∀q,ra=some q->PE X a (dE X.D δ q))(f:∀q,rb=some q->PE X b (dE X.D δ q))(e:F8 b=false)
  (h:tstD (Re.thn ra λ x _=>Re.thn rb λ y _=>(cmpD op x y).map λ k=>.ok (.bl k) .strong)=some r):PT X (.Compare a [op] [b] pos) (dT X.D δ r):=by
 cases q:(Re.thn ra λ x _=>Re.thn rb λ y _=>(cmpD op x y).map λ k=>Re.ok _ .strong)with
 | none=>rw[q]at h;cases h
 | some re=>
  rw[q]at h;obtain⟨ta,tb,A,B,w⟩:=Cr g f q;exact(yw (bj d) A B (kZ e)).weak λ c H Q z=>w c H _ (qX (Cs q) h z)
def qY{a:CmpOp}(h:F8 c=false):lastMarks [op,a] [b,c]=false:=by
 show behindInMarks a c=false;exact kZ h
def qZ{e:CmpOp}(I:∀q,ra=some q->PE X a (dE X.D δ q))(F:∀q,rb=some q->PE X b (dE X.D δ q))(E:∀q,rc=some q->PE X c (dE X.D δ q))
  (h:(Re.thn ra λ x _=>Re.thn rb λ y _=>match cmpD op x y with
   | none=>none
   | some false=>some (.ok (.bl false) .strong)
   | some true=>Re.thn rc λ z _=>(cmpD e y z).map λ k=>.ok (.bl k) .strong)=some re):∃w v u,PE X a w/\PE X b v/\PE X c u/\(∀σ H Q,dE X.D δ re σ H Q->jp (cmpR X op) (cmpR X e) w v u σ H Q)/\∀d cl,re=.ok d cl->∃k,d=.bl k:=by
 cases i:ra with
 | none=>rw[i]at h;cases h
 | some q=>
  rw[i]at h;have A:=I q i;cases q with
  | ok s cx=>
   cases g:rb with
   | none=>rw[g]at h;cases h
   | some q=>
    rw[g]at h;have B:=F q g;cases q with
    | ok l cy=>
     have j:(match(generalizing:=false) cmpD op s l with
      | none=>none
      | some false=>some (Re.ok (.bl false) .strong)
      | some true=>Re.thn rc λ z _=>(cmpD e l z).map λ k=>.ok (.bl k) .strong)=some re:=h
     split at j
     ·cases j
     ·rename_i r;cases j;exact⟨_,_,_,A,B,dh,λ σ H Q ⟨O,W,R,p⟩=>⟨O,W,R,λ x P s1 o=>⟨O,W,R.mono s1,λ y N s2 n=>
       ⟨s,l,false,r,(o.mono s2).all ((R.hid.mono s1).mono s2),n.all ((R.mono s1).hid.mono s2),false,rfl,by rw[g8 z7];exact p _ _ (s1.trans s2) af⟩⟩⟩,λ d cl z=>by cases z;exact⟨_,rfl⟩⟩
     ·rename_i r;cases f:rc with
      | none=>rw[f]at j;cases j
      | some q=>
       rw[f]at j;have C:=E q f;cases q with
       | ok M cz=>
        obtain⟨k,L,K⟩:=v4.mp (j);cases K;exact⟨_,_,_,A,B,C,λ σ H Q ⟨O,W,R,p⟩=>⟨O,W,R,λ x P s1 o=>⟨O,W,R.mono s1,λ y N s2 n=>
         ⟨s,l,true,r,(o.mono s2).all ((R.hid.mono s1).mono s2),n.all ((R.mono s1).hid.mono s2),true,rfl,by
          rw[f8 rfl];exact⟨O,W,(R.mono s1).mono s2,λ z H3 m J=>⟨l,M,k,L,(n.mono m).all (((R.mono s1).hid.mono s2).mono m),J.all (((R.mono s1).mono s2).hid.mono m),p _ _ (s1.trans (s2.trans m)) af⟩⟩⟩⟩⟩,λ d cl z=>by cases z;exact⟨_,rfl⟩⟩
def Cv(e:X.A.units+64<cLine)(j:∀q,ra=some q->PE X a (dE X.D δ q))(i:∀q,rb=some q->PE X b (dE X.D δ q))(g:∀q,rc=some q->PE X c (dE X.D δ q))(f:F8 c=false)
  (h:(Re.thn ra λ x _=>Re.thn rb λ y _=>match cmpD op x y with
   | none=>none
   | some false=>some (.ok (.bl false) .strong)
   | some true=>Re.thn rc λ z _=>(cmpD d y z).map λ k=>.ok (.bl k) .strong)=some re):PE X (.Compare a [op,d] [b,c] pos) (dE X.D δ re):=by
 obtain⟨ta,tb,tc,A,B,C,w,_⟩:=qZ j i g h;exact(yx (bj e) (bj e) A B C (qY f)).weak w
def Cw(f:X.A.units+64<cLine)(m:∀q,ra=some q->PE X a (dE X.D δ q))(l:∀q,rb=some q->PE X b (dE X.D δ q))(j:∀q,rc=some q->PE X c (dE X.D δ q))(i:F8 c=false)
  (h:tstD (Re.thn ra λ x _=>Re.thn rb λ y _=>match cmpD op x y with
   | none=>none
   | some false=>some (.ok (.bl false) .strong)
   | some true=>Re.thn rc λ z _=>(cmpD d y z).map λ k=>.ok (.bl k) .strong)=some r):PT X (.Compare a [op,d] [b,c] pos) (dT X.D δ r):=by
 cases q:(Re.thn ra λ x _=>Re.thn rb λ y _=>match cmpD op x y with
   | none=>none
   | some false=>some _
   | some true=>Re.thn rc λ z _=>(cmpD d y z).map λ k=>.ok _ .strong)with
 | none=>rw[q]at h;cases h
 | some re=>
  rw[q]at h;obtain⟨ta,tb,tc,A,B,C,w,e⟩:=qZ m l j q;exact(yy (bj f) (bj f) A B C (qY i)).weak λ g H Q z=>w g H _ (qX e h z)
end
def bn(h:J3 d=some k)(r:Rep D H d v):TruV D.K v H k:=by
 cases d with
 | non=>cases h;rw[V1.mp r];rfl
 | bl b=>cases h;rw[aa.mp r];rfl
 | int i=>cases h;rw[u6.mp r];rfl
 | str x=>
  cases h;obtain⟨f,e⟩:=de.mp r;rw[f];refine⟨e,?_⟩;show(x.cps.size != 0)=(((x.cps.size:Nat):Int) != 0);cases x.cps.size with
  | zero=>rfl
  | succ n=>simp only[bne,Nat.add_eq_zero_iff];rw[eS];simp;omega
 | tup j=>
  cases h;obtain⟨a,c,f,e,g⟩:=D4.mp r;rw[f];refine .inr (.inl ⟨c,e,?_⟩);have:=g.length;cases c<;>cases j<;>first | rfl | cases this
 | lst j=>
  cases h;obtain⟨a,c,f,e,g⟩:=G8.mp r;rw[f];refine .inl ⟨c,SqL.of e,?_⟩;have:=g.length;cases c<;>cases j<;>first | rfl | cases this
 | dct _ _=>cases h
 | dcl _ _=>cases h
 | fn _=>cases h
 | lam _ _=>cases h
 | scr _=>cases h
def Cy(g:∀q,c=some q->PE X e (dE X.D δ q))(f:∀a,isTrue e X.env a=(do let v ←a;standAt e.pos;holding [v] (truthy v)))(h:tstD c=some r):PT X e (dT X.D δ r):=by
 cases b:c with
 | none=>rw[b]at h;cases h
 | some q=>
  rw[b]at h;have A:=g q b;cases q with
  | ok d cl=>
   obtain⟨k,l,j⟩:=v4.mp (h);cases j;exact(yA A f).weak λ σ H Q ⟨O,W,R,p⟩=>⟨O,W,R,λ x m s1 i=>⟨k,bn l (i.all (R.hid.mono s1)),p m s1⟩⟩
def Cz(j:PE X a f):PE X (.UnaryOp .Not a pos) (tUn (λ x H Q=>∃k,TruV X.K x H k/\Q (.bl (!k)) H) f):=by
 intro c s e H Q I h;refine UnaryOp_ (thn (j c s e H _ I h) λ v s1 t0=>?_);obtain⟨x,g,o,i,d⟩:=t0;obtain⟨k,t,d⟩:=d;exact not_of (thn (fB c s1 e g x v (λ b q=>b=k/\q=g) o i ⟨k,t,rfl,rfl⟩) λ b s2 ⟨p,n,m,l⟩=>by
  subst m l;exact⟨.bl (!b),p,n,rfl,d⟩)
def CA(e:∀q,d=some q->PE X a (dE X.D δ q))(h:(Re.thn d λ x _=>(J3 x).map λ k=>.ok (.bl (!k)) .strong)=some c):PE X (.UnaryOp .Not a pos) (dE X.D δ c):=
 qQ (λ _=>Cz) e h λ O W H0 H x Q dx cx σ k hd f p=>by obtain⟨b,i,g⟩:=v4.mp k;cases g;exact⟨b,bn i (f.all hd),p _ H (Same.refl H) af⟩
def rd(q:PE X a j)(p:PE X (.BoolOp .And (b::es) pos) i):PE X (.BoolOp .And (a::b::es) pos) (λ e H Q=>j e H λ x f=>∃k,TruV X.K x f k/\if k=true then i e f Q else Q x f):=by
 intro d s e H Q I h;refine BoolOp_and (thn (q d s e H _ I h) λ v s1 t0=>?_);obtain⟨x,f,w,l,g⟩:=t0;obtain⟨k,t,g⟩:=g;refine thn (fB d s1 e f x v (λ b y=>b=k/\y=f) w l ⟨k,t,rfl,rfl⟩) λ c o t0=>?_;obtain⟨n,m,u,r⟩:=t0
 subst u r;cases c with
 | true=>exact p d o e n Q m g
 | false=>exact⟨x,n,m,l,g⟩
def rg(p:PE X a i)(o:PE X (.BoolOp .Or (b::es) pos) tb):PE X (.BoolOp .Or (a::b::es) pos) (λ e H Q=>i e H λ x f=>∃k,TruV X.K x f k/\if k=true then Q x f else tb e f Q):=by
 intro d s e H Q I h;refine BoolOp_or (thn (p d s e H _ I h) λ v s1 t0=>?_);obtain⟨x,f,u,j,g⟩:=t0;obtain⟨k,t,g⟩:=g;refine thn (fB d s1 e f x v (λ b w=>b=k/\w=f) u j ⟨k,t,rfl,rfl⟩) λ c n t0=>?_;obtain⟨m,l,r,q⟩:=t0
 subst r q;cases c with
 | false=>exact o d n e m Q l g
 | true=>exact⟨x,m,l,j,g⟩
def CB(o:∀q,k=some q->PE X a (dE X.D δ q))(n:∀q,j=some q->PE X (.BoolOp .And (b::es) pos) (dE X.D δ q))(h:(Re.thn k λ x c=>andD x c j)=some g):PE X (.BoolOp .And (a::b::es) pos) (dE X.D δ g):=by
 cases e:k with
 | none=>rw[e]at h;cases h
 | some q=>
  rw[e]at h;have A:=o q e;cases q with
  | ok d cl=>
   have f:andD d cl j=some g:=h;unfold andD at f;split at f
   ·cases f
   ·rename_i t;exact(rd A (n g f)).weak λ m H Q ⟨O,W,R,p⟩=>⟨O,W,R,λ x l s1 i=>⟨true,bn t (i.all (R.hid.mono s1)),iteT ⟨O,W,R.mono s1,p.later s1 s1⟩⟩⟩
   ·rename_i t;cases f;exact(rd A dh).weak λ m H Q ⟨O,W,R,p⟩=>⟨O,W,R,λ x l s1 i=>⟨false,bn t (i.all (R.hid.mono s1)),iteF (p _ l s1 i)⟩⟩
def CC(o:∀q,k=some q->PE X a (dE X.D δ q))(n:∀q,j=some q->PE X (.BoolOp .Or (b::es) pos) (dE X.D δ q))(h:(Re.thn k λ x c=>orD x c j)=some g):PE X (.BoolOp .Or (a::b::es) pos) (dE X.D δ g):=by
 cases e:k with
 | none=>rw[e]at h;cases h
 | some q=>
  rw[e]at h;have A:=o q e;cases q with
  | ok d cl=>
   have f:orD d cl j=some g:=h;unfold orD at f;split at f
   ·cases f
   ·rename_i t;cases f;exact(rg A dh).weak λ m H Q ⟨O,W,R,p⟩=>⟨O,W,R,λ x l s1 i=>⟨true,bn t (i.all (R.hid.mono s1)),iteT (p _ l s1 i)⟩⟩
   ·rename_i t;exact(rg A (n g f)).weak λ m H Q ⟨O,W,R,p⟩=>⟨O,W,R,λ x l s1 i=>⟨false,bn t (i.all (R.hid.mono s1)),iteF ⟨O,W,R.mono s1,p.later s1 s1⟩⟩⟩
def lg(h:tstD (Re.thn b k)=some r):∃d c,b=some (.ok d c)/\tstD (k d c)=some r:=by
 cases a:b with
 | none=>rw[a]at h;cases h
 | some q=>
  rw[a]at h;cases q with
  | ok d c=>exact⟨d,c,rfl,h⟩
def rh(h:tstD (some (.ok d c))=some r):∃k,J3 d=some k/\r=.ok k:=by
 obtain⟨k,b,a⟩:=v4.mp (h);exact⟨k,b,a.symm⟩
def CD(f:∀q,tstD e=some q->PT X a (dT X.D δ q))(h:tstD (Re.thn e λ x _=>(J3 x).map λ k=>.ok (.bl (!k)) .strong)=some r):PT X (.UnaryOp .Not a pos) (dT X.D δ r):=by
 obtain⟨d,c,g,b⟩:=lg h
 ·cases t:J3 d with
  | none=>rw[t]at b;cases b
  | some k=>
   rw[t]at b;cases b;have A:=f _ (by rw[g];show(J3 d).map Rt.ok=_;rw[t];rfl);exact(xE A).weak λ σ H Q ⟨O,W,R,p⟩=>⟨O,W,R,λ i s1=>p i s1⟩
def CF(n:∀q,tstD i=some q->PT X a (dT X.D δ q))(m:∀q,tstD g=some q->PW X (.BoolOp .And (b::es) pos) (dT X.D δ q))(h:tstD (Re.thn i λ x c=>andD x c g)=some r):PW X (.BoolOp .And (a::b::es) pos) (dT X.D δ r):=by
 obtain⟨d,c,o,e⟩:=lg h
 ·unfold andD at e;cases t:J3 d with
  | none=>rw[t]at e;cases e
  | some k=>
   rw[t]at e;have A:=n _ (by rw[o];show(J3 d).map Rt.ok=_;rw[t];rfl);cases k with
   | true=>exact(nW A (m r e)).weak λ l H Q ⟨O,W,R,p⟩=>⟨O,W,R,λ j s1=>iteT ⟨O,W,R.mono s1,p.later s1⟩⟩
   | false=>
    obtain⟨k,f,rfl⟩:=rh e;rw[t]at f;cases f;exact(nW A qO).weak λ l H Q ⟨O,W,R,p⟩=>⟨O,W,R,λ j s1=>iteF (p j s1)⟩
def CG(n:∀q,tstD i=some q->PT X a (dT X.D δ q))(m:∀q,tstD g=some q->PW X (.BoolOp .Or (b::es) pos) (dT X.D δ q))(h:tstD (Re.thn i λ x c=>orD x c g)=some r):PW X (.BoolOp .Or (a::b::es) pos) (dT X.D δ r):=by
 obtain⟨d,c,o,e⟩:=lg h
 ·unfold orD at e;cases t:J3 d with
  | none=>rw[t]at e;cases e
  | some k=>
   rw[t]at e;have A:=n _ (by rw[o];show(J3 d).map Rt.ok=_;rw[t];rfl);cases k with
   | false=>exact(nX A (m r e)).weak λ l H Q ⟨O,W,R,p⟩=>⟨O,W,R,λ j s1=>iteF ⟨O,W,R.mono s1,p.later s1⟩⟩
   | true=>
    obtain⟨k,f,rfl⟩:=rh e;rw[t]at f;cases f;exact(nX A qO).weak λ l H Q ⟨O,W,R,p⟩=>⟨O,W,R,λ j s1=>iteT (p j s1)⟩
def rj(l:PT X c g)(n:PT X a t)(m:PT X b u):PT X (.IfExp c a b pos) (λ e H Q=>g e H λ k f=>if k=true then t e f Q else u e f Q):=by
 intro d s e H Q I h;refine isTrue_IfExp (thn (l d s e H _ I h) λ k s1 t0=>?_);obtain⟨f,j,i⟩:=t0;cases k with
 | true=>exact n d s1 e f Q j i
 | false=>exact m d s1 e f Q j i
def CH(i:∀q,e=some q->PT X c (dT X.D δ q))(l:∀q,tstD f=some q->PT X a (dT X.D δ q))(j:∀q,tstD rb=some q->PT X b (dT X.D δ q))(h:tstD (Rt.thn e λ k=>if k then f else rb)=some r):PT X (.IfExp c a b pos) (dT X.D δ r):=by
 cases d:e with
 | none=>rw[d]at h;cases h
 | some q=>
  rw[d]at h;have C:=i q d;cases q with
  | ok k=>
   cases k with
   | true=>exact(rj C (l r h) qP).weak λ g H Q ⟨O,W,R,p⟩=>⟨O,W,R,λ m s1=>iteT ⟨O,W,R.mono s1,p.later s1⟩⟩
   | false=>exact(rj C qP (j r h)).weak λ g H Q ⟨O,W,R,p⟩=>⟨O,W,R,λ m s1=>iteF ⟨O,W,R.mono s1,p.later s1⟩⟩
def CI(l:∀q,f=some q->PT X c (dT X.D δ q))(n:∀q,rb=some q->PE X a (dE X.D δ q))(m:∀q,i=some q->PE X b (dE X.D δ q))
  (h:(Rt.thn f λ k=>if k then rb else i)=some e):PE X (.IfExp c a b pos) (dE X.D δ e):=by
 cases d:f with
 | none=>rw[d]at h;cases h
 | some q=>
  rw[d]at h;have C:=l q d;cases q with
  | ok k=>
   cases k with
   | true=>
    have g:=h;exact(nZ C (n e g) dh).weak λ j H Q ⟨O,W,R,p⟩=>⟨O,W,R,λ o s1=>iteT ⟨O,W,R.mono s1,p.later s1 s1⟩⟩
   | false=>
    have g:=h;exact(nZ C dh (m e g)).weak λ j H Q ⟨O,W,R,p⟩=>⟨O,W,R,λ o s1=>iteF ⟨O,W,R.mono s1,p.later s1 s1⟩⟩
def x5(h:s9 e=false):starEach (e::es) env=(false,eval e env)::starEach es env:=by
 cases e<;>first | rfl | cases h
def CJ:PA X [] (dA X.D δ (.ok [])):=U5.weak λ σ H Q ⟨O,W,R,p⟩=>p [] H (Same.refl H) .nil
def CK(i:s9 e=false)(k:∀q,g=some q->PE X e (dE X.D δ q))(j:∀q,f=some q->PA X es (dA X.D δ q))
  (h:(match(generalizing:=false) g with | none=>none | some (.ok d c)=>(match(generalizing:=false) f with | none=>none | some (.ok l)=>some (.ok ((d,c)::l))))=some q):PA X (e::es) (dA X.D δ q):=by
 cases b:g with
 | none=>rw[b]at h;cases h
 | some z=>
  rw[b]at h;have A:=k z b;cases z with
  | ok d cl=>
   cases a:f with
   | none=>rw[a]at h;cases h
   | some y=>
    rw[a]at h;have B:=j y a;cases y with
    | ok l=>
     cases h;exact(P6 A B (x5 i)).weak λ σ H Q ⟨O,W,R,p⟩=>⟨O,W,R,λ x H1 s1 n=>⟨O,W,R.mono s1,λ vs o s2 m=>p _ o (s1.trans s2) (.cons (n.mono s2) (m.since s1))⟩⟩
def CL(d:∀q,b=some q->PA X es (dA X.D δ q))(h:(Rs.thn b λ l=>if l.length<=m9 then some (.ok (.lst (l.map (·.1))) (if stros l then .fresh else .weak))else none)=some c):PE X (.List es pos) (dE X.D δ c):=
 di (λ _=>yF) d h λ O W H0 H vs Q l σ k hd g p=>by
  split at k
  ·rename_i m;cases k;refine⟨by rw[g.length];exact Q1 m,λ q a=>p _ _ (v7 a) ?_⟩;by_cases z:stros l=true
   ·rw[f8 z];exact S9 hd a (g.stros hd z)
   ·rw[g8 z];exact kJ hd a (g.repL hd)
  ·cases k
def CM{X:Cx}{δ:on Sv}{es:on JK}{pos:Pos}{re:Re}{rs:JF Rs}{x1:Nat}(ha:∀q,rs=some q->PA X es (dA X.D δ q))(h:(Rs.thn rs λ l=>if l.length<=m9 then some (.ok (.tup (l.map (·.1))) (if stros l then .strong else .weak))else none)=some re):PE X (.Tuple es x1 pos) (dE X.D δ re):=
 di (r:=λ vs H Q=>vs.length<=sizeLine/\∀p,H p=none->Q (.ref p) (upd H p (.tup vs))) (λ _=>jr) ha h λ O W H0 H vs Q l σ k hd g p=>by
  split at k
  ·rename_i m;cases k;refine⟨by rw[g.length];exact Q1 m,λ q hq=>p _ _ (v7 hq) ?_⟩;by_cases z:stros l=true
   ·rw[f8 z];exact dg hd hq (g.stros hd z)
   ·rw[g8 z];exact kO hd hq (g.repL hd)
  ·cases k
theorem lh:∀a:on DV,toPs a=a.map toP
 | []=>by rw[toPs];rfl
 | d::r=>by rw[toPs,lh r];rfl
theorem rm:∀{a:on DV} {j:Nat},R9 y a=some j->∃h:j<a.length,deq a[j] y=true/\∀m (b:m<a.length),m<j->deq a[m] y=false
 | [],j,h=>by cases h
 | d::r,j,h=>by
  unfold R9 at h;split at h
  ·rename_i e;cases h;exact⟨Nat.succ_pos _,e,λ m _ b=>absurd b (eT _)⟩
  ·rename_i e;obtain⟨k,l,rfl⟩:=v4.mp h;obtain⟨f,i,g⟩:=rm l;refine⟨Nat.succ_lt_succ f,i,λ m b c=>?_⟩;cases m with
   | zero=>exact Bool.eq_false_iff.mpr e
   | succ m=>exact g m _ (Nat.lt_of_succ_lt_succ c)
theorem rn:∀{ds:on DV} {m:Nat} (h:m<ds.length),DV.plains n ds=true->(ds[m]).plain n=true
 | d::r,0,_,p=>by simp[DV.plains,g6]at p;exact p.1
 | d::r,m+1,h,p=>by simp[DV.plains,g6]at p;exact rn (ds:=r) _ p.2
section
variable {X:Cx} {pins:on (JI×Obj)} {σ:St} {H:Hp} {s:JH} {δ:on Sv} {o e:JK} {to te:TE} {apos cpos:Pos} {ra rb:JF Re} {re:Re}
def CN(p:y.plain 60=true)(q:DV.plains 60 ds=true)(h:R9 y ds=some j) :
  ∃h:j<(toPs ds).length,PyData.eqv (toPs ds)[j] (toP y)=true/\∀m (c:m<(toPs ds).length),m<j->PyData.eqv (toPs ds)[m] (toP y)=false:=by
 obtain⟨f,e,a⟩:=rm h;have hl:(toPs ds).length=ds.length:=by rw[lh,g7]
 have d:∀m _ (a:m<ds.length),PyData.eqv (toPs ds)[m] _=deq ds[m] y:=λ m e a=>by
  rw[←gm 60 60 ds[m] y (rn a q) p]
  congr 1
  simp[lh,ce]
 exact⟨by omega,(d j JX f).trans e,λ m c b=>(d m c JX).trans (a m JX b)⟩
def CO(hu:X.A.units+64<cLine)(I:Inv X pins σ H s)(e:RelV x v)(d:RelV y u)(g:Rep X.D H (.tup ds) x)(f:Rep X.D H a y)(p:a.plain 60=true)(q:DV.plains 60 ds=true)
  (h:R9 a ds=some j) (k:Q (.int j) H):wpAny Kb X.A (call (.builtin "tuple.index") [v,u]) (EP X pins σ Q) X.xe s:=by
 obtain⟨as,i⟩:=ag I 60 p f d;obtain⟨bs,b⟩:=ag I 61 (by simpa[DV.plain]using q) g e;rw[toP]at b;have c:=kX 60 _ p;have l3:=c.2;obtain⟨l,n,m⟩:=CN p q h;exact SeqAt.index_tuple_reads b i (gn 60 ds q).1 c.1 JX l n m ⟨.int j,H,I.tok _,⟨_,rfl⟩,k⟩
def tIdx(X:Cx)(to te:TE):TE:=λ σ H Q=>to σ H λ x H1=>∃ds,Rep X.D H1 (.tup ds) x/\te σ H1 λ y H2=>∃ds dy j,Rep X.D H2 (.tup ds) x/\Rep X.D H2 dy y/\dy.plain 60=true/\DV.plains 60 ds=true/\R9 dy ds=some j/\Q (.int j) H2
def CP(z:X.A.units+64<cLine)(A:PE X o to)(B:PE X e te)(f:attributeBase o "index" X.env (eval o X.env)=eval o X.env)(d:(apos.endLine==cpos.line)=true)(n:starEach [e] X.env=[(false,eval e X.env)]) :
  PE X (.Call (.Attribute o "index" apos) [e] [] cpos) (tIdx X to te):=by
 intro c s i H Q I h;refine nK f (by rw[n];rfl) d rfl (thn (A c s i H _ I h) λ v s1 t0=>?_);obtain⟨x,O,p,r1,g⟩:=t0;obtain⟨ds,M,g⟩:=g;obtain⟨a,xs,F,E,e3⟩:=D4.mp M;subst F;cases(r1);obtain⟨l,m,w,r⟩:=p.tupleN E;refine⟨"tuple","tuple.index",PySem.F.plainAttrs_tuple,nv,PySem.F.type_tuple_index,⟨l,m,w⟩,λ b C=>?_,?_⟩
 ·cases C;exact⟨l,m,r⟩
 ·rw[n];refine eD rfl (Calls.evalArgs_plain (Calls.spliced_cons (thn (B c s1 i O _ p g) λ u s2 P=>Calls.spliced_nil ?_)));obtain⟨y,H2,N,q,J,dy,j,L,K,p1,p2,p3,k⟩:=P;exact CO z N (show RelV (.ref a) (Value.ref a)from rfl) q L K p1 p2 p3 k
def CQ(w:X.A.units+64<cLine)(F:∀q,ra=some q->PE X o (dE X.D δ q))(E:∀q,rb=some q->PE X e (dE X.D δ q))(f:attributeBase o "index" X.env (eval o X.env)=eval o X.env)(c:(apos.endLine==cpos.line)=true)(B:starEach [e] X.env=[(false,eval e X.env)])
  (h:(Re.thn ra λ x _=>if seqB x then Re.thn rb λ y _=>(idxD x y).map λ d=>.ok d .strong else none)=some re):PE X (.Call (.Attribute o "index" apos) [e] [] cpos) (dE X.D δ re):=by
 cases b:ra with
 | none=>rw[b]at h;cases h
 | some q=>
  rw[b]at h;have A:=F q b;cases q with
  | ok n cx=>
   have k:(if seqB n then Re.thn rb λ y _=>(idxD n y).map λ d=>Re.ok d .strong else none)=some re:=h;have r:seqB n=true:=by
    cases z:seqB n with
    | true=>rfl
    | false=>rw[z]at k;cases k
   rw[f8 r]at k;have l:=k;cases a:rb with
   | none=>rw[a]at l;cases l
   | some q=>
    rw[a]at l;have C:=CP w A (E q a) f c B;cases q with
    | ok L cy=>
     obtain⟨d,g,I⟩:=v4.mp l;subst I;unfold idxD at g;split at g
     ·rename_i v;split at g
      ·rename_i m;obtain⟨j,K,rfl⟩:=v4.mp g;rw[g6,g6,A5]at m;exact C.weak λ σ H Q ⟨O,W,R,p⟩=>⟨O,W,R,λ x H1 s1 u=>⟨v,u.all (R.hid.mono s1),O,W,R.mono s1,λ y M i J=>
        ⟨v,L,j,(u.mono i).all ((R.hid.mono s1).mono i),(J.since s1).all ((R.hid.mono s1).mono i),m.1.1,m.1.2,K,p _ M (s1.trans i) A0⟩⟩⟩
      ·cases g
     ·cases g
end
def GotR(D:Dm)(O:on JI)(H0 H:Hp)(d:DV)(fr:Bool)(v:V):Prop:=match fr with
 | false=>Rep D (L2.wo O H) d v
 | true=>∃p xs ds,v=.ref p/\d=.lst ds/\H0 p=none/\H p=some (.lst xs)/\RepL D (L2.wo (p::O) H) ds xs
def spF(D:Dm)(n:Nat)(f:on DV->JF Ou):Sp:=λ vs H Q E=>∃O ds o,Hdn O H/\ds.length=n/\RepL D (L2.wo O H) ds vs/\f ds=some o /\
 (match o with | .v d fr=>∀v H',Same H H'->GotR D O H H' d fr v->Q v H')
def ro{ps:on Str}{j:St->Hp->Prop}(M:∀ds o,F f ds=some o->ds.length=ps.length)(C:∀q,n=some q->PA X U (dA X.D δ q)->PE X S (λ σ H Q=>j σ H/\js (spF X.D ps.length (F f)) [] E0 (dA X.D δ q) σ H Q))(E:∀σ H O W,RSt X.D H σ δ O W->j σ H)(I:∀q,n=some q->PA X U (dA X.D δ q))
  (h:(Rs.thn n λ l=>J4 F f l)=some B):PE X S (dE X.D δ B):=by
 cases c:n with
 | none=>rw[c]at h;cases h
 | some q=>
  rw[c]at h;have A:=I q c
  replace C:=C q c
  cases q with
  | ok l=>
   have r:J4 F f l=some B:=h;unfold J4 at r;split at r
   ·cases r
   ·rename_i d P i;cases r;refine(C A).weak λ σ H Q ⟨O,W,R,p⟩=>⟨E _ _ _ _ R,O,W,R,λ vs Z s1 N=>?_⟩
    have hd:=R.hid.mono s1;show spF X.D ps.length (F f) _ Z Q E0;rw[C8];by_cases z:(l.all λ p=>p.2 == .strong||p.2 == .fresh)=true
    ·rw[f8 z]at p;refine⟨O++W,_,_,hd.hdA,M _ _ i,N.strong hd z,i,λ v K s g=>p v K (s1.trans s) ?_⟩;cases P with
     | false=>exact g
     | true=>
      obtain⟨q,k,ds,i,J,x,w,u⟩:=g;exact⟨q,k,ds,i,J,s1.free x,w,u⟩
    ·rw[g8 z]at p;refine⟨O,_,_,hd.hdO,M _ _ i,N.repL hd,i,λ v K s g=>p v K (s1.trans s) ?_⟩;cases P with
     | false=>exact g
     | true=>
      obtain⟨q,k,ds,L,J,x,w,u⟩:=g;subst J;rw[cw];cases y:imL (.lst ds)with
      | true=>exact⟨q,k,ds,L,rfl,s1.free x,w,RepL.immut (λ a I=>by obtain⟨o,e,m⟩:=hd.wl a I;exact⟨o,s _ _ (hd.same _ _ e),m⟩) y u⟩
      | false=>
       exact G8.mpr ⟨q,k,L,by rw[j9 (λ z=>hd.ot q (B4 _ z) (s1.free x))];exact w,u.mono (G0 λ b Y=>k5 _ Y)⟩
def CS(fo:FnOk X.prog X.w X.K X.mg X.base CX0 k c fd ps (spF X.D ps.length (F f)))(n:∀ds o,F f ds=some o->ds.length=ps.length)(m:Room k X.A)(u:Gl X x)(r:X.mg x=some (.ref c))(s:PySem.W.keepIn X.K (.ref c)=true)
  (v:P7 X.K fd ps []) (w:∀q,d=some q->PA X (e::es) (dA X.D δ q)) (b:(x==("__debug__" : Str))=false) (j:s9 e=false) (a:es.any s9=false)
  (h:(Rs.thn d λ l=>J4 F f l)=some g):PE X (.Call (.Name x p) (e::es) [] pos) (dE X.D δ g):=by
 have plain:∀(es:on JK),es.any s9=false->(backTo pos (starEach es X.env)).any (·.1)=false:=by
  intro es
  induction es with
  | nil=>intro _;rfl
  | cons y ys i=>
   intro q;rw[J2,N5]at q;rw[x5 q.1];show(false||(backTo pos _).any (·.1))=false;rw[i q.2];rfl
 exact ro n (λ t _ z=>(yG fo m u r s v .nil oY z b (x5 j) (plain es a)).weak λ σ H Q h=>h.2) (λ _ _ _ _ _=>trivial) w h
section
variable {X:Cx} {δ:on Sv} {e:JK} {es:on JK} {pos p:Pos} {re:Re} {rs:JF Rs}
theorem bo:∀(es:on JK),es.any s9=false->(backTo pos (starEach es env)).any (·.1)=false
 | [],_=>rfl
 | y::a,q=>by rw[J2,N5]at q;rw[x5 q.1];show(false||(backTo pos _).any (·.1))=false;rw[bo a q.2];rfl
def CT(fo:FnOk X.prog X.w X.K X.mg X.base CX0 k c fd ps j)(o:Room k X.A)(hv:PE X (.Name x p) (tVar i))(w:PySem.W.keepIn X.K (.ref c)=true)(z:P7 X.K fd ps ds)(hd:Vals d ds)
  (A:PA X (e::es) t) (y:starEach (e::es) X.env=(false,eval e X.env)::starEach es X.env:=by rfl) (f:(backTo pos (starEach es X.env)).any (·.1)=false:=by rfl) :
  PE X (.Call (.Name x p) (e::es) [] pos) (λ b H Q=>b[i]? = some (some (.ref c))/\js j d E0 t b H Q):=by
 intro a s b H Q I h;obtain⟨B,h⟩:=h;refine aF (thn (hv a s b H (λ v g=>v=.ref c/\g=H) I ⟨_,B,rfl,rfl⟩) λ u s1 t0=>?_);obtain⟨v,g,C,r1,n,m⟩:=t0;subst n m;obtain rfl:u=Value.ref c:=r1;refine PySem.W.callWith_K I.ok.mod.kin w (thn (A pos a s1 b g _ C h) λ us s2 ⟨vs,H2,l,r,q⟩=>⟨l.kIn,?_⟩) y f;exact oC fo o z hd oY l r q
def CU(fo:FnOk X.prog X.w X.K X.mg X.base CX0 k b fd ps (spF X.D ps.length (F f)))(r:∀ds o,F f ds=some o->ds.length=ps.length)(n:Room k X.A)(hv:PE X (.Name x p) (tVar i))(s:X.mg y=some (.ref b))(u:PySem.W.keepIn X.K (.ref b)=true)
  (z:P7 X.K fd ps []) (w:δ[i]? = some (.val (.fn y))) (A:∀q,rs=some q->PA X (e::es) (dA X.D δ q)) (m:s9 e=false) (a:es.any s9=false)
  (h:(Rs.thn rs λ l=>J4 F f l)=some re):PE X (.Call (.Name x p) (e::es) [] pos) (dE X.D δ re):=by
 refine ro r (λ t _ B=>CT fo n hv u z .nil B (x5 m) (bo es a)) (λ σ H O W R=>?_) A h;obtain⟨v,E,C⟩:=R.val i _ w;obtain⟨g,j,d⟩:=kB.mp C;have c:X.mg y=some _:=d;rw[s]at c;cases c;rw[E,j]
noncomputable def biR(X:Cx)(k:on (DV×Cl)->JF Re):on V->Hp->VK->Prop:=λ vs H Q=>∃l re O W H0,k l=some re/\Hid O W H0 H/\GotL X.D O W H0 H l vs/\∃d c,re=.ok d c/\∀v H',Same H H'->Got X.D O W H0 H' d c v->Q v H'
def dm(r:z9 X (.builtin f) (biR X k))(o:Gl X x)(m:X.mg x=none)(hv:bootBuiltins x=some (.builtin f))(j:x ≠ "__name__")(b:(x==("__debug__" : Str))=false)
  (s:∀q,rs=some q->PA X (e::es) (dA X.D δ q)) (i:s9 e=false) (a:es.any s9=false) (h:Rs.thn rs k=some re):PE X (.Call (.Name x p) (e::es) [] pos) (dE X.D δ re):=
 di (λ _ u=>ju r o m hv u j b (x5 i) (bo es a)) s h λ O W v H vs Q l σ n hd g p=>by obtain⟨d,c⟩:=re;exact⟨l,_,O,W,v,n,hd,g,d,c,rfl,p⟩
def li(o:z9 X (.type T) (biR X k))(n:Gl X x)(j:X.mg x=none)(hv:bootBuiltins x=some (.type T))(i:x ≠ "__name__")(b:(x==("__debug__" : Str))=false)
  (r:∀q,rs=some q->PA X (e::es) (dA X.D δ q)) (f:s9 e=false) (a:es.any s9=false) (h:Rs.thn rs k=some re):PE X (.Call (.Name x p) (e::es) [] pos) (dE X.D δ re):=
 di (λ _ s=>oK o n j hv s i b (x5 f) (bo es a)) r h λ O W u H vs Q l σ m hd g p=>by obtain⟨d,c⟩:=re;exact⟨l,_,O,W,u,m,hd,g,d,c,rfl,p⟩
theorem bp:∀{ds:on DV} {b:on Int} {a:on V},ints? ds=some b->RepL D H ds a->a=b.map V.int
 | [],b,a,h,r=>by cases h;exact B7.mp r
 | .int i::ds,b,a,h,r=>by obtain⟨ms,g,f⟩:=v4.mp h;obtain⟨v,vs,e,d,c⟩:=v5.mp r;rw[←f,e,o5,u6.mp d,(bp g c)]
 | .non::ds,b,a,h,_=>by cases h
 | .bl _::ds,b,a,h,_=>by cases h
 | .str _::ds,b,a,h,_=>by cases h
 | .tup _::ds,b,a,h,_=>by cases h
 | .lst _::ds,b,a,h,_=>by cases h
 | .dct _ _::ds,b,a,h,_=>by cases h
 | .dcl _ _::ds,b,a,h,_=>by cases h
 | .fn _::ds,b,a,h,_=>by cases h
 | .lam _ _::ds,b,a,h,_=>by cases h
 | .scr _::ds,b,a,h,_=>by cases h
theorem rq:∀(r:on Int) (m:Int),(minI m r=m\/minI m r∈r)/\minI m r<=m/\∀x∈r,minI m r<=x
 | [],m=>⟨.inl rfl,E3 _,λ x h=>by cases h⟩
 | y::r,m=>by
  obtain⟨b,d,a⟩:=rq r (if y<m then y else m);unfold minI;by_cases q:y<m
  ·rw[f8 q]at b d a ⊢;refine⟨.inr ?_,by omega,λ x c=>?_⟩
   ·rcases b with z | z
    ·rw[z];exact k8 ..
    ·exact k5 _ z
   ·rcases i5.mp c with z | z
    ·rwa [z]
    ·exact a x z
  ·rw[g8 q]at b d a ⊢;refine⟨b.imp id (k5 _),d,λ x c=>?_⟩;rcases i5.mp c with z | z
   · omega
   ·exact a x z
theorem rr:∀(r:on Int) (m:Int),(maxI m r=m\/maxI m r∈r)/\m<=maxI m r/\∀x∈r,x<=maxI m r
 | [],m=>⟨.inl rfl,E3 _,λ x h=>by cases h⟩
 | y::r,m=>by
  obtain⟨c,b,a⟩:=rr r (if m<y then y else m);unfold maxI;by_cases q:m<y
  ·rw[f8 q]at c b a ⊢;refine⟨.inr ?_,by omega,λ x d=>?_⟩
   ·rcases c with z | z
    ·rw[z];exact k8 ..
    ·exact k5 _ z
   ·rcases i5.mp d with z | z
    ·rw[z];exact b
    ·exact a x z
  ·rw[g8 q]at c b a ⊢;refine⟨c.imp id (k5 _),b,λ x d=>?_⟩;rcases i5.mp d with z | z
   ·rw[z];omega
   ·exact a x z
def CV(g:M∈n::r)(d:∀x∈n::r,M<=x):M=minI n r:=by
 obtain⟨a,b,c⟩:=rq r n;have e:=d _ (a.elim (λ z=>by rw[z];exact k8 ..) (k5 _));have f:minI n r<=M:=by
  rcases i5.mp g with z | z
  ·rwa [z]
  ·exact c M z
 omega
def rx(g:M∈n::r)(d:∀x∈n::r,x<=M):M=maxI n r:=by
 obtain⟨a,b,c⟩:=rr r n;have e:=d _ (a.elim (λ z=>by rw[z];exact k8 ..) (k5 _));have f:M<=maxI n r:=by
  rcases i5.mp g with z | z
  ·rw[z];exact b
  ·exact c M z
 omega
theorem lj(x:Int):∀l:on Int,(insI x l).Perm (x::l)
 | []=>.rfl
 | y::r=>by
  unfold insI;split
  ·exact .rfl
  ·exact(List.Perm.cons y (lj x r)).trans (List.Perm.swap x y r)
theorem ry:∀l:on Int,(F5 l).Perm l
 | []=>.rfl
 | x::r=>(lj x _).trans (List.Perm.cons x (ry r))
theorem rA(x:Int):∀{l:on Int},l.Pairwise (· <= ·)->(insI x l).Pairwise (· <= ·)
 | [],_=>List.pairwise_singleton _ _
 | y::r,h=>by
  obtain⟨b,c⟩:=K5.mp h;unfold insI;split
  ·rename_i q;refine K5.mpr ⟨λ z a=>?_,h⟩;rcases i5.mp a with e | e
   ·omega
   ·have:=b z e;omega
  ·rename_i q;refine K5.mpr ⟨λ z a=>?_,rA x c⟩;rcases i5.mp ((lj x r).mem_iff.mp a)with e | e
   ·omega
   ·exact b z e
theorem rB:∀l:on Int,(F5 l).Pairwise (· <= ·)
 | []=>.nil
 | x::r=>rA x (rB r)
theorem rC:∀{a b:on Int},a.Perm b->a.Pairwise (· <= ·)->b.Pairwise (· <= ·)->a=b
 | [],b,p,_,_=>(List.Perm.nil_eq p)
 | x::a,b,p,f,d=>by
  cases b with
  | nil=>exact absurd p.length_eq (by simp)
  | cons y b=>
   obtain⟨j,i⟩:=K5.mp f;obtain⟨h,g⟩:=K5.mp d;have e:x=y:=by
    rcases i5.mp (p.mem_iff.mp (k8)) with z | z
    ·exact z
    ·rcases i5.mp (p.mem_iff.mpr (k8)) with c | c
     ·exact c.symm
     ·have:=j y c;have:=h x z;omega
   subst e;rw[rC (List.Perm.cons_inv p) i g]
def CW:z9 X (.builtin "len") (biR X lenD):=by
 intro b s k H xs n Q I r h;obtain⟨l,re,O,W,H0,e,o,g,d,c,rfl,p⟩:=h;unfold lenD at e;split at e
 ·cases e;obtain⟨v,rfl,f⟩:=g.one;obtain⟨a,m,j,i,q⟩:=f.lst o;exact jw b s k H _ n Q I r ⟨a,m,by rw[j],.inl (SqL.of i),by rw[q.length];exact p _ H (Same.refl H) A0⟩
 ·cases e;obtain⟨v,rfl,f⟩:=g.one;obtain⟨a,m,j,i,q⟩:=f.tup o;exact jw b s k H _ n Q I r ⟨a,m,by rw[j],.inr i,by rw[q.length];exact p _ H (Same.refl H) A0⟩
 ·cases e;obtain⟨v,rfl,f⟩:=g.one;obtain⟨a,j,i⟩:=S8.mp (f.all o);exact jw b s k H _ n Q I r ⟨a,_,by rw[j],.inl i.sq,by rw[g7];exact p _ H (Same.refl H) A0⟩
 ·cases e
def CY:z9 X (.builtin "abs") (biR X absD):=by
 intro a s e H xs f Q I r h;obtain⟨l,re,O,W,H0,b,hd,g,d,c,rfl,p⟩:=h;unfold absD at b;split at b
 ·cases b;obtain⟨v,rfl,i⟩:=g.one;exact yC a s e H _ f Q I r ⟨_,by rw[i.int hd],p _ H (Same.refl H) A0⟩
 ·cases b
theorem rD:∀{ds:on DV} {ps:on (Int×Int×Int)} {i:Nat},trips? ds=some ps->i<ps.length->ds[i]? = some (trD (ps.getD i (0,0,0)))
 | [],ps,i,h,d=>by cases h;simp at d
 | d0::ds,ps,i,h,d=>by
  unfold trips? at h;split at h
  ·rename_i q;cases q
  ·rename_i a b c r' q;cases q;obtain⟨ms,f,e⟩:=v4.mp h;subst e;cases i with
   | zero=>rfl
   | succ i=>exact rD (ds:=ds) f (by simpa using d)
  ·cases h
theorem rE:∀{ds:on DV} {ps:on (Int×Int×Int)} {d:on V},trips? ds=some ps->RepL D H ds d->TrsV D.K H d ps
 | [],ps,d,h,r=>by cases h;rw[B7.mp r];exact trivial
 | d0::ds,ps,d,h,r=>by
  unfold trips? at h;split at h
  ·rename_i q;cases q
  ·rename_i a b c r' q;cases q;obtain⟨ms,A,z⟩:=v4.mp h;obtain⟨v,vs,y,x,w⟩:=v5.mp r;obtain⟨B,ys,u,e,p⟩:=D4.mp x;obtain⟨v1,l1,o,n,m⟩:=v5.mp p;obtain⟨v2,l2,l,k,j⟩:=v5.mp m;obtain⟨v3,l3,i,g,f⟩:=v5.mp j;rw[←z,y];refine⟨⟨B,u,?_⟩,(rE A w)⟩;rw[o,l,i,B7.mp f,u6.mp n,u6.mp k,u6.mp g]at e;exact e
  ·cases h
theorem TrsV.le{K:JQ}(e:Same H b):∀{vs:on V} {ps:on (Int×Int×Int)},TrsV K H vs ps->TrsV K b vs ps
 | [],[],_=>trivial
 | _::_,_::_,x=>by obtain⟨⟨a,f,d⟩,c⟩:=x;exact⟨⟨a,f,e.tseq d⟩,c.le e⟩
 | [],_::_,x=>x.elim
 | _::_,[],x=>x.elim
def CZ(u:X.calm=true)(J:X.A.units+1<cLine):z9 X (.builtin "min") (biR X minD):=by
 intro b s m H xs o Q I r h;obtain⟨l,re,O,W,H0,e,hd,g,d,c,rfl,p⟩:=h;unfold minD at e;split at e
 ·cases e;obtain⟨v,v',rfl,f,w⟩:=g.two;exact yE u b s m H _ o Q I r ⟨_,_,by rw[f.int hd,w.int hd],p _ H (Same.refl H) A0⟩
 ·split at e
  ·rename_i n q j;cases e;obtain⟨v,rfl,f⟩:=g.one;obtain⟨a,B,A,y,k⟩:=f.lst hd;have P:=bp j k;subst P;exact AI u b s m H _ o Q I r ⟨a,n::q,by rw[A],SqL.of y,by simp,λ M F m2=>by rw[CV F m2];exact p _ H (Same.refl H) A0⟩
  ·split at e
   ·rename_i n q j;cases e;obtain⟨v,rfl,f⟩:=g.one;obtain⟨a,B,A,y,k⟩:=f.lstC hd;refine AX u J b s m H _ o Q I r ⟨a,B,n,q,by rw[A],SqL.of y,(rE j k).le v6,λ i x N L K=>p _ H (Same.refl H) ?_⟩;obtain⟨z,E,C⟩:=k.get (rD j K);rw[N]at E;cases E;rw[L]at C;exact Got.item C
   ·cases e
 ·cases e
def Da(u:X.calm=true):z9 X (.builtin "max") (biR X maxD):=by
 intro b s i H xs j Q I r h;obtain⟨l,re,O,W,H0,e,hd,g,d,c,rfl,p⟩:=h;unfold maxD at e;split at e
 ·cases e;obtain⟨v,v',rfl,f,w⟩:=g.two;exact yD u b s i H _ j Q I r ⟨_,_,by rw[f.int hd,w.int hd],p _ H (Same.refl H) A0⟩
 ·split at e
  ·rename_i n k q;cases e;obtain⟨v,rfl,f⟩:=g.one;obtain⟨a,B,A,z,y⟩:=f.lst hd;have x:=bp q y;subst x;exact AJ u b s i H _ j Q I r ⟨a,n::k,by rw[A],SqL.of z,by simp,λ M o m=>by rw[rx o m];exact p _ H (Same.refl H) A0⟩
  ·cases e
 ·split at e
  ·rename_i n k q;cases e;obtain⟨v,rfl,f⟩:=g.one;obtain⟨a,B,A,z,y⟩:=f.tup hd;have x:=bp q y;subst x;exact AQ u b s i H _ j Q I r ⟨a,n::k,by rw[A],z,by simp,λ M o m=>by rw[rx o m];exact p _ H (Same.refl H) A0⟩
  ·cases e
 ·cases e
def Db(o:X.calm=true):z9 X (.builtin "sum") (biR X sumD):=by
 intro b s i H xs j Q I r h;obtain⟨l,re,O,W,H0,f,n,g,d,c,rfl,p⟩:=h;unfold sumD at f;split at f
 ·obtain⟨k,m,e⟩:=v4.mp f;cases e;obtain⟨v,rfl,q⟩:=g.one;obtain⟨a,ys,y,x,w⟩:=q.lst n;have u:=bp m w;subst u;exact AY o b s i H _ j Q I r ⟨a,k,by rw[y],SqL.of x,p _ H (Same.refl H) A0⟩
 ·cases f
def Dc:bootBuiltins "sum" = some (.builtin "sum"):=by decide +kernel
def Dd:bootBuiltins "sorted" = some (.builtin "sorted"):=by decide +kernel
def De:bootBuiltins "set" = some (.type "set"):=by decide +kernel
def Df{p':Pos}{pos':Pos}(hc:X.calm=true)(hg:Gl X "sorted")(hm:X.mg "sorted" = none)(hg':Gl X "set")(hm':X.mg "set" = none)
  (ha:∀q,rs=some q->PA X [e] (dA X.D δ q)) (hs:s9 e=false) (h:Rs.thn rs fF=some re):PE X (.Call (.Name "sorted" p) [.Call (.Name "set" p') [e] [] pos'] [] pos) (dE X.D δ re):=
 di (r:=λ vs H Q=>(∃(a:JI) (ns:on Int),vs=[.ref a]/\SqL X.K H a (ns.map V.int)/\ns.length<4000/\∀p,H p=none->∃(p1:JI) (ks:on Int),[V.ref p]=[.ref p1]/\upd H p (setO X.prog X.w p (ns.foldl dk [])) p1=some (setO X.prog X.w p1 ks)/\ks.length<64 /\
   ∀(q:JI) (ms:on Int),upd H p (setO X.prog X.w p (ns.foldl dk [])) q=none->ms.Perm ks->ms.Pairwise (· <= ·)->Q (.ref q) (upd (upd H p (setO X.prog X.w p (ns.foldl dk []))) q (.lst (ms.map V.int)))))
  (λ t hA=>by
   have q1:=oK (p:=p') (pos:=pos') (AM hc) hg' hm' De hA JY JY (x5 hs) rfl;have q2:=ju (p:=p) (pos:=pos) (AN hc) hg hm Dd (P6 q1 U5) JY JY rfl rfl;exact q2.weak λ σ H Q h=>h) ha h λ O W H0 H vs Q l σ hl hd g pp=>by
  unfold fF at hl;split at hl
  ·split at hl
   ·rename_i ds c ns hq;split at hl
    ·rename_i hb;cases hl;obtain⟨v,rfl,gv⟩:=g.one;obtain⟨a,ys,e1,e2,e3⟩:=gv.lst hd;have e4:=bp hq e3;subst e4;refine⟨a,ns,by rw[e1],SqL.of e2,hb.1,λ p1 hp1=>⟨p1,_,rfl,x3,hb.2,λ q ms hq1 pm pw=>?_⟩⟩;have e5:ms=F5 (ns.foldl dk []):=rC (pm.trans (ry _).symm) pw (rB _);subst e5;have s1:Same H (upd H p1 (setO X.prog X.w p1 (ns.foldl dk []))):=v7 hp1;exact pp _ _ (s1.trans (v7 hq1)) (S9 (hd.mono s1) hq1 (bf _))
    ·cases hl
   ·cases hl
  ·cases hl
def Dg:z9 X (.type "int") (biR X intD):=by
 intro a s f H xs i Q I r h;obtain⟨l,re,O,W,H0,b,j,g,d,c,rfl,p⟩:=h;unfold intD at b;split at b
 ·cases b;obtain⟨v,rfl,e⟩:=g.one;exact oA a s f H _ i Q I r (.inl ⟨_,by rw[e.int j],p _ H (Same.refl H) A0⟩)
 ·cases b;obtain⟨v,rfl,e⟩:=g.one;exact oA a s f H _ i Q I r (.inr ⟨_,by rw[e.bl j],p _ H (Same.refl H) A0⟩)
 ·cases b
def Dh:z9 X (.type "list") (biR X jG):=by
 intro b s n H xs u Q I r h;obtain⟨l,re,O,W,H0,i,f,g,d,c,rfl,p⟩:=h;unfold jG at i;split at i
 ·cases i;obtain⟨v,rfl,j⟩:=g.one;obtain⟨a,m,k⟩:=S8.mp (j.all f);exact jx b s n H _ u Q I r ⟨a,_,by rw[m],.inl k.sq,λ q e=>p _ _ (v7 e) (S9 f e (bf _))⟩
 ·cases i;obtain⟨v,rfl,j⟩:=g.one;obtain⟨a,o,m,k,w⟩:=j.lstC f;exact jx b s n H _ u Q I r ⟨a,o,by rw[m],.inl (SqL.of k),λ q e=>p _ _ (v7 e) (gi f e w)⟩
 ·cases i;obtain⟨v,rfl,j⟩:=g.one;obtain⟨a,o,m,k,w⟩:=j.tupC f;exact jx b s n H _ u Q I r ⟨a,o,by rw[m],.inr k,λ q e=>p _ _ (v7 e) (gi f e w)⟩
 ·cases i
def Di:z9 X (.type "tuple") (biR X jH):=by
 intro b s n H xs o Q I r h;obtain⟨l,re,O,W,H0,e,i,g,d,c,rfl,p⟩:=h;unfold jH at e;split at e
 ·cases e;obtain⟨v,rfl,j⟩:=g.one;obtain⟨a,f,m,k,w⟩:=j.lstC i;exact oR b s n H _ o Q I r ⟨a,f,by rw[m],.inl ⟨SqL.of k,λ q u=>p _ _ (v7 u) (qK i u w)⟩⟩
 ·cases e;obtain⟨v,rfl,j⟩:=g.one;obtain⟨a,f,m,k,w⟩:=j.tupC i;exact oR b s n H _ o Q I r ⟨a,f,by rw[m],.inr ⟨k,p _ _ (Same.refl H) (by grind)⟩⟩
 ·cases e
end
noncomputable def tyS:DV->JF JW
 | .non=>some "NoneType" | .bl _=>some "bool" | .int _=>some "int" | .str _=>some "str" | .tup _=>some "tuple" | .lst _=>some "list" | .dct _ _=>some "dict"
 | _=>none
noncomputable def rF(T t:JW):JF Bool:=if(Value.type T==Value.type t)=true then some true else if PySem.W.kitMeta t=true then(fastBuiltinMro T).map (·.contains (.type t))else none
def Dj:(["NoneType","bool","int","str","tuple","list","dict"]:on JW).all (λ T=>(["int","bool","str","list","tuple","dict"]:on JW).all λ t=>rF T t==some (T==t||(T == "bool" && t == "int")))=true:=by decide +kernel
def ah{K:JQ}(T t:JW)(b:T∈["NoneType","bool","int","str","tuple","list","dict"])(a:t∈["int","bool","str","list","tuple","dict"]) :
  PySem.W.kitOne K (.type T) (.type t)=some (T==t||(T == "bool" && t == "int")):=by
 exact(show rF T t=_ from by simpa using (E6.mp (E6.mp Dj T b) t a))
section
variable {X:Cx} {δ:on Sv} {e e':JK} {pos p p':Pos} {re:Re} {ra:JF Re}
def Dk(I:Inv X f σ H s)(r:Rep X.D H d v)(c:RelV v u)(e:tyS d=some T)(ht:t∈["int","bool","str","list","tuple","dict"])
  (h:∀tk,Q (.bool (T==t||(T == "bool" && t == "int"))) {s with toks:=tk}):wpAny Kb X.A (call (.builtin "isinstance") [u,.type t]) Q y s:=by
 cases d with
 | non=>cases e;rw[V1.mp r]at c;cases c;exact Y2 PySem.W.kitx_none I.kIn True.intro (ah _ _ (by simp) ht) (λ z=>nomatch z) h
 | bl b=>cases e;rw[aa.mp r]at c;cases c;exact Y2 PySem.W.kitx_bool I.kIn True.intro (ah _ _ (by simp) ht) (λ z=>nomatch z) h
 | int b=>cases e;rw[u6.mp r]at c;obtain⟨tk,rfl⟩:=c;exact Y2 PySem.W.kitx_int I.kIn True.intro (ah _ _ (by simp) ht) (λ z=>nomatch z) h
 | str b=>cases e;rw[(de.mp r).1]at c;obtain⟨tk,rfl⟩:=c;exact Y2 PySem.W.kitx_str I.kIn True.intro (ah _ _ (by simp) ht) (λ z=>nomatch z) h
 | tup x=>
  cases e;obtain⟨a,m,j,i,w⟩:=D4.mp r;rw[j]at c;cases c;obtain⟨k,_,⟨o,g,l,_⟩,_⟩:=I.tuple i;exact Y2 PySem.W.kitx_tuple I.kIn ⟨o,g,l⟩ (ah _ _ (by simp) ht) (λ z=>nomatch z) h
 | lst x=>
  cases e;obtain⟨a,m,j,i,w⟩:=G8.mp r;rw[j]at c;cases c;obtain⟨_,k,n,_,_,g⟩:=I.lstM i;exact Y2 PySem.W.kitx_list I.kIn ⟨_,g,rfl⟩ (ah _ _ (by simp) ht) (λ z=>nomatch z) h
 | dct ks vs=>
  cases e;obtain⟨a,p,q,j,i,_⟩:=ae.mp r;rw[j]at c;cases c;obtain⟨_,_,_,_,_,o,_,_,g,l,_⟩:=(show u9 X.prog X.w H s.heap a (.frz p _)from I.hok a _ i);exact Y2 PySem.W.kitx_dict I.kIn ⟨o,g,l.1⟩ (ah _ _ (by simp) ht) (λ z=>nomatch z) h
 | fn _=>cases e
 | dcl _ _=>cases e
 | lam _ _=>cases e
 | scr _=>cases e
def rIsi(X:Cx):on V->Hp->VK->Prop:=λ xs H Q=>∃d T t x,xs=[x,.ty t]/\Rep X.D H d x/\tyS d=some T/\t∈["int","bool","str","list","tuple","dict"]/\Q (.bl (T==t||(T == "bool" && t == "int"))) H
def Dl:z9 X (.builtin "isinstance") (rIsi X):=by
 intro b s σ H xs us Q I r h;obtain⟨d,T,t,x,rfl,f,i,g,q⟩:=h;obtain⟨u,w',rfl,e,a⟩:=cJ r;cases a;exact Dk I f e i g λ c=>⟨.bl _,H,I.tok c,rfl,q⟩
noncomputable def bq:Str->JF JW:=λ x=>(["int","bool","str","list","tuple","dict"]:on JW).find? λ t=>Str.ofString t==x
def rG(h:bq x=some t):bootBuiltins x=some (.type t)/\t∈["int","bool","str","list","tuple","dict"]/\Str.ofString t=x:=by
 unfold bq at h;have a:=hY h;have b:Str.ofString t=x:=by simpa using (iR h)
 refine⟨?_,a,b⟩;subst b;simp[i5,O8,P4]at a;rcases a with rfl | rfl | rfl | rfl | rfl | rfl
 ·exact boot_int
 ·exact boot_bool
 ·exact boot_str
 ·exact boot_list
 ·exact boot_tuple
 ·exact boot_dict
noncomputable def rH:JW->on Str
 | "NoneType"=>["NoneType"] | "bool"=>["bool","int"] | "int"=>["int"] | "str"=>["str"] | "tuple"=>["tuple"] | "list"=>["list"] | "dict"=>["dict"]
 | _=>[]
def Do:(["NoneType","bool","int","str","tuple","list","dict"]:on JW).all (λ T=>(["int","bool","str","list","tuple","dict"]:on JW).all λ t=>(rH T).contains (Str.ofString t)==(T==t||(T == "bool" && t == "int")))=true:=by decide +kernel
def Dp(h:bq x=some t)(b:tyS d=some T):(tyOf d).contains x=(T==t||(T == "bool" && t == "int")):=by
 obtain⟨_,e,c⟩:=rG h;subst c;have a:∀T∈_,(rH T).contains _=(T==t||_):=λ T b=>by have q:=E6.mp (E6.mp Do T b) t e;simpa using q
 cases d<;>cases b
 ·exact a "NoneType" (by simp)
 ·exact a "bool" (by simp)
 ·exact a "int" (by simp)
 ·exact a "str" (by simp)
 ·exact a "tuple" (by simp)
 ·exact a "list" (by simp)
 ·exact a "dict" (by simp)
def Dq(m:bq x=some t)(z:Gl X "isinstance")(u:X.mg "isinstance" = none)(i:Gl X x)(g:X.mg x=none)(f:x ≠ "__name__")(j:(x==("__debug__" : Str))=false)
  (B:∀q,ra=some q->PE X e (dE X.D δ q)) (n:s9 e=false) (h:(Re.thn ra λ y _=>(isiD G y [x]).map λ k=>.ok (.bl k) .strong)=some re):PE X (.Call (.Name "isinstance" p) [e,.Name x p'] [] pos) (dE X.D δ re):=by
 obtain⟨K,l,J⟩:=rG m;have T:PE X (.Name x p') (tC (.ty t)):=xA i g K rfl f j;have C:=λ r (E:PE X e r)=>ju (p:=p) (pos:=pos) Dl z u boot_isinstance (P6 E (P6 T U5) (x5 n)) JY JY (x5 n)
 cases a:ra with
 | none=>rw[a]at h;cases h
 | some q=>
  rw[a]at h;have A:=B q a;cases q with
  | ok d cl=>
   obtain⟨k,b,I⟩:=v4.mp (h);cases I;have c:∃T,tyS d=some T/\k=(tyOf d).contains x:=by
    unfold isiD at b;have s:U7.contains x=true:=by
     rw[←J];simp only[i5,O8,P4]at l;rcases l with rfl | rfl | rfl | rfl | rfl | rfl<;>decide +kernel
    cases d<;>first
     | (simp only[s,if_true]at b;cases b;exact⟨_,rfl,rfl⟩)
     | cases b
   obtain⟨T,o,w⟩:=c;exact(C _ A).weak λ σ H Q ⟨O,W,R,p⟩=>⟨O,W,R,λ v L s1 F=>⟨d,T,t,v,rfl,F.all (R.hid.mono s1),o,l,by rw[←Dp m o,←w];exact p _ L s1 af⟩⟩
end
def Dr(a:Str):L3 (a ++ "<lambda>")=false:=by
 have c:∀b:Str,b.cps.toList.getLast? = some 102->(a++_==b)=false:=λ b d=>by
  rw[A1];intro z;rw[←z]at d;have e:(a++("<lambda>" : Str)).cps.toList.getLast? = some 62:=by show(a.cps++("<lambda>" : Str).cps).toList.getLast? = _;rw[bT,List.getLast?_append];rfl
  rw[e]at d;cases d
 unfold L3;rw[c _ rfl,c _ rfl];rfl
theorem ll:∀(l:on JG),TriplesOk l->(∃i t,a=.int i t)->(∃i t,b=.int i t)->codeAmong pos' (l++[a,b,c])=some cv->codeAmong pos' l=some cv\/cv=c
 | [],_,⟨i,t,k⟩,⟨j,u,g⟩,h=>by
  subst k g;have d:(if i==pos'.line&&j==pos'.col then some c else codeAmong pos' [])=some cv:=h;split at d
  ·exact .inr (A8 d).symm
  ·cases d
 | .int i t :: .int j u::x::r,ok,f,e,h=>by
  have d:(if i==pos'.line&&j==pos'.col then some x else codeAmong pos' _)=some cv:=h;show(if i==pos'.line&&j==pos'.col then some x else codeAmong pos' r)=some cv\/cv=c;split at d
  ·rename_i z;rw[f8 z];exact .inl d
  ·rename_i z;rw[g8 z];exact ll r ok f e d
theorem lm(e:∃i t,a=.int i t)(d:∃i t,b=.int i t):∀(l:on JG),TriplesOk l->TriplesOk (l++[a,b,c])
 | [],_=>by obtain⟨i,t,rfl⟩:=e;obtain⟨j,u,rfl⟩:=d;exact trivial
 | .int i t :: .int j u::x::r,ok=>lm e d r ok
structure LamAt(X:Cx)(scope:Scope)(c P:Addr):Prop where
 code:X.env.code=.ref c
 hd:∀{pins:List (Addr×Obj)} {σ:List (Option V)} {H:Hp} {s:Shared},Inv X pins σ H s->PySem.W.CodeHd s.heap c P
 tab:∀{pins:List (Addr×Obj)} {σ:List (Option V)} {H:Hp} {s:Shared},Inv X pins σ H s->H P=some (.tbl (X.env.qual ++ "<lambda>"))
 fre:∀y∈scope.names,y.2=NameKind.free->X.env.kindOf y.1=some .cell\/X.env.kindOf y.1=some .free
theorem LamAt.has(L:LamAt X scope c P)(ok:X.Ok):∀y∈scope.names,y.2=NameKind.free->∃a,X.env.cells.lookup y.1=some a:=λ y b d=>ok.has y.1 (L.fre y b d)
def Ds(I:Inv X r σ H s)(L:LamAt X scope c P)(a3:defaultsOf g X.env=([],[]))
  (h:∀f k s',Inv X r σ k s'->Same H k->H f=none->N1 k (X.env.qual ++ "<lambda>") g body scope (o6 X.env.cells scope.names []) f->Q (.ref f) s') :
  wpAny M A (eval (.Lambda g body scope pos) X.env) Q E s:=by
 refine PySem.W.kla_eval a3 ?_;have hP:=L.tab I;obtain⟨ps,hp,ht,x⟩:=I.hok _ _ hP;have a5:=fC (scope:=scope) (env:=X.env) (L.has I.ok);have hg:s.heap.Ns mainGlobals X.mg:=I.ok.mod.glob.keeps I.bk;have c0:mainGlobals≠P:=λ z=>by obtain⟨o,es,ep,e,d,_⟩:=hg;rw[z,hp]at e;cases e;cases d
 obtain⟨bm,ob,b1,b2,b3,b4,b5,b6⟩:=I.ok.mod.bmod;have p:=I.bs _ _ b3;have c1:bm≠P:=λ z=>by rw[z,hP]at p;cases p.2
 have c3:bm≠mainGlobals:=λ z=>by obtain⟨o,es,ep,e,d,_⟩:=hg;rw[←z,p.1]at e;cases e;rw[b6]at d;cases d
 have hb:s.heap.BuiltinsAt X.mg P:=⟨bm,ob,b1,b2,c3,c1,p.1,b4,b5,b6⟩;have C:=L.hd I;cases hf:codeAmong pos ps.toList with
 | some cv=>
  obtain⟨j,N,u,vs,t,e1,e2,e3,e4⟩:=x pos cv hf;subst e1;refine PySem.W.kla_makeFunctionHit (mg:=X.mg) a5 I.ok.glob hg L.code C hp ht hf hb λ m i tk hk W=>?_
  have hn:H i.objs.size=none:=I.hok.fresh W;refine h _ (upd H i.objs.size (.frz _ (.own i.objs.size))) _ (I.laid (t':=tk) (λ b u e=>k6 _ (hk b u e)) W ⟨p8 _ rfl,_,p8 _ rfl⟩) (v7 hn) hn ?_;refine⟨j,N,u,vs,t,_,m,x3,?_,e3,e4.1⟩;rw[m7 (z8 e2 hn)];exact e2
 | none=>
  refine PySem.W.kla_makeFunction (mg:=X.mg) a5 I.ok.glob hg L.code C hp ht hf c0 hb λ j m i tk hx l B Y U=>?_;obtain⟨c5,N,vs,t,e2,Z,hd,hv⟩:=Y;cases e2;have b9:H j=none:=I.hok.fresh l;have a0:H i.objs.size=none:=I.hok.fresh (i9 l (K9 B));have S:∀{b:JI} {u:HO},H b=some u->b≠j/\b≠i.objs.size:=λ e=>⟨z8 e b9,z8 e a0⟩;have v:∀{b:JI} {o:Obj},s.heap.get? b=some o->b≠j/\b≠i.objs.size:=λ {b o} e=>⟨q5 (t6 (k7 e) l),q5 (t6 (k7 e) (i9 l (K9 B)))⟩;generalize a2:PySem.W.kla_obj "<lambda>" (X.env.qual ++ "<lambda>") g body scope _ _ j m=fo;have a1:fo.isFreed=false:=by rw[←a2];rfl
  generalize F:upd (upd H j (.frz N (.own j))) i.objs.size (.frz fo (.own i.objs.size))=k;have a8:k i.objs.size=some (.frz fo (.own i.objs.size)):=by rw[←F];exact x3
  have at2:k j=some (.frz N (.own j)):=by rw[←F,m7 (q5 B)];exact x3
  have K:∀{b:JI},b≠j->b≠i.objs.size->k b=H b:=λ h1 h2=>by rw[←F,m7 h2,m7 h1]
  have sm:Same H k:=λ b o e=>by rw[K (S e).1 (S e).2];exact e
  have kp:∀b o,b≠P->s.heap.get? b=some o->(i.push fo).get? b=some o:=λ b o hb e=>k6 _ (hx b o hb e);have a6:∀b,H b=none->b≠P:=λ b n z=>by rw[z,hP]at n;cases n
  have un:Un X.fs [] H k s.heap (i.push fo):=by
   refine⟨λ b o e n _ _=>kp b o (a6 b n) e,λ b o e n _ _=>⟨o.slots,kp b o (a6 b n) e⟩,λ b o e n _=>by rw[K (v e).1 (v e).2];exact n,λ b o e _=>?_,λ b xs e=>sm _ _ e,λ b o u e=>sm _ _ e,λ b q e=>sm _ _ e⟩;by_cases z:b=P
   ·subst z;exact⟨_,k6 _ U⟩
   ·exact⟨o,kp b o z e⟩
  have b8:HOk X.prog X.w k (i.push fo):=λ b u e=>by
   by_cases z1:b=i.objs.size
   ·subst z1;rw[a8]at e;cases e;exact⟨p8 _ a1,_,p8 _ a1⟩
   ·by_cases z2:b=j
    ·subst z2;rw[at2]at e;cases e;exact⟨k6 _ Z,_,k6 _ Z⟩
    ·rw[K z2 z1]at e;by_cases z3:b=P
     ·subst z3;rw[hP]at e;cases e;refine⟨_,k6 _ U,?_,λ R cv a4=>?_⟩
      ·rw[bT];exact lm ⟨_,_,rfl⟩ ⟨_,_,rfl⟩ _ ht
      ·rw[bT]at a4;rcases ll (a:=rawInt pos.line) (b:=rawInt pos.col) (c:=.ref j) ps.toList ht ⟨_,_,rfl⟩ ⟨_,_,rfl⟩ a4 with w | w
       ·obtain⟨c2,b0,u2,a9,t2,f1,f2,f3,f4⟩:=x R cv w;refine⟨c2,b0,u2,a9,t2,f1,sm _ _ f2,f3,f4.1,λ y=>?_⟩;obtain⟨y0,T,a7,tf,J,tg,b7,O,tt,y1,y2,y3,y4,y5,y6,y7,y8⟩:=f4.2 y;exact⟨y0,T,a7,tf,J,tg,b7,O,tt,y1,y2,y3,y4,y5,y6,y7,sm _ _ y8⟩
       ·exact⟨j,N,_,vs,t,w,at2,hd,hv,λ y=>by rw[show L3 (X.env.qual ++ "<lambda>")=false from Dr _]at y;cases y⟩
     ·refine(I.hok b u e).stay (λ b' u' c4 q=>kp b' u' ?_ q) (λ b' q=>sm _ _ q) (λ b' xs q=>sm _ _ q) (λ b' xs q=>sm _ _ q) λ b' _ _ _ _ q=>sm _ _ q;rcases c4 with w | w
      ·rw[w];exact z3
      ·intro z;rw[z,hP]at w;cases w
  refine h i.objs.size k _ (I.un (t':=tk) un b8) sm a0 ⟨j,N,_,vs,t,(X.mg "__name__").getD .none,m,by rw[a8,←a2],at2,hd,hv⟩
end L2
namespace L2
open PySem PySem.Spec PyProof.Rows
noncomputable def trC(l:on JI)(h:JJ)(H:Hp):Hp:=λ b=>if b∈l then(h.get? b).map λ o=>HO.frz o (.own b)else H b
def V3(a:b∈l)(e:h.get? b=some o):trC l h H b=some (.frz o (.own b)):=by
 unfold trC;rw[f8 a,e];rfl
def ai(a:b∉l):trC l h H b=H b:=g8 a
structure Cells(l:List Addr)(h:Heap)(H:Hp):Prop where
 none:∀c∈l,H c=none
 cel:∀c∈l,∃o v,h.get? c=some o/\o.data=.cell v
section
variable {P:JN} {w:JM} {K:JQ} {mg:Str->JF JG} {base:JJ} {A:JO} {outer:on Env} {s s':JH} {H:Hp} {l:on JI} {Q Q':VK} {u:JG}
def Cells.same(C:Cells l s.heap H):Same H (trC l s.heap H):=λ b o e=>by
 rw[ai λ z=>by rw[C.none b z]at e;cases e];exact e
theorem HOk.trC(C:Cells l s.heap H)(x:HOk P w H s.heap):HOk P w (trC l s.heap H) s.heap:=λ b u e=>by
 by_cases hb:b∈l
 ·obtain⟨o,v,g,_⟩:=C.cel b hb;rw[V3 hb g]at e;cases e;exact⟨g,o,g⟩
 ·rw[ai hb]at e;exact(x b u e).stay (λ _ _ _ q=>q) (λ _ q=>C.same _ _ q) (λ _ _ q=>C.same _ _ q) (λ _ _ q=>C.same _ _ q) λ _ _ _ _ _ q=>C.same _ _ q
theorem Env0.trC(C:Cells l s.heap H)(hb:∀c∈l,base.get? c=none)(hf:∀c∈l,c∉frs outer)(e:Env0 P w K mg base A outer s H):Env0 P w K mg base A outer s (trC l s.heap H):=
 ⟨e.frames,e.mod,λ b o q=>⟨(e.bs b o q).1,by rw[ai λ z=>by rw[hb b z]at q;cases q];exact(e.bs b o q).2⟩,e.bsz,e.funs,⟨λ b q=>by rw[ai λ z=>hf b z q];exact e.frf.1 b q,λ p hp=>C.same _ _ (e.frf.2 p hp)⟩,HOk.trC C e.hok,e.bare⟩
theorem CE.trC(C:Cells l s.heap H)(h:CE outer P w (trC l s.heap H) s Q' u s')(hq:∀v H',Same (trC l s.heap H) H'->Q' v H'->Q v (L2.wo l H'))(hs:∀v H',Q' v H'->Same (trC l s.heap H) H'):CE outer P w H s Q u s':=by
 obtain⟨v,H',os,bare,un,hok,r,q⟩:=h;have at1:∀{b:JI},b∈l->∃o v,s.heap.get? b=some o/\o.data=.cell v/\H' b=some (.frz o (.own b))/\s'.heap.get? b=some o:=λ {b} hb=>by obtain⟨o,v,g,d⟩:=C.cel b hb;have z:=un.frzs b o _ (V3 hb g);exact⟨o,v,g,d,z,(hok b _ z).1⟩
 refine⟨v,L2.wo l H',os,bare,⟨λ b o e n hf hx=>?_,λ b o e n hf hx=>?_,λ b o e n hx=>?_,un.there,λ b xs e=>?_,λ b o x e=>?_,λ b x e=>?_⟩,λ b x e=>?_,r,hq v H' (hs v H' q) q⟩
 ·by_cases hb:b∈l
  ·obtain⟨o',_,g,_,_,g'⟩:=at1 hb;rw[e]at g;cases g;exact g'
  ·exact un.keep b o e (by rw[ai hb];exact n) hf hx
 ·by_cases hb:b∈l
  ·obtain⟨o',_,g,_,_,g'⟩:=at1 hb;rw[e]at g;cases g;exact⟨o.slots,g'⟩
  ·exact un.slot b o e (by rw[ai hb];exact n) hf hx
 ·by_cases hb:b∈l
  ·exact V2 hb
  ·rw[j9 hb];exact un.free b o e (by rw[ai hb];exact n) hx
 ·rw[j9 λ z=>by rw[C.none b z]at e;cases e];exact un.tups b xs (C.same _ _ e)
 ·rw[j9 λ z=>by rw[C.none b z]at e;cases e];exact un.frzs b o x (C.same _ _ e)
 ·rw[j9 λ z=>by rw[C.none b z]at e;cases e];exact un.tbls b x (C.same _ _ e)
 ·obtain⟨hb,e⟩:=B8 e;refine(hok b x e).stay (λ _ _ _ q=>q) (λ b' q=>?_) (λ b' _ q=>?_) (λ b' _ q=>?_) λ b' o' _ vs d q=>?_
  ·rw[j9 λ z=>by obtain⟨_,_,_,_,g,_⟩:=at1 z;rw[q]at g;cases g];exact q
  ·rw[j9 λ z=>by obtain⟨_,_,_,_,g,_⟩:=at1 z;rw[q]at g;cases g];exact q
  ·rw[j9 λ z=>by obtain⟨_,_,_,_,g,_⟩:=at1 z;rw[q]at g;cases g];exact q
  ·rw[j9 λ z=>by obtain⟨_,_,_,d',g,_⟩:=at1 z;rw[q]at g;cases g;rw[d]at d';cases d'];exact q
structure CellsT(l:List Addr)(h:Heap)(H:Hp):Prop where
 at_:∀c∈l,∃o v,H c=some (.frz o (.own c))/\h.get? c=some o/\o.data=.cell v
noncomputable def ov(l:on JI)(H H':Hp):Hp:=λ b=>if b∈l then H b else H' b
def gq(h:b∈l):ov l H a b=H b:=f8 h
def Q2(h:b∉l):ov l H a b=a b:=g8 h
def HOk.woC(C:CellsT l s.heap H)(x:HOk P w H s.heap):HOk P w (L2.wo l H) s.heap:=λ b u e=>by
 obtain⟨hb,e⟩:=B8 e;refine(x b u e).stay (λ _ _ _ q=>q) (λ a q=>?_) (λ a _ q=>?_) (λ a _ q=>?_) λ a o' _ vs d q=>?_
 ·rw[j9 λ z=>by obtain⟨_,_,g,_⟩:=C.at_ _ z;rw[q]at g;cases g];exact q
 ·rw[j9 λ z=>by obtain⟨_,_,g,_⟩:=C.at_ _ z;rw[q]at g;cases g];exact q
 ·rw[j9 λ z=>by obtain⟨_,_,g,_⟩:=C.at_ _ z;rw[q]at g;cases g];exact q
 ·rw[j9 λ z=>by obtain⟨_,_,g,_,c⟩:=C.at_ _ z;rw[q]at g;cases g;rw[d]at c;cases c];exact q
def CE.woC(C:CellsT l s.heap H)(m:∀b∈frs outer,H b=none)(h:CE outer P w (L2.wo l H) s Q' u s')(J:∀v i,(∀c∈l,i c=none)->Q' v i->Q v (ov l H i)):CE outer P w H s Q u s':=by
 obtain⟨v,i,F,p,un,A,r,q⟩:=h;have I:∀c∈l,c∉frs outer:=λ c y z=>by obtain⟨_,_,g,_⟩:=C.at_ c y;rw[m c z]at g;cases g
 have f:∀c∈l,i c=none:=λ c y=>by obtain⟨o,_,_,g,_⟩:=C.at_ c y;exact un.free c o g (V2 y) (by simp)
 refine⟨v,ov l H i,F,p,⟨λ b o e n m j=>?_,λ b o e n m j=>?_,λ b o e n j=>?_,un.there,λ b E e=>?_,λ b o x e=>?_,λ b x e=>?_⟩,λ b x e=>?_,r,J v i f q⟩
 ·have a:b∉l:=λ z=>by obtain⟨_,_,g,_⟩:=C.at_ b z;rw[n]at g;cases g
  exact un.keep b o e (by rw[j9 a];exact n) m j
 ·have a:b∉l:=λ z=>by obtain⟨_,_,g,_⟩:=C.at_ b z;rw[n]at g;cases g
  exact un.slot b o e (by rw[j9 a];exact n) m j
 ·have a:b∉l:=λ z=>by obtain⟨_,_,g,_⟩:=C.at_ b z;rw[n]at g;cases g
  rw[Q2 a];exact un.free b o e (by rw[j9 a];exact n) j
 ·have a:b∉l:=λ z=>by obtain⟨_,_,g,_⟩:=C.at_ b z;rw[e]at g;cases g
  rw[Q2 a];exact un.tups b E (by rw[j9 a];exact e)
 ·by_cases a:b∈l
  ·rw[gq a];exact e
  ·rw[Q2 a];exact un.frzs b o x (by rw[j9 a];exact e)
 ·have a:b∉l:=λ z=>by obtain⟨_,_,g,_⟩:=C.at_ b z;rw[e]at g;cases g
  rw[Q2 a];exact un.tbls b x (by rw[j9 a];exact e)
 ·by_cases a:b∈l
  ·rw[gq a]at e;obtain⟨o,_,g,K,_⟩:=C.at_ b a;rw[g]at e;cases e;have k:=un.keep b o K (V2 a) (I b a) (by simp);exact⟨k,o,k⟩
  ·rw[Q2 a]at e;refine(A b x e).stay (λ _ _ _ q=>q) (λ B q=>?_) (λ B _ q=>?_) (λ B _ q=>?_) λ B o' _ vs d q=>?_
   all_goals (rw[Q2 λ z=>by rw[f _ z]at q;cases q];exact q)
end
noncomputable def dr(P:JN)(w:JM)(K:JQ)(mg:Str->JF JG)(base:JJ)(N:on Str)(qual:Str)(scope:JR)(f:JI)(cd:JG)(cl:on (Str×JI))(A:JO)(outer:on Env)(s:JH)(H:Hp):Cx where
 prog:=P
 w:=w
 K:=K
 mg:=mg
 base:=base
 A:=A.deeper (PySem.W.envX qual scope s.heap.objs.size f cd cl)
 N:=N
 s₀:=s
 H₀:=H
 env:=PySem.W.envX qual scope s.heap.objs.size f cd cl
 outer:=outer
 stack:=PySem.W.envX qual scope s.heap.objs.size f cd cl::outer
 ex:=[]
 calm:=true
 fn:=λ _=>false
 pn:=[]
 xe:=λ _ _=>False
def Dt{P:JN}{w:JM}{K:JQ}{base:JJ}{A:JO}{j:on Env}{s:JH}{H:Hp}{l:on JI}{N ps:on Str}{q:Str}{scope:JR}{f:JI}{M:on JG}{vs ws:on V}{cd:JG}{k:JJ}{tk:Nat}(S:LamScope N ps scope cl l)(C:CellsT l s.heap H)(hd:A.handled=none)(B:Env0 P w K mg base A j s H)(hl:vs.length=ps.length)(r:Vals vs M)(Z:N.length=ps.length+ws.length)
  (hw:∀i x v,N[ps.length+i]? = some x->ws[i]? = some v->∃c u,cl.lookup x=some c/\s.heap.IsCell c (some u)/\RelV v u)
  (Y:k.Ns s.heap.objs.size (λ x=>(ps.zip M).reverse.lookup x)) (R:∀b o,s.heap.get? b=some o->k.get? b=some o) :
  Inv (dr P w K mg base N q scope f cd cl A j s (L2.wo l H)) [] ((vs++ws).map some) (L2.wo l H) {s with heap:=k,toks:=tk}:=by
 have nl:∀{b:JI},H b=none->b∉l:=λ {b} n z=>by obtain⟨_,_,g,_⟩:=C.at_ b z;rw[n]at g;cases g
 have I:∀b:JI,b∉(dr P w K mg base N q scope f cd cl A j s (L2.wo l H)).ex:=λ b z=>absurd (show b∈([]:on JI)from z) (by simp);have U:∀{b:JI},H b=none->L2.wo l H b=none:=λ {b} n=>by rw[j9 (nl n)];exact n
 have F:∀x c,cl.lookup x=some c->∃v,k.IsCell c v:=λ x c e=>by obtain⟨o,v,_,g,d⟩:=C.at_ c (S.mem x c e);exact⟨v,o,R _ _ g,d⟩
 refine⟨⟨B.mod,S.kind,rfl,rfl,i6 _,S.inj,λ y J=>?_,λ y c z=>(nomatch z),λ _=>hd,ip B.frames,.inr ⟨rfl,rfl⟩,λ b z=>absurd z (I b),λ b o e=>⟨(B.bs b o e).1,U (B.bs b o e).2⟩,B.bsz,λ b _ _=>I b,λ b z=>absurd z (I b),B.funs,λ b hb=>U (B.frf.1 b hb),λ p L=>?_⟩,
  rfl,B.bare,Un.kept R,⟨_,Y,λ i y v Q O h3=>?_⟩,F,?_,λ y c h=>V2 (S.mem y c h),λ p L=>absurd (show p∈([]:on (JI×Obj))from L) (by simp),(HOk.woC C B.hok).kept R,?_⟩
 ·have J:=J;rcases J with J | J
  ·exact absurd rfl (S.nocell _ (x8 J))
  ·exact S.has y J
 ·have z:=B.frf.2 p L;show L2.wo l H p.1=_;rw[j9 λ m=>by obtain⟨_,_,g,_⟩:=C.at_ _ m;rw[z]at g;cases g];exact z
 ·have Q:N[i]? = some y:=Q;rw[p5]at O;have E:(vs++ws)[i]? = some v:=by
   cases z:(vs++ws)[i]? with
   | none=>rw[z]at O;cases O
   | some a=>rw[z]at O;exact congrArg some (A8 (A8 O))
  by_cases hi:i<ps.length
  ·rw[X1 JX]at E;obtain⟨u,hu,rv⟩:=r.get E;have L:ps[i]? = some y:=by rw[←S.pre,aB hi];exact Q
   have W:ps.Nodup:=by rw[←S.pre];exact S.nd.sublist (iA _ _)
   refine⟨u,rv,.inl ⟨S.par y (K1 L),?_⟩⟩;show(ps.zip M).reverse.lookup y=some u;have X:((ps.zip M).reverse.map (·.1)).Nodup:=by rw[List.map_reverse,List.map_fst_zip (by have:=r.length;omega)];exact List.pairwise_reverse.mpr (List.Pairwise.imp (λ h=>Ne.symm h) W)
   refine R8 X (List.mem_reverse.mpr ?_);have hz:(ps.zip M)[i]? = some (y,u):=by rw[hZ];exact⟨L,hu⟩
   exact K1 hz
  ·rw[X0 JX]at E;obtain⟨c,u,e1,e2,e3⟩:=hw (i - vs.length) y v (by rw[show ps.length+(i - vs.length)=i by omega];exact Q) E;exact⟨u,e3,.inr ⟨.inr (S.fre i y JX Q),c,e1,e2.keeps R⟩⟩
 ·show L2.wo l H s.heap.objs.size=none;exact U (B.hok.fresh (i6 _))
 ·show((vs++ws).map some).length=N.length;rw[g7,t7];omega
def Du{K:JQ}(S:LamScope N ps scope cl l)(C:CellsT l s.heap H)(M:A.depth<recursionLimit/\A.handled=none)(m:Env0 P w K mg base A outer s H)(hf:N1 H q params body scope cl f)
  (h:∀B a j,bindArgs (PySem.W.kla_fn "<lambda>" q params body scope cl B (.ref a) j) ⟨us,[]⟩=pure (ps.zip us)) (hl:vs.length=ps.length) (r:Vals vs us) (p:N.length=ps.length+ws.length)
  (Y:∀i x v,N[ps.length+i]? = some x->ws[i]? = some v->∃c u,cl.lookup x=some c/\s.heap.IsCell c (some u)/\RelV v u)
  (g:∀a,∃t,PE (dr P w K mg base N q scope f (.ref a) cl A outer s (L2.wo l H)) body t/\t ((vs++ws).map some) (L2.wo l H) (λ v k=>(∀c∈l,k c=none)->Q v (ov l H k))) :
  codeAny (model P w) A (.call (.ref f) ⟨us,[]⟩) (CR CX outer P w H s Q E) s:=by
 obtain⟨a,W,u,y,t,B,j,h1,h2,h3,h4⟩:=hf;refine PySem.W.kla_callFunE M.1 ((m.hok f _ h1).1) rfl S.co S.gen rfl ⟨a,W,y,t,rfl,((m.hok a _ h2).1),h3,h4⟩ ?_;show wpAny _ _ _ _ _ s;rw[h B a j];refine f9 (wpAny_newFunctionEnv S.nocell (λ x X=>S.par x.1 (eQ X).1) (λ L I n=>⟨(m.mod.nolimit.keeps λ b o e=>(m.bs b o e).1).fresh _ n,?_⟩) S.kind);show codeAny _ _ _ _ _;obtain⟨t,Z,hq⟩:=g a;exact PySem.W.kla_codeExpr (B3 (Z [] _ _ _ _ (Dt S C M.2 m hl r p Y I (λ b o e=>n.extBut b o (q5 (k7 e)) (k6 _ e))) hq) (λ v R ⟨O,k,J,U,z⟩=>CE.woC (Q':=λ v k=>(∀c∈l,k c=none)->Q v (ov l H k)) C m.frf.1 ⟨O,k,J.os,J.bare,J.base,J.hok,U,z⟩ λ _ _ z q=>q z) λ e R z=>(z:False).elim)
open PySem.Calls
def Dv(F:closureFor sc env=pure cl)(B:env.globals=mainGlobals)(L:s.heap.Ns mainGlobals mg)(hc:env.code=.ref c)(C:PySem.W.CodeHd s.heap c P)(N:s.heap.get? P=some (PySem.W.tabObj ps))(ht:TriplesOk ps.toList)(hn:codeAmong pos ps.toList=none)(u:mainGlobals≠P)(hb:s.heap.BuiltinsAt mg P)
  (h:∀a T K I h' tk,Heap.ExtBut P s.heap h'->s.heap.objs.size<=a->a<h'.objs.size->s.heap.objs.size<=T->h'.IsCode a T #[]->h'.TableAt a T #[]->h'.CodeRec (.ref a) p->h'.get? P=some (PySem.W.tabObj (ps ++ #[rawInt pos.line,rawInt pos.col,.ref a])) ->
   Q (.ref h'.objs.size) {s with heap:=h'.push (PySem.W.fnMade nm p y bd sc cl I ((mg "__name__").getD .none) a K),toks:=tk}) :
  wpAny M A (makeFunction nm p y (.stmts bd) sc env [] [] [] pos R) Q E s:=by
 obtain⟨bm,ob,b1,Z,_,Y,X,W,U,S⟩:=hb;have O:∀(s1:JH),(∀b o,s.heap.get? b=some o->s1.heap.get? b=some o)->s.heap.objs.size<=s1.heap.objs.size->s1.gens=s.gens->s1.drawn=s.drawn->s1.os=s.os ->
   wpAny M A (functionCode env pos R nm p y sc (.stmts bd)) (λ J w=>∃a T h' tk,J=.ref a/\w = {s with heap:=h',toks:=tk} /\ Heap.ExtBut P s.heap h'/\s.heap.objs.size<=a/\a<h'.objs.size/\s.heap.objs.size<=T/\h'.IsCode a T #[]/\h'.TableAt a T #[]/\h'.CodeRec (.ref a) p/\h'.get? P=some (PySem.W.tabObj (ps ++ #[rawInt pos.line,rawInt pos.col,.ref a]))) E s1:=λ s1 k z g1 g2 g3=>by
  have C1:=C.keeps k;refine wpAny_functionCodeX hc (C1.code (k _ _ N) ht) (C1.tab (k _ _ N)) hn λ a h' tk d n m _ l j x6=>?_
  obtain⟨T,i,g,f⟩:=x6;refine⟨a,T,h',tk,rfl,by rw[g1,g2,g3],λ b o H e=>d b o H (k b o e),i9 z n,m,i9 z i,g,f,l,j.2⟩
 rw[makeFunction_eq];simp only[List.zip_nil_right,List.filterMap_nil,iJ,if_true,pure_bind];unfold makeTail;rw[F,B];refine f0 (f9 ?_);cases cl with
 | nil=>
  simp only[iJ,if_true];refine f0 (f9 (f0 (B3 (O s (λ _ _ e=>e) (i6 _) rfl rfl rfl) (λ J w q=>?_) λ _ _ x=>x)));obtain⟨a,T,h',tk,rfl,rfl,d,n,m,i,g,f,l,j⟩:=q;have v:=L.extBut d u;refine f0 (wpAny_builtinsFor v b1 Z (d _ _ Y X) W U S (f0 (wpAny_nsGet v ?_)));cases hd:docOf bd with
  | none=>exact f0 (f9 (C3 (h a T _ _ h' tk d n m i g f l j) (by size_fits)))
  | some t=>exact f0 (wpAny_mkText (C3 (h a T _ _ h' _ d n m i g f l j) (by size_fits)))
 | cons q r=>
  simp only[List.isEmpty_cons,G1,if_false];refine f0 (wpAny_newTextTuple (f0 (B3 (O _ (λ b o e=>k6 _ e) (by rw[D5];omega) rfl rfl rfl) (λ J w q=>?_) λ _ _ x=>x)));obtain⟨a,T,h',tk,rfl,rfl,d,n,m,i,g,f,l,j⟩:=q;have v:=L.extBut d u;refine f0 (wpAny_builtinsFor v b1 Z (d _ _ Y X) W U S (f0 (wpAny_nsGet v ?_)));cases hd:docOf bd with
  | none=>exact f0 (f9 (C3 (h a T _ _ h' tk d n m i g f l j) (by size_fits)))
  | some t=>exact f0 (wpAny_mkText (C3 (h a T _ _ h' _ d n m i g f l j) (by size_fits)))
structure DefAt(X:Cx)(scope:Scope)(c P:Addr)(q:Str):Prop where
 code:X.env.code=.ref c
 hd:∀h:Heap,X.K.In h->PySem.W.CodeHd h c P
 tab:(P,q)∈x9 X.K
 fre:∀y∈scope.names,y.2=NameKind.free->X.env.kindOf y.1=some .cell
 dq:L3 q=true
def G9(H:Hp)(nm q:Str)(pr:JS)(bd:on JP)(sc:JR)(cl:on (Str×JI))(f:JI):Prop:=
 ∃(c':JI) (oc:Obj) (u:HO) (vs:JL JG) (t:Tok) (doc pm ctv:JG) (T:JI),H f=some (.frz (PySem.W.fnMade nm q pr bd sc cl doc pm c' ctv) (.own f))/\H c'=some (.frz oc u)/\oc.data=.fields vs/\vs[1]? = some (.str q t)/\H T=some (.tbl (q ++ ".<locals>." ++ "<lambda>")) /\
  ∀h:JJ,h.get? c'=some oc->PySem.W.CodeHd h c' T
def G9.mono(e:Same H d)(h:G9 H nm q c bd sc cl f):G9 d nm q c bd sc cl f:=by
 obtain⟨p,j,u,g,t,a,i,b,T,o,n,m,l,k,r⟩:=h;exact⟨p,j,u,g,t,a,i,b,T,e _ _ o,e _ _ n,m,l,e _ _ k,r⟩
def Dw(I:Inv X U σ H s)(L:DefAt X sc c P q)
  (h:∀f r s',Inv X U σ r s'->Same H r->H f=none->G9 r nm q pr bd sc (o6 X.env.cells sc.names []) f->Q (.ref f) s') :
  wpAny M A (makeFunction nm q pr (.stmts bd) sc X.env [] [] [] pos fl) Q E s:=by
 have hP:=I.tabs _ L.tab;obtain⟨ps,hp,ht,Y⟩:=I.hok _ _ hP;have a9:=fC (scope:=sc) (env:=X.env) λ y hy hf=>I.ok.has y.1 (.inl (L.fre y hy hf));have hg:s.heap.Ns mainGlobals X.mg:=I.ok.mod.glob.keeps I.bk;have c9:mainGlobals≠P:=λ z=>by obtain⟨o,es,ep,e,d,_⟩:=hg;rw[z,hp]at e;cases e;cases d
 obtain⟨bm,ob,b1,b2,b3,b4,b5,b6⟩:=I.ok.mod.bmod;have R:=I.bs _ _ b3;have d0:bm≠P:=λ z=>by rw[z,hP]at R;cases R.2
 have e0:bm≠mainGlobals:=λ z=>by obtain⟨o,es,ep,e,d,_⟩:=hg;rw[←z,R.1]at e;cases e;rw[b6]at d;cases d
 have hb:s.heap.BuiltinsAt X.mg P:=⟨bm,ob,b1,b2,e0,d0,R.1,b4,b5,b6⟩;have C:=L.hd s.heap I.kIn;have W:∀{l:JI} {x:Obj} {p:JL JG} {T:JI} {j:Str} {tf:Tok} {g:Int} {tg:Tok} {m:Bool} {i:Int} {tt:Tok},x.data=.fields p->x.cls=.type "code" -> p[11]? = some (.ref T)->p.getD 11 .none=.ref T->p.getD 18 .none=.str j tf->p.getD 7 .none=.int g tg->p.getD 9 .none=.bool m->p.getD 10 .none=.int i tt->l≠T ->
   ∀h:JJ,h.get? l=some x->PySem.W.CodeHd h l T:=λ d1 d2 d3 d4 d5 d6 d7 d8 d9 h e=>⟨_,_,_,_,_,_,_,_,_,e,d2,d1,d3,d4,d5,d6,d7,d8,d9⟩
 cases hf:codeAmong pos ps.toList with
 | some cv=>
  obtain⟨l,x,u,p,t,e1,e2,e3,e4,e5⟩:=Y pos cv hf;subst e1;obtain⟨y0,T,j,tf,g,tg,m,i,tt,y1,y2,y3,y4,y5,y6,y7,y8⟩:=e5 L.dq;refine PySem.W.makeFunction_hit (mg:=X.mg) a9 I.ok.glob hg L.code C hp ht hf hb λ O N k tk hk a4=>?_
  have hn:H k.objs.size=none:=I.hok.fresh a4;refine h _ (upd H k.objs.size (.frz _ (.own k.objs.size))) _ (I.laid (t':=tk) (λ b u e=>k6 _ (hk b u e)) a4 ⟨p8 _ rfl,_,p8 _ rfl⟩) (v7 hn) hn ?_;refine⟨l,x,u,p,t,N,_,O,T,x3,?_,e3,e4,?_,W e3 y0 y1 y2 y3 y4 y5 y6 y7⟩
  ·rw[m7 (z8 e2 hn)];exact e2
  ·rw[m7 (z8 y8 hn)];exact y8
 | none=>
  refine Dv (mg:=X.mg) a9 I.ok.glob hg L.code C hp ht hf c9 hb λ l T O N k tk hx F a0 b0 c8 c4 a5 a3=>?_;obtain⟨e9,x,p,t,e2,B,hd,hv⟩:=a5;cases e2;obtain⟨⟨o1,c1,g1,g2,g3,g4⟩,b7⟩:=c4;rw[B]at g1;cases g1;rw[hd]at g3;cases g3;obtain⟨o1,c1,j,tf,g,tg,m,i,tt,op,j1,j2,j3,j4,j5,j6,j7,_,_,_,j8⟩:=c8;rw[B]at j1;cases j1;rw[hd]at j2;cases j2;have c6:H l=none:=I.hok.fresh F;have c7:H T=none:=I.hok.fresh b0;have a6:H k.objs.size=none:=I.hok.fresh (i9 F (K9 a0));have e7:T<k.objs.size:=k7 b7;have e8:T≠k.objs.size:=q5 e7;have Z:∀{b:JI} {u:HO},H b=some u->b≠l/\b≠T/\b≠k.objs.size:=λ e=>⟨z8 e c6,z8 e c7,z8 e a6⟩;have v:∀{b:JI} {o:Obj},s.heap.get? b=some o->b≠l/\b≠T/\b≠k.objs.size:=λ {b o} e=>⟨q5 (t6 (k7 e) F),q5 (t6 (k7 e) b0),q5 (t6 (k7 e) (i9 F (K9 a0)))⟩;generalize a8:PySem.W.fnMade nm q pr bd sc _ N _ l O=fo;have a7:fo.isFreed=false:=by rw[←a8];rfl
  generalize K:upd (upd (upd H l (.frz x (.own l))) T (.tbl (q ++ ".<locals>." ++ "<lambda>"))) k.objs.size (.frz fo (.own k.objs.size))=r;have b9:r k.objs.size=some (.frz fo (.own k.objs.size)):=by rw[←K];exact x3
  have a1:r T=some (.tbl (q ++ ".<locals>." ++ "<lambda>")):=by rw[←K,m7 e8];exact x3
  have at2:r l=some (.frz x (.own l)):=by rw[←K,m7 (q5 a0),m7 j8];exact x3
  have a2:∀{b:JI},b≠l->b≠T->b≠k.objs.size->r b=H b:=λ h1 h2 h3=>by rw[←K,m7 h3,m7 h2,m7 h1]
  have sm:Same H r:=λ b o e=>by rw[a2 (Z e).1 (Z e).2.1 (Z e).2.2];exact e
  have kp:∀b o,b≠P->s.heap.get? b=some o->(k.push fo).get? b=some o:=λ b o hb e=>k6 _ (hx b o hb e);have b8:∀b,H b=none->b≠P:=λ b n z=>by rw[z,hP]at n;cases n
  have un:Un X.fs [] H r s.heap (k.push fo):=by
   refine⟨λ b o e n _ _=>kp b o (b8 b n) e,λ b o e n _ _=>⟨o.slots,kp b o (b8 b n) e⟩,λ b o e n _=>by rw[a2 (v e).1 (v e).2.1 (v e).2.2];exact n,λ b o e _=>?_,λ b xs e=>sm _ _ e,λ b o u e=>sm _ _ e,λ b q e=>sm _ _ e⟩;by_cases z:b=P
   ·subst z;exact⟨_,k6 _ a3⟩
   ·exact⟨o,kp b o z e⟩
  have c5:HOk X.prog X.w r (k.push fo):=λ b u e=>by
   by_cases z1:b=k.objs.size
   ·subst z1;rw[b9]at e;cases e;exact⟨p8 _ a7,_,p8 _ a7⟩
   ·by_cases z0:b=T
    ·subst z0;rw[a1]at e;cases e;exact⟨#[],k6 _ b7,trivial,λ S cv J=>by cases J⟩
    ·by_cases z2:b=l
     ·subst z2;rw[at2]at e;cases e;exact⟨k6 _ B,_,k6 _ B⟩
     ·rw[a2 z2 z0 z1]at e;by_cases z3:b=P
      ·subst z3;rw[hP]at e;cases e;refine⟨_,k6 _ a3,?_,λ S cv J=>?_⟩
       ·rw[bT];exact lm ⟨_,_,rfl⟩ ⟨_,_,rfl⟩ _ ht
       ·rw[bT]at J;rcases ll (a:=rawInt pos.line) (b:=rawInt pos.col) (c:=.ref l) ps.toList ht ⟨_,_,rfl⟩ ⟨_,_,rfl⟩ J with w | w
        ·obtain⟨c2,c3,u2,c0,t2,f1,f2,f3,f4⟩:=Y S cv w;refine⟨c2,c3,u2,c0,t2,f1,sm _ _ f2,f3,f4.1,λ y=>?_⟩;obtain⟨y0,T2,j,tf,g,tg,m,i,tt,y1,y2,y3,y4,y5,y6,y7,y8⟩:=f4.2 y;exact⟨y0,T2,j,tf,g,tg,m,i,tt,y1,y2,y3,y4,y5,y6,y7,sm _ _ y8⟩
        ·exact⟨l,x,_,p,t,w,at2,hd,hv,λ _=>⟨g2,T,j,tf,g,tg,m,i,tt,g4,j3,j4,j5,j6,j7,j8,a1⟩⟩
      ·refine(I.hok b u e).stay (λ b' u' e6 q=>kp b' u' ?_ q) (λ b' q=>sm _ _ q) (λ b' xs q=>sm _ _ q) (λ b' xs q=>sm _ _ q) λ b' _ _ _ _ q=>sm _ _ q;rcases e6 with w | w
       ·rw[w];exact z3
       ·intro z;rw[z,hP]at w;cases w
  exact h k.objs.size r _ (I.un (t':=tk) un c5) sm a6 ⟨l,x,_,p,t,N,(X.mg "__name__").getD .none,O,T,by rw[b9,←a8],at2,hd,hv,a1,W hd g2 g4 j3 j4 j5 j6 j7 j8⟩
structure CloScope(N:List Str)(x y:Str)(n:Nat)(sc:Scope)(cl:List (Str×Addr))(l:List Addr):Prop where
 kind:sc.kind=.function
 co:sc.isCoroutine=false
 gen:sc.isGenerator=false
 nd:N.Nodup
 n0:N[0]? = some x
 n1:N[1]? = some y
 hx:sc.names.lookup x=some .local
 hy:sc.names.lookup y=some .cell
 snd:(sc.names.map (·.1)).Nodup
 fre:∀i z,2<=i->i<2+n->N[i]? = some z->sc.names.lookup z=some .free
 has:∀z,sc.names.lookup z=some .free->∃c,cl.lookup z=some c
 inj:∀z z' c,cl.lookup z=some c->cl.lookup z'=some c->z=z'
 mem:∀z c,cl.lookup z=some c->c∈l
 fr:∀z c,cl.lookup z=some c->sc.names.lookup z=some .free
abbrev ownC(s:JH)(sc:JR):on (Str×JI):=cellsFrom (s.heap.objs.size+1) sc.names []
def br(P:JN)(w:JM)(K:JQ)(mg:Str->JF JG)(base:JJ)(N:on Str)(q:Str)(sc:JR)(f:JI)(cd:JG)(cl:on (Str×JI))(A:JO)(outer:on Env)(s:JH)(H:Hp):Cx:=
 {dr P w K mg base N q sc f cd (ownC s sc++cl) A outer s H with fn:=λ z=>sc.names.lookup z==some .cell}
theorem CloScope.free(S:CloScope N x y n scope cl l)(h:scope.names.lookup z=some .free):(ownC s scope).lookup z=none:=jA λ c a=>by
 have:=R8 S.snd (fE a);rw[h]at this;cases this
def CloScope.at(S:CloScope N x y n scope cl l)(h:scope.names.lookup z=some .free):(ownC s scope++cl).lookup z=cl.lookup z:=by
 rw[M5,S.free h];rfl
def Dx{K:JG}(P:scope.kind=.function)(R:scope.names.lookup x=some .local)(O:scope.names.lookup y=some .cell)
  (h:∀d tk m,(∀b o,s.heap.get? b=some o->d.get? b=some o)->d.Ns s.heap.objs.size m->m x=some L->(ownC s scope).Pairwise (λ a b=>a.2≠b.2)->(∀z c,(z,c)∈ownC s scope->s.heap.objs.size<c/\∃w,d.IsCell c w/\((ownC s scope).lookup y=some c->w=some K)) ->
   Q (newEnv scope s.heap.objs.size g (ownC s scope++cl) q (some f) cd none b) {s with heap:=d,toks:=tk}) :
  wpAny M A (newFunctionEnv scope g cl [(x,L),(y,K)] q (some f) cd none b) Q U s:=by
 simp only[newFunctionEnv,Option.isSome_none,G1,if_false];refine f0 (wpAny_alloc ?_);refine f0 (wpAny_layCells _ (λ N l H=>by cases C:l==NameKind.cell<;>simp[C]) _ _ _ _ ?_);have ok:=jc scope.names (s.heap.push {cls:=.type "frame",data:=.dict #[]}) _ [] ⟨λ _ _ i=>(nomatch i),List.Pairwise.nil⟩ (by rw[D5];exact i6 _);rw[D5]at ok;rw[show({s with heap:=s.heap.push {cls:=.type "frame",data:=.dict #[]}}:JH).heap.objs.size=s.heap.objs.size+1 from D5 ..,aW];obtain⟨c,F⟩:=aU O;have u:=(Heap.Ns.new s.heap (.type "frame")).keeps (cg scope.names _);rw[aL];refine f0 (f0 (f0 (nP R u (λ h' B n=>f9 ?_) (by show(scope.kind == .class||_)=false;rw[P];rfl))));dsimp only;rw[aL];have r:=λ z c i=>(ok.empty z c i).2
 have p:=λ z c i=>(ok.empty z c i).1.sameBut n (R5 (r z c i));have v:=λ b o e=>n.extBut b o (q5 (k7 e)) ((λ b o e=>cg _ _ b o (k6 _ e)) b o e);have k:=x8 F;refine f0 (f0 (wpAny_storeName_cell (c:=c) P O (by show(ownC s scope++cl).lookup y=some c;rw[M5];show((ownC s scope).lookup y).or _=_;rw[F];rfl) (p y c k) λ S E j=>f9 ?_));dsimp only;rw[List.forIn_nil];refine f9 (f9 (h S _ _ (λ b o e=>j.extBut b o (q5 (P2 (k7 e) (r y c k))) (v b o e)) (B.sameBut j (q5 (r y c k))) (f8 rfl) ok.apart λ z I i=>⟨r z I i,?_⟩));by_cases e:I=c
 ·subst e;exact⟨_,E,λ _=>rfl⟩
 ·refine⟨_,(p z I i).sameBut j e,λ w=>?_⟩;have J:=w;rw[F]at J;cases J;exact absurd rfl e
def Dy{K:JQ}(S:CloScope N x y ws.length scope cl l)(C:CellsT l s.heap H)(hd:A.handled=none)(F:Env0 P w K mg J A j s H)(r1:RelV Q u1)(r2:RelV O Z)(a2:N.length=2+ws.length+n)
  (hw:∀i z v,N[2+i]? = some z->ws[i]? = some v->∃c u,cl.lookup z=some c/\s.heap.IsCell c (some u)/\RelV v u)
  (Y:∀b o,s.heap.get? b=some o->r.get? b=some o) (a0:r.Ns s.heap.objs.size m) (hm:m x=some u1) (a1:(ownC s scope).Pairwise (λ a b=>a.2≠b.2)) (hc:∀z c,(z,c)∈ownC s scope->s.heap.objs.size<c/\∃w,r.IsCell c w/\((ownC s scope).lookup y=some c->w=some Z)) :
  Inv (br P w K mg J N q scope f cd cl A j s (L2.wo l H)) [] ((Q::O::ws).map some++List.replicate n none) (L2.wo l H) {s with heap:=r,toks:=tk}:=by
 have nl:∀{b:JI},H b=none->b∉l:=λ {b} n z=>by obtain⟨_,_,g,_⟩:=C.at_ b z;rw[n]at g;cases g
 have R:∀b:JI,b∉(br P w K mg J N q scope f cd cl A j s (L2.wo l H)).ex:=λ b z=>absurd (show b∈([]:on JI)from z) (by simp);have wn:∀{b:JI},H b=none->L2.wo l H b=none:=λ {b} n=>by rw[j9 (nl n)];exact n
 have X:∀z c,(ownC s scope++cl).lookup z=some c->(ownC s scope).lookup z=some c\/cl.lookup z=some c:=λ z c e=>by
  rw[M5]at e;cases q:(ownC s scope).lookup z with
  | some c'=>rw[q]at e;exact .inl e
  | none=>rw[q]at e;exact .inr e
 have W:∀{z:Str} {c:Nat},cl.lookup z=some c->@LT.lt Nat _ c s.heap.objs.size:=λ e=>by obtain⟨o,v,_,g,_⟩:=C.at_ _ (S.mem _ _ e);exact k7 g
 have I:∀{z:Str} {c:Nat},(ownC s scope).lookup z=some c->@LT.lt Nat _ s.heap.objs.size c:=λ e=>(hc _ _ (x8 e)).1;refine⟨⟨F.mod,S.kind,rfl,rfl,i6 _,λ z z' c B L=>?_,λ z E=>?_,λ z c E h=>?_,λ _=>hd,ip F.frames,.inr ⟨rfl,rfl⟩,λ b z=>absurd z (R b),λ b o e=>⟨(F.bs b o e).1,wn (F.bs b o e).2⟩,F.bsz,λ b _ _=>R b,λ b z=>absurd z (R b),F.funs,λ b hb=>wn (F.frf.1 b hb),λ p hp=>?_⟩,
  rfl,F.bare,Un.kept Y,⟨_,a0,λ i z v B L h3=>?_⟩,λ z c e=>?_,?_,λ z c h=>?_,λ p hp=>absurd (show p∈([]:on (JI×Obj))from hp) (by simp),(HOk.woC C F.hok).kept Y,?_⟩
 ·rcases X z c B with a | a<;>rcases X z' c L with b | b
  ·exact iZ a1 (x8 a) (x8 b)
  ·exact absurd (P2 (W b) (I a)) (D6 _)
  ·exact absurd (P2 (W a) (I b)) (D6 _)
  ·exact S.inj z z' c a b
 ·have E:scope.names.lookup z=some .cell\/scope.names.lookup z=some .free:=E;show ∃c,(ownC s scope++cl).lookup z=some c;rcases E with E | E
  ·obtain⟨c,e⟩:=aU E;exact⟨c,by rw[M5];show((ownC s scope).lookup z).or _=_;rw[e];rfl⟩
  ·rw[S.at E];exact S.has z E
 ·have E:=E;rcases X z c h with a | a
  ·exact K9 (I a)
  ·obtain⟨c',e⟩:=aU (g9.mp E);have h':(ownC s scope++cl).lookup z=some c:=h;rw[M5,show(ownC s scope).lookup z=some c' from e]at h';cases h';exact K9 (I e)
 ·have z:=F.frf.2 p hp;show L2.wo l H p.1=_;rw[j9 λ m=>by obtain⟨_,_,g,_⟩:=C.at_ _ m;rw[z]at g;cases g];exact z
 ·have B:N[i]? = some z:=B;have M:i<(Q::O::ws).length:=by
   by_cases w:i<(Q::O::ws).length
   ·exact w
   ·rw[X0 (by rw[g7];omega),X3]at L;split at L<;>cases L
  rw[X1 (by rw[g7];exact M),p5]at L;have k:(Q::O::ws)[i]? = some v:=by
   cases q:(Q::O::ws)[i]? with
   | none=>rw[q]at L;cases L
   | some a=>rw[q]at L;exact congrArg some (A8 (A8 L))
  match i,B,k,M with
  | 0,B,k,_=>
   rw[S.n0]at B;cases B;cases k;exact⟨u1,r1,.inl ⟨S.hx,hm⟩⟩
  | 1,B,k,_=>
   rw[S.n1]at B;cases B;cases k;obtain⟨c,e⟩:=aU (n:=s.heap.objs.size+1) S.hy;obtain⟨_,w,U,e2⟩:=hc _ _ (x8 e);rw[e2 e]at U;exact⟨Z,r2,.inr ⟨.inl S.hy,c,by show(ownC s scope++cl).lookup y=some c;rw[M5];show((ownC s scope).lookup y).or _=_;rw[e];rfl,U⟩⟩
  | i+2,B,k,M=>
   obtain⟨c,u,U,e2,e3⟩:=hw i z v (by rw[jb];exact B) k;have hf:=S.fre (i+2) z JX (by have:i+2<ws.length+1+1:=M;omega) B;exact⟨u,e3,.inr ⟨.inr hf,c,by show(ownC s scope++cl).lookup z=some c;rw[S.at hf];exact U,e2.keeps Y⟩⟩
 ·rcases X z c e with a | a
  ·obtain⟨_,w,U,_⟩:=hc _ _ (x8 a);exact⟨w,U⟩
  ·obtain⟨o,v,_,g,d⟩:=C.at_ c (S.mem z c a);exact⟨v,o,Y _ _ g,d⟩
 ·exact wn (F.hok.fresh (i6 _))
 ·rcases X z c h with a | a
  ·exact wn (F.hok.fresh (K9 (I a)))
  ·exact V2 (S.mem z c a)
 ·show((Q::O::ws).map some++List.replicate n none).length=N.length;rw[t7,g7,aC,p9,p9];omega
def Dz{K:JQ}(S:CloScope N x y ws.length scope cl l)(C:CellsT l s.heap H)(hr:A.depth<recursionLimit/\A.handled=none)(F:Env0 P w K mg j A a s H)(hf:G9 H nm q d body scope cl f)
  (p:∀r pm g B,bindArgs (PySem.W.fnX nm q d body scope cl .none .none r pm none (.ref g) B) ⟨[O,M],[]⟩=pure [(x,O),(y,M)]) (r1:RelV v1 O) (r2:RelV v2 M) (L:N.length=2+ws.length+n)
  (hw:∀i z v,N[2+i]? = some z->ws[i]? = some v->∃c u,cl.lookup z=some c/\s.heap.IsCell c (some u)/\RelV v u)
  (k:∀g I u T,H g=some (.frz I u)->H T=some (.tbl (q ++ ".<locals>." ++ "<lambda>"))->(∀h:JJ,h.get? g=some I->PySem.W.CodeHd h g T)->∃t,PSs (br P w K mg j N q scope f (.ref g) cl A a s (L2.wo l H)) body t/\t {nx:=λ _ _=>False,rt:=λ v U=>(∀c∈l,U c=none)->Q v (ov l H U)} ((v1::v2::ws).map some++List.replicate n none) (L2.wo l H)) :
  codeAny (model P w) A (.call (.ref f) ⟨[O,M],[]⟩) (CR CX a P w H s Q E) s:=by
 obtain⟨g,I,u,W,t,r,pm,B,T,h1,h2,h3,h4,h5,h6⟩:=hf;have X:=(F.hok g _ h2).1;refine nR hr.1 ((F.hok f _ h1).1) rfl S.co S.gen rfl ⟨g,I,W,t,rfl,X,h3,h4⟩ ?_
 show wpAny _ _ _ _ _ s;rw[p r pm g B];refine f9 (Dx S.kind S.hx S.hy λ a0 tk m hk Y hm Z hc=>⟨(F.mod.nolimit.keeps λ b o e=>(F.bs b o e).1).keeps hk,?_⟩);obtain⟨t,ht,hq⟩:=k g I u T h2 h5 h6;refine codeAny_func (B3 (ht [] _ _ _ _ (Dy S C hr.2 F r1 r2 L hw hk Y hm Z hc) hq) (λ fl s' R=>?_) λ e s' z=>(z:False).elim)
 cases fl with
 | ret u=>
  obtain⟨v',σ',U,J,rv,z⟩:=R;exact CE.woC C F.frf.1 ⟨v',U,J.os,J.bare,J.base,J.hok,rv,z⟩ λ _ _ z q=>q z
 | next=>obtain⟨_,_,_,z⟩:=R;exact False.elim z
 | brk=>obtain⟨_,_,_,z⟩:=R;exact False.elim z
 | cont=>obtain⟨_,_,_,z⟩:=R;exact False.elim z
def DA{K:JQ}(C:CellsT l s.heap H)(m:H b=some (.frz j u))(hd:∀v,j.data ≠ .cell v)(k:H T=some (.tbl (q ++ ".<locals>." ++ "<lambda>")))(p:∀h:JJ,h.get? b=some j->PySem.W.CodeHd h b T)(I:Inv (br P w K mg i N q scope f (.ref b) cl A a s (L2.wo l H)) c σ n s1):PySem.W.CodeHd s1.heap b T/\n T=some (.tbl (q ++ ".<locals>." ++ "<lambda>")):=by
 refine⟨?_,I.base.tbls _ _ (show L2.wo l H T=_ by
  rw[j9 λ z=>by obtain⟨o,v,g,_,d⟩:=C.at_ _ z;rw[k]at g;cases g];exact k)⟩
 have e:L2.wo l H b=some _:=(by rw[j9 λ z=>by obtain⟨o,v,g,_,d⟩:=C.at_ _ z;rw[m]at g;cases g;exact hd v d];exact m);exact p _ (I.hok _ _ (I.base.frzs _ _ _ e)).1
structure RoomL(k:Nat)(A:Around):Prop where
 hd:A.handled=none
 dp:A.depth+3*k+5<recursionLimit
 un:A.units+16*k+198<cLine
def Room.toL(r:Room k A):RoomL k A:=⟨r.hd,r.dp,by have:=r.un;omega⟩
theorem RoomL.deeper(r:RoomL (k+1) A)(env:Env):Room k (A.deeper env):=
 ⟨r.hd,by have:=r.dp;show A.depth+1+3*k+5<_;omega,by have:=r.un;show A.units+3+16*k+200<_;omega⟩
def RoomL.ok(r:RoomL k A):A.depth<recursionLimit/\A.handled=none:=⟨by have:=r.dp;omega,r.hd⟩
def V4(P:JN)(w:JM)(K:JQ)(mg:Str->JF JG)(base:JJ)(fn bl cl:on Str)(k:Nat)(Fl:on DV->JF Ou):Prop:=
 ∀(A:JO) (outer:on Env) (s:JH) (H:Hp) (us:on JG) (vs:on V) (Q:VK) (E:XK) (O:on JI) (f:JI) (m:LamD) (cs ds:on DV) (d:DV),RoomL k A->Env0 P w K mg base A outer s H->Vals vs us->Hdn O H->m.fn=fn->m.bl=bl->m.cl=cl ->
  Rep ⟨K,mg⟩ (L2.wo O H) (.lam m cs) (.ref f)->RepL ⟨K,mg⟩ (L2.wo O H) ds vs->Fl (.lam m cs::ds)=some (.v d false)->(∀v H',Same H H'->Rep ⟨K,mg⟩ (L2.wo O H') d v->Q v H') ->
  codeAny (model P w) A (.call (.ref f) ⟨us,[]⟩) (CR CX0 outer P w H s Q E) s
section
variable {D:Dm} {O l:on JI} {H:Hp}
def dt(d:∀c∈l,∃o,H c=some (.frz o (.own c)))(h:L2.wo O H b=some u)(a:∀o c,u ≠ .frz o (.own c)):L2.wo O (L2.wo l H) b=some u:=by
 obtain⟨f,e⟩:=B8 h;rw[j9 f,j9 λ z=>by obtain⟨o,g⟩:=d b z;rw[e]at g;cases g;exact a _ _ rfl];exact e
mutual
theorem rJ(hl:∀c∈l,∃o,H c=some (.frz o (.own c))):∀{d:DV} {v:V},d.nolam=true->Rep D (L2.wo O H) d v->Rep D (L2.wo O (L2.wo l H)) d v
 | .non,_,_,h=>by unfold Rep at h ⊢;exact h
 | .bl _,_,_,h=>by unfold Rep at h ⊢;exact h
 | .int _,_,_,h=>by unfold Rep at h ⊢;exact h
 | .str _,_,_,h=>by unfold Rep at h ⊢;exact h
 | .tup ds,_,m,h=>by
  unfold Rep at h ⊢;obtain⟨a,xs,e1,e2,e3⟩:=h;unfold DV.nolam at m;refine⟨a,xs,e1,?_,V5 hl m e3⟩;rcases e2 with(h | ⟨o,h⟩) | h
  ·exact .inl (.inl (dt hl h (by intro o c z;cases z)))
  ·exact .inl (.inr ⟨o,dt hl h (by intro o c z;cases z)⟩)
  ·exact .inr h
 | .lst ds,_,m,h=>by unfold Rep at h ⊢;obtain⟨a,xs,e1,e2,e3⟩:=h;unfold DV.nolam at m;exact⟨a,xs,e1,dt hl e2 (by intro o c z;cases z),V5 hl m e3⟩
 | .dct _ _,_,m,h=>by unfold Rep at h ⊢;unfold DV.nolam at m;obtain⟨a,ob,kvs,e1,e2,e3,e4⟩:=h;exact⟨a,ob,kvs,e1,dt hl e2 (by intro o c z;cases z),e3,V5 hl m e4⟩
 | .dcl _ _,_,m,_=>by unfold DV.nolam at m;cases m
 | .fn _,_,_,h=>by unfold Rep at h ⊢;exact h
 | .lam _ _,_,m,_=>by unfold DV.nolam at m;cases m
 | .scr _,_,_,h=>by
  unfold Rep at h ⊢;obtain⟨a,e1,e2⟩:=h;refine⟨a,e1,?_⟩;rcases e2 with⟨o,h⟩ | h
  ·exact .inl ⟨o,dt hl h (by intro o c z;cases z)⟩
  ·exact .inr h
theorem V5(hl:∀c∈l,∃o,H c=some (.frz o (.own c))):∀{ds:on DV} {xs:on V},DV.nolams ds=true->RepL D (L2.wo O H) ds xs->RepL D (L2.wo O (L2.wo l H)) ds xs
 | [],_,_,h=>by unfold RepL at h ⊢;exact h
 | d::ds,_,m,h=>by unfold RepL at h ⊢;obtain⟨v,vs,e1,e2,e3⟩:=h;unfold DV.nolams at m;rw[g6]at m;exact⟨v,vs,e1,rJ hl m.1 e2,V5 hl m.2 e3⟩
end
end
section
variable {X:Cx} {pins:on (JI×Obj)} {σ:St} {H:Hp} {s:JH} {sc:JR} {N ps:on Str}
def aj(d:∀y∈sc.names,y.2=NameKind.free->∃a,b.lookup y.1=some a)(h:(o6 b sc.names []).lookup x=some c):b.lookup x=some c/\(x,NameKind.free)∈sc.names:=by
 rcases aV d (x8 h)with z | z
 ·cases z
 ·exact z
def du(g:∀y∈sc.names,y.2=NameKind.free->∃a,b.lookup y.1=some a)(f:(x,NameKind.free)∈sc.names)(d:b.lookup x=some c):(o6 b sc.names []).lookup x=some c:=by
 obtain⟨c',e⟩:=jC (fD f d);have:=(aj g e).1;rw[d]at this;cases this;exact e
structure LamTx(N ps:List Str)(sc:Scope):Prop where
 kind:sc.kind=.function
 co:sc.isCoroutine=false
 gen:sc.isGenerator=false
 nd:N.Nodup
 pre:N.take ps.length=ps
 par:∀x∈ps,sc.names.lookup x=some .local
 nocell:∀y∈sc.names,y.2 ≠ .cell
 fre:∀i x,ps.length<=i->N[i]? = some x->sc.names.lookup x=some .free
def LamTx.full(T:LamTx N ps sc)(I:Inv X pins σ H s)(b:∀y∈sc.names,y.2=NameKind.free->∃a,X.env.cells.lookup y.1=some a):LamScope N ps sc (o6 X.env.cells sc.names []) ((o6 X.env.cells sc.names []).map (·.2)) where
 kind:=T.kind
 co:=T.co
 gen:=T.gen
 nd:=T.nd
 pre:=T.pre
 par:=T.par
 nocell:=T.nocell
 fre:=T.fre
 has:=λ x h=>by have d:=x8 h;obtain⟨c,e⟩:=b _ d rfl;exact⟨c,du b d e⟩
 inj:=λ x y c g f=>I.ok.inj x y c (aj b g).1 (aj b f).1
 mem:=λ x c h=>k9.mpr ⟨_,x8 h,rfl⟩
def gr(I:Inv X pins σ H s)(d:∀y∈sc.names,y.2=NameKind.free->∃a,X.env.cells.lookup y.1=some a):∀c∈(o6 X.env.cells sc.names []).map (·.2),∃x,X.env.cells.lookup x=some c/\(x,NameKind.free)∈sc.names:=λ c e=>by
 obtain⟨⟨x,c'⟩,b,rfl⟩:=k9.mp e;rcases aV d b with z | z
 ·cases z
 ·exact⟨x,z.1,z.2⟩
def Cells.of(I:Inv X pins σ H s)(f:∀y∈sc.names,y.2=NameKind.free->∃a,X.env.cells.lookup y.1=some a):Cells ((o6 X.env.cells sc.names []).map (·.2)) s.heap H where
 none:=λ c b=>by obtain⟨x,e,_⟩:=gr I f c b;exact I.freeC x c e
 cel:=λ c b=>by obtain⟨x,e,_⟩:=gr I f c b;obtain⟨v,o,g,d⟩:=I.cell x c e;exact⟨o,v,g,d⟩
def rK(I:Inv X pins σ H s)(hw:X.fn x=true)(e:X.env.cells.lookup x=some c):X.base.get? c=none/\c∉frs X.stack:=by
 have a:=I.ok.cab x c hw e;refine⟨aD (i9 I.ok.bsz a),λ z=>?_⟩;rcases i5.mp (I.stkSub c z)with w | w
 ·exact I.cne x c e w
 ·obtain⟨_,o,b,_⟩:=I.ok.funs.mem w
  exact absurd (t6 (k7 b) a) (D6 _)
def DB(I:Inv X pins σ H s)(d:∀y∈sc.names,y.2=NameKind.free->∃a,X.env.cells.lookup y.1=some a)(hw:∀y∈sc.names,y.2=NameKind.free->X.fn y.1=true):∀c∈(o6 X.env.cells sc.names []).map (·.2),X.base.get? c=none/\c∉frs X.stack:=λ c f=>by
 obtain⟨x,e,b⟩:=gr I d c f;exact rK I (hw _ b rfl) e
end
section
variable {X:Cx} {δ:on Sv} {ea eb bd:JK} {pos p lp:Pos} {re:Re} {k:Nat} {x:Str} {pr:JS} {sc:JR} {c P:JI} {m:LamD} {cs:on DV} {fr:on Nat}
def tLam(X:Cx)(pr:JS)(bd:JK)(sc:JR):TE:=λ _ H Q=>∀f H',Same H H'->H f=none->N1 H' (X.env.qual ++ "<lambda>") pr bd sc (o6 X.env.cells sc.names []) f->Q (.ref f) H'
def DC(L:LamAt X sc c P)(a:defaultsOf pr X.env=([],[])):PE X (.Lambda pr bd sc lp) (tLam X pr bd sc):=by
 intro b s σ H Q I h;exact Ds I L a λ f d s' g sm e lf=>⟨.ref f,d,g,rfl,h f d sm e lf⟩
theorem ln(R:RSt D H σ δ O W):∀{b:on Nat} {cs:on DV},capD δ b=some cs->∃a:on V,a.length=b.length/\RepL D (L2.wo (O++W) H) cs a/\∀(j i:Nat) v,b[j]? = some i->a[j]? = some v->σ[i]? = some (some v)
 | [],cs,h=>by cases h;exact⟨[],rfl,by unfold RepL;rfl,λ j i v h=>by cases h⟩
 | i::r,cs,h=>by
  unfold capD at h;split at h
  ·rename_i d ds q p;split at h
   ·cases h;obtain⟨a,l,k,g⟩:=ln R p;obtain⟨v,o,n⟩:=R.val i d q;refine⟨v::a,by rw[p9,p9,l],v5.mpr ⟨v,a,rfl,n,k⟩,λ j m f e c=>?_⟩;cases j with
    | zero=>cases e;cases c;exact o
    | succ j=>exact g j m f e c
   ·cases h
  ·cases h
end
structure Wk(D:Dm)(J:It)(ds:List DV)(Oc Oi:List Addr)(H1:Hp):Prop where
 go:∀i H,Same (L2.wo Oc H1) (L2.wo Oc H)->i<ds.length->J.go i H
 same:∀i H x H',J.yld i H x H'->Same H H'
 yld:∀i H x H' d O2,Same (L2.wo Oc H1) (L2.wo Oc H)->Same (L2.wo Oi H1) (L2.wo Oi H)->J.yld i H x H'->ds[i]? = some d->(∀a∈O2,H a≠none/\(a∈Oi\/H1 a=none))->Rep D (L2.wo O2 H') d x
 stop:∀H,Same (L2.wo Oc H1) (L2.wo Oc H)->J.stop ds.length H
def hidW(O W:on JI):Cl->on JI
 | .top=>O
 | .weak=>O
 | _=>O++W
def DD(D:Dm)(O W:on JI)(H:Hp)(R:It->Hp->Prop):Ri->Prop
 | .ok ds c=>∀J H',Same H H'->Wk D J ds (hidW O W c) (J8 O W c) H'->R J H'
def dI(D:Dm)(δ:on Sv)(r:Ri):TI:=λ σ H R=>∃O W,RSt D H σ δ O W/\DD D O W H R r
def PI.weak(h:PI X tg a t)(k:∀b H R,t' b H R->t b H R):PI X tg a t':=λ c s b H R I q=>h c s b H R I (k b H R q)
def lq(s:Same (L2.wo O c) (L2.wo O H))(h:∀a∈d,H a≠none/\(a∈O\/c a=none)):Same (L2.wo O c) (L2.wo d H):=λ b o e=>by
 have q:=s b o e;obtain⟨f,e⟩:=B8 e;obtain⟨_,q⟩:=B8 q;rw[j9 λ z=>?_]
 ·exact q
 ·rcases(h b z).2 with w | w
  ·exact f w
  ·rw[w]at e;cases e
def Wk.list(h:SqL D.K (L2.wo f b) a xs)(r:RepL D (L2.wo c b) ds xs):Wk D (Itl D.K a) ds f c b where
 go:=λ i H s hi=>⟨xs,xs[i]'(by rwa [r.length]),v6.seq (s.seq h),n6 _⟩
 same:=λ i H x n y=>by rw[y.1];exact Same.refl _
 yld:=λ i H x n d O2 s g y e l=>by obtain⟨m,y⟩:=y;subst m;obtain⟨v,k,j⟩:=r.get e;have:=y xs (v6.seq (s.seq h));rw[k]at this;cases this;exact j.mono (lq g l)
 stop:=λ H s=>⟨xs,v6.seq (s.seq h),by rw[r.length];exact i6 _⟩
def Wk.tup(h:SqT D.K (L2.wo f b) a xs)(r:RepL D (L2.wo c b) ds xs):Wk D (Itt D.K a) ds f c b where
 go:=λ i H s hi=>⟨xs,xs[i]'(by rwa [r.length]),v6.tseq (s.tseq h),n6 _⟩
 same:=λ i H x n y=>by rw[y.1];exact Same.refl _
 yld:=λ i H x n d O2 s g y e l=>by obtain⟨m,y⟩:=y;subst m;obtain⟨v,k,j⟩:=r.get e;have:=y xs (v6.tseq (s.tseq h));rw[k]at this;cases this;exact j.mono (lq g l)
 stop:=λ H s=>⟨xs,v6.tseq (s.tseq h),by rw[r.length];exact i6 _⟩
def lr(a:Int)(n:Nat):(upTo a n).length=n:=by unfold upTo;rw[g7,u8]
def DE(h:(upTo a n)[i]? = some d):i<n/\d=.int (a+i):=by
 have b:i<n:=by have:=(v9.mp h).1;rw[lr]at this;exact this
 unfold upTo at h;rw[p5,aE b]at h;cases h;exact⟨b,rfl⟩
def Wk.range(a:Int)(n:Nat):Wk D (Itr a n) (upTo a n) h g j where
 go:=λ i H s b=>by rw[lr]at b;exact b
 same:=λ i H x k y=>by rw[y.1];exact Same.refl _
 yld:=λ i H x k d O2 s s' y e ho=>by obtain⟨f,y⟩:=y;subst f;obtain⟨_,c⟩:=DE e;subst c;exact u6.mpr y
 stop:=λ H s=>by rw[lr];exact i6 _
def Got.walkL(g:Got D O W f H (.lst ds) c v)(hd:Hid O W f H):∃a xs,v=.ref a/\SqL D.K (L2.wo (hidW O W c) H) a xs/\RepL D (L2.wo (J8 O W c) H) ds xs:=by
 cases c with
 | weak=>obtain⟨a,xs,e,d,b⟩:=G8.mp g;exact⟨a,xs,e,SqL.of d,b⟩
 | top=>obtain⟨a,xs,e,e0,d,b⟩:=g;exact⟨a,xs,e,SqL.of d,b⟩
 | strong=>obtain⟨a,xs,e,d,b⟩:=G8.mp g;exact⟨a,xs,e,SqL.of d,b⟩
 | fresh=>obtain⟨a,xs,e,d,b⟩:=G8.mp (g.strong hd);exact⟨a,xs,e,SqL.of d,b⟩
def Got.walkT(g:Got D O W b H (.tup ds) c v)(hd:Hid O W b H):∃a xs,v=.ref a/\SqT D.K (L2.wo (hidW O W c) H) a xs/\RepL D (L2.wo (J8 O W c) H) ds xs:=by
 cases c with
 | weak=>exact D4.mp g
 | top=>
  obtain⟨a,xs,f,e,d⟩:=D4.mp (g);exact⟨a,xs,f,(G0 bg).tseq e,d⟩
 | strong=>exact D4.mp g
 | fresh=>obtain⟨_,_,_,_,q,_⟩:=g;cases q
def Got.walkS{D:Dm}{O W:on JI}{H0 H:Hp}{ns:on Int}{c:Cl}{v:V}(g:Got D O W H0 H (.scr ns) c v)(hd:Hid O W H0 H):∃a,v=.ref a/\SqL D.K (L2.wo (hidW O W c) H) a (ns.map V.int):=by
 cases c with
 | weak=>obtain⟨a,e1,e2⟩:=S8.mp g;exact⟨a,e1,e2.sq⟩
 | top=>obtain⟨a,e1,e2⟩:=S8.mp (show Rep D (L2.wo (O++W) H) (.scr ns) v from g);exact⟨a,e1,(G0 bg).seq e2.sq⟩
 | strong=>obtain⟨a,e1,e2⟩:=S8.mp g;exact⟨a,e1,e2.sq⟩
 | fresh=>obtain⟨_,_,_,_,q,_⟩:=g;cases q
def rM(s:∀q,l=some q->PE X e (dE X.D δ q))(h:q9 l=some o):PI X tg e (dI X.D δ o):=by
 cases g:l with
 | none=>rw[g]at h;cases h
 | some q=>
  rw[g]at h;have A:=s q g;cases q with
  | ok d c=>
   obtain⟨ds,b,f⟩:=v4.mp (h);cases f;unfold seqD at b;split at b
   ·cases b;exact(ow A).weak λ n H r ⟨O,W,R,p⟩=>⟨O,W,R,λ v j s1 i=>by
     obtain⟨a,b,f⟩:=i.walkS (R.hid.mono s1);exact⟨a,b,⟨_,v6.seq f⟩,p _ j s1 (.list f (bf _))⟩⟩
   ·cases b;exact(ow A).weak λ n H r ⟨O,W,R,p⟩=>⟨O,W,R,λ v j s1 i=>by
     obtain⟨a,k,b,f,m⟩:=i.walkL (R.hid.mono s1);exact⟨a,b,⟨k,v6.seq f⟩,p _ j s1 (.list f m)⟩⟩
   ·cases b;exact(xU A).weak λ n H r ⟨O,W,R,p⟩=>⟨O,W,R,λ v j s1 i=>by
     obtain⟨a,k,b,f,m⟩:=i.walkT (R.hid.mono s1);exact⟨a,b,⟨k,v6.tseq f⟩,p _ j s1 (.tup f m)⟩⟩
   ·cases b
def ls(h:F6 i=true) : -(2^62)<=i/\i<2^62:=by
 unfold F6 at h;simpa[g6]using h
def rN(h:q9 (o.map λ a=>Re.ok (.lst a) .fresh)=some b):∃a,o=some a/\b=.ok a .fresh:=by
 cases o with
 | none=>cases h
 | some a=>cases h;exact⟨a,rfl,rfl⟩
def DF(r:Gl X "range")(n:X.mg "range" = none)(s:∀q,d=some q->PA X [e] (dA X.D δ q))(k:s9 e=false)(h:q9 (Rs.thn d λ l=>(rngD l).map λ g=>Re.ok (.lst g) .fresh)=some f)(o:∀l,d=some (.ok l)->l.length=1) :
  PI X tg (.Call (.Name "range" p) [e] [] pos) (dI X.D δ f):=by
 cases a:d with
 | none=>rw[a]at h;cases h
 | some q=>
  rw[a]at h;have A:=s q a;cases q with
  | ok l=>
   have i:=o l a;obtain⟨g,b,y⟩:=rN (h);cases y;unfold rngD at b;split at b
   ·rename_i j c;split at b
    ·rename_i m;cases b;rw[g6]at m;have q:=ls m.1;exact((λ t (u:PA X [e] t)=>xX r n u (x5 k)) _ A).weak λ σ H R' ⟨O,W,R,p⟩=>⟨O,W,R,λ vs z s1 x=>by
      obtain⟨v,rfl,w⟩:=x.one;exact⟨j,by rw[w.int (R.hid.mono s1)],q.1,q.2,p _ z s1 (.range _ _)⟩⟩
    ·cases b
   ·cases i
   ·cases b
def DG(y:Gl X "range")(w:X.mg "range" = none)(z:∀q,f=some q->PA X [e,g] (dA X.D δ q))(u:s9 e=false)(d:s9 g=false)(h:q9 (Rs.thn f λ l=>(rngD l).map λ r=>Re.ok (.lst r) .fresh)=some n)(x:∀l,f=some (.ok l)->l.length=2) :
  PI X tg (.Call (.Name "range" p) [e,g] [] pos) (dI X.D δ n):=by
 cases a:f with
 | none=>rw[a]at h;cases h
 | some q=>
  rw[a]at h;have A:=z q a;cases q with
  | ok l=>
   have s:=x l a;obtain⟨r,b,F⟩:=rN (h);cases F;unfold rngD at b;split at b
   ·cases s
   ·rename_i i c j c';split at b
    ·rename_i m;cases b;rw[g6,g6]at m;have q:=ls m.1.1;have o:=ls m.1.2;exact((λ t (B:PA X [e,g] t)=>xY y w B (by rw[x5 u,x5 d];rfl) (x5 d)) _ A).weak λ σ H R' ⟨O,W,R,p⟩=>⟨O,W,R,λ vs I s1 E=>by
      obtain⟨v,v',rfl,C,k⟩:=E.two;exact⟨i,j,by rw[C.int (R.hid.mono s1),k.int (R.hid.mono s1)],⟨q.1,q.2,o.1,o.2⟩,p _ I s1 (.range _ _)⟩⟩
    ·cases b
   ·cases b
def dw:on Nat->TGs
 | []=>gNil
 | i::is=>og (cI i) (dw is)
def gT(K:JQ):Tg->TG
 | .one i=>cI i
 | .many is=>gTup K is.length (dw is)
def RSt.setVal(R:RSt D H σ δ O W)(r:Rep D (L2.wo (O++W) H) d v)(i:Nat):RSt D H (σ.set i (some v)) (δ.set i (.val d)) O W where
 val:=λ j u h=>by
  by_cases e:j=i
  ·subst e;have c:=(by have:=(v9.mp h).1;rw[C4]at this;exact this);rw[L9 c]at h;cases h;exact⟨v,L9 (by rw[R.len];exact c),r⟩
  ·rw[u5 (Ne.symm e)]at h ⊢;exact R.val j u h
 own:=λ j l h=>by
  by_cases e:j=i
  ·subst e;have c:=(by have:=(v9.mp h).1;rw[C4]at this;exact this);rw[L9 c]at h;cases h
  ·rw[u5 (Ne.symm e)]at h ⊢;exact R.own j l h
 inj:=λ j k a f q b g n m=>by
  have ne:∀{j:Nat} {f:DV},(δ.set i (.val d))[j]? = some (.own f)->j≠i:=λ {j f} b z=>by
   subst z;have c:j<δ.length:=by have:=(v9.mp b).1;rw[C4]at this;exact this
   rw[L9 c]at b;cases b
  have p:=ne b;have o:=ne g;rw[u5 (Ne.symm p)]at b n;rw[u5 (Ne.symm o)]at g m;exact R.inj j k a f q b g n m
 od:=R.od.step (kR _ (by intro d z;cases z)) (λ _ h _=>h) (λ _ _ _ h _=>h)
 len:=by rw[C4,C4];exact R.len
 hid:=R.hid
theorem lu:∀{g:on Nat} {j:on DV} {f:on V} {c:St} {e a:on Sv},RSt D H c e O W->RepL D (L2.wo (O++W) H) j f->S0 e g j=some a->(∀b,RSt D H b a O W->Q b H)->dw g f c H Q
 | [],[],f,c,e,a,R,r,h,q=>by cases h;exact⟨B7.mp r,q c R⟩
 | i::g,d::j,f,c,e,a,R,r,h,q=>by obtain⟨v,k,n,m,l⟩:=v5.mp r;exact⟨v,k,n,lu (R.setVal m i) l h q⟩
 | [],_::_,_,_,_,_,_,_,h,_=>by cases h
 | _::_,[],_,_,_,_,_,_,h,_=>by cases h
theorem gu:∀{is:on Nat} {f:on DV} {e c:on Sv},S0 e is f=some c->is.length=f.length/\c.length=e.length
 | [],[],_,_,h=>by cases h;exact⟨rfl,rfl⟩
 | i::is,d::f,e,c,h=>by obtain⟨a,b⟩:=gu (is:=is) h;exact⟨by rw[p9,p9,a],by rw[b,C4]⟩
 | [],_::_,_,_,h=>by cases h
 | _::_,[],_,_,h=>by cases h
def lv{D:Dm}{H:Hp}{O W:on JI}{Q:St->Hp->Prop}{tg:Tg}{d:DV}{x:V}{σ:St}{δ δ':on Sv}(R:RSt D H σ δ O W)(r:Rep D (L2.wo (O++W) H) d x)(h:tg.bind d δ=some δ')(q:∀σ',RSt D H σ' δ' O W->Q σ' H):gT D.K tg x σ H Q:=by
 cases tg with
 | one i=>cases h;exact q _ (R.setVal r i)
 | many is=>
  unfold Tg.bind at h;dsimp only at h;split at h
  ·rename_i ds;obtain⟨a,xs,e1,e2,e3⟩:=D4.mp r;exact⟨a,xs,e1,v6.tseq e2,by rw[e3.length,(gu h).1],lu R e3 h q⟩
  ·cases h
def RSt.less{D:Dm}{H:Hp}{σ:St}{δ δ':on Sv}{O W:on JI}(R:RSt D H σ δ' O W)(hl:δ.length=δ'.length)(h:∀(i:Nat) sv,δ[i]? = some sv->sv=.no\/δ'[i]? = some sv):RSt D H σ δ O W where
 val:=λ i d e=>by
  rcases h i _ e with z | z
  ·cases z
  ·exact R.val i d z
 own:=λ i d e=>by
  rcases h i _ e with z | z
  ·cases z
  ·exact R.own i d z
 inj:=λ i j a d d' e e'=>by
  rcases h i _ e with z | z
  ·cases z
  ·rcases h j _ e' with y | y
   ·cases y
   ·exact R.inj i j a d d' z y
 od:=R.od.step (λ j d e=>by
  rcases h j _ e with z | z
  ·cases z
  ·exact⟨z,rfl⟩) (λ _ h _=>h) (λ _ _ _ h _=>h)
 len:=by rw[hl];exact R.len
 hid:=R.hid
def DH:∀{is:on Nat} {f:on DV} {b a:on Sv},S0 b is f=some a->(∀i∈is,b[i]? = some .no\/b[i]? = none)->∀(i:Nat) sv,b[i]? = some sv->sv=.no\/a[i]? = some sv
 | [],[],_,_,h,_,i,sv,e=>by cases h;exact .inr e
 | j::is,d::f,b,a,h,p,i,sv,e=>by
  by_cases c:i∈j::is
  ·rcases p i c with z | z
   ·rw[z]at e;cases e;exact .inl rfl
   ·rw[z]at e;cases e
  ·have o:j≠i:=λ z=>c (by rw[z];exact k8);have n:=λ z=>c (k5 _ z);have g:∀{is:on Nat} {f:on DV} {b a:on Sv},S0 b is f=some a->i∉is->b[i]? = some sv->a[i]? = some sv:=by
    intro is
    induction is with
    | nil=>intro f b a h _ e;cases f with
     | nil=>cases h;exact e
     | cons _ _=>cases h
    | cons k is m=>intro f b a h l e;cases f with
     | nil=>cases h
     | cons d f=>
      refine m h (λ z=>l (k5 _ z)) ?_;rw[u5 (λ z=>l (by rw[z];exact k8))];exact e
   exact .inr (g h c e)
 | [],_::_,_,_,h,_,_,_,_=>by cases h
 | _::_,[],_,_,h,_,_,_,_=>by cases h
def rO(h:tg.bind d δ=some δ')(b:∀i∈Z7 tg,δ[i]? = some .no\/δ[i]? = none):δ.length=δ'.length/\∀(i:Nat) sv,δ[i]? = some sv->sv=.no\/δ'[i]? = some sv:=by
 cases tg with
 | one j=>
  cases h;refine⟨(C4 ..).symm,λ i sv e=>?_⟩;by_cases a:i=j
  ·subst a;rcases b i (by simp[Z7])with z | z
   ·rw[z]at e;cases e;exact .inl rfl
   ·rw[z]at e;cases e
  ·exact .inr (by rw[u5 (Ne.symm a)];exact e)
 | many is=>
  unfold Tg.bind at h;dsimp only at h;split at h
  ·exact⟨(gu h).2.symm,DH h b⟩
  ·cases h
theorem RSt.inner(R:RSt D H σ δ O W)(fr:on (JF Nat))(B:∀(j k i:Nat),fr[j]? = some (some i)->fr[k]? = some (some i)->j=k):RSt D H (L2.inner fr σ) (x4 fr δ) O W:=by
 have c:∀(j:Nat) x,(x4 fr δ)[j]? = some x->x ≠ .no->∃i,fr[j]? = some _/\δ[i]? = some x:=λ j x h L=>by
  unfold x4 at h;rw[p5]at h;cases q:fr[j]? with
  | none=>rw[q]at h;cases h
  | some o=>
   rw[q]at h;cases o with
   | none=>cases h;exact absurd rfl L
   | some i=>
    refine⟨i,rfl,?_⟩;have C:δ.getD i .no=x:=by simpa using h
    rw[r9]at C;cases z:δ[i]? with
    | none=>rw[z]at C;exact absurd C.symm L
    | some P=>
     rw[z]at C;exact congrArg some C
 have f:∀(j i:Nat) (v:V),fr[j]? = some (some i)->σ[i]? = some (some v)->(L2.inner fr σ)[j]? = some (some v):=λ j i v q e=>by unfold L2.inner;rw[p5,q];simp[e]
 refine⟨λ j d h=>?_,λ j d h=>?_,λ j k a d E S Q r p=>?_,λ j d h=>?_,?_,R.hid⟩
 ·obtain⟨i,m,n⟩:=c j _ h (by intro z;cases z);obtain⟨v,r,p⟩:=R.val i d n;exact⟨v,f j i v m r,p⟩
 ·obtain⟨i,m,n⟩:=c j _ h (by intro z;cases z);obtain⟨a,K,M,F,r,p⟩:=R.own i d n;exact⟨a,K,M,F,f j i _ m r,p⟩
 ·obtain⟨i,m,n⟩:=c j _ S (by intro z;cases z);obtain⟨A,g,l⟩:=c k _ Q (by intro z;cases z);obtain⟨b,K,M,_,I,_⟩:=R.own i d n;obtain⟨b',N,U,_,w,_⟩:=R.own A E l;have y:=f j i _ m I;have J:=f k A _ g w;rw[r]at y;rw[p]at J;cases y;cases J;have:=R.inj i A a d E n l I w;subst this;exact B j k i m g
 ·obtain⟨i,m,n⟩:=c j _ h (by intro z;cases z);obtain⟨⟨a,o,F,r,p⟩,u⟩:=R.od i d n;refine⟨⟨a,o,F,f j i _ m r,p⟩,λ k E z=>?_⟩;obtain⟨A,g,l⟩:=c k _ z (by intro z;cases z);rw[u A E l]at g;exact B k j i g m
 ·unfold L2.inner x4;rw[g7,g7]
section
variable {X:Cx} {δ:on Sv} {iter elt tgE:JK} {ifs:on JK} {pos:Pos} {N':on Str} {scope:JR} {fr:on (JF Nat)} {tg:Tg} {ri:JF Ri} {re:Re}
def lw{Q:VK}(w:Wk D J ds (hidW O W c) (J8 O W c) F)(X:Hid O W H H)(hc:c ≠ .weak)(R:RSt D F σ o O W)
  (hn:∀i∈Z7 tg,o[i]? = some .no\/o[i]? = none) (hz:ds.length<=sizeLine) (hx:u0 g ds=some xs) (s1:Same H F)
  (step:∀d S,d∈ds->g d=some S->∃b,tg.bind d o=some b/\∀j l,Same F l->RSt D l j b O W->∀K:Bool->Hp->Prop,(S=.skip->∀m,Same l m->K false m)->(∀x,S=.item x->∀m,Same l m->K true m)->tc j l K)
  (C:∀d x,d∈ds->g d=some (.item x)->∀b,tg.bind d o=some b->∀j l,Same F l->RSt D l j b O W->∀K:VK,(∀v m,Same l m->Rep D (L2.wo (O++W) m) x v->K v m)->te j l K)
  (Y:∀v r,Same H r->Got D O W H r (.lst xs) .fresh v->Q v r) :
  jE J (gT D.K tg) tc te (λ M r=>∀p,r p=none->Q (.ref p) (upd r p (.lst M))) σ F:=by
 have ci:J8 O W c=O++W:=by cases c<;>first | rfl | exact absurd rfl hc
 rw[ci]at w;refine⟨λ i n M j r=>n=ds.length - i/\i<=ds.length/\M.length<=i/\RSt D r j o O W/\Same F r/\∃f rest,u0 g (ds.drop i)=some rest/\f++rest=xs/\RepL D (L2.wo (O++W) r) f M,
  ⟨ds.length,rfl,F3 _,F3 _,R,Same.refl _,[],xs,hx,rfl,B7.mpr rfl⟩,?_⟩
 rintro i n M σ2 l ⟨rfl,hi',hy,R2,s2,f,rest,h1,h2,r2⟩
 by_cases k:i<ds.length
 ·refine .inr ⟨w.go i l s2.wo k,M0 hy (t6 k hz),λ N m y=>?_⟩;have A:=w.same i l N m y;have y3:=w.yld i l N m _ (O++W) s2.wo s2.wo y (n6 k) λ a ha=>⟨R2.hid.ot a ha,.inl ha⟩;rw[hV k]at h1;have U:=T7 k;unfold u0 at h1;split at h1
  ·cases h1
  ·rename_i q;obtain⟨b,I,Z⟩:=step _ _ U q;refine lv (R2.mono A) y3 I λ u L=>?_
   have h:=rO I hn;refine Z u m (s2.trans A) L _ (λ _ H4 B=>?_) (λ x z=>nomatch z);show if false=true then _ else _
   rw[g8 z7];exact⟨ds.length - (i+1),by omega,rfl,k,Nat.le_succ_of_le hy,(L.less h.1 h.2).mono B,(s2.trans A).trans B,f,rest,h1,h2,r2.mono (A.trans B).wo⟩
  ·rename_i x q;split at h1
   ·cases h1
   ·rename_i E q';cases h1;obtain⟨b,I,Z⟩:=step _ _ U q;refine lv (R2.mono A) y3 I λ u L=>?_
    have h:=rO I hn;refine Z u m (s2.trans A) L _ (λ z=>nomatch z) (λ N z H4 B=>?_);cases z;show if true=true then _ else _
    rw[f8 rfl];refine C _ x U q b I u H4 ((s2.trans A).trans B) (L.mono B) _ λ v H5 P rv=>?_
    exact⟨ds.length - (i+1),by omega,rfl,k,by rw[t7,im];omega,(L.less h.1 h.2).mono (B.trans P),((s2.trans A).trans B).trans P,f++[x],E,q',by rw[O7];exact h2,
     (r2.mono ((A.trans B).trans P).wo).append (RepL.one rv)⟩
 ·have e:i=ds.length:=by omega
  subst e;rw[List.drop_length]at h1;cases h1;rw[C8]at h2;subst h2;have s0:=s1.trans s2;refine .inl ⟨w.stop l s2.wo,λ p hp=>Y _ _ (s0.trans (v7 hp)) ?_⟩;exact S9 (X.mono s0) hp r2
def PE.any{t:ι->TE}(h:∀k,PE Y e (t k)):PE Y e (λ b H Q=>∃k,t k b H Q):=λ a s b H Q I ⟨k,q⟩=>h k a s b H Q I q
def PTs.any{t:ι->TT}(h:∀k,PTs Y es (t k)):PTs Y es (λ b H Q=>∃k,t k b H Q):=λ a s b H Q I ⟨k,q⟩=>h k a s b H Q I q
def Rc.of_item(h:Rc.of r=some (.item x)):∃c,r=some (.ok x c)/\stro x c=true:=by
 unfold Rc.of at h;split at h
 ·rename_i d c;split at h
  ·rename_i m;cases h;exact⟨c,rfl,m⟩
  ·cases h
 ·cases h
def Rc.of_skip(h:Rc.of r=some .skip):False:=by
 unfold Rc.of at h;split at h
 ·split at h<;>cases h
 ·cases h
def lx{i:Nat}(h:fr[i]? = some none):(x4 fr δ)[i]? = some .no:=by
 unfold x4;rw[p5,h];rfl
def V6(X:Cx)(δ:on Sv)(tgE iter:JK)(ifs:on JK)(elt:JK)(scope:JR)(N':on Str)(fr:on (JF Nat))(tg:Tg)(re:Re):Prop:=
 ∃(wi:TI) (tc:TT) (te:TE),PI X tgE iter wi/\(∀C cells s₂ H₂ fp,PTs (t5 X scope N' C cells s₂ H₂ fp) ifs tc)/\(∀C cells s₂ H₂ fp,PE (t5 X scope N' C cells s₂ H₂ fp) elt te) /\
  ∀σ H Q,dE X.D δ re σ H Q->jF fr wi (gT X.K tg) tc te σ H Q
def ly(b:F8 a=false):∀x,foldedSetIterable a env x=pure x:=by cases a<;>first | (intro _;rfl) | cases b
def V6.pe(P:V6 X δ tgE iter ifs elt scope N' fr tg re)(S:CompScope X.N N' scope X.env.scope fr)(e:X.calm=true)(f:∀C a b d fp,PG (t5 X scope N' C a b d fp) tgE (gT X.K tg))(c:F8 iter=false) :
  PE X (.ListComp elt [⟨tgE,iter,ifs,0⟩] scope pos) (dE X.D δ re):=by
 obtain⟨wi,tc,te,j,i,h,g⟩:=P;exact(zH S e j f i h (ly c)).weak g
def RSt.noNames(R:RSt D H σ δ O W)(fr:on (JF Nat)):RSt D H (L2.inner fr σ) (x4 fr []) O []:=by
 have c:∀(j:Nat) e,(x4 fr [])[j]? = some e->e=.no:=λ j e h=>by
  unfold x4 at h;rw[p5]at h;cases q:fr[j]? with
  | none=>rw[q]at h;cases h
  | some o=>
   rw[q]at h;cases o with
   | none=>cases h;rfl
   | some i=>cases h;rfl
 refine⟨λ j d h=>(by cases c j _ h),λ j d h=>(by cases c j _ h),λ j k a d d' f h2 e1 e2=>(by cases c j _ f),λ j d h=>(by cases c j _ h),?_,?_⟩
 ·unfold L2.inner x4;rw[g7,g7]
 ·exact⟨λ a b=>R.hid.ot a (by rw[C8]at b;exact B4 _ b),Same.refl _,λ a b=>(nomatch b),λ a b=>(nomatch b),R.hid.om⟩
def DI{a:on Sv->JF Re}(S:CompScope X.N N' scope X.env.scope fr)(hc:X.calm=true)(P:∀(j k i:Nat),fr[j]? = some (some i)->fr[k]? = some (some i)->j=k)(B:∀i∈Z7 tg,fr[i]? = some none)(E:∀q,ri=some q->PI X tgE iter (dI X.D δ q))
  (hG:∀C b e f fp,PG (t5 X scope N' C b e f fp) tgE (gT X.K tg)) (he:∀δ' r,a δ'=some r->∀C b e f fp,PE (t5 X scope N' C b e f fp) elt (dE X.D δ' r))
  (h:(Ri.thn ri λ n c=>if c=.weak\/m9<n.length then(if c=.weak/\n.length<=m9 then fH (u0 (λ d=>(tg.bind d (x4 fr [])).bind λ δ'=>Rc.of (a δ')) n)else none)else U8 (u0 (λ d=>(tg.bind d (x4 fr δ)).bind λ δ'=>Rc.of (a δ')) n))=some re):V6 X δ tgE iter [] elt scope N' fr tg re:=by
 cases u:ri with
 | none=>rw[u]at h;cases h
 | some q=>
  rw[u]at h;have A:=E q u;refine⟨_,_,_,A,(λ C b e f fp=>zF),(λ C b e f fp=>PE.any (ι:={p:on Sv×Re // a p.1=some p.2}) (t:=λ k=>dE X.D k.1.1 k.1.2) λ k=>he k.1.1 k.1.2 k.2 C b e f fp),?_⟩;cases q with
  | ok n c=>
   have l:(if c=.weak\/m9<n.length then(if c=.weak/\n.length<=m9 then fH (u0 (λ d=>(tg.bind d (x4 fr [])).bind λ δ'=>Rc.of (a δ')) n)else none)else U8 (u0 (λ d=>(tg.bind d (x4 fr δ)).bind λ δ'=>Rc.of (a δ')) n))=some re:=h;split at l
   ·split at l
    ·rename_i m;obtain⟨rfl,ml⟩:=m;unfold fH at l;split at l
     ·cases l
     ·rename_i xs N;cases l;refine λ σ H Q ⟨O,W,R,p⟩=>⟨O,W,R,λ J H1 s1 w=>?_⟩
      have w':Wk X.D J n (hidW O [] .strong) (J8 O [] .strong) H1:=(by show Wk X.D J n (O++[]) (O++[]) H1;rw[C8];exact w);have F:Hid O [] H H:=(R.noNames fr).hid;refine lw (tg:=tg) (D:=X.D) (O:=O) (W:=[]) w' F (by intro z;cases z) ((R.mono s1).noNames fr) (λ i E=>.inl (lx (B i E))) (Q1 JX) N s1 (λ d L U g=>?_) (λ d x U g δ' o s I s2 R2 K Y=>?_) (λ v H' s' g'=>p v H' s' ?_)
      ·cases o:tg.bind d (x4 fr [])with
       | none=>rw[o]at g;cases g
       | some δ'=>
        rw[o]at g;refine⟨δ',rfl,λ s I s2 R2 K k1 M=>?_⟩;cases L with
        | skip=>exact(Rc.of_skip g).elim
        | item x=>exact M x rfl I (Same.refl _)
      ·rw[o]at g;obtain⟨cl,e1,e2⟩:=Rc.of_item g;exact⟨⟨⟨δ',.ok x cl⟩,e1⟩,O,[],R2,λ v H3 y Z=>Y v H3 y (Z.stro (R2.hid.mono y) e2)⟩
      ·show Rep X.D (L2.wo O H') _ v;have:=Got.strong g' (F.mono s');rw[C8]at this;exact this
    ·cases l
   ·rename_i m;rw[not_or]at m;unfold U8 at l;split at l
    ·cases l
    ·rename_i xs N;cases l;refine λ σ H Q ⟨O,W,R,p⟩=>⟨O,W,R,λ J H1 s1 w=>?_⟩
     refine lw (tg:=tg) (D:=X.D) w R.hid m.1 ((R.mono s1).inner fr P) (λ i E=>.inl (lx (B i E))) (Q1 JX) N s1 (λ d L U g=>?_) (λ d x U g δ' o s I s2 R2 K Y=>?_) p
     ·cases o:tg.bind d (x4 fr δ)with
      | none=>rw[o]at g;cases g
      | some δ'=>
       rw[o]at g;refine⟨δ',rfl,λ s I s2 R2 K k1 M=>?_⟩;cases L with
       | skip=>exact(Rc.of_skip g).elim
       | item x=>exact M x rfl I (Same.refl _)
     ·rw[o]at g;obtain⟨cl,e1,e2⟩:=Rc.of_item g;exact⟨⟨⟨δ',.ok x cl⟩,e1⟩,O,W,R2,λ v H3 y Z=>Y v H3 y (Z.stro (R2.hid.mono y) e2)⟩
def DJ{f:on Sv->JF Re}{l:on Sv->JF Rt}(S:CompScope X.N N' scope X.env.scope fr)(hc:X.calm=true)(I:∀(j k i:Nat),fr[j]? = some (some i)->fr[k]? = some (some i)->j=k)(F:∀i∈Z7 tg,fr[i]? = some none)(L:∀q,ri=some q->PI X tgE iter (dI X.D δ q))
  (hG:∀C a b e fp,PG (t5 X scope N' C a b e fp) tgE (gT X.K tg)) (he:∀δ' r,f δ'=some r->∀C a b e fp,PE (t5 X scope N' C a b e fp) elt (dE X.D δ' r))
  (Y:∀δ' r,l δ'=some r->∀C a b e fp,PT (t5 X scope N' C a b e fp) n (dT X.D δ' r))
  (h:(Ri.thn ri λ z c=>if c=.weak\/m9<z.length then none else U8 (u0 (λ d=>(tg.bind d (x4 fr δ)).bind λ δ'=>Rc.test (l δ') (Rc.of (f δ'))) z))=some re):V6 X δ tgE iter [n] elt scope N' fr tg re:=by
 cases o:ri with
 | none=>rw[o]at h;cases h
 | some q=>
  rw[o]at h;refine⟨_,_,_,(L q o),(λ C a b e fp=>PTs.any (ι:={p:on Sv×Rt // l p.1=some p.2}) (t:=λ k=>dT X.D k.1.1 k.1.2) λ k=>zG (Y k.1.1 k.1.2 k.2 C a b e fp)),
   (λ C a b e fp=>PE.any (ι:={p:on Sv×Re // f p.1=some p.2}) (t:=λ k=>dE X.D k.1.1 k.1.2) λ k=>he k.1.1 k.1.2 k.2 C a b e fp),?_⟩
  cases q with
  | ok z c=>
   have y:(if c=.weak\/m9<z.length then none else U8 (u0 (λ d=>(tg.bind d (x4 fr δ)).bind λ δ'=>Rc.test (l δ') (Rc.of (f δ'))) z))=some re:=h;split at y
   ·cases y
   ·rename_i m;rw[not_or]at m;unfold U8 at y;split at y
    ·cases y
    ·rename_i xs U;cases y;refine λ σ H Q ⟨O,W,R,p⟩=>⟨O,W,R,λ J H1 s1 w=>?_⟩
     refine lw w R.hid m.1 ((R.mono s1).inner fr I) (λ i L=>.inl (lx (F i L))) (Q1 JX) U s1 (λ d M Z s=>?_) (λ d x Z s δ' B E H2 s2 R2 K hK=>?_) p
     ·cases B:tg.bind d (x4 fr δ)with
      | none=>rw[B]at s;cases s
      | some δ'=>
       rw[B]at s;have g:Rc.test (l δ') (Rc.of (f δ'))=some M:=s;refine⟨δ',rfl,λ E H2 s2 R2 K P N=>?_⟩;unfold Rc.test at g;split at g
       ·rename_i q;refine⟨⟨⟨δ',.ok true⟩,q⟩,O,W,R2,λ A u=>?_⟩;cases M with
        | skip=>exact(Rc.of_skip g).elim
        | item x=>exact N x rfl A u
       ·rename_i q;cases g;exact⟨⟨⟨δ',.ok false⟩,q⟩,O,W,R2,λ A u=>P rfl A u⟩
       ·cases g
     ·rw[B]at s;have g:Rc.test (l δ') (Rc.of (f δ'))=some (.item x):=s;unfold Rc.test at g;split at g
      ·obtain⟨cl,e1,e2⟩:=Rc.of_item g;exact⟨⟨⟨δ',.ok x cl⟩,e1⟩,O,W,R2,λ v A u g3=>hK v A u (g3.stro (R2.hid.mono u) e2)⟩
      ·cases g
      ·cases g
end
def Inv.turnedL{ch:on JI}(I:Inv X a σ H s)(k:∀b o,b∉ch->s.heap.get? b=some o->h'.get? b=some o)(g:∀b∈ch,FpOk X a H b):Inv X a σ H {s with heap:=h',toks:=t'}:=by
 have f:∀b u,H b=some u->b∉ch:=λ b u e z=>by rw[(g b z).1]at e;cases e
 refine I.step (ch:=ch) (λ b j=>?_) (λ b o _ _ d e _=>k b o d e) (λ b o _ _ d e _=>⟨o.slots,k b o d e⟩) (λ _ _ _ _ n=>n)
  (λ b o d e=>⟨o,k b o d e⟩) (λ _ _ e=>e) (λ _ _ _ e=>e) (λ _ _ e=>e) (λ m i=>?_) (λ b u e=>?_) I.bare
 ·obtain⟨_,x,_,w,p,l⟩:=g b j;exact⟨w,x,p,l⟩
 ·obtain⟨o,y,A,h,r⟩:=i;exact⟨o,y,A,k _ o (λ z=>(g _ z).2.1 rfl) h,r⟩
 ·refine(I.hok b u e).stay (λ c v d q=>k c v ?_ q) (λ _ q=>q) (λ _ _ q=>q) (λ _ _ q=>q) λ _ _ _ _ _ q=>q;rcases d with z | z
  ·rw[z];exact f b u e
  ·exact f c _ z
def SqD(t:Bool)(K:JQ)(H:Hp)(a:JI)(xs:on V):Prop:=match t with | false=>SqL K H a xs | true=>SqT K H a xs
def Same.sqd{K:JQ}(e:Same H b)(h:SqD t K H a xs):SqD t K b a xs:=by
 cases t
 ·exact e.seq h
 ·exact e.tseq h
def Inv.sqd(I:Inv X c σ H s)(h:SqD t X.K H a xs):∃b:on JG,Vals xs b/\SqK t s.heap a b.toArray:=by
 cases t
 ·obtain⟨b,d,p,_⟩:=I.list h;exact⟨b,d,p.isList⟩
 ·obtain⟨b,d,p,_⟩:=I.tuple h;exact⟨b,d,p⟩
def Inv.sqd_inj(I:Inv X b σ H s)(h:SqD t X.K H a xs)(d:SqD t X.K H a c):xs=c:=by
 cases t
 ·exact I.list_inj h d
 ·exact I.tuple_inj h d
def itK(t:Bool)(h:JJ)(ia la:JI)(k:Nat):Prop:=match t with | false=>h.IsListIter ia la k | true=>h.IsTupleIter ia la k
def rP(p:itK t h b a k)(q:SqK t h a vs):sK t b a vs k h:=by
 cases t<;>exact⟨p,q⟩
def rQ(p:sK t b a vs k h):itK t h b a k:=by
 cases t<;>exact p.1
def rR{t:Bool}{ia la:JI}{k:Nat}{h h':JJ}(p:itK t h ia la k)(e:∀o,h.get? ia=some o->h'.get? ia=some o):itK t h' ia la k:=by
 cases t
 ·exact Heap.IsListIter.at p e
 ·obtain⟨o,z,r⟩:=p;exact⟨o,e o z,r⟩
def rT(p:itK t h a c k):∃o b,h.get? a=some o/\o.data=.fields b:=by
 cases t
 ·obtain⟨o,e,_,d⟩:=p;exact⟨o,_,e,d⟩
 ·obtain⟨o,e,_,d⟩:=p;exact⟨o,_,e,d⟩
def SqK.lt(p:SqK t h a vs):a<h.objs.size:=by
 cases t
 ·obtain⟨o,e,_⟩:=p;exact k7 e
 ·obtain⟨o,e,_⟩:=p;exact k7 e
def DK:∀b∈hidW O W (Cl.meet c d),b∈hidW O W c:=by
 cases c<;>cases d<;>intro b a<;>first | exact a | exact B4 _ a
def DL:∀b∈J8 O W (Cl.meet c d),b∈J8 O W c:=by
 cases c<;>cases d<;>intro b a<;>first | exact a | exact B4 _ a
def DM(k:P8 d=some (t,ds))(g:Got D O W f H d c v)(e:Hid O W f H):∃a b,v=.ref a/\SqD t D.K (L2.wo (hidW O W c) H) a b/\RepL D (L2.wo (J8 O W c) H) ds b:=by
 cases d<;>cases k
 ·exact g.walkT e
 ·exact g.walkL e
section
variable {P:JN} {w:JM} {A:JO} {E:JG->JH->Prop} {s:JH} {n c l:JI} {k:Nat} {vs:JL JG} {S:Nat->JJ->Prop} {x old:JG}
abbrev rV(s:JH)(h':JJ)(n c:JI)(k:Nat)(x:JG)(S:Nat->JJ->Prop):Prop:=
 IsEnumOut h' n c ((k:Int)+1) x s.heap.objs.size/\S (k+1) h'/\h'.get? s.heap.objs.size=some {cls:=.type "tuple",data:=.seq #[.int k s.toks,x]} /\ h'.objs.size=s.heap.objs.size+1/\(∀b o,b≠n->b≠c->s.heap.get? b=some o->h'.get? b=some o)
def DN{Q:JG->JH->Prop}(R:Src P w c l vs S)(X:IsEnum s.heap n c k old)(hS:S k s.heap)(hx:vs[k]? = some x)(J:n≠c)(d2:l≠n)(hQ:∀h',rV s h' n c k x S->Q (.ref s.heap.objs.size) {s with heap:=h',toks:=s.toks+1}) :
  wpAny (model P w) A (Builtin.«enumerate.__next__» ⟨[.ref n],[]⟩) (λ Z s'=>∃v,Z=.done (.ret v)/\Q v s') E s:=by
 obtain⟨f,i,j,a,h⟩:=s;show wpAny _ _ (field (.ref n) 2 >>= _) _ _ _;refine f0 (E7 X rfl (x:=.ref c) rfl (f0 (R.step k x hS hx λ m r1 r=>?_)))
 replace r:Heap.SameBut c f m:=r
 have W:IsEnum m n c k old:=(r.2 n J).trans X;show wpAny _ _ (field (.ref n) 3 >>= _) _ _ ⟨m,i,j,a,h⟩;refine f0 (E7 W rfl (x:=rawInt k) rfl ?_);show wpAny _ _ (field (.ref n) 4 >>= _) _ _ ⟨m,i,j,a,h⟩;refine f0 (E7 W rfl (x:=.none) rfl ?_);show wpAny _ _ (mkInt k >>= _) _ _ ⟨m,i,j,a,h⟩;refine f0 (wpAny_mkInt ?_);show wpAny _ _ (setField (.ref n) 3 (rawInt ((k:Int)+1)) >>= _) _ _ ⟨m,i,j,a+1,h⟩;refine f0 (N6 W (by simp) λ I U q=>?_)
 replace q:Heap.SameBut n m I:=q
 replace U:IsEnum I n c ((k:Int)+1) old:=U
 show wpAny _ _ (setField (.ref n) 4 .none >>= _) _ _ ⟨I,i,j,a+1,h⟩;refine f0 (N6 U (by simp) λ d O p=>?_)
 replace p:Heap.SameBut n I d:=p
 replace O:IsEnum d n c ((k:Int)+1) old:=O
 show wpAny _ _ (newTuple [.int k a,x] >>= _) _ _ ⟨d,i,j,a+1,h⟩;refine f0 (wpAny_newTuple ?_);have C:IsEnum (d.push {cls:=.type "tuple",data:=.seq #[.int k a,x]}) n c ((k:Int)+1) old:=k6 _ O;have K:d.objs.size=f.objs.size:=by rw[p.1,q.1,r.1]
 have q4:(d.push {cls:=.type "tuple",data:=.seq #[.int k a,x]}).get? f.objs.size=some {cls:=.type "tuple",data:=.seq #[.int k a,x]}:=by rw[←K];exact p8 _ rfl
 have z4:(d.push {cls:=.type "tuple",data:=.seq #[.int k a,x]}).objs.size=f.objs.size+1:=by rw[D5,K]
 have k4:∀b o,b≠n->b≠c->f.get? b=some o->(d.push {cls:=.type "tuple",data:=.seq #[.int k a,x]}).get? b=some o:=λ b o g b2 e=>
  k6 _ (p.extBut b o g (q.extBut b o g (r.extBut b o b2 e)))
 have r4:S (k+1) (d.push {cls:=.type "tuple",data:=.seq #[.int k a,x]}):=
  R.keep _ _ _ (R.ext (R.ext r1 q.extBut (Ne.symm J) d2) p.extBut (Ne.symm J) d2) (λ o e=>k6 _ e) (λ o e=>k6 _ e)
 generalize (d.push {cls:=.type "tuple",data:=.seq #[.int k a,x]})=g4 at C q4 z4 k4 r4 ⊢;have lt:n<f.objs.size:=k7 X;show wpAny _ _ (Builtin.SmallTypes.ownedTupleIsFree (.ref n) >>= _) _ _ ⟨g4,i,j,a+1,h⟩;rw[K];refine f0 ?_;unfold Builtin.SmallTypes.ownedTupleIsFree;refine f0 (E7 C rfl (x:=.none) rfl (f9 ?_));simp only[if_true];refine f0 (U3 (f0 (E7 C rfl (x:=old) rfl (f0 (N6 C (by simp) λ H N B=>?_)))))
 replace B:Heap.SameBut n g4 H:=B
 replace N:IsEnum H n c ((k:Int)+1) x:=N
 show wpAny _ _ (Builtin.SmallTypes.ownedTupleHandOut (.ref n) (.ref f.objs.size) >>= _) _ _ ⟨H,i,j,a+1,h⟩;refine f0 ?_;unfold Builtin.SmallTypes.ownedTupleHandOut;refine f0 (N6 N (by simp) λ Y M z=>?_)
 replace z:Heap.SameBut n H Y:=z
 replace M:IsEnumOut Y n c ((k:Int)+1) x f.objs.size:=M
 refine N6 M (by simp) λ F L y=>?_
 replace y:Heap.SameBut n Y F:=y
 replace L:IsEnumOut F n c ((k:Int)+1) x f.objs.size:=L
 have u:∀b o,b≠n->g4.get? b=some o->F.get? b=some o:=λ b o g e=>y.extBut b o g (z.extBut b o g (B.extBut b o g e));exact f0 (P3 (f9 ⟨_,rfl,hQ F ⟨L,R.keep _ _ _ r4 (λ o e=>u _ o (Ne.symm J) e) (λ o e=>u _ o d2 e),u _ _ (R5 lt) q4,by rw[y.1,z.1,B.1,z4],λ b o g b2 e=>u b o g (k4 b o g b2 e)⟩⟩))
def DO(R:Src P w c l vs S)(d:IsEnum s.heap n c k old)(f:S k s.heap)(e:vs[k]? = some x)(i:n≠c)(h:l≠n)(g:∀b,rV s b n c k x S->Q (some (.ref s.heap.objs.size)) {s with heap:=b,toks:=s.toks+1}) :
  wpAny (model P w) A (pyNext (.ref n)) Q E s:=by
 have T:s.TypeIs (.ref n) "enumerate":=⟨_,d,rfl⟩;unfold pyNext;exact f0 (Y4 (O1 T eG (F2 eG T nN (DN R d f e i h λ b a=>f9 (g b a)) (nB _))))
def DP(i:A.handled=none)(R:Src P w c l vs S)(a:IsEnum s.heap n c k old)(m:S k s.heap)(h:vs[k]? = none)(p:∀b,Heap.ExtBut c s.heap b->Q none {s with heap:=b}) :
  wpAny (model P w) A (pyNext (.ref n)) Q E s:=by
 have T:s.TypeIs (.ref n) "enumerate":=⟨_,a,rfl⟩;unfold pyNext;refine f0 (Y4 (O1 T eG (F2 eG T nN ?_ (nB _))));show wpAny _ _ (field _ 2 >>= _) _ _ _;refine f0 (E7 a rfl rfl (f0 (R.stop k i m h λ g1 e d j=>?_)));obtain⟨o,g,f⟩:=j;exact f0 (aK ⟨o,g,f⟩ eY (f9 (p _ d)))
end
open AutoSeq1 (wpAny_loadPart') in
def DQ(l:JI)(vs:JL JG)(m:Nat)(dc:JF JI)(sl:JL (JF JG)):Meets (Builtin.«enumerate.__new__» ⟨[.type "enumerate",.ref l],[]⟩) (λ _ R s=>s.heap.get? l=some {cls:=.type "tuple",dict:=dc,data:=.seq vs m,slots:=sl} /\
  R (.ok (.ret (.ref (zH1 s.heap true l).objs.size))) {s with heap:=(zH1 s.heap true l).push {cls:=.type "enumerate",data:=.fields #[.none,.bool false,.ref s.heap.objs.size,rawInt 0,.none,.none]}}):=
 .of_wp λ P w A R s h=>by
  obtain⟨g0,gg,gd,gt,go⟩:=s;obtain⟨q,h⟩:=h;have hsub:=sub_enumerate;have qT:Heap.IsTuple (Shared.heap ⟨g0,gg,gd,gt,go⟩) l vs:=⟨_,q,rfl,m,rfl⟩
  wp_walk using bR q
  refine wpAny_stack_any λ st=>f9 ?_;split
  ·rename_i y _ _ _ _ _;cases(y==Value.type "enumerate")
   ·wp_walk using bR q,bV qT
    exact⟨_,rfl,h⟩
   ·wp_walk using bR q,bV qT
    exact⟨_,rfl,h⟩
  ·wp_walk using bR q,bV qT
   exact⟨_,rfl,h⟩
def DR         (t : Bool) (q : SqK t s.heap l vs)
    (h : ∀ a, IsEnum a (s.heap.objs.size + 1) s.heap.objs.size 0 .none -> sK t s.heap.objs.size l vs 0 a -> a.objs.size = s.heap.objs.size + 2 -> (∀ b o, s.heap.get? b = some o -> a.get? b = some o) -> Q (.ref (s.heap.objs.size + 1)) { s with heap := a }) :
    wpAny (model P w) A (call (.type "enumerate") [.ref l]) Q E s := by
  cases t with
  | false => exact call_enumerate_list (q) λ a z x v k => h a z ⟨x, Heap.IsList.at (q) λ o e => k _ o e⟩ v k
  | true =>
    obtain⟨⟨y, u, r, n⟩, p, d, m, c⟩ := id (q)
    replace d : y = .type "tuple" := d
    replace c : r = .seq vs m := c
    subst d c;refine callType_new F.called_enumerate JY (F.typeCall_enumerate_1 _) (F.newCall_enumerate_1 _) (λ f => F.args_object_init_2 f _) F.entry_enumerate_new (DQ l vs m u n) ⟨p, ?_⟩;have g : (zH1 s.heap true l).objs.size = s.heap.objs.size + 1 := D5 ..;have i := p8 (zH1 s.heap true l) (o := { cls := .type "enumerate", data := .fields #[.none, .bool false, .ref s.heap.objs.size, rawInt 0, .none, .none] }) rfl;have j : ∀ b o, s.heap.get? b = some o -> ((zH1 s.heap true l).push { cls := .type "enumerate", data := .fields #[.none, .bool false, .ref s.heap.objs.size, rawInt 0, .none, .none] }).get? b = some o := λ b o e => k6 _ (k6 _ e)
    rw [g] at i;show _ /\ _;rw [g];exact ⟨⟨_, i, rfl⟩, h _ i (zN (k6 _ (p8 _ rfl)) q j) (by rw [D5, g]) j⟩
def Ite(K:JQ)(t:Bool)(a:JI):It:=
  ⟨λ i H=>∃xs x,SqD t K H a xs/\xs[i]? = some x,
   λ i H x H'=>∃p v,x=.ref p/\H p=none/\(∀xs,SqD t K H a xs->xs[i]? = some v)/\H'=upd H p (.tup [.int i,v]),
   λ i H=>∃xs,SqD t K H a xs/\xs.length<=i⟩
def DS{K:JQ}(t:Bool)(d1:n≠c)(d2:l≠n)(d3:l≠c) :
  Turn P w K (.Tuple elts k pos) (Ite K t l) [n,c] n (λ i h=>(∃f,IsEnum h n c (i:Nat) f)/\itK t h c l i) where
 mem:=by simp
 obj:=λ i h st b g=>by
  obtain⟨⟨f,m⟩,r⟩:=st;simp only[i5,O8,P4]at g;rcases g with rfl | rfl
  ·exact⟨_,m,λ v q=>by cases q⟩
  ·obtain⟨o,Y,e,d⟩:=rT r;exact⟨o,e,λ v q=>by rw[d]at q;cases q⟩
 keep:=λ i h h' st q=>by obtain⟨⟨f,m⟩,r⟩:=st;exact⟨⟨f,q n (by simp) _ m⟩,rR r λ o e=>q c (by simp) o e⟩
 item:=by
  intro X R N S Z i j s C H E I B st Q;subst R N S;obtain⟨⟨f,m⟩,r⟩:=st;obtain⟨Y,x,A,M⟩:=Q;obtain⟨L,J,p⟩:=I.sqd A;obtain⟨u,hu,ru⟩:=J.get M;refine DO (pc t d3) m (rP r p) (x:=u) (by simpa using hu) d1 d2 λ h' a=>⟨_,rfl,?_⟩
  obtain⟨a1,a2,a3,a4,a5⟩:=a;refine wpAny_letOwnedTupleGo_enum a1 λ U O F=>?_
  have z:s.heap.objs.size≠n:=R5 (k7 m);have keep:∀b o,b∉[n,c]->s.heap.get? b=some o->U.get? b=some o:=λ b o g e=>F.extBut _ _ (λ q=>g (by simp[q])) (a5 b o (λ q=>g (by simp[q])) (λ q=>g (by simp[q])) e);have I1:Inv X j C H {s with heap:=U,toks:=s.toks+1}:=I.turnedL (t':=s.toks+1) keep B;have y:H s.heap.objs.size=none:=I.hok.fresh (i6 _);have W:=I.fpOk (i6 _) y;have h0:X.s₀.heap.get? s.heap.objs.size=none:=aD I.sz;have I2:Inv X j C (upd H s.heap.objs.size (.tup [.int i,x])) {s with heap:=U,toks:=s.toks+1}:=I1.track y h0 W.2.1 (λ n c e=>W.2.2.2.2.1 n c e) (λ q hq=>W.2.2.2.2.2 q hq)
   ⟨by show(2:Nat)<=sizeLine;decide,[.int i s.toks,u],.cons ⟨_,rfl⟩ (.cons ru .nil),_,(F.extBut _ _ z a3),⟨rfl,rfl⟩,_,rfl⟩
  refine⟨.ref s.heap.objs.size,_,I2,rfl,⟨_,x,rfl,y,λ xs' e=>by rw[I.sqd_inj e A];exact M,rfl⟩,⟨⟨_,by simpa using O⟩,rR (rQ a2) λ o e=>F.extBut _ _ (Ne.symm d1) e⟩,λ b g=>?_⟩;have lt:b≠s.heap.objs.size:=by
   simp only[i5,O8,P4]at g;rcases g with rfl | rfl
   ·exact Ne.symm z
   ·obtain⟨o,_,e,_⟩:=rT r;exact q5 (k7 e)
  rw[m7 lt];exact(B b g).1
 done:=by
  intro X R N S Z i j s C H E I B st Q;subst R N S;obtain⟨⟨f,m⟩,r⟩:=st;obtain⟨Y,A,M⟩:=Q;obtain⟨L,J,p⟩:=I.sqd A;have e1:=J.length;exact DP (I.ok.hd Z) (pc t d3) m (rP r p) (by simp;omega) λ h' a=>⟨rfl,I.turnedL (t':=s.toks) (ch:=[n,c]) (λ b o g e=>a b o (λ q=>g (by simp[q])) e) B⟩
 self:=λ _ _ _ _ _ st h=>by obtain⟨⟨f,m⟩,_⟩:=st;exact wpAny_pyIter_enum m h
theorem lz:∀(k:Nat) (a:on DV),(enuD k a).length=a.length
 | _,[]=>rfl
 | k,x::a=>by rw[enuD,p9,lz _ a,p9]
theorem rW:∀{k:Nat} {a:on DV} {i:Nat} {d:DV},(enuD k a)[i]? = some d->∃x,a[i]? = some x/\d=.tup [.int ((k+i:Nat):Int),x]
 | _,[],_,_,h=>by simp[enuD]at h
 | k,x::a,0,d,h=>by simp[enuD]at h;exact⟨x,rfl,h.symm⟩
 | k,x::a,i+1,d,h=>by rw[enuD,nA]at h;obtain⟨y,c,b⟩:=rW h;exact⟨y,by simpa using c,by rw[b,show k+1+i=k+(i+1)from by omega]⟩
def Wk.enum(h:SqD t D.K (L2.wo k c) a xs)(r:RepL D (L2.wo j c) ds xs):Wk D (Ite D.K t a) (enuD 0 ds) k j c where
 go:=λ i H s u=>by rw[lz]at u;exact⟨xs,xs[i]'(by rw[r.length];omega),v6.sqd (s.sqd h),n6 _⟩
 same:=λ i H x A y=>by obtain⟨p,v,_,b,_,e⟩:=y;rw[e];exact v7 b
 yld:=λ i H x A d O2 s o y e g=>by obtain⟨p,v,ex,b,n,w⟩:=y;obtain⟨d1,q,rfl⟩:=rW e;obtain⟨v1,m,l⟩:=r.get q;have f:=n xs (v6.sqd (s.sqd h));rw[m]at f;cases f;subst w;refine D4.mpr ⟨p,_,ex,SqT.of (by rw[j9 (λ z=>(g p z).1 b)];exact x3),?_⟩;exact v5.mpr ⟨_,_,rfl,u6.mpr (by rw[aO]),RepL.one (l.mono ((lq o g).trans (v7 b).wo))⟩
 stop:=λ H s=>⟨xs,v6.sqd (s.sqd h),by rw[lz,r.length];exact i6 _⟩
def lA(h:a<n):n+1≠n/\a≠n+1/\a≠n:=by omega
def DT:bootBuiltins "enumerate" = some (.type "enumerate"):=by decide +kernel
def DU(E:Gl X "enumerate")(C:X.mg "enumerate" = none)(F:PA X [e] o)(hs:s9 e=false) :
  PI X (.Tuple elts k tpos) (.Call (.Name "enumerate" p) [e] [] pos) (λ i H R=>o i H λ n g=>∃t a,n=[.ref a]/\(∃m,SqD t X.K g a m)/\R (Ite X.K t a) g):=by
 intro b s i H R I h;refine Call_ (Z0 I E C DT (eg (thn (F pos b s i H _ I h) λ us s1 ⟨n,g,f,y,z⟩=>?_) (by rw[x5 hs]) (bo [] (by simp))));obtain⟨t,a,J,⟨m,B⟩,q⟩:=z;subst J;obtain⟨u,rfl,x⟩:=y.one;cases x;obtain⟨A,rv,p1⟩:=f.sqd B;have j:=p1.lt;refine DR t p1 λ h' l w z6 v=>?_
 refine wpAny_pyIter_enum l ⟨s1.heap.objs.size+1,[s1.heap.objs.size+1,s1.heap.objs.size],_,_,g,rfl,(f.kept v),
  DS t (lA j).1 (lA j).2.1 (lA j).2.2,⟨⟨_,l⟩,rQ w⟩,λ c r=>?_,q⟩
 have d:s1.heap.objs.size<=c:=by
  simp[i5,O8,P4]at r;rcases r with rfl | rfl
  ·exact eN ..
  ·exact i6 _
 exact f.fpOk d (f.hok.fresh d)
def DW(u:Gl X "enumerate")(s:X.mg "enumerate" = none)(j:s9 e=false)(v:∀q,i=some q->PE X e (dE X.D δ q))
  (h:q9 (Re.thn i λ x c=>fG x c)=some g):PI X (.Tuple elts k d) (.Call (.Name "enumerate" p) [e] [] pos) (dI X.D δ g):=by
 cases b:i with
 | none=>rw[b]at h;cases h
 | some q=>
  rw[b]at h;have A:=v q b;cases q with
  | ok C F=>
   have f:q9 (fG C F)=some g:=h;unfold fG at f;split at f
   ·rename_i o E r;cases f;exact((λ n (w:PE X e n)=>DU u s (P6 w U5 (x5 j)) j) _ A).weak λ σ H R' ⟨O,W,R,p⟩=>⟨O,W,R,λ x I s1 y=>by
     obtain⟨a,m,B,l,z⟩:=DM r y (R.hid.mono s1);exact⟨o,a,by rw[B],⟨m,v6.sqd l⟩,p _ I s1 (.enum ((G0 DK).sqd l) (z.mono (G0 DL)))⟩⟩
   ·cases f
def V7(f:FpOk X a H b)(h:c b=none):FpOk X a c b:=⟨h,f.2⟩
def DX{p:on Int}(hh:A.handled=none)(b6:p.length=vs.length)(a5:l≠J)(O:S≠J)(hlS:l≠S)
  (turn:∀(i:Nat) (v:V) (u:JG) (k:Int),vs[i]? = some v->RelV v u->p[i]? = some k->∀y q n,Inv X y σ n q->Same H n->wpAny Kb A.in1 (call (.ref f) [u]) (EP X y σ (λ w b5=>w=.int k/\Same n b5)) (λ _ _=>False) q)
  (hR:∀i v u q n,vs[i]? = some v->RelV v u->(∀j,j<vs.length->p.getD i 0 ≥ p.getD j 0/\(j<i->p.getD i 0>p.getD j 0))->Inv X g σ n q->Same H n->R (.ok (.ret u)) q) :
  ∀(r j i:Nat) (q:JH) (n:Hp) (P:JG) (v:V) (Z:Tok) (c:Nat),vs.length - (j+1)=r->j+1<=vs.length->Inv X g σ n q->Same H n->FpOk X g n S->FpOk X g n J->SqL X.K n l vs ->
   q.heap.get? S=some (seqObj "list" #[P,.int (p.getD i 0) Z] c)->q.heap.IsListIter J l (j+1)->vs[i]? = some v->RelV v P->i<=j->(∀s,s<=j->p.getD i 0 ≥ p.getD s 0/\(s<i->p.getD i 0>p.getD s 0)) ->
   codeAny Kb A (.builtin "max.loop" ⟨[.ref J,.ref f,.ref S],[]⟩) R q:=by
 have ml : "max.loop" = (toString "max" ++ toString ".loop" : JW):=by decide
 intro r
 induction r with
 | zero=>
  intro j i q n P v Z c hr hj I sm Q U hq gS N hv rv b3 m;obtain⟨Y,ru,pl,zl⟩:=I.list hq;have b0:=ru.length;have W:=cF (prog:=X.prog) (w:=X.w) (A:=A.in1) hh J l a5 Y.toArray;refine M2 ii ?_;rw[N4 X5 _];show wpAny _ A.in1 _ _ _ _;refine f0 (P0 gS rfl ?_);show wpAny _ A.in1 _ _ _ _;refine f0 (P1 (W.done _ _ _ ⟨by rw[t8,show Y.length=j+1 by omega];exact N,pl.isList⟩ λ h1 B hk=>?_));have C:=hk S _ (by simpa using O) gS;have s1:=K3 h1 S (Obj.mapSeq λ _=>(#[]:JL JG));show wpAny _ A.in1 _ _ _ _;refine f0 (T9 C rfl (f0 (P3 (f9 ?_))));have I9:Inv X g σ n {q with heap:=h1.update S (Obj.mapSeq λ _=>(#[]:JL JG)),toks:=B}:=by
   refine I.turnedL (t':=B) (ch:=[J,S]) (λ b o d e=>?_) λ b d=>?_
   ·rw[s1.2 b λ z=>d (by rw[z];simp)];exact hk b o (λ z=>d (by rw[u7.mp z];simp)) e
   ·rcases i5.mp d with rfl | d
    ·exact U
    ·rw[u7.mp d];exact Q
  exact hR i v P _ n hv rv (λ s a7=>m s JX) I9 sm
 | succ r ih=>
  intro j i q n P v Z c hr hj I sm Q U hq gS N hv rv b3 m;have M:j+1<vs.length:=by omega
  obtain⟨Y,ru,pl,zl⟩:=I.list hq;have b0:=ru.length;have W:=cF (prog:=X.prog) (w:=X.w) (A:=A.in1) hh J l a5 Y.toArray;refine M2 ii ?_;rw[N4 X5 _];show wpAny _ A.in1 (seqItems? (.ref S) >>= _) _ _ _;refine f0 (P0 gS rfl ?_);show wpAny _ A.in1 _ _ _ _;refine f0 (P1 (W.item (j+1) _ _ _ (by rw[t8];omega) ⟨N,pl.isList⟩ λ u h1 B hP b2 hk=>?_));have hu:Y[j+1]? = some u:=by simpa using hP
  obtain⟨oJ,a4,a3,L⟩:=id b2.1;have C:=hk S _ (by simpa using O) gS;obtain⟨v1,K⟩:∃v1,vs[j+1]? = some v1:=⟨_,n6 M⟩;obtain⟨u',a1,a0⟩:=ru.get K;rw[hu]at a1;cases a1;obtain⟨F,a6⟩:∃F,p[j+1]? = some F:=⟨_,n6 JX⟩;have a9:p.getD (j+1) 0=F:=by rw[r9,a6];rfl
  have I1:Inv X g σ n {q with heap:=h1,toks:=B}:=I.turnedL (ch:=[J]) (λ b o d e=>hk b o d e) λ b d=>by rw[u7.mp d];exact U
  have Ip:=I1.pinned (fp:=[S,J]) (λ b d=>by
   rcases i5.mp d with rfl | d
   ·exact Q
   ·rw[u7.mp d];exact U) (λ b d=>by
   rcases i5.mp d with rfl | d
   ·exact⟨_,C,λ v z=>by cases z⟩
   ·rw[u7.mp d];exact⟨_,a4,λ v z=>by rw[L]at z;cases z⟩)
  show wpAny _ A.in1 _ _ _ _;refine f0 (P1 (C5 (B3 (turn (j+1) v1 u F K a0 a6 _ _ n Ip sm) (λ x s2 he=>?_) λ _ _ hF=>hF.elim)));obtain⟨w2,H2,I2,r2,rfl,sm2⟩:=he;obtain⟨t2,rfl⟩:=r2;obtain⟨qS,nS,_⟩:=I2.pin _ (u4 _ (u4 _ (U4 (k8 ..) C)));obtain⟨qJ,nJ,_⟩:=I2.pin _ (u4 _ (u4 _ (U4 (k5 _ (k8 ..)) a4)));have I3:=I2.unpinned;have a2:SqL X.K H2 l vs:=sm2.seq hq;show wpAny _ A.in1 _ _ _ _;refine f0 (P1 (C5 (f0 (CmpOf.ints_gt (prog:=X.prog) (w:=X.w) (A:=A.in1) (λ i=>p.getD i 0) (λ i v h=>h) (j+1) i _ _ _ _ _ ⟨t2,by rw[a9]⟩ ⟨Z,rfl⟩ ?_))));refine f0 (C5 (X7 (f0 (P3 (f9 ?_)))));by_cases a8:p.getD (j+1) 0>p.getD i 0
  ·have s1:=K3 s2.heap S (Obj.mapSeq λ _=>#[u,.int F t2]);obtain⟨c2,b4⟩:∃c2,(s2.heap.update S (Obj.mapSeq λ _=>#[u,.int F t2])).get? S=some _:=⟨_,get?_update_seq qS λ _=>#[u,.int F t2]⟩;simp only[a8,decide_true,if_true];refine f0 (T9 qS rfl (f0 (P3 ?_)));rw[←ml];refine f9 ⟨K8 X5 _,ih (j+1) (j+1) _ H2 u v1 t2 c2 JX M (I3.turnedL (t':=s2.toks) (ch:=[S]) (λ b o d e=>by rw[s1.2 b λ z=>d (by rw[z];simp)];exact e) λ b d=>by rw[u7.mp d];exact V7 Q nS) (sm.trans sm2) (V7 Q nS) (V7 U nJ) a2 (by rw[a9];exact b4) ⟨oJ,(s1.2 J O.symm).trans qJ,a3,L⟩ K a0 (i6 _) λ s a7=>?_⟩;by_cases e:s=j+1
   ·subst e;exact⟨by omega,λ _=>by omega⟩
   ·have b1:=(m s JX).1;exact⟨by omega,λ _=>by omega⟩
  ·simp only[a8,decide_false,G1,if_false];refine f0 (P3 ?_);rw[←ml];refine f9 ⟨K8 X5 _,ih (j+1) i _ H2 P v Z c JX M I3 (sm.trans sm2) (V7 Q nS) (V7 U nJ) a2 qS ⟨oJ,qJ,a3,L⟩ hv rv JX λ s a7=>?_⟩;by_cases e:s=j+1
   ·subst e;exact⟨by omega,λ _=>by omega⟩
   ·exact m s JX
def DY{p:on Int}(I:Inv X d σ H s)(hh:X.A.handled=none)(hq:SqL X.K H l vs)(N:0<vs.length)(O:p.length=vs.length)
  (turn:∀(i:Nat) (v:V) (u:JG) (k:Int),vs[i]? = some v->RelV v u->p[i]? = some k->∀m s' n,Inv X m σ n s'->Same H n->wpAny Kb X.A.in1 (call (.ref f) [u]) (EP X m σ (λ w a7=>w=.int k/\Same n a7)) (λ _ _=>False) s')
  (h:∀i v n,vs[i]? = some v->(∀j,j<vs.length->p.getD i 0 ≥ p.getD j 0/\(j<i->p.getD i 0>p.getD j 0))->Same H n->Q v n):wpAny Kb X.A (call (.builtin "max") [.ref l] [(Str.ofString "key",.ref f)]) (EP X d σ Q) E s:=by
 have ml : "max.loop" = (toString "max" ++ toString ".loop" : JW):=by decide
 obtain⟨us,ru,pl,zl⟩:=I.list hq;have a1:=ru.length;have y:l<s.heap.objs.size:=by obtain⟨o,e,_⟩:=pl.isList;exact k7 e
 refine kmk_tree PySem.F.kind_max PySem.F.plain_max PySem.F.entry_max (kmk_max_key _ _) ?_;show wpAny _ X.A.in1 _ _ _ s;refine f0 (Y6 (a:=[some (.ref f),none]) rfl (f0 (f9 (f0 (bZ pl.isList (f0 (wpAny_newList ?_ (F3 _))))))));rw[←ml];generalize hJ:s.heap.objs.size=J at y;generalize B:s.heap.push {cls:=.type "list_iterator",data:=.fields #[.ref l,.int 0 0]} = g0;have z0:g0.objs.size=J+1:=by rw[←B,size_push',hJ]
 have gS:(g0.push (seqObj "list" #[] 0)).get? (J+1)=some (seqObj "list" #[] 0):=by rw[←z0];exact p8 _ rfl
 have I0:Inv X d σ H {s with heap:=g0.push (seqObj "list" #[] 0)}:=I.kept (t':=s.toks) λ b o e=>by rw[←B];exact k6 _ (k6 _ e)
 have fJ:FpOk X d H J:=I.fpOk JX (I.hok.fresh JX);have fS:FpOk X d H (J+1):=I.fpOk JX (I.hok.fresh JX);refine f9 ⟨K8 X5 _,?_⟩;show codeAny Kb X.A _ _ {s with heap:=g0.push (seqObj "list" #[] 0)};rw[z0];have P:l≠J:=q5 y;have C:J+1≠J:=R5 (T6 _);have a4:l≠J+1:=q5 (T4 y);obtain⟨us,ru,pl,zl⟩:=I0.list hq;have a1:=ru.length;have W:=cF (prog:=X.prog) (w:=X.w) (A:=X.A.in1) hh J l P us.toArray;refine M2 ii ?_;rw[N4 X5 _];show wpAny _ X.A.in1 _ _ _ _;refine f0 (P0 gS rfl ?_);show wpAny _ X.A.in1 _ _ _ _;refine f0 (P1 (W.item 0 _ _ _ (by rw[t8];omega) ⟨⟨_,((by rw[←B,←hJ];exact k6 _ (p8 _ rfl))),rfl,rfl⟩,pl.isList⟩ λ u h1 a0 hP a2 hk=>?_));have hu:us[0]? = some u:=by simpa using hP
 obtain⟨oJ,M,a3,L⟩:=id a2.1;have S:=hk (J+1) _ (by simpa using C) gS;obtain⟨Y,r⟩:∃Y,vs[0]? = some Y:=⟨_,n6 N⟩;obtain⟨u',K,F⟩:=ru.get r;rw[hu]at K;cases K;obtain⟨q,R⟩:∃q,p[0]? = some q:=⟨_,n6 JX⟩;have a6:p.getD 0 0=q:=by rw[r9,R];rfl
 have I1:=I0.turnedL (h':=h1) (t':=a0) (ch:=[J]) (λ b o g e=>hk b o g e) λ b g=>by rw[u7.mp g];exact fJ
 have Ip:=I1.pinned (fp:=[J+1,J]) (λ b g=>by
  rcases i5.mp g with rfl | g
  ·exact fS
  ·rw[u7.mp g];exact fJ) (λ b g=>by
  rcases i5.mp g with rfl | g
  ·exact⟨_,S,λ v z=>by cases z⟩
  ·rw[u7.mp g];exact⟨_,M,λ v z=>by rw[L]at z;cases z⟩)
 show wpAny _ X.A.in1 _ _ _ _;refine f0 (P1 (C5 (B3 (turn 0 Y u q r F R _ _ H Ip (Same.refl H)) (λ x s2 he=>?_) λ _ _ hF=>hF.elim)));obtain⟨w2,H2,I2,r2,rfl,sm2⟩:=he;obtain⟨Z,rfl⟩:=r2;obtain⟨qS,nS,_⟩:=I2.pin _ (u4 _ (u4 _ (U4 (k8 ..) S)));obtain⟨qJ,nJ,_⟩:=I2.pin _ (u4 _ (u4 _ (U4 (k5 _ (k8 ..)) M)));have I3:=I2.unpinned;have s1:=K3 s2.heap (J+1) (Obj.mapSeq λ _=>#[u,.int q Z]);obtain⟨c2,a5⟩:∃c2,(s2.heap.update (J+1) (Obj.mapSeq λ _=>#[u,.int q Z])).get? (J+1)=some _:=⟨_,get?_update_seq qS λ _=>#[u,.int q Z]⟩;show wpAny _ X.A.in1 _ _ _ _;refine f0 (T9 qS rfl ?_);rw[←ml];refine f9 ⟨K8 X5 _,DX (H:=H) hh O P C a4 turn (λ i v u s' n e1 e2 e3 e4 e5=>⟨v,n,e4,e2,h i v n e1 e3 e5⟩) _ 0 0 _ H2 u Y Z c2 rfl N (I3.turnedL (t':=s2.toks) (ch:=[J+1]) (λ b o g e=>by rw[s1.2 b λ z=>g (by rw[z];simp)];exact e) λ b g=>by rw[u7.mp g];exact V7 fS nS) sm2 (V7 fS nS) (V7 fJ nJ) (sm2.seq hq) (by rw[a6];exact a5) ⟨oJ,(s1.2 J C.symm).trans qJ,a3,L⟩ r F (i6 _) λ j' hj'=>?_⟩;have e:j'=0:=by omega
 subst e;exact⟨by omega,λ h=>absurd h (D6 _)⟩
def DZ{X:Cx}{δ:on Sv}{bd:JK}{pr:JS}{sc:JR}{c P:JI}{m:LamD}{cs:on DV}{fr:on Nat}{pins:on (JI×Obj)}{σ:St}{H:Hp}{s:JH}{O W:on JI}{f:JI}(I:Inv X pins σ H s)(L:LamAt X sc c P)(T:LamTx m.N (m.N.take m.np) sc)(hcor:Z9 m pr bd sc=true)(hN:m.N.length=m.np+fr.length)(hslot:∀(j i:Nat),fr[j]? = some i->∃y,m.N[m.np+j]? = some y/\X.N[i]? = some y/\(X.env.kindOf y=some .cell\/X.env.kindOf y=some .free))
  (hcap:capD δ fr=some cs) (R:RSt X.D H σ δ O W) (lf:N1 H (X.env.qual ++ "<lambda>") pr bd sc (o6 X.env.cells sc.names []) f):Rep X.D (L2.wo (O++W) (trC ((o6 X.env.cells sc.names []).map (·.2)) s.heap H)) (.lam m cs) (.ref f):=by
 generalize hl:(o6 X.env.cells sc.names []).map (·.2)=l;have Ce:=Cells.of (sc:=sc) I (L.has I.ok);rw[hl]at Ce;have S:=T.full I (L.has I.ok);rw[hl]at S;obtain⟨ws,w1,w2,w3⟩:=ln R hcap;have same:=Ce.same;have hdA:=R.hid.hdA;have ou:∀{b:JI} {o:Obj} {u:HO},H b=some (.frz o u)->b∉O++W:=λ {b o u} e z=>by obtain⟨o',q1,q2⟩:=hdA b z;rw[e]at q1;cases q1;cases q2
 have oc:∀{b:JI},b∈l->b∉O++W:=λ {b} hb z=>by obtain⟨o',q1,q2⟩:=hdA b z;rw[Ce.none b hb]at q1;cases q1
 refine kA.mpr ⟨f,pr,bd,sc,X.env.qual ++ "<lambda>",o6 X.env.cells sc.names [],l,ws,rfl,?_,hcor,S,w2.mono same.wo,by rw[hN,w1],λ c hc=>?_,λ i y v h1 h2=>?_⟩
 ·obtain⟨c',oc',u,vs,t,pm,ctv,h1,h2,h3⟩:=lf;exact⟨c',oc',u,vs,t,pm,ctv,by rw[j9 (ou h1)];exact same _ _ h1,by rw[j9 (ou h2)];exact same _ _ h2,h3⟩
 ·obtain⟨o,v,g,d'⟩:=Ce.cel c hc;exact⟨o,v,by rw[j9 (oc hc)];exact V3 hc g,d'⟩
 ·have hi:i<fr.length:=by rw[←w1];exact(v9.mp h2).1
  have hj:fr[i]? = some fr[i]:=n6 hi;obtain⟨y',q1,q2,q3⟩:=hslot i _ hj;rw[h1]at q1;cases q1;have hv:=w3 i _ v hj h2;obtain⟨mm,hn',hl'⟩:=I.loc;obtain⟨u,rv,lk⟩:=hl' _ y v q2 hv (.inr q3);rcases lk with⟨k1,_⟩ | ⟨k1,cc,k2,o,k3,k4⟩
  ·have k1:X.env.kindOf y=some .local:=k1;rcases q3 with q3 | q3<;>(rw[q3]at k1;cases k1)
  ·have hfre:(y,NameKind.free)∈sc.names:=x8 (T.fre (m.np+i) y (by rw[X8];exact i9 (Nat.min_le_left _ _) (eN _ _)) h1);have hcl:=du (L.has I.ok) hfre k2;have hcc:cc∈l:=S.mem y cc hcl;exact⟨cc,o,u,hcl,by rw[j9 (oc hcc)];exact V3 hcc k3,k4,rv⟩
def Ea{F:Nat->on DV->JF Ou}(I:Inv X h σ H s)(lo:V4 X.prog X.w X.K X.mg X.base fn bl cl k (F F0))(hr:RoomL k A)(hA:A.frames=X.A.frames)(h1:m.fn=fn)(h2:m.bl=bl)(h3:m.cl=cl)
  (L:LamAt X sc c P) (T:LamTx m.N (m.N.take m.np) sc) (B:∀{h:on (JI×Obj)} {σ:on (JF V)} {H:Hp} {s:JH},Inv X h σ H s->∀c∈(o6 X.env.cells sc.names []).map (·.2),X.base.get? c=none/\c∉frs X.stack) (C:Z9 m S bd sc=true) (hN:m.N.length=m.np+fr.length) (x:∀(j i:Nat),fr[j]? = some i->∃y,m.N[m.np+j]? = some y/\X.N[i]? = some y/\(X.env.kindOf y=some .cell\/X.env.kindOf y=some .free))
  (E:capD δ fr=some cs) (R:RSt X.D H σ δ O W) (lf:N1 H (X.env.qual ++ "<lambda>") S bd sc (o6 X.env.cells sc.names []) f) (Z:Rep X.D (L2.wo (O++W) H) d v) (Y:RelV v u) (hF:F F0 [.lam m cs,d]=some (.v (.int n) false)) :
  wpAny Kb A (call (.ref f) [u]) (EP X h σ (λ w Q=>w=.int n/\Same H Q)) (λ _ _=>False) s:=by
 have lamR:=DZ I L T C hN x E R lf;generalize U:(o6 X.env.cells sc.names []).map (·.2)=l at lamR;have J:=Cells.of I (L.has I.ok);rw[U]at J;have M:=B I;rw[U]at M;have same:=J.same;have q:=I.env0;have e1:Env0 X.prog X.w X.K X.mg X.base A X.stack s H:=⟨hA.trans q.frames,q.mod,q.bs,q.bsz,q.funs,q.frf,q.hok,q.bare⟩;refine fv (R6 (lo A X.stack s _ [u] [v] (λ v K=>Same (trC l s.heap H) K/\v=.int n) (λ _ _ _=>False) (O++W) f m cs [d] _ hr (Env0.trC J (λ c N=>(M c N).1) (λ c N=>(M c N).2) e1) (.cons Y .nil) (λ a ha=>?_) h1 h2 h3 lamR (RepL.one (Z.mono same.wo)) hF λ v K sm g=>⟨sm,u6.mp g⟩) λ r s' p=>?_)
 ·obtain⟨o,q1,q2⟩:=R.hid.hdA a ha;exact⟨o,same _ _ q1,q2⟩
 ·cases r with
  | error e=>exact(p:False).elim
  | ok fl=>
   cases fl with
   | ret u=>
    refine I.after (CE.trC J p (λ v K sm z=>⟨z.2,λ b o e=>?_⟩) λ v K z=>z.1);rw[j9 λ w=>by rw[J.none b w]at e;cases e];exact sm _ _ (same _ _ e)
   | next=>exact False.elim p
   | brk=>exact False.elim p
   | cont=>exact False.elim p
theorem rX:∀{b:on DV} {a:on Int},P9 F mm b=some a->a.length=b.length/\∀(i:Nat) d n,b[i]? = some d->a[i]? = some n->F F0 [mm,d]=some (.v (.int n) false)
 | [],a,h=>by cases h;exact⟨rfl,λ i d n h=>by cases h⟩
 | d::r,a,h=>by
  unfold P9 at h;split at h
  ·rename_i n e;obtain⟨l,m,rfl⟩:=v4.mp h;obtain⟨j,g⟩:=rX m;refine⟨by rw[p9,p9,j],λ i o k f c=>?_⟩;cases i with
   | zero=>cases f;cases c;exact e
   | succ i=>exact g i o k f c
  ·cases h
def Room.toL1(r:Room k A):RoomL k A.in1:=⟨r.hd,r.dp,by have:=r.un;show A.units+1+16*k+198<_;omega⟩
def Eb(h:M6 ks=some i)(d:c<ks.length)(h':∀j,j<ks.length->ks.getD c 0 ≥ ks.getD j 0/\(j<c->ks.getD c 0>ks.getD j 0)):c=i:=by
 unfold M6 at h;have f:=hY h;have e:=iR h;rw[o4]at f;simp only[E6,o4,g6,B5,A5]at e;have a:=e c d;have b:=h' i f;rcases Nat.lt_trichotomy i c with z | z | z
 ·have:=b.2 z;omega
 ·exact z.symm
 ·have:=a.2;omega
section
variable {X:Cx} {δ:on Sv} {ea bd:JK} {pos p lp kp:Pos} {re:Re} {k:Nat} {x:Str} {pr:JS} {sc:JR} {c P:JI} {m:LamD} {cs:on DV} {fr:on Nat} {pins:on (JI×Obj)} {σ:St} {H:Hp} {s:JH} {O W:on JI} {f:JI}
def QM(X:Cx)(δ:on Sv)(F:Nat->on DV->JF Ou)(m:LamD)(cs:on DV)(pr:JS)(bd:JK)(sc:JR)(σ:St)(Q:VK):on V->Hp->Prop:=λ vs H1=>∃va,vs=[va]/\∀f H2,Same H1 H2->H1 f=none->N1 H2 (X.env.qual ++ "<lambda>") pr bd sc (o6 X.env.cells sc.names []) f ->
 ∃O W a xs ds ks i,va=V.ref a/\RSt X.D H2 σ δ O W/\SqL X.K H2 a xs/\RepL X.D (L2.wo (O++W) H2) ds xs/\0<ds.length/\P9 F (.lam m cs) ds=some ks/\M6 ks=some i/\∀H' v,Same H2 H'->xs[i]? = some v->Q v H'
def Ec(lo:V4 X.prog X.w X.K X.mg X.base fn bl cl k (F F0))(hr:Room k X.A)(h1:m.fn=fn)(h2:m.bl=bl)(h3:m.cl=cl)(hg:Gl X "max")(hm:X.mg "max" = none)(B:s9 ea=false)
  (L:LamAt X sc c P) (Y:defaultsOf pr X.env=([],[])) (T:LamTx m.N (m.N.take m.np) sc) (U:∀{b:on (JI×Obj)} {l:on (JF V)} {H:Hp} {s:JH},Inv X b l H s->∀c∈(o6 X.env.cells sc.names []).map (·.2),X.base.get? c=none/\c∉frs X.stack) (Z:Z9 m pr bd sc=true) (hN:m.N.length=m.np+fr.length) (w:∀(j i:Nat),fr[j]? = some i->∃y,m.N[m.np+j]? = some y/\X.N[i]? = some y/\(X.env.kindOf y=some .cell\/X.env.kindOf y=some .free))
  (a0:capD δ fr=some cs) (ha:PE X ea (dE X.D δ ra)) (h:(Re.thn (some ra) λ x cx=>mxkL F (.lam m cs) x cx)=some re):PE X (.Call (.Name "max" p) [ea] [⟨some "key",.Lambda pr bd sc lp,kp⟩] pos) (dE X.D δ re):=by
 have C:∀{ta:TE},PE X ea ta->PE X (.Call (.Name "max" p) [ea] [⟨some "key",.Lambda pr bd sc lp,kp⟩] pos) (λ l H Q=>jq ta tNil l H (QM X δ F m cs pr bd sc l Q)):=λ {ta} A=>by
  intro b s l H Q I h;refine aF (Z0 I hg hm boot_max ?_ JY JY);refine PyProof.Rows.callWith_kw (thn (P6 A (U5 (X:=X)) (x5 B) pos b s l H _ I h) λ us s1 ⟨vs,H1,I1,r1,M⟩=>?_) (by rw[x5 B];rfl) (by rw[x5 B];rfl);obtain⟨va,rfl,M⟩:=M;refine thn (yI (nm:=some "key") (kpos:=kp) (DC (bd:=bd) (lp:=lp) L Y) (yH (X:=X)) pos b s1 l H1 (λ ws o=>∃f,ws=[.ref f]/\N1 o (X.env.qual ++ "<lambda>") pr bd sc (o6 X.env.cells sc.names []) f/\∃O W a r q ks i,va=V.ref a/\RSt X.D o l δ O W/\SqL X.K o a r/\RepL X.D (L2.wo (O++W) o) q r/\0<q.length/\P9 F (.lam m cs) q=some ks/\M6 ks=some i/\∀J v,Same o J->r[i]? = some v->Q v J) I1
   (λ f o sm hn S=>⟨f,rfl,S,M f o sm hn S⟩)) λ ws s2 B0=>?_
  obtain⟨zs,o,I2,rz,f,e,S,O,W,a,r,q,ks,ix,e',R,sq,K,a5,hk,E,hq⟩:=B0;subst e e';obtain⟨u1,rfl,a3⟩:=G2 r1;obtain⟨u2,rfl,a2⟩:=G2 rz;obtain rfl:u1=Value.ref a:=a3;obtain rfl:u2=Value.ref f:=a2;show wpAny _ X.A _ _ X.xe s2;obtain⟨k1,k2⟩:=rX hk;refine DY I2 hr.hd sq (by rw[K.length];exact a5) (by rw[k1,K.length]) (λ i v u n hv ru hn a4 s' J I' sm=>?_) λ i v J hv hb sm=>?_
  ·have hi:i<q.length:=by rw[←K.length];exact(v9.mp hv).1
   have hd:=n6 hi;obtain⟨v',e1,rp⟩:=K.get hd;rw[hv]at e1;cases e1;exact Ea I' lo hr.toL1 rfl h1 h2 h3 L T U Z hN w a0 (R.mono sm) (S.mono sm) (rp.mono sm.wo) ru (k2 i _ n hd hn)
  ·have hi:i<ks.length:=by rw[k1,←K.length];exact(v9.mp hv).1
   have:=Eb E hi λ j hj=>hb j (by rw[K.length,←k1];exact hj);subst this;exact hq J v sm hv
 cases ra with
 | ok dx cx=>
  have g:mxkL F (.lam m cs) dx cx=some re:=h;unfold mxkL at g;split at g
  ·rename_i q;split at g
   ·rename_i z;obtain⟨ks,hk,g⟩:=p4.mp g;obtain⟨ix,E,g⟩:=p4.mp g;obtain⟨d,hd,rfl⟩:=v4.mp g;refine(C ha).weak λ l H Q ⟨O,W,R,p⟩=>⟨O,W,R,λ va H1 s1 g1=>⟨va,rfl,λ f o s2 hn S=>?_⟩⟩
    have N:=s1.trans s2;obtain⟨a,r,e1,e2,e3⟩:=g1.lstC (R.hid.mono s1);have a1:RepL X.D (L2.wo (O++W) H1) q r:=by
     cases cx with
     | strong=>exact e3
     | fresh=>exact e3
     | weak=>cases z
     | top=>exact e3
    refine⟨O,W,a,r,q,ks,ix,e1,R.mono N,SqL.of (s2 _ _ e2),a1.mono s2.wo,M0 (F3 _) (v9.mp hd).1,hk,E,λ J v sm hv=>p _ _ (N.trans sm) ?_⟩;obtain⟨v',M,q2⟩:=a1.get hd;rw[hv]at M;cases M;exact(q2.mono (s2.trans sm).wo:Rep X.D (L2.wo (O++W) J) d v)
   ·cases g
  ·cases g
end
noncomputable def dEnd(D:Dm)(H0:Hp)(O:on JI)(Dn:Ends):Out->Prop
 | .nx δ=>∀σ H W,RSt D H σ δ O W->(∀a∈W,H0 a=none)->Same H0 H->Dn.nx σ H
 | .rt d fr=>∀v H,Same H0 H->GotR D O H0 H d fr v->Dn.rt v H
def dS(D:Dm)(δ:on Sv)(o:Out):TS:=λ Dn σ H=>∃H0 O W,RSt D H σ δ O W/\(∀a∈W,H0 a=none)/\(∀a∈O,H0 a≠none)/\Same H0 H/\dEnd D H0 O Dn o
def Ed:PSs X [] (dS X.D δ (.nx δ)):=xG.weak λ Dn a H ⟨H0,O,W,R,b,fo,sm,k⟩=>k a H W R b sm
def Ee{rest:on JP}(g:PS X c (dS X.D δ (.nx δ1)))(f:PSs X rest (dS X.D δ1 o)):PSs X (c::rest) (dS X.D δ o):=
 (fy g f).weak λ Dn σ H ⟨d,O,W,R,h,fo,sm,k⟩=>⟨d,O,W,R,h,fo,sm,λ e H' i j b a=>⟨d,O,i,j,b,fo,a,k⟩⟩
def Ef{rest:on JP}(b:PS X a (dS X.D δ (.rt d fr))):PSs X (a::rest) (dS X.D δ (.rt d fr)):=
 (fy b fz).weak λ Dn σ H ⟨c,O,W,R,fr,fo,sm,k⟩=>⟨c,O,W,R,fr,fo,sm,k⟩
def Eg(n:∀q,e=some q->PT X c (dT X.D δ q))(r:∀q,l=some q->PSs X body (dS X.D δ q))(p:∀q,j=some q->PSs X d (dS X.D δ q))(h:(Rt.thnS δ e λ k=>if k then l else j)=some o):PS X (.If c body d pos) (dS X.D δ o):=by
 cases a:e with
 | none=>rw[a]at h;cases h
 | some q=>
  rw[a]at h;have C:=n q a;cases q with
  | ok b=>
   cases b with
   | true=>
    have f:=h;exact(oa C (r o f) fz).weak λ u m H ⟨i,O,W,R,g,fo,sm,k⟩=>⟨O,W,R,λ s s1=>iteT ⟨i,O,W,R.mono s1,g,fo,sm.trans s1,k⟩⟩
   | false=>
    have f:=h;exact(oa C fz (p o f)).weak λ u m H ⟨i,O,W,R,g,fo,sm,k⟩=>⟨O,W,R,λ s s1=>iteF ⟨i,O,W,R.mono s1,g,fo,sm.trans s1,k⟩⟩
def Eh(w:∀q,j=some q->PE X e (dE X.D δ q))(h:(Re.thnS δ j λ d c=>some (retD d c))=some o):PS X (.Return (some e) pos) (dS X.D δ o):=by
 cases f:j with
 | none=>rw[f]at h;cases h
 | some q=>
  rw[f]at h;have A:=w q f;cases q with
  | ok d cl=>
   have x:=h;cases x;refine(jn A).weak λ J σ H ⟨I,O,W,R,y,fo,sm,k⟩=>⟨O,W,R,λ v F s1 g=>(k:dEnd X.D I O J _) v F (sm.trans s1) ?_⟩;cases l:frD d cl with
   | false=>exact g.weak (R.hid.mono s1)
   | true=>
    unfold frD at l;split at l
    ·obtain⟨p,i,E,s,r,n,C,B⟩:=g;exact⟨p,i,E,s,r,sm.free n,C,B.mono (G0 λ b m=>by rcases i5.mp m with z | z;exact i5.mpr (.inl z);exact k5 _ (B4 _ z))⟩
    ·obtain⟨a,i,s,u,r,n⟩:=g;exact⟨a,i,_,s,rfl,y a u,v6 _ _ r,n.mono (G0 λ b m=>by rcases i5.mp m with z | z;rw[z];exact u4 _ u;exact B4 _ z)⟩
    ·cases l
def gw(h:S4 v=false):swapsWith v t l env=pure false:=by
 cases v<;>first | rfl | cases h
def Ei(i:∀q,b=some q->PE X e (dE X.D δ q))(f:S4 e=false)(h:(Re.thnS δ b λ _ _=>some (.nx δ))=some o):PS X (.Expr e pos) (dS X.D δ o):=by
 cases a:b with
 | none=>rw[a]at h;cases h
 | some q=>
  rw[a]at h;have A:=i q a;cases q with
  | ok d cl=>cases h;exact(jm A (gw f)).weak λ Dn c H ⟨H0,O,W,R,j,fo,sm,k⟩=>⟨O,W,R,λ v l s1 g=>k c l W (R.mono s1) j (sm.trans s1)⟩
def dz:b∈O++p::W↔b∈p::(O++W):=by
 simp[C7,i5];constructor
 ·rintro(h | h | h)
  ·exact .inr (.inl h)
  ·exact .inl h
  ·exact .inr (.inr h)
 ·rintro(h | h | h)
  ·exact .inr (.inl h)
  ·exact .inl h
  ·exact .inr (.inr h)
def L8{l:on c}(h:(l.set i a)[j]? = some b)(d:a≠b):j≠i:=λ z=>by
 subst z;have e:j<l.length:=by have:=(v9.mp h).1;rw[C4]at this;exact this
 rw[L9 e]at h;exact d (A8 h)
def V8{l:on c}(h:(l.set i a)[i]? = some b):i<l.length/\a=b:=by
 have d:=(by have:=(v9.mp h).1;rw[C4]at this;exact this);rw[L9 d]at h;exact⟨d,A8 h⟩
def RSt.alloc(R:RSt D H σ δ O W)(s:Same H A)(F:H p=none)(f:A p=some (.lst xs))(r:RepL D (L2.wo (p::(O++W)) A) ds xs)(i:Nat) :
  RSt D A (σ.set i (some (.ref p))) (δ.set i (.own (.lst ds))) O (p::W):=by
 have l:Same (L2.wo (O++W) H) (L2.wo (O++p::W) A):=λ b o e=>by obtain⟨I,e⟩:=B8 e;rw[j9 (λ z=>by rcases i5.mp (dz.mp z)with z | z;exact z8 e F z;exact I z)];exact s b o e
 refine⟨λ j d h=>?_,λ j J h=>?_,λ j k a g d2 U S x w=>?_,R.od.step (kR _ (by intro d z;cases z)) (λ _ h _=>k5 _ h) (λ a P _ h _=>s _ _ h),by rw[C4,C4];exact R.len,⟨λ a u=>?_,Same.refl _,λ a u=>?_,λ a u=>?_,R.hid.omS s⟩⟩
 ·have c:=L8 h (by intro z;cases z);rw[u5 (Ne.symm c)]at h ⊢;obtain⟨v,x,w⟩:=R.val j d h;exact⟨v,x,w.mono l⟩
 ·by_cases c:j=i
  ·subst c;obtain⟨Q,e⟩:=V8 h;cases e;exact⟨p,xs,ds,rfl,L9 (by rw[R.len];exact Q),k8,f,r.mono (G0 λ b I=>dz.mp I)⟩
  ·rw[u5 (Ne.symm c)]at h ⊢;obtain⟨a,B,y,Z,x,w,Y,X⟩:=R.own j J h;exact⟨a,B,y,Z,x,k5 _ w,s _ _ Y,X.mono l⟩
 ·have n:∀{j:Nat} {g:DV},(δ.set i (.own (.lst ds)))[j]? = some (.own g)->(σ.set i (some (.ref p)))[j]? = some (some (V.ref a))->(j=i/\a=p)\/(j≠i/\δ[j]? = some (.own g)/\σ[j]? = some (some (V.ref a))/\a≠p):=λ {j g} h e=>by
   by_cases c:j=i
   ·subst c;obtain⟨_,z⟩:=V8 e;cases z;exact .inl ⟨rfl,rfl⟩
   ·rw[u5 (Ne.symm c)]at h e;refine .inr ⟨c,h,e,λ z=>?_⟩;obtain⟨a',B,y,_,N,_,M,_⟩:=R.own j g h;rw[e]at N;cases N;rw[z,F]at M;cases M
  rcases n U x with⟨K,C⟩ | ⟨K,C,z3,z4⟩<;>rcases n S w with⟨L,E⟩ | ⟨L,E,y3,y4⟩
  ·rw[K,L]
  ·exact absurd C y4
  ·exact absurd E z4
  ·exact R.inj j k a g d2 C E z3 y3
 ·rcases i5.mp (dz.mp u)with z | z
  ·rw[z,f];intro q;cases q
  ·intro q;exact R.hid.ot a z (s.free q)
 ·rcases i5.mp u with z | z
  ·exact⟨_,by rw[z];exact f,rfl⟩
  ·obtain⟨B,q,m⟩:=R.hid.wl a z;exact⟨B,s _ _ q,m⟩
 ·rcases i5.mp u with z | z
  ·intro q;exact R.hid.ot p (B4 _ (by rw[←z];exact q)) F
  ·exact R.hid.dj a z
def rY(h:noOt i δ=true)(q:δ[j]? = some (.od d)):j=i:=by
 unfold noOt at h;rw[E6]at h;have:=h j (o4.mpr ((v9.mp q).1));rw[q]at this;simpa using this
def RSt.write(R:RSt D H σ δ O W)(A:δ[i]? = some (.own (.lst ds)))(C:σ[i]? = some (some (.ref a)))(r:RepL D (L2.wo (O++W) H) g f) :
  RSt D (upd H a (.lst f)) σ (δ.set i (.own (.lst g))) O W:=by
 obtain⟨a',xs,ds0,e0,L,K,Z,e4⟩:=R.own i _ A;rw[C]at L;cases L;have p:Same _ (L2.wo (O++W) (upd H a (.lst f))):=λ b o e=>by obtain⟨w,e⟩:=B8 e;rw[j9 w,m7 λ z=>w (by rw[z];exact u4 _ K)];exact e
 have hl:=(v9.mp A).1;refine⟨λ j d h=>?_,λ j n h=>?_,λ j k b J d2 Y X u x=>?_,R.od.step (qN (by intro d z;cases z)) (λ _ h _=>h) (λ b U _ h m=>by rw[m7 (λ z=>by rw[z,Z]at h;cases h;cases m)];exact h),by rw[C4];exact R.len,⟨λ b w q=>?_,Same.refl _,λ b w=>?_,R.hid.dj,R.hid.omW (by assumption)⟩⟩
 ·have l:=L8 h (by intro z;cases z);rw[u5 (Ne.symm l)]at h;obtain⟨v,u,x⟩:=R.val j d h;exact⟨v,u,x.mono p⟩
 ·by_cases l:j=i
  ·subst l;obtain⟨_,e⟩:=V8 h;cases e;exact⟨a,f,g,rfl,C,K,x3,r.mono p⟩
  ·rw[u5 (Ne.symm l)]at h;obtain⟨b,B,E,S,u,x,Q,P⟩:=R.own j n h;refine⟨b,B,E,S,u,x,?_,P.mono p⟩;rw[m7 λ z=>l (R.inj j i a n _ h A (by rw[←z];exact u) C)];exact Q
 ·have y:∀{j:Nat} {J:DV},(δ.set i (.own (.lst g)))[j]? = some _->∃d0,δ[j]? = some (.own d0):=λ {j J} h=>by
   by_cases l:j=i
   ·subst l;exact⟨_,A⟩
   ·rw[u5 (Ne.symm l)]at h;exact⟨J,h⟩
  obtain⟨I,N⟩:=y Y;obtain⟨F,M⟩:=y X;exact R.inj j k b I F N M u x
 ·by_cases c:b=a
  ·rw[c,x3]at q;cases q
  ·rw[m7 c]at q;exact R.hid.ot b w q
 ·by_cases c:b=a
  ·exact⟨_,by rw[c];exact x3,rfl⟩
  ·obtain⟨B,q,m⟩:=R.hid.wl b w;exact⟨B,by rw[m7 c];exact q,m⟩
def dB(h:Same c H)(d:c a=none):Same c (upd H a o):=λ b u e=>by
 rw[m7 (z8 e d)];exact h b u e
def rZ{own:Bool}(h:(if own then cN i δ d cl else(if stro d cl then some (.nx (δ.set i (.val d)))else none))=some o)
  (R:RSt D H σ δ O W) (fr:∀a∈W,c a=none) (sm:Same c H) (k:dEnd D c O j o):∀v e,Same H e->Got D O W H e d cl v->j.nx (σ.set i (some v)) e:=λ v b s1 g=>by
 cases own with
 | true=>
  simp only[if_true]at h;unfold cN at h;split at h
  ·cases h;obtain⟨p,xs,ds,s,r,f,q,n⟩:=g;subst s r;exact k _ b (p::W) (R.alloc s1 f q n i) (λ a l=>by
    rcases i5.mp l with z | z
    ·rw[z];exact sm.free f
    ·exact fr a z) (sm.trans s1)
  ·split at h
   ·cases h;exact k _ b W ((R.mono s1).setVal (V1.mpr (V1.mp (g.weak (R.hid.mono s1)))) i) fr (sm.trans s1)
   ·cases h
 | false=>
  simp only[G1,if_false]at h;split at h
  ·rename_i m;cases h;exact k _ b W ((R.mono s1).setVal (g.stro (R.hid.mono s1) m) i) fr (sm.trans s1)
  ·cases h
def se{X:Cx}{δ:on Sv}{o:Out}{e:JK}{pos pos':Pos}{ra:JF Re}{i:Nat}{x:Str}{own:Bool}(hN:X.N.Nodup)(hi:X.N[i]? = some x)(hx:Loc X.env.scope x)(hf:X.fn x=true\/X.env.scope.names.lookup x=some .local)(ha:∀q,ra=some q->PE X e (dE X.D δ q))(hc:swapsWith e (some (.Name x pos')) pos.line X.env=pure false)
  (h:(Re.thnS δ ra λ d c=>if own then cN i δ d c else(if stro d c then some (.nx (δ.set i (.val d)))else none))=some o):PS X (.Assign [.Name x pos'] e pos) (dS X.D δ o):=by
 cases hra:ra with
 | none=>rw[hra]at h;cases h
 | some q=>
  rw[hra]at h;have A:=ha q hra;cases q with
  | ok d cl=>exact(ol hN hi hx A hc hf).weak λ Dn σ H ⟨H0,O,W,R,fr,fo,sm,k⟩=>⟨O,W,R,rZ h R fr sm k⟩
def Ej{X:Cx}{δ:on Sv}{o:Out}{pos pos':Pos}{i:Nat}{x:Str}{own:Bool}{tgE iter elt:JK}{ifs:on JK}{scope:JR}{N':on Str}{fr:on (JF Nat)}{tg:Tg}{re:Re}(S:CompScope X.N N' scope X.env.scope fr)(hc:X.calm=true)(hN:X.N.Nodup)(hi:X.N[i]? = some x)(hx:X.env.scope.names.lookup x=some .local)
  (P:V6 X δ tgE iter ifs elt scope N' fr tg re) (hG:∀C cells s₂ H₂ fp,PG (t5 X scope N' C cells s₂ H₂ fp) tgE (gT X.K tg)) (hset:F8 iter=false) {cpos:Pos} (hsw:swapsWith (.ListComp elt [⟨tgE,iter,ifs,0⟩] scope cpos) (some (.Name x pos')) pos.line X.env=pure true)
  (h:(Re.thnS δ (some re) λ d c=>if own then cN i δ d c else(if stro d c then some (.nx (δ.set i (.val d)))else none))=some o):PS X (.Assign [.Name x pos'] (.ListComp elt [⟨tgE,iter,ifs,0⟩] scope cpos) pos) (dS X.D δ o):=by
 obtain⟨wi,tc,te,h1,h2,h3,h4⟩:=P;refine(zI S hc hN hi hx h1 hG h2 h3 hsw (ly hset)).weak λ Dn σ H ⟨H0,O,W,R,fr,fo,sm,k⟩=>?_
 unfold tAsg;refine h4 σ H _ ⟨O,W,R,?_⟩;cases re with
 | ok d cl=>exact rZ h R fr sm k
def Ek(hv:PE X (.Name x b) (tVar i))(I:∀q,r=some q->PE X e (dE X.D δ q))(s:s9 e=false)(n:(j.endLine==f.line)=true)
  (h:(match δ[i]? with
   | some (.own (.lst p))=>Re.thnS δ r λ d c=>if stro d c/\p.length<m9 then some (.nx (δ.set i (.own (.lst (p++[d])))))else none
   | _=>none)=some o):PS X (.Expr (.Call (.Attribute (.Name x b) "append" j) [e] [] f) pos) (dS X.D δ o):=by
 split at h
 ·rename_i p y;cases l:r with
  | none=>rw[l]at h;cases h
  | some q=>
   rw[l]at h;have A:=I q l;cases q with
   | ok d cl=>
    have u:(if stro d cl/\p.length<m9 then some (Out.nx (δ.set i (.own (.lst (p++[d])))))else none)=some o:=h;split at u
    ·rename_i m;cases u;exact((λ t (J:PE X e t)=>jm (oT nC PySem.F.slot_list_append PySem.F.type_list_append zm hv (P6 J U5 (x5 s)) rfl (by rw[x5 s];rfl) n (x5 s) rfl) rfl) _ A).weak λ Dn F H ⟨H0,O,W,R,z,fo,sm,k⟩=>by obtain⟨a,w,M,L,E,K,C,B⟩:=R.own i _ y;cases L;refine⟨.ref a,E,.inl ⟨rfl,w,SqL.of C⟩,O,W,R,λ v H1 s1 g=>?_⟩;refine⟨a,w,v,rfl,rfl,s1 _ _ C,by rw[B.length];exact t6 m.2 JY,?_⟩;exact k F _ W ((R.mono s1).write y E ((B.mono s1.wo).append (RepL.one (g.stro (R.hid.mono s1) m.1)))) z (dB (sm.trans s1) (z a K))
    ·cases u
 ·cases h
def El(hv:PE X (.Name x b) (tVar i))(U:∀q,z=some q->PE X e (dE X.D δ q))(Q:∀q,w=some q->PE X l (dE X.D δ q))(E:Z3 l=false)
  (h:(match δ[i]? with
   | some (.own (.lst s))=>Re.thnS δ z λ d c=>Re.thnS δ w λ k _=>(match k with
    | .int k=>(match C9 s.length k with
     | some j=>if stro d c then some (.nx (δ.set i (.own (.lst (s.set j d)))))else none
     | none=>none)
    | _=>none)
   | _=>none)=some o):PS X (.Assign [.Subscript (.Name x b) l f] e pos) (dS X.D δ o):=by
 have sub:∀v,assign (.Subscript (.Name x b) l f) X.env v=(do
   let ov ←holding [v] (eval (.Name x b) X.env)
   let iv ←holding [v,ov] (eval l X.env)
   standAt f
   holding [v,ov,iv] (setItem ov iv v)
   release [v,ov,iv] []):=by cases l<;>first | (intro _;rfl) | cases E
 have C:=λ t N (Z:PE X e t) (Y:PE X l N)=>oj (pos:=pos) Z (xL hv Y zf sub) (by cases e<;>rfl) (by cases e<;>rfl) rfl;split at h
 ·rename_i s F;cases p:z with
  | none=>rw[p]at h;cases h
  | some q=>
   rw[p]at h;have A:=U q p;cases q with
   | ok d cl=>
    cases n:w with
    | none=>rw[n]at h;cases h
    | some q=>
     rw[n]at h;have B:=Q q n;cases q with
     | ok dk ck=>
      have r:(match(generalizing:=false) dk with
       | .int k=>(match C9 s.length k with
        | some j=>if stro d cl then some (Out.nx (δ.set i (.own (.lst (s.set j d)))))else none
        | none=>none)
       | _=>none)=some o:=h
      split at r
      ·rename_i P;split at r
       ·rename_i j S;split at r
        ·rename_i m;cases r;exact(C _ _ A B).weak λ Dn L H ⟨H0,O,W,R,I,fo,sm,k⟩=>⟨O,W,R,λ v H1 s1 g=>by
          have u:=R.mono s1;obtain⟨a,M,ds0,e0,K,e2,e3,J⟩:=u.own i _ F;cases e0;refine⟨.ref a,K,O,W,u,λ y H2 s2 g2=>?_⟩;have R2:=u.mono s2;refine⟨a,M,P,j,rfl,g2.int (u.hid.mono s2),s2 _ _ e3,by rw[J.length];exact S,?_⟩;exact k L _ W (R2.write F K (RepL.set ((g.mono s2).stro ((R.hid.mono s1).mono s2) m) j (J.mono s2.wo))) I (dB ((sm.trans s1).trans s2) (I a e2))⟩
        ·cases r
       ·cases r
      ·cases r
 ·cases h
def RSt.freeze(R:RSt D H σ δ O W)(o:δ[i]? = some (.own d)):∃x,(∀a∈x,a∈W)/\RSt D H σ (δ.set i (.val d)) O x:=by
 obtain⟨a,A,ds,M,w,L,u,K⟩:=R.own i d o;subst M;have hl:=(v9.mp o).1;have sub:∀b∈O++W.filter (λ b=>decide (b≠a)),b∈O++W:=λ b c=>by
  rcases C7.mp c with z | z
  ·exact B4 _ z
  ·exact u4 _ (A2.mp z).1
 have p:a∉O++W.filter (λ b=>decide (b≠a)):=λ z=>by
  rcases C7.mp z with z | z
  ·exact R.hid.dj a L z
  ·exact absurd rfl (eL (A2.mp z).2)
 refine⟨W.filter λ b=>decide (b≠a),λ b c=>(A2.mp c).1,⟨λ j d h=>?_,λ j n h=>?_,λ j k b P N r q f g=>?_,R.od.step (qN (by intro d z;cases z)) (λ b c ⟨J,h,m⟩=>A2.mpr ⟨c,B1 λ z=>by rw[z,u]at h;cases h;cases m⟩) (λ _ _ _ h _=>h),by rw[C4];exact R.len,
  ⟨λ b c=>R.hid.ot b (sub b c),Same.refl _,λ b c=>R.hid.wl b (A2.mp c).1,λ b c=>R.hid.dj b (A2.mp c).1,R.hid.om⟩⟩⟩
 ·by_cases l:j=i
  ·subst l;obtain⟨_,e⟩:=V8 h;cases e;exact⟨.ref a,w,G8.mpr ⟨a,A,rfl,by rw[j9 p];exact u,K.mono (G0 sub)⟩⟩
  ·rw[u5 (Ne.symm l)]at h;obtain⟨v,f,g⟩:=R.val j d h;exact⟨v,f,g.mono (G0 sub)⟩
 ·have l:=L8 h (by intro z;cases z);rw[u5 (Ne.symm l)]at h;obtain⟨b,y,s,E,f,g,C,B⟩:=R.own j n h;refine⟨b,y,s,E,f,A2.mpr ⟨g,B1 λ z=>l (R.inj j i a n _ h o (by rw[←z];exact f) w)⟩,C,B.mono (G0 sub)⟩
 ·have I:=L8 r (by intro z;cases z);have F:=L8 q (by intro z;cases z);rw[u5 (Ne.symm I)]at r;rw[u5 (Ne.symm F)]at q;exact R.inj j k b P N r q f g
def Em{rest:on JP}(c:δ[i]? = some (.own d))(h:PSs X rest (dS X.D (δ.set i (.val d)) o)):PSs X rest (dS X.D δ o):=h.weak λ Dn σ H ⟨l,O,W,R,f,fo,sm,k⟩=>by
 obtain⟨g,b,j⟩:=R.freeze c;exact⟨l,O,g,j,λ a e=>f a (b a e),fo,sm,k⟩
def Got.seq(g:Got D O W n H d c v)(m:Hid O W n H)(o:c=.strong\/c=.fresh)(f:P8 d=some (b,k)):∃a e,v=.ref a/\(SqL D.K H a e\/SqT D.K H a e)/\RepL D (L2.wo (O++W) H) k e:=by
 have l:c ≠ .weak:=by rcases o with z | z<;>(rw[z];intro q;cases q)
 unfold P8 at f;split at f
 ·cases f;obtain⟨a,e,j,i,h⟩:=g.items m l;exact⟨a,e,j,.inl (SqL.of i),h⟩
 ·cases f;obtain⟨a,e,j,i,h⟩:=g.itemsT m l;exact⟨a,e,j,.inr i,h⟩
 ·cases f
def En(hv:PE X (.Name x f) (tVar i))(P:∀q,y=some q->PE X e (dE X.D δ q))(z:s9 e=false)(p:(l.endLine==j.line)=true)
  (h:(match δ[i]? with
   | some (.own (.lst u))=>Re.thnS δ y λ d c=>if c=.strong\/c=.fresh then(match P8 d with
    | some (_,s)=>if u.length+s.length<=m9 then some (.nx (δ.set i (.own (.lst (u++s)))))else none
    | none=>none)else none
   | _=>none)=some o):PS X (.Expr (.Call (.Attribute (.Name x f) "extend" l) [e] [] j) pos) (dS X.D δ o):=by
 split at h
 ·rename_i u E;cases n:y with
  | none=>rw[n]at h;cases h
  | some q=>
   rw[n]at h;have A:=P q n;cases q with
   | ok d cl=>
    have r:(if cl=.strong\/cl=.fresh then(match P8 d with
     | some (_,s)=>if u.length+s.length<=m9 then some (Out.nx (δ.set i (.own (.lst (u++s)))))else none
     | none=>none)else none)=some o:=h
    split at r
    ·rename_i B;split at r
     ·rename_i b s N;split at r
      ·rename_i m;cases r;exact((λ t (Q:PE X e t)=>jm (oT nC PySem.F.slot_list_extend PySem.F.type_list_extend AH hv (P6 Q U5 (x5 z)) rfl (by rw[x5 z];rfl) p (x5 z) rfl) rfl) _ A).weak λ Dn M H ⟨H0,O,W,R,F,fo,sm,k⟩=>by obtain⟨a,C,ds0,Z,L,Y,K,J⟩:=R.own i _ E;cases Z;refine⟨.ref a,L,.inl ⟨rfl,C,SqL.of K⟩,O,W,R,λ v H1 s1 g=>?_⟩;obtain⟨a2,w,U,S,I⟩:=g.seq (R.hid.mono s1) B N;refine⟨a,a2,C,w,rfl,by rw[U],s1 _ _ K,S,by rw[J.length,I.length];exact i9 m JY,?_⟩;exact k M _ W ((R.mono s1).write E L ((J.mono s1.wo).append I)) F (dB (sm.trans s1) (F a Y))
      ·cases r
     ·cases r
    ·cases r
 ·cases h
def Eo(h:kz v=true):swappedStores [.Tuple b k p] v env=pure none:=by
 cases q:L7 v with
 | none=>cases v<;>first | rfl | cases q
 | some a=>
  obtain⟨k2,p2,rfl⟩:=cY q;have c:a.all _=true:=h;unfold swappedStores;simp only[c]
  repeat (first | rfl | split)
def Ep(B:PG X (.Tuple m kk n) (gSeq X.K is.length (dw is)))(C:∀q,p=some q->PE X e (dE X.D δ q))(E:S4 e=false)(y:kz e=true)
  (h:(Re.thnS δ p λ d c=>if c=.strong\/c=.fresh then(match P8 d with
   | some (_,i)=>(S0 δ is i).map Out.nx
   | none=>none)else none)=some o):PS X (.Assign [.Tuple m kk n] e pos) (dS X.D δ o):=by
 cases a:p with
 | none=>rw[a]at h;cases h
 | some q=>
  rw[a]at h;have A:=C q a;cases q with
  | ok d cl=>
   have f:(if cl=.strong\/cl=.fresh then(match P8 d with
    | some (_,i)=>(S0 δ is i).map Out.nx
    | none=>none)else none)=some o:=h
   split at f
   ·rename_i r;split at f
    ·rename_i b i z;obtain⟨w,s,x⟩:=v4.mp f;subst x;exact((λ t (F:PE X e t)=>oj F B (by show swapsWith e (some (.Tuple m kk n)) pos.line X.env=pure false;exact gw E) (Eo y) rfl) _ A).weak λ Dn σ H ⟨H0,O,W,R,I,fo,sm,k⟩=>⟨O,W,R,λ v N s1 g=>by
      obtain⟨L,l,K,J,u⟩:=g.seq (R.hid.mono s1) r z;exact⟨L,l,K,J,by rw[u.length,(gu s).1],lu (R.mono s1) u s λ j M=>k j N W M I (sm.trans s1)⟩⟩
    ·cases f
   ·cases f
def Er(h:asIv o=some a):o=some (.val (.int a)):=by
 cases o with
 | none=>cases h
 | some sv=>cases sv with
  | val d=>rw[y9 h]
  | _=>cases h
def Es(s:X.N.Nodup)(m:X.N[i]? = some x)(l:Loc X.env.scope x)(n:X.fn x=true\/X.env.scope.names.lookup x=some .local)(p:∀q,f=some q->PE X e (dE X.D δ q))(hv:δ[i]? = some (JZ a))(h:(Re.thnS δ f λ d _=>(asI d).bind λ b=>some (Out.nx (δ.set i (JZ (a+b)))))=some o):PS X (.AugAssign (.Name x pos') .Add e pos) (dS X.D δ o):=by
 cases c:f with
 | none=>rw[c]at h;cases h
 | some q=>
  rw[c]at h;have A:=xM (pos:=pos) (pos':=pos') s m l (p q c) xN n;cases q with
  | ok d cl=>
   obtain⟨b,r,h⟩:=p4.mp (h);obtain rfl:=y9 r;cases h;refine A.weak λ Dn σ H t0=>?_;obtain⟨H0,O,W,R,u,fo,sm,k⟩:=t0
   obtain⟨v,j,w⟩:=R.val i _ hv;rw[u6.mp w]at j;exact⟨.int a,j,O,W,R,λ v y s1 g=>by
     have:=g.int (R.hid.mono s1);subst this;exact⟨a,b,rfl,rfl,k _ y W ((R.mono s1).setVal (u6.mpr rfl) i) u (sm.trans s1)⟩⟩
def PSs.any{t:ι->TS}(h:∀k,PSs X body (t k)):PSs X body (λ D b H=>∃k,t k D b H):=λ a s b H D I ⟨k,q⟩=>h k a s b H D I q
def PT.any{t:ι->TT}(h:∀k,PT X e (t k)):PT X e (λ b H Q=>∃k,t k b H Q):=λ a s b H Q I ⟨k,q⟩=>h k a s b H Q I q
structure Lp(H0 H1:Hp)(O W:List Addr):Prop where
 out:∀{H:Hp},Same (L2.wo W H1) H->Same H0 H
 outW:∀{a:Addr},L2.wo W H1 a=none->H0 a=none
 in1:∀a∈W,L2.wo W H1 a=none
 in2:∀a∈O,L2.wo W H1 a≠none
 wsame:∀{H:Hp},Same (L2.wo W H1) H->Same (L2.wo (O++W) H1) (L2.wo (O++W) H)
def Lp.mk'(fr:∀a∈W,d a=none)(fo:∀a∈O,d a≠none)(sm:Same d g):Lp d g O W where
 out:=λ {H} s b u e=>s b u (by
  rw[j9 λ z=>by rw[fr b z]at e;cases e];exact sm b u e)
 outW:=λ {a} q=>by
  by_cases z:a∈W
  ·exact fr a z
  ·rw[j9 z]at q;exact sm.free q
 in1:=λ a c=>V2 c
 in2:=λ a c=>by rw[j9 λ z=>fo a c (fr a z)];intro q;exact fo a c (sm.free q)
 wsame:=λ {H} s b u e=>by obtain⟨f,e⟩:=B8 e;rw[j9 f];exact s b u (by rwa [j9 λ z=>f (u4 _ z)])
def Lp.gotR(L:Lp b a O W)(g:GotR D O (L2.wo W a) H d fr v):GotR D O b H d fr v:=by
 cases fr with
 | false=>exact g
 | true=>
  obtain⟨p,c,k,j,i,h,f,e⟩:=g;exact⟨p,c,k,j,i,L.outW h,f,e⟩
def Et(hp:PassesOwn Kb X.A X.env X.xe)(hc:X.calm=true)(hi:∀q,ri=some q->PI X u j (dI X.D δ q))(hG:PG X u (gT X.K tg))(hb:∀δ' o,f δ'=some o->PSs X body (dS X.D δ' o))(M:F8 j=false)
  (h:(Ri.thnS δ ri λ l c=>if c=.strong\/c=.fresh then q0 tg f l δ else none)=some o):PS X (.For u j body [] pos) (dS X.D δ o):=by
 have B:PSs X body (λ D E H=>∃k:{p:on Sv×Out // f p.1=some p.2},dS X.D k.1.1 k.1.2 D E H):=PSs.any λ k=>hb k.1.1 k.1.2 k.2;cases C:ri with
 | none=>rw[C]at h;cases h
 | some q=>
  rw[C]at h;have A:=hi q C;cases q with
  | ok l c=>
   have h':(if c=.strong\/c=.fresh then q0 tg f l δ else none)=some o:=h;split at h'
   ·rename_i m;refine(ya hp hc A hG B (ly M)).weak λ Dn E H ⟨H0,O,W,R,fr,fo,sm,k⟩=>⟨O,W,R,λ J I s1 w=>?_⟩
    have R1:=R.mono s1;have L:=Lp.mk' fr fo (sm.trans s1);have w:Wk X.D J l (O++W) (O++W) I:=(by rcases m with m | m<;>subst m<;>exact w);refine⟨λ i n E H=>n=l.length - i/\i<=l.length/\∃b F,q0 tg f (l.drop i) b=some o/\RSt X.D H E b O F/\(∀a∈F,L2.wo W I a=none)/\Same (L2.wo W I) H,
     ⟨l.length,rfl,F3 _,δ,W,h',R1,L.in1,v6⟩,?_⟩
    rintro i n S P ⟨rfl,hi,b,W2,hgo,R2,b1,b2⟩
    by_cases s:i<l.length
    ·refine .inr ⟨w.go i P (L.wsame b2) s,λ E H=>∃b F,q0 tg f _ b=some o/\RSt X.D H E b O F/\_/\Same (L2.wo W I) H,
      λ U H' q=>⟨l.length - (i+1),by omega,rfl,s,q⟩,λ x H3 y=>?_⟩
     have Y:=w.same i P x H3 y;have y3:=w.yld i P x H3 _ (O++W2) (L.wsame b2) (L.wsame b2) y (n6 s) λ a Q=>⟨R2.hid.ot a Q,by
      rcases C7.mp Q with z | z
      ·exact .inl (B4 _ z)
      ·have q:=b1 a z;by_cases hw:a∈W
       ·exact .inl (u4 _ hw)
       ·rw[j9 hw]at q;exact .inr q⟩
     rw[hV s]at hgo;unfold q0 at hgo;split at hgo
     ·cases hgo
     ·rename_i K a2;refine lv (R2.mono Y) y3 a2 λ σ3 R3=>?_
      split at hgo
      ·rename_i r a1;exact⟨⟨⟨K,.nx r⟩,a1⟩,L2.wo W I,O,W2,R3,b1,L.in2,b2.trans Y,λ U H' F R' N Z=>⟨r,F,hgo,R',N,Z⟩⟩
      ·rename_i a0;refine⟨⟨⟨K,o⟩,hgo⟩,L2.wo W I,O,W2,R3,b1,L.in2,b2.trans Y,?_⟩;cases o with
       | nx r=>exact absurd hgo (a0 r)
       | rt d N=>exact λ v H' s' g=>k v H' (L.out s') (L.gotR g)
    ·have e:i=l.length:=by omega
     subst e;rw[List.drop_length]at hgo;cases hgo;exact .inl ⟨w.stop P (L.wsame b2),k S P W2 R2 (λ a Q=>L.outW (b1 a Q)) (L.out b2)⟩
   ·cases h'
def Eu(J:PassesOwn Kb X.A X.env X.xe)(K:∀δ' r,e δ'=some r->PT X c (dT X.D δ' r))(M:∀δ' o,f δ'=some o->PSs X body (dS X.D δ' o))(h:G3 e f n δ=some o):PS X (.While c body [] pos) (dS X.D δ o):=by
 have B:PSs X body (λ D j H=>∃k:{p:on Sv×Out // f p.1=some p.2},dS X.D k.1.1 k.1.2 D j H):=PSs.any λ k=>M k.1.1 k.1.2 k.2;have T:PT X c (λ j H Q=>∃k:{p:on Sv×Rt // e p.1=some p.2},dT X.D k.1.1 k.1.2 j H Q):=PT.any λ k=>K k.1.1 k.1.2 k.2;refine(xP J T B).weak λ Dn j H t0=>?_;obtain⟨H0,O,W,R,P,fo,sm,k⟩:=t0;have L:=Lp.mk' P fo sm;refine⟨λ m j w=>∃b u,G3 e f m b=some o/\RSt X.D w j b O u/\(∀a∈u,L2.wo W H a=none)/\Same (L2.wo W H) w,⟨n,δ,W,h,R,L.in1,v6⟩,?_⟩
 rintro m A w ⟨b,W2,hgo,R2,b1,b2⟩
 cases m with
 | zero=>cases hgo
 | succ m=>
  unfold G3 at hgo;split at hgo
  ·cases hgo
  ·rename_i l;cases hgo;refine⟨⟨⟨b,.ok false⟩,l⟩,O,W2,R2,λ x s=>iteF ?_⟩;exact k A x W2 (R2.mono s) (λ a N=>L.outW (b1 a N)) (L.out (b2.trans s))
  ·rename_i l;refine⟨⟨⟨b,.ok true⟩,l⟩,O,W2,R2,λ x s=>iteT ?_⟩;refine⟨λ j w=>∃b u,G3 e f m b=some o/\RSt X.D w j b O u/\_/\Same _ w,λ C x q=>⟨m,T6 m,q⟩,?_⟩;split at hgo
   ·rename_i i y;exact⟨⟨⟨b,.nx i⟩,y⟩,L2.wo W H,O,W2,R2.mono s,b1,L.in2,b2.trans s,λ C x u S z E=>⟨i,u,hgo,S,z,E⟩⟩
   ·rename_i F;refine⟨⟨⟨b,o⟩,hgo⟩,L2.wo W H,O,W2,R2.mono s,b1,L.in2,b2.trans s,?_⟩;cases o with
    | nx i=>exact absurd hgo (F i)
    | rt d z=>exact λ v x I g=>k v x (L.out I) (L.gotR g)
def RSt.anyNo(R:RSt D H σ δ O W)(n:δ[i]? = some .no)(x:JF V):RSt D H (σ.set i x) δ O W:=by
 have ne:∀{j:Nat} {s:Sv},δ[j]? = some s->s ≠ .no->j≠i:=λ {j s} h l z=>by subst z;rw[n]at h;cases h;exact l rfl
 have b:∀{j:Nat},j≠i->(σ.set i x)[j]? = σ[j]?:=λ {j} m=>u5 (Ne.symm m);refine⟨λ j d h=>?_,λ j d h=>?_,λ j k a p o e c g f=>?_,R.od.step (λ j d h=>⟨h,b (ne h (by intro z;cases z))⟩) (λ _ h _=>h) (λ _ _ _ h _=>h),by rw[C4];exact R.len,R.hid⟩
 ·rw[b (ne h (by intro z;cases z))];exact R.val j d h
 ·rw[b (ne h (by intro z;cases z))];exact R.own j d h
 ·rw[b (ne e (by intro z;cases z))]at g;rw[b (ne c (by intro z;cases z))]at f;exact R.inj j k a p o e c g f
section
variable {κ:Type} [DecidableEq κ]
noncomputable def valV(kvs:on (κ×V))(k:κ):JF V:=(kvs.find? λ kv=>decide (kv.1=k)).map (·.2)
noncomputable def putK(kvs:on (κ×V))(k:κ)(v:V):on (κ×V):=
 if(kvs.any λ kv=>decide (kv.1=k))=true then kvs.map (λ kv=>if kv.1=k then(kv.1,v)else kv)else kvs++[(k,v)]
def gz{k:κ}(e:p.1=k):valV (p::r) k=some p.2:=by simp[valV,aN,e]
def gA{k:κ}(e:¬p.1=k):valV (p::r) k=valV r k:=by simp[valV,aN,e]
theorem sh(k:κ):∀a:on (κ×V),(a.any λ b=>decide (b.1=k))=(valV a k).isSome
 | []=>rfl
 | p::r=>by
  rw[J2];by_cases e:p.1=k
  ·simp only[gz e,B1 e,je,Option.isSome_some]
  ·rw[gA e,A7 e,iX];exact sh k r
def si(a:on (κ×V))(k:κ)(v:V):(putK a k v).length<=a.length+1:=by
 unfold putK;split
 ·rw[g7];omega
 ·rw[t7,p9,Y1];omega
def RelO.isSome_eq(r:RelO o u):o.isSome=u.isSome:=by
 cases o with
 | none=>cases u with
  | none=>rfl
  | some _=>exact(r).elim
 | some _=>cases u with
  | none=>exact(r).elim
  | some _=>rfl
def KV.val(r:KV a vs)(k:κ):RelO (valV a k) (valueAt vs k):=by
 unfold KV at r
 induction r with
 | nil=>exact True.intro
 | @cons p q ps qs h t ih=>
  obtain⟨d,f⟩:=h;by_cases e:p.1=k
  ·have c:=d.symm.trans e;have b:valueAt (q::qs) k=some q.2:=by simp[valueAt,aN,c]
   rw[gz e,b];exact f
  ·have c:¬q.1=k:=λ z=>e (d.trans z);have b:valueAt (q::qs) k=valueAt qs k:=by simp[valueAt,aN,c]
   rw[gA e,b];exact ih
theorem KV.any(r:KV a vs)(k:κ):(a.any λ b=>decide (b.1=k))=vs.any λ b=>decide (b.1=k):=by
 unfold KV at r
 induction r with
 | nil=>rfl
 | cons h t c=>rw[J2,J2,c,h.1]
def KV.repl(r:KV b vs)(k:κ)(d:RelV y u) :
  KV (b.map λ a=>if a.1=k then(a.1,y)else a) (vs.map λ a=>if a.1=k then(a.1,u)else a):=by
 unfold KV at r ⊢
 induction r with
 | nil=>exact .nil
 | @cons p q ps qs h t ih=>
  rw[o5,o5];refine .cons ?_ ih;obtain⟨c,f⟩:=h;by_cases e:p.1=k
  ·rw[f8 e,f8 (c.symm.trans e)];exact⟨c,d⟩
  ·rw[g8 e,g8 (λ z=>e (c.trans z))];exact⟨c,f⟩
def KV.put(r:KV a vs)(k:κ)(b:RelV y u):KV (putK a k y) (stored vs k u):=by
 unfold putK stored;rw[r.any k];by_cases e:(vs.any λ c=>decide (c.1=k))=true
 ·rw[f8 e,f8 e];exact r.repl k b
 ·rw[g8 e,g8 e];exact Paired.snoc r ⟨rfl,b⟩
theorem KV.length(r:KV a vs):a.length=vs.length:=fc r
end
def lB(r:RelV (kV k) u):(F4 P w).is k u=true:=by
 cases k with
 | inl i=>obtain⟨t,e⟩:=(r);subst e;exact xn P w i t
 | inr x=>obtain⟨t,e⟩:=(r);subst e;exact xo P w x t
theorem gB:∀{ks:on Key} {us:on JG},Vals (ks.map kV) us->ItemsAre (F4 P w) ks us
 | [],_,r=>by rw[fh]at r;cases r;exact .nil
 | k::ks,_,r=>by
  rw[o5]at r;cases r with
  | cons h t=>exact .cons (lB h) (gB t)
abbrev KT(H:Hp):on (on Key×V)->on (on Key×JI×JG)->Prop:=Paired λ p q=>p.1=q.1/\H q.2.1=some (.tup (p.1.map kV))/\RelV p.2 q.2.2
def KT.val(r:KT H a xs)(k:on Key):RelO (valV a k) ((atKey xs k).map (·.2)):=by
 induction r with
 | nil=>exact True.intro
 | @cons p q ps qs h t ih=>
  obtain⟨d,_,f⟩:=h;by_cases e:p.1=k
  ·have c:=d.symm.trans e;have b:atKey (q::qs) k=some q.2:=by simp[atKey,aN,c]
   rw[gz e,b];exact f
  ·have c:¬q.1=k:=λ z=>e (d.trans z);have b:atKey (q::qs) k=atKey qs k:=by simp[atKey,aN,c]
   rw[gA e,b];exact ih
def KT.repl(r:KT H a xs)(k:on Key)(f:RelV y u) :
  KT H (a.map λ c=>if c.1=k then(c.1,y)else c) (xs.map (putAt k u)):=by
 induction r with
 | nil=>exact .nil
 | @cons p q ps qs h t ih=>
  rw[o5,o5];refine .cons ?_ ih;obtain⟨b,d,g⟩:=h;unfold putAt;by_cases e:p.1=k
  ·rw[f8 e,f8 (b.symm.trans e)];exact⟨b,d,f⟩
  ·rw[g8 e,g8 (λ z=>e (b.trans z))];exact⟨b,d,g⟩
def KT.put(r:KT H a xs)(k:on Key)(d:H b=some (.tup (k.map kV)))(c:RelV y u) :
  KT H (putK a k y) (storedH xs k b u):=by
 have e:(a.any λ kv=>decide _)=(atKey xs k).isSome:=(by rw[sh,(r.val k).isSome_eq,Option.isSome_map]);unfold putK storedH;rw[e];by_cases q:(atKey xs k).isSome=true
 ·rw[f8 q,f8 q];exact r.repl k c
 ·rw[g8 q,g8 q];exact Paired.snoc r ⟨rfl,d,c⟩
def KT.keeps(r:KT H a xs)(ht:∀b c,H b=some (.tup c)->d b=some (.tup c)):KT d a xs:=
 Paired.mapP r λ _ _ z=>⟨z.1,ht _ _ z.2.1,z.2.2⟩
def lC(ok:HOk P w H h)(e:Rd H a u):u9 P w H h a u:=e.ok ok
def lD(ok:HOk P w H h)(e:Rd H a (.dK b)):b.length<=sizeLine/\(a==sysModules)=false/\∃vs,KV b vs/\h.DictOf (F4 P w) a vs:=
 show u9 P w H h a (.dK b)from lC ok e
def Ev(ok:HOk P w H h)(e:H a=some (.dK b)):b.length<=sizeLine/\(a==sysModules)=false/\∃vs,KV b vs/\h.DictOf (F4 P w) a vs:=lD ok (.inl e)
def lE(ok:HOk P w H h)(e:H a=some (.tup (ks.map kV))):(tupleKind (F4 P w)).is h ks a:=by
 obtain⟨_,b,r,o,f,d,n,c⟩:=(show u9 P w H h a (.tup _)from ok a _ e);exact⟨o,b.toArray,n,f,d.1,c,by simpa using gB r⟩
def dF(ok:HOk P w H h)(e:Rd H a (.dT b)):b.length<=sizeLine/\(a==sysModules)=false /\
  ∃xs,KT H b xs/\h.DictOfH (tupleKind (F4 P w)) a xs:=by
 obtain⟨z,y,xs,r,o,k,n,j,i,g,f,d⟩:=(show u9 P w H h a (.dT b)from lC ok e);refine⟨z,y,xs,r,o,k,n,j,i,g,f,λ x c=>?_,d⟩;have all:∀{l:on _} {m:on _},KT H l m->∀x∈m,(tupleKind (F4 P w)).is h x.1 x.2.1:=by
  intro l m q
  induction q with
  | nil=>intro x c;exact nomatch c
  | @cons p q ps qs hq t ih=>
   intro x c;rcases i5.mp c with e | c
   ·subst e;exact lE ok (by rw[←hq.1];exact hq.2.1)
   ·exact ih x c
 exact all r x c
def Ew(ok:HOk P w H h)(e:H a=some (.dT b)):b.length<=sizeLine/\(a==sysModules)=false /\
  ∃xs,KT H b xs/\h.DictOfH (tupleKind (F4 P w)) a xs:=dF ok (.inl e)
def DGet(H:Hp)(a:JI)(y:V)(r:JF V):Prop:=
 (∃kvs k,Rd H a (.dK kvs)/\y=kV k/\r=valV kvs k)\/∃kvs k b,Rd H a (.dT kvs)/\y=.ref b/\H b=some (.tup (k.map kV))/\r=valV kvs k
def DPut(H:Hp)(a:JI)(y v:V)(H':Hp):Prop:=
 (∃kvs k,H a=some (.dK kvs)/\y=kV k/\kvs.length<sizeLine/\H'=upd H a (.dK (putK kvs k v))) \/
 ∃kvs k b,H a=some (.dT kvs)/\y=.ref b/\H b=some (.tup (k.map kV))/\kvs.length<sizeLine/\H'=upd H a (.dT (putK kvs k v))
def DPut.t{k:on Key}(e:H a=some (.dT c))(f:H b=some (.tup (k.map kV)))(d:c.length<sizeLine) :
  DPut H a (.ref b) v (upd H a (.dT (putK c k v))):=.inr ⟨c,k,b,e,rfl,f,d,rfl⟩
def Inv.big(I:Inv X a σ H s):sysModules<s.heap.objs.size:=by
 exact P2 JY ((I.mod.glob.keeps I.bk).lt)
def Ex(x:A.units+1<cLine)(I:Inv X c σ H s)(g:DGet H a y (some v))(w:RelV y u)(h:∀i r,Inv X c σ H r->RelV v i->Q i r) :
  wpAny Kb A (getItem (.ref a) u) Q E s:=by
 rcases g with⟨j,k,e,o,l⟩ | ⟨j,k,b,e,o,eb,l⟩
 ·subst o;obtain⟨z,hd,vs,f,q⟩:=lD I.hok e;obtain⟨i,m,d⟩:=RelO.some_of (by rw[l];exact f.val k);exact wpAny_getItem_of (lB w) q.mapOf m (h i _ (I.tok _) d)
 ·subst o;cases(w);obtain⟨z,hd,xs,f,q⟩:=dF I.hok e;obtain⟨i,m,d⟩:=RelO.some_of (by rw[l];exact f.val k);obtain⟨p,B,n⟩:=v4.mp m;refine wpAny_getItem_heap (iw x) (lE I.hok eb) q B ?_;rw[n];exact h i _ (I.tok _) d
def sj(I:Inv X c σ H s)(e:Mut (H a))(f:Heap.SameBut a s.heap h')(g:∃q,h'.get? a=some q)(new:u9 X.prog X.w (upd H a d) h' a d) :
  Inv X c σ (upd H a d) {s with heap:=h',toks:=t'}:=
 I.write e (.inl rfl) (λ b q h z=>(f.2 b h).trans z) g new
def Ey(z:b.length<=sizeLine)(hd:(a==sysModules)=false)(c:KV b vs)(d:h'.DictOf (F4 P w) a vs) :
  u9 P w e h' a (.dK b):=⟨z,hd,vs,c,d⟩
def Ez(P:A.units+1<cLine)(I:Inv X j σ H s)(g:DPut H a y v L)(C:RelV y u)(F:RelV v r)(h:∀B,Inv X j σ L B->Q () B) :
  wpAny Kb A (setItem (.ref a) u r) Q E s:=by
 rcases g with⟨f,k,e,p,l,w⟩ | ⟨f,k,b,e,p,eb,l,w⟩
 ·subst p w;obtain⟨z,hd,N,d,x⟩:=Ev I.hok e;have O:N.length<=sizeLine:=by rw[←d.length];exact z
  have o:(putK f k v).length<=sizeLine:=by have:=si f k v;omega
  refine wpAny_setItem_pairs (lB C) x λ J i n=>h _ ?_;have R:∃q,J.get? a=some q:=let ⟨q,_,_,m,_⟩:=i;⟨q,m⟩;exact sj I (by rw[e];exact True.intro) n R (Ey o hd (d.put k F) i)
 ·subst p w;cases(C);obtain⟨z,hd,M,d,x⟩:=Ew I.hok e;have O:M.length<=sizeLine:=by rw[←fc d];exact z
  have o:(putK f k v).length<=sizeLine:=by have:=si f k v;omega
  refine wpAny_setItem_heap (iw P) (lE I.hok eb) x λ J i n=>h _ ?_;obtain⟨q,Z,ep,m,Y,W,U,_,S⟩:=i;refine sj I (by rw[e];exact True.intro) n ⟨q,m⟩ ⟨o,hd,_,(d.put k eb F).keeps λ c ys K=>?_,q,Z,ep,m,Y,W,U,S⟩;rw[m7 (xp K e (λ z=>nomatch z))];exact K
def NoSl(i:JK):Prop:=∀ov iv,subscripted i false ov iv=operate [ov,iv] (getItem ov iv)
def EA
  (p:typeLookup (.type T) "__getitem__" = pure (some (.builtin m))) (n:NoSl a)
  (h:wpAny Kc A (eval b env) (λ o f=>wpAny Kc A (eval a env) (λ i c=>c.TypeIs o T/\wpAny Kc A (getItem o i) Q E c) E f) E s) :
  wpAny Kc A (eval (.Subscript b a pos) env) Q E s:=by
 refine Subscript_ (B3 h (λ o f j=>B3 j (λ i c d=>?_) λ _ _ x=>x) λ _ _ x=>x);obtain⟨l,d⟩:=d;unfold subscriptTail;refine f0 ?_;rw[getitemInPython_of_ne l.not_modules];refine f0 (iP l p ?_);have k:wpAny Kc A (subscripted a false o i) (λ r e=>wpAny Kc A (letTemporaryGo b o r >>= λ _=>pure r) Q E e) E c:=by rw[n o i];exact wpAny_operating (B3 d (λ r e g=>f0 (wpAny_letTemporaryGo (f9 g))) λ _ _ x=>x)
 first
  | exact f9 (f0 k)
  | exact f0 _
  | exact f0 k
def EB(I:Inv X c σ H s)(g:DGet H a y o):s.TypeIs (.ref a) "dict":=by
 rcases g with⟨d,k,e,_,_⟩ | ⟨d,k,b,e,_,_,_⟩
 ·obtain⟨_,_,vs,_,f⟩:=lD I.hok e;exact f.typeIs
 ·obtain⟨_,_,xs,_,f⟩:=dF I.hok e;exact f.typeIs
noncomputable def EC(td ty tv:TE):TS:=λ D σ H=>tv σ H λ v H1=>td σ H1 λ x H2=>ty σ H2 λ y H3=>∃a H4,x=.ref a/\DPut H3 a y v H4/\D.nx σ H4
def ED(w:X.A.units+1<cLine)(A:PE X o j)(B:PE X i e)(hv:PE X b f)(z:swapsWith b (some (.Subscript o i pos')) pos.line X.env=pure false) :
  PS X (.Assign [.Subscript o i pos'] b pos) (EC j e f):=by
 intro c s d H D I h;refine wpAny_Assign_Subscript (thn (hv c s d H _ I h) λ r s1 ⟨v,M,J,m,q⟩=>thn (A c s1 d M _ J q) λ u s2 ⟨x,L,F,l,p⟩=>thn (B c s2 d L _ F p) λ iv s3 ⟨y,H3,E,k,a,K,ex,g,n⟩=>?_) z;subst ex;obtain rfl:u=Value.ref a:=l;exact Ez w E g k m λ s4 C=>⟨d,K,C,n⟩
def EF(h:JJ)(a:sysModules<h.objs.size):u9 P w H (h.push {cls:=.type "dict",data:=.dict #[]}) h.objs.size (.dT []):=
 ⟨F3 _,A1.mpr (Ne.symm (q5 a)),[],.nil,_,#[],0,p8 _ rfl,⟨rfl,rfl,rfl⟩,rfl,rfl,eZ⟩
def EG:TE:=λ _ H Q=>∀p,H p=none->Q (.ref p) (upd H p (.dT []))
def EH:PE X (.Dict [] [] pos) EG:=λ a s σ H Q I h=>
 wpAny_Dict_empty ⟨.ref s.heap.objs.size,_,I.laid (λ _ _ q=>k6 _ q) (i6 _) (EF s.heap I.big),rfl,h _ (I.hok.fresh (i6 _))⟩
def RSt.growD(R:RSt D H σ δ O W)(k:H p=none)(u:mutO i=true):RSt D (upd H p i) σ δ O (p::W):=by
 have s:Same H (upd H p i):=v7 k;have c:Same _ (L2.wo (O++(p::W)) _):=λ b o e=>by
  obtain⟨w,e⟩:=B8 e;rw[j9 λ z=>?_]
  ·exact s b o e
  ·rcases i5.mp (dz.mp z)with z | z
   ·rw[z,k]at e;cases e
   ·exact w z
 refine⟨λ j d h=>?_,λ j d h=>?_,R.inj,R.od.step (λ j d h=>⟨h,rfl⟩) (λ _ h _=>k5 _ h) (λ a _ _ h _=>s _ _ h),R.len,⟨λ a f=>?_,Same.refl _,λ a f=>?_,λ a f=>?_,R.hid.omS s⟩⟩
 ·obtain⟨v,n,l⟩:=R.val j d h;exact⟨v,n,l.mono c⟩
 ·obtain⟨a,g,r,A,n,l,y,x⟩:=R.own j d h;exact⟨a,g,r,A,n,k5 _ l,s _ _ y,x.mono c⟩
 ·rcases i5.mp (dz.mp f)with z | z
  ·rw[z,x3];intro q;cases q
  ·intro q;exact R.hid.ot a z (s.free q)
 ·rcases i5.mp f with z | z
  ·exact⟨_,by rw[z];exact x3,u⟩
  ·obtain⟨g,q,m⟩:=R.hid.wl a z;exact⟨g,s _ _ q,m⟩
 ·rcases i5.mp f with z | z
  ·intro q;exact R.hid.ot p (B4 _ (by rw[←z];exact q)) k
  ·exact R.hid.dj a z
def RSt.setOd(R:RSt D H σ δ O W)(x:p∈W)(m:OdOk u p l)(A:H p=some l)(c:noOt i δ=true):RSt D H (σ.set i (some (.ref p))) (δ.set i (.od u)) O W:=by
 refine⟨λ j d h=>?_,λ j d h=>?_,λ j k a C B g f r o=>?_,λ j d h=>?_,by rw[C4,C4];exact R.len,R.hid⟩
 ·have b:=L8 h (by intro z;cases z);rw[u5 (Ne.symm b)]at h ⊢;exact R.val j d h
 ·have b:=L8 h (by intro z;cases z);rw[u5 (Ne.symm b)]at h ⊢;exact R.own j d h
 ·have w:=L8 g (by intro z;cases z);have v:=L8 f (by intro z;cases z);rw[u5 (Ne.symm w)]at g r;rw[u5 (Ne.symm v)]at f o;exact R.inj j k a C B g f r o
 ·have b:j=i:=by
   by_cases b:j=i
   ·exact b
   ·rw[u5 (Ne.symm b)]at h;exact rY c h
  subst b;obtain⟨y,e⟩:=V8 h;cases e;refine⟨⟨p,l,m,L9 (by rw[R.len];exact y),x,A⟩,λ k d' q=>?_⟩;by_cases n:k=j
  ·exact n
  ·rw[u5 (Ne.symm n)]at q;exact rY c q
def RSt.writeOd(R:RSt D H σ δ O W)(K:δ[i]? = some (.od d))(P:σ[i]? = some (some (.ref p)))(B:p∈W)(Q:H p=some I)(C:dicO I=true)(w:OdOk y p x):RSt D (upd H p x) σ (δ.set i (.od y)) O W:=by
 have u:Same _ (L2.wo (O++W) (upd H p x)):=λ b o e=>by obtain⟨r,e⟩:=B8 e;rw[j9 r,m7 λ z=>r (by rw[z];exact u4 _ B)];exact e
 have A:∀{b:JI} {n:on V},H b=some (.lst n)->b≠p:=λ {b n} h z=>by rw[z,Q]at h;cases h;cases C
 refine⟨λ j d h=>?_,λ j d h=>?_,λ j k a y X l g U S=>?_,λ j d h=>?_,by rw[C4];exact R.len,⟨λ b r q=>?_,Same.refl _,λ b r=>?_,R.hid.dj,R.hid.omW B⟩⟩
 ·have f:=L8 h (by intro z;cases z);rw[u5 (Ne.symm f)]at h;obtain⟨v,l,g⟩:=R.val j d h;exact⟨v,l,g.mono u⟩
 ·have f:=L8 h (by intro z;cases z);rw[u5 (Ne.symm f)]at h;obtain⟨b,n,E,M,l,g,F,L⟩:=R.own j d h;exact⟨b,n,E,M,l,g,by rw[m7 (A F)];exact F,L.mono u⟩
 ·have N:=L8 l (by intro z;cases z);rw[u5 (Ne.symm N)]at l;rw[u5 (Ne.symm (L8 g (by intro z;cases z)))]at g;exact R.inj j k a y X l g U S
 ·have f:j=i:=by
   by_cases f:j=i
   ·exact f
   ·rw[u5 (Ne.symm f)]at h;exact(R.od i _ K).2 j _ h
  subst f;obtain⟨hl,e⟩:=V8 h;cases e;refine⟨⟨p,x,w,P,B,x3⟩,λ k d' q=>?_⟩;by_cases J:k=j
  ·exact J
  ·rw[u5 (Ne.symm J)]at q;exact(R.od j _ K).2 k _ q
 ·by_cases c:b=p
  ·rw[c,x3]at q;cases q
  ·rw[m7 c]at q;exact R.hid.ot b r q
 ·by_cases c:b=p
  ·exact⟨_,by rw[c];exact x3,w.mut⟩
  ·obtain⟨n,q,m⟩:=R.hid.wl b r;exact⟨n,by rw[m7 c];exact q,m⟩
section
variable {X:Cx} {δ:on Sv} {o:Out} {e ek ed ea:JK} {pos pos' npos spos apos cpos:Pos} {ra rb rc:JF Re} {i:Nat} {x:Str} {re:Re}
def dkO:HO->Bool
 | .dK _=>true
 | .dT _=>true
 | _=>false
def EI(hv:PE X (.Name x npos) (tVar i)):PE X (.Name x npos) (λ k H Q=>∃a o,k[i]? = some (some (.ref a))/\H a=some o/\dkO o=true/\∀c,Q (.ref a) (upd H a (.frz c o))):=by
 intro g s k H Q I h;obtain⟨a,o,y,f,d,q⟩:=h;refine thn (hv g s k H (λ v j=>v=.ref a/\j=H) I ⟨_,y,rfl,rfl⟩) λ u s1 t0=>?_;obtain⟨v,j,n,r1,w,r⟩:=t0
 subst w r;have ok:=n.hok _ _ f;obtain⟨c,z5⟩:∃c,s1.heap.get? a=some c:=by
  cases o with
  | dK m=>obtain⟨_,_,_,_,c,_,_,e,_⟩:=ok;exact⟨c,e⟩
  | dT m=>obtain⟨_,_,_,_,c,_,_,e,_⟩:=ok;exact⟨c,e⟩
  | _=>cases d
 have l:u9 X.prog X.w (upd j a (.frz c o)) s1.heap a o:=by
  refine ok.stay (λ _ _ _ e=>e) (λ b e=>?_) (λ b p e=>?_) (λ b p e=>?_) λ b _ _ _ _ e=>?_
  ·rw[m7 λ z=>by rw[z,f]at e;cases e;cases d];exact e
  ·rw[m7 λ z=>by rw[z,f]at e;cases e;cases d];exact e
  ·rw[m7 λ z=>by rw[z,f]at e;cases e;cases d];exact e
  ·rw[m7 λ z=>by rw[z,f]at e;cases e;cases d];exact e
 exact⟨.ref a,upd j a (.frz c o),n.write (by rw[f];cases o<;>first | trivial | cases d) (.inl rfl) (λ b u hb e=>e) ⟨c,z5⟩ ⟨z5,l⟩,r1,q c⟩
def sn(h:asOd a=some p):a=some (.od (.dcl p.1 p.2)):=by
 unfold asOd at h;split at h
 ·cases h;rfl
 ·cases h
def EJ(hv:PE X (.Name x npos) (tVar i))(h:((asOd δ[i]?).bind λ p=>some (Out.rt (.dct p.1 p.2) false))=some o):PS X (.Return (some (.Name x npos)) pos) (dS X.D δ o):=by
 obtain⟨⟨ks,vs⟩,e,h⟩:=p4.mp h;cases h;refine(jn (EI hv)).weak λ Dn σ H t0=>?_;obtain⟨H0,O,W,R,f,fo,sm,k⟩:=t0
 obtain⟨⟨p,ob,l,j,a,g⟩,u⟩:=R.od i _ (sn e);obtain⟨L,c,b⟩:=l;cases c;subst b;refine⟨p,_,j,g,rfl,λ d=>k _ _ (dB sm (f p a)) ?_⟩;show Rep X.D _ _ _;exact ae.mpr ⟨p,d,oeK L,rfl,by rw[j9 (R.hid.dj p a)];exact x3,qL L,qM L⟩
def EK(h:Z3 ek=false):NoSl ek:=λ ov iv=>by cases ek<;>first | rfl | cases h
theorem so:∀{a:on (on Key×V)} {b:on DV},RepL D H b (a.map (·.2))->U6 (.t k) (a.map λ p=>DKey.t p.1) b=some (.int v)->valV a k=some (.int v)
 | [],b,r,h=>by cases b<;>cases h
 | _::a,[],r,h=>by cases h
 | (g,f)::a,d::b,r,h=>by
  obtain⟨w,ws,l,j,i⟩:=v5.mp r;cases l;have c:(if DKey.t g=.t k then some d else U6 (.t k) _ b)=some _:=h;by_cases e:g=k
  ·subst e;rw[f8 rfl]at c;cases c;rw[gz rfl];show some f=_;rw[show f=.int v from u6.mp j]
  ·rw[g8 (λ z=>e (DKey.t.inj z))]at c;rw[gA e];exact so i c
def lF(K:JQ)(H:Hp)(a:JI)(y:V)(r:JF V):Prop:=DGet H a y r\/∃kvs k b,Rd H a (.dT kvs)/\y=.ref b/\SqT K H b (k.map kV)/\r=valV kvs k
def EL(I:Inv X c σ H s)(e:SqT X.K H a (ks.map kV)):(tupleKind (F4 X.prog X.w)).is s.heap ks a:=by
 rcases e with h | ⟨o,b,n,g,f,d,_,h5⟩
 ·obtain⟨_,b,r,o,g,f,n,d⟩:=(show u9 X.prog X.w H s.heap a (.tup _)from lC I.hok h);exact⟨o,b.toArray,n,g,f.1,d,by simpa using gB r⟩
 ·exact⟨o,b,n,I.kIn a o g,f.1,d,gB h5⟩
def EM{E:JG->JH->Prop}(o:A.units+1<cLine)(I:Inv X c σ H s)(g:lF X.K H a y (some v))(n:RelV y u)(h:∀d m,Inv X c σ H m->RelV v d->Q d m) :
  wpAny Kb A (getItem (.ref a) u) Q E s:=by
 rcases g with g | ⟨kvs,k,b,e,ey,eb,l⟩
 ·exact Ex o I g n h
 ·subst ey;cases(n);obtain⟨z,hd,xs,i,w⟩:=dF I.hok e;obtain⟨d,q,f⟩:=RelO.some_of (by rw[l];exact i.val k);obtain⟨p,r,j⟩:=v4.mp q;refine wpAny_getItem_heap (iw o) (EL I eb) w r ?_;rw[j];exact h d _ (I.tok _) f
def EN{o:JF V}(I:Inv X c σ H s)(g:lF X.K H a y o):s.TypeIs (.ref a) "dict":=by
 rcases g with g | ⟨kvs,k,b,e,ey,eb,l⟩
 ·exact EB I g
 ·obtain⟨_,_,xs,_,d⟩:=dF I.hok e;exact d.typeIs
noncomputable def EO(K:JQ)(td ty:TE):TE:=λ σ H Q=>td σ H λ x H1=>ty σ H1 λ y H2=>∃a v,x=.ref a/\lF K H2 a y (some v)/\Q v H2
def EQ{e:TE}(m:X.A.units+1<cLine)(o:PE X ea e)(p:PE X ek ty)(n:NoSl ek):PE X (.Subscript ea ek pos) (EO X.K e ty):=by
 intro b s d H Q I h;refine EA PySem.F.slot_dict_getitem.lookup n (thn (o b s d H _ I h) λ u s1 ⟨x,z,r,j,l⟩=>thn (p b s1 d z _ r l) λ iv s2 t0=>?_);obtain⟨y,w,f,i,a,v,ex,g,k⟩:=t0;subst ex;obtain rfl:u=Value.ref a:=j;exact⟨EN f g,EM m f g i λ w' s3 q c=>⟨v,w,q,c,k⟩⟩
def ER(h:keyI y=some k):y=.tup (k.map .int):=by
 obtain⟨ds,b,a⟩:=p4.mp h;cases y<;>cases b;rw[kH a]
def kP_V(k:on Int):(kP k).map kV=k.map V.int:=by
 unfold kP;rw[r3];rfl
def ES(h:Rep D H (.tup (k.map .int)) v):∃p,v=.ref p/\SqT D.K H p ((kP k).map kV):=by
 obtain⟨p,xs,c,a,b⟩:=D4.mp h;rw[kF b]at a;exact⟨p,c,by rw[kP_V];exact a⟩
def ET(K:X.A.units+1<cLine)(N:∀q,ra=some q->PE X ea (dE X.D δ q))(M:∀q,rb=some q->PE X ek (dE X.D δ q))(L:Z3 ek=false)
  (h:(Re.thn ra λ x _=>Re.thn rb λ y _=>dixD x y)=some re):PE X (.Subscript ea ek pos) (dE X.D δ re):=by
 cases e:ra with
 | none=>rw[e]at h;cases h
 | some q=>
  rw[e]at h;have A:=N q e;cases q with
  | ok Y cx=>
   cases c:rb with
   | none=>rw[c]at h;cases h
   | some l=>
    rw[c]at h;have B:=M l c;cases l with
    | ok dk ck=>
     obtain⟨⟨ks,w⟩,m,f⟩:=p4.mp (h);obtain⟨k0,l,f⟩:=p4.mp f;obtain⟨d,I,f⟩:=p4.mp f;obtain⟨C,F,f⟩:=p4.mp f;cases f;cases ER l;cases y9 F;refine((λ t E (S:PE X ea t) (P:PE X ek E)=>EQ K S P (EK L)) _ _ A B).weak λ σ H Q ⟨O,W,R,p⟩=>⟨O,W,R,λ v u s1 g=>⟨O,W,R.mono s1,λ v2 Z s2 U=>?_⟩⟩
     obtain⟨J,r,o⟩:=ES (U.all ((R.mono s1).hid.mono s2));obtain⟨a,b,k,j,i,e4⟩:∃a b,v=.ref a/\Rd u a (.dT b)/\b.map _=ks/\RepL X.D u w (b.map (·.2)):=by
      have s:=g.all (R.hid.mono s1);cases Y with
      | dct _ _=>cases m;obtain⟨a,n,b,k,j,i⟩:=ae.mp s;exact⟨a,b,k,.inr ⟨n,j⟩,i⟩
      | dcl _ _=>cases m;obtain⟨a,b,k,j,i⟩:=kC.mp s;exact⟨a,b,k,.inl j,i⟩
      | _=>cases m
     subst i;exact⟨a,.int C,k,.inr ⟨b,_,J,j.imp (s2 _ _) λ ⟨n,z⟩=>⟨n,s2 _ _ z⟩,r,o,(so e4 I).symm⟩,p _ Z (s1.trans s2) A0⟩
end
def lH(h:kP p=kP q):p=q:=by
 have:=congrArg unP h;have u:∀k,unP (kP k)=some k:=λ k=>by
  induction k with
  | nil=>rfl
  | cons a r b=>show(unP (kP r)).map _=_;rw[b];rfl
 rw[u,u]at this;exact A8 this
noncomputable def putP(L:on (on Int×Int))(k:on Int)(z:Int):on (on Int×Int):=if(L.any λ p=>decide (p.1=k))=true then L.map (λ p=>if p.1=k then(p.1,z)else p)else L++[(k,z)]
def EU(L:on (on Int×Int))(k:on Int)(z:Int):putK (oeK L) (kP k) (.int z)=oeK (putP L k z):=by
 have e:((oeK L).any λ a=>decide (a.1=kP k))=L.any λ p=>decide (p.1=k):=by
  unfold oeK;rw[jg]
  congr 1
  funext p
  show decide (kP p.1=kP k)=decide _;by_cases h:p.1=k
  ·rw[B1 (by rw[h]),B1 h]
  ·rw[A7 (λ z=>h (lH z)),A7 h]
 unfold putK putP;rw[e];split
 ·unfold oeK;rw[r3,r3];apply K4;intro p _;show(if kP p.1=kP k then(kP p.1,V.int z)else(kP p.1,V.int p.2))=(kP (if p.1=k then(p.1,z)else p).1,V.int (if p.1=k then(p.1,z)else p).2);by_cases h:p.1=k
  ·rw[f8 (by rw[h]),f8 h]
  ·rw[g8 (λ z=>h (lH z)),g8 h]
 ·unfold oeK;rw[A9];rfl
def sr(h:kD p=kD q):p=q:=lH (DKey.t.inj h)
def EV(L:on (on Int×Int))(k:on Int)(z:Int):putD (kD k) (.int z) (L.map λ p=>kD p.1) (L.map λ p=>.int p.2)=((putP L k z).map (λ p=>kD p.1),(putP L k z).map (λ p=>.int p.2)):=by
 have e:(kD k∈L.map λ p=>kD p.1)↔(L.any λ p=>decide (p.1=k))=true:=by
  rw[k9,T8];constructor
  ·rintro⟨p,c,b⟩;exact⟨p,c,by rw[A5];exact sr b⟩
  ·rintro⟨p,c,b⟩;exact⟨p,c,by rw[A5.mp b]⟩
 unfold putD putP;by_cases h:(L.any λ p=>decide (p.1=k))=true
 ·rw[f8 (e.mpr h),f8 h,r3,r3];refine Prod.ext ?_ ?_
  ·apply K4;intro p _;show kD p.1=kD (if p.1=k then(p.1,z)else p).1;split<;>rfl
  ·show List.map _ _=_;rw[List.zip_map_left,List.zip_map_right];have:∀(L:on (on Int×Int)),List.zip L L=L.map λ p=>(p,p):=by
    intro L
    induction L with
    | nil=>rfl
    | cons a r d=>rw[List.zip_cons_cons,d];rfl
   rw[this,r3,r3,r3];apply K4;intro p _;show(if kD p.1=kD k then DV.int z else DV.int p.2)=DV.int (if p.1=k then(p.1,z)else p).2;by_cases h:p.1=k
   ·rw[f8 (by rw[h]),f8 h]
   ·rw[g8 (λ z=>h (sr z)),g8 h]
 ·rw[g8 (λ z=>h (e.mp z)),g8 h,A9,A9];rfl
def EW(l:X.N.Nodup)(f:X.N[i]? = some x)(e:Loc X.env.scope x)(g:X.fn x=true\/X.env.scope.names.lookup x=some .local)(h:(if noOt i δ then some (Out.nx (δ.set i (.od (.dcl [] []))))else none)=some o):PS X (.Assign [.Name x b] (.Dict [] [] pos') pos) (dS X.D δ o):=by
 split at h
 ·rename_i d;cases h;refine(ol l f e EH rfl g).weak λ Dn σ H ⟨H0,O,W,R,m,fo,sm,k⟩=>λ p c=>?_
  exact k _ _ _ ((R.growD c rfl).setOd (k8 ..) ⟨[],rfl,rfl⟩ x3 d) (λ a j=>by
   rcases i5.mp j with z | z
   ·rw[z];exact sm.free c
   ·exact m a z) (sm.trans (v7 c))
 ·cases h
def EX(hu:X.A.units+1<cLine)(hv:PE X (.Name x a) (tVar i))(he:∀q,C=some q->PE X e (dE X.D δ q))(hk:∀q,y=some q->PA X es (dA X.D δ q))(hc:S4 e=false)
  (h:((asOd δ[i]?).bind λ p=>Re.thnS δ C λ d _=>Rs.thnS δ y λ l=>(dppD i δ p l d).map Out.nx)=some o):PS X (.Assign [.Subscript (.Name x a) (.Tuple es x1 j) m] e pos) (dS X.D δ o):=by
 obtain⟨⟨ks,vs⟩,s,h⟩:=p4.mp h;have s:=sn s;cases c:C with
 | none=>rw[c]at h;cases h
 | some q=>
  rw[c]at h;have A:=he q c;cases q with
  | ok d cl=>
   cases b:y with
   | none=>rw[b]at h;cases h
   | some I=>
    rw[b]at h;have B:=hk I b;cases I with
    | ok l=>
     obtain⟨U,f,h2⟩:=v4.mp h;cases h2;obtain⟨J,Z,f⟩:=p4.mp f;obtain⟨z,Y,f⟩:=p4.mp f;cases y9 Y;split at f
     ·rename_i K;cases f;refine((λ t t' (hA:PE X e t) (hB:PA X es t')=>ED hu hv (jr hB) hA (gw hc)) _ _ A B).weak λ Dn S H ⟨H0,O,W,R,M,fo,sm,k⟩=>⟨O,W,R,λ v H1 s1 g=>?_⟩
      obtain⟨⟨p,ob,e0,P,N,e3⟩,u⟩:=R.od i _ s;obtain⟨L,F,eo⟩:=e0;cases F;subst eo;refine⟨.ref p,P,O,W,R.mono s1,λ vs2 Q s2 g2=>?_⟩;have E:=g.int (R.hid.mono s1);have ew:=kF (by rw[←kH Z];exact g2.repL ((R.mono s1).hid.mono s2));subst E ew;refine⟨by rw[g7];exact i9 K.2 JY,λ q hq=>?_⟩;have w:Same Q (upd Q q (.tup (J.map V.int))):=v7 hq;have r:=w _ _ (s2 _ _ (s1 _ _ e3));have n:=K.1;rw[g7]at n;refine⟨p,_,rfl,DPut.t r (by rw[kP_V];exact x3) (by unfold oeK;rw[g7];exact t6 n JY),?_⟩;rw[EU];have pe:=EV L J z;unfold kD at pe k;rw[pe]at k;exact k S _ W ((((R.mono s1).mono s2).mono w).writeOd s P N r rfl ⟨_,rfl,rfl⟩) M (dB (((sm.trans s1).trans s2).trans w) (M p N))
     ·cases f
def Kp(a:JI)(h h':JJ):Prop:=∀b o,b≠a->h.get? b=some o->h'.get? b=some o
def Kp.of{a:JI}{h h':JJ}(x:Heap.SameBut a h h'):Kp a h h':=λ b o n e=>x.extBut b o n e
def Kp.trans(x:Kp a h h')(y:Kp a h' c):Kp a h c:=λ b o n e=>y b o n (x b o n e)
theorem Kp.push{a:JI}{h h':JJ}(x:Kp a h h')(o':Obj):Kp a h (h'.push o'):=λ b o n e=>k6 _ (x b o n e)
def EY(hd:(d==sysModules)=false):MeetsIn prog w (Builtin.«dict.items» ⟨[.ref d],[]⟩) (λ _ R s=>s.TypeIs (.ref d) "dict" /\
  R (.ok (.ret (.ref s.heap.objs.size))) {s with heap:=s.heap.push {cls:=.type "dict_items",data:=.fields #[.ref d]}}):=.of_wp λ A R s q=>by
 have a:¬((d==sysModules)=true):=by rw[hd];exact z7
 unfold Builtin.«dict.items» Builtin.Dict.noArgs Builtin.Dict.showsAll;refine f0 (f0 (wpAny_notOrdered_dict q.1 (f9 ?_)));show wpAny _ _ _ _ _ s;rw[g8 a];exact f0 (f9 (f0 (C3 (f9 ⟨_,rfl,q.2⟩))))
def EZ(hv:s.heap.IsItemsView v d)(c:s.heap.get? d=some b)(a:b.data=.dict es ep)
  (q:Q (.ref s.heap.objs.size) {s with heap:=s.heap.push {cls:=.type "dict_itemiterator",data:=.fields #[.none,.bool false,.ref d,.int 0 0,.int es.size 0,.int ep 0,.none,.none]}}):wpAny Kc A (pyIter (.ref v)) Q E s:=by
 obtain⟨_,f,_,e⟩:=id hv;refine iE hv.typeIs nO (F2 nO hv.typeIs F.entry_dict_items_iter ?_ (F.args_dict_items_iter_1 _));unfold Builtin.«dict_items.__iter__» Builtin.Dict_items.dictOf Builtin.Dict_items.newIterator;refine f0 (f9 (f0 (f0 (E7 f e rfl (f9 (f0 (f0 (wpAny_dictEntries c a (f0 (wpAny_dictEpoch c a ?_))))))))));rw[show Builtin.Dict_items.ownsTuple "dict_itemiterator" = true from by decide];exact C3 (f9 ⟨_,rfl,"dict_itemiterator",_,⟨_,p8 _ rfl,rfl⟩,F.slot_dict_itemiterator_next.lookup,q⟩) (by show(8:Nat)<=_;rw[cC];omega)
def sw{ov:JG}(P:A.handled=none)(c:IsItemIter s.heap it d i es.size ep ok ov)(g:s.heap.get? d=some u)(k:u.data=.dict es ep)
  (e:∀en h',es[i]? = some en->IsItemIterOut h' it d (i+1) es.size ep en.key en.val s.heap.objs.size->h'.get? s.heap.objs.size=some {cls:=.type "tuple",data:=.seq #[en.key,en.val]} -> Kp it s.heap h'->Q (some (.ref s.heap.objs.size)) {s with heap:=h'})
  (f:∀h',es[i]? = none->Kp it s.heap h'->Q none {s with heap:=h'}):wpAny Kc A (pyNext (.ref it)) Q E s:=by
 have ty:∀{h:JJ} {j:Nat} {x y:JG},IsItemIter h it d j es.size ep x y->Shared.TypeIs {s with heap:=h} (.ref it) "dict_itemiterator":=λ z=>⟨_,z,rfl⟩;have o:Builtin.Dict_items.ownsTuple "dict_itemiterator" = true:=by decide
 have O:¬((Value.ref d==Value.none)=true):=z7;unfold pyNext;refine f0 (Y4 (O1 (ty c) mX (F2 mX (ty c) F.entry_dict_itemiterator_next ?_ (F.args_dict_itemiterator_next_1 _))));refine f0 (f9 (f0 (f0 (f0 (hU (ty c) (f9 (f0 (cq c rfl ?_))))))));simp only[o,if_true];show wpAny _ _ (if(Value.ref d==Value.none)=true then _ else _) _ _ s;rw[g8 O];refine f0 (f9 (f0 (wpAny_dictEntries g k ?_)));rw[g8 (by simp)];refine f0 (f9 (f0 (wpAny_dictEpoch g k ?_)));rw[g8 (by simp)];refine f9 ?_;dsimp only;rw[g8 (show ¬((i:Int)<0) by omega),B2];cases B:es[i]? with
 | none=>
  dsimp only;refine f0 (f0 (hU (ty c) (f9 ?_)));simp only[o,if_true];refine f0 (N6 c (by simp) λ l r s1=>f0 ?_);unfold newExc newTuple;refine f0 (C3 (f0 (m:=firstArgMember _ _) (Y6 (a:=Value.none) (by first | rfl | (simp only[firstArgMember];rfl)) (C3 (wpAny_raiseNew_none P (f0 (aK (T:="StopIteration") (b:=true) ⟨_,p8 _ rfl,rfl⟩ eY (f9 ?_)))) (by size_fits)))) (by size_fits));exact f _ B (((Kp.of s1).push _).push _)
 | some en=>
  dsimp only;refine f0 (f0 (hU (ty c) (f9 (f0 (ij (ty c) ?_)))));simp only[o,if_true];refine f0 (N6 c (by simp) λ l r s1=>?_);have p:IsItemIter l it d (i+1) es.size ep ok ov:=by unfold IsItemIter;rw[show((i+1:Nat):Int)=(i:Int)+1 by omega];exact r
  refine f0 (C5 (f0 (ij (ty p) (f0 (ij (ty p) ?_)))));show wpAny _ _ _ _ _ {s with heap:=l};unfold Builtin.Dict_items.pairFromOwner Builtin.Dict_items.ownedTupleIsFree;have sz:=s1.1;have n:IsItemIter (l.push {cls:=.type "tuple",data:=.seq #[en.key,en.val]}) it d (i+1) es.size ep ok ov:=k6 _ p;have J:(l.push {cls:=.type "tuple",data:=.seq #[en.key,en.val]}).get? s.heap.objs.size=some {cls:=.type "tuple",data:=.seq #[en.key,en.val]}:=by rw[←sz];exact p8 _ rfl
  refine f0 (wpAny_newTuple (f0 (f0 (E7 n rfl (x:=.none) rfl (f9 ?_)))));simp only[if_true];refine f0 (E7 n rfl (x:=ok) rfl (f0 (E7 n rfl (x:=ov) rfl ?_)));refine f0 (N6 n (by simp) λ h3 I N=>f0 (N6 I (by simp) λ h4 H M=>f0 (N6 H (by simp) λ h5 C L=>f0 (N6 C (by simp) λ R q K=>?_))));have v:=(((Kp.of N).trans (.of M)).trans (.of L)).trans (.of K);refine f0 (P3 (f9 (f9 ⟨_,rfl,f9 ?_⟩)));rw[sz]at q ⊢;exact e en R B q (v _ _ (Ne.symm (q5 (k7 c))) J) (((Kp.of s1).push _).trans v)
def ItP(a:JI)(ob:Obj)(qs:on JI)(kvs:on (on Key×V)):It:=
  ⟨λ i H=>H a=some (.frz ob (.dT kvs))/\∃k v,kvs[i]? = some (k,v),
   λ i H x H'=>∃p q k v,x=.ref p/\H p=none/\kvs[i]? = some (k,v)/\qs[i]? = some q/\H q=some (.tup (k.map kV))/\H'=upd H p (.tup [.ref q,v]),
   λ i H=>H a=some (.frz ob (.dT kvs))/\kvs.length<=i⟩
def Fa(r:KT H c xs):∀{i:Nat} {k:on Key} {v:V},c[i]? = some (k,v)->∃b u,xs[i]? = some (k,b,u)/\H b=some (.tup (k.map kV))/\RelV v u:=by
 induction r with
 | nil=>intro i k v h;cases h
 | cons p t e=>
  intro i k v h;cases i with
  | zero=>
   obtain⟨p1,p2,p3⟩:=p;rename_i a b _ _;obtain⟨a1,a2⟩:=a;obtain⟨b1,g,f⟩:=b;cases h;have d:=p1;subst d;exact⟨g,f,rfl,p2,p3⟩
  | succ i=>exact e h
theorem KT.length(r:KT H a xs):a.length=xs.length:=by
 induction r with
 | nil=>rfl
 | cons _ _ b=>rw[p9,p9,b]
def lI(I:Inv X b σ H s)(h:H a=some (.frz c (.dT d)))(hd:c.data=.dict es ep) :
  s.heap.get? a=some c/\(a==sysModules)=false/\c.ExactDict/\∃xs,KT H d xs/\es.toList=xs.map (entryOfKey (tupleKind (F4 X.prog X.w))):=by
 obtain⟨e,z1,j,xs,i,o,m,n,g,l,f,k,y5⟩:=(show u9 X.prog X.w H s.heap a (.frz c _)from I.hok _ _ h);rw[e]at g;cases g;rw[hd]at f;cases f;exact⟨e,j,l,xs,i,k⟩
def sx(es:JL DictEntry)(qs:on JI):Prop:=es.toList.map (·.key)=qs.map Value.ref
def Fb{K:JQ}(hd:ob.data=.dict es ep)(M:sx es C) :
  Turn P w K (.Tuple elts k pos) (ItP a ob C F) [it] it (λ i h=>∃ok ov,IsItemIter h it a i es.size ep ok ov) where
 mem:=by simp
 obj:=λ i h st b d=>by obtain⟨ok,ov,g⟩:=st;rw[u7]at d;subst d;exact⟨_,g,λ v q=>by cases q⟩
 keep:=λ i h y st q=>by obtain⟨ok,ov,g⟩:=st;exact⟨ok,ov,q it (by simp) _ g⟩
 item:=by
  intro X S J U R i j s Z H E I x st O;subst S J U;obtain⟨ok,ov,g⟩:=st;obtain⟨W,k0,v0,r⟩:=O;obtain⟨B,z2,z4,xs,A,z⟩:=lI I W hd;obtain⟨b,u,hu,d,ru⟩:=Fa A r;have Q:es[i]? = some (entryOfKey (tupleKind (F4 X.prog X.w)) (k0,b,u)):=by rw[entry_at z,hu];rfl
  have L:C[i]? = some b:=by
   have h1:(es.toList.map (·.key))[i]? = some (.ref b):=by rw[p5,K0,Q];rfl
   rw[M,p5]at h1;obtain⟨c,e1,e2⟩:=v4.mp h1;cases e2;exact e1
  refine sw (I.ok.hd R) g B hd (λ en y f b2 b3 b5=>?_) (λ y p _=>by rw[Q]at p;cases p);rw[Q]at f;cases f;refine⟨_,rfl,?_⟩;refine wpAny_letOwnedTupleGo_items b2 λ h2 N t2=>?_;have m:=R5 (k7 g);have I1:=I.turnedL (t':=s.toks) (λ b o d e=>t2.extBut _ _ (λ q=>d (by simp[q])) (b5 b o (λ q=>d (by simp[q])) e)) x;have l:=I.hok.fresh (i6 _);have Y:=I.fpOk (i6 _) l;have I2:Inv X j Z (upd H s.heap.objs.size (.tup [.ref b,v0])) {s with heap:=h2}:=I1.track l (aD I.sz) Y.2.1 (λ n c e=>Y.2.2.2.2.1 n c e) (λ q M=>Y.2.2.2.2.2 q M)
   ⟨by show(2:Nat)<=sizeLine;decide,[.ref b,u],.cons rfl (.cons ru .nil),_,(t2.extBut _ _ m b3),⟨rfl,rfl⟩,_,rfl⟩
  refine⟨.ref s.heap.objs.size,_,I2,rfl,⟨_,b,k0,v0,rfl,l,r,L,d,rfl⟩,⟨_,_,N⟩,λ b d=>?_⟩;rw[u7]at d;subst d;rw[m7 (Ne.symm m)];exact(x b (by simp)).1
 done:=by
  intro X S J U R i j s Z H E I x st O;subst S J U;obtain⟨ok,ov,g⟩:=st;obtain⟨W,r⟩:=O;obtain⟨B,z2,z4,xs,A,z⟩:=lI I W hd;have hl:es.size<=i:=by rw[size_of_entries z,←A.length];exact r
  exact sw (I.ok.hd R) g B hd (λ en y f _ _ _=>by rw[O3 hl]at f;cases f) λ y _ a=>⟨rfl,I.turnedL (t':=s.toks) (ch:=[it]) (λ b o d e=>a b o (λ q=>d (by simp[q])) e) x⟩
 self:=λ _ _ _ _ _ st h=>by obtain⟨ok,ov,g⟩:=st;exact PySem.W.kcp_self g h
def Wk.itemsP{K:on JI}(h:L2.wo K g a=some (.frz C (.dT b)))(e:b=oeK L)(P:∀q∈B,∃n,g q=some (.tup n))(R:Hdn J g):Wk D (ItP a C B b) (L.map λ p=>.tup [.tup (p.1.map .int),.int p.2]) K J g:=by
 subst e;have Q:(oeK L).length=L.length:=by unfold oeK;rw[g7]
 have c:∀(i:Nat),(oeK L)[i]? = (L[i]?).map λ p=>_:=λ i=>by unfold oeK;rw[p5]
 refine⟨λ i H s I=>?_,λ i H x U y=>?_,λ i H x U d M s s' y e F=>?_,λ H s=>?_⟩
 ·rw[g7]at I;exact⟨v6 _ _ (s _ _ h),kP L[i].1,.int L[i].2,by rw[c,n6 I];rfl⟩
 ·obtain⟨p,q,k,v,_,f,_,_,_,e⟩:=y;rw[e];exact v7 f
 ·obtain⟨p,q,k,v,ex,f,j,N,r,S⟩:=y;rw[p5]at e;rw[c]at j;cases E:L[i]? with
  | none=>rw[E]at e;cases e
  | some O=>
   rw[E]at e j;cases e;cases j;have l:q∉M:=λ z=>by
    obtain⟨n,w⟩:=P q (K1 N);rcases(F q z).2 with u | u
    ·obtain⟨o,A,m⟩:=R q u;rw[w]at A;cases A;cases m
    ·rw[w]at u;cases u
   subst S;have r1:Rep D (L2.wo M (upd H p (.tup [.ref q,.int O.2]))) _ _:=
    D4.mpr ⟨q,_,rfl,SqT.of (by rw[j9 l,m7 (z8 r f)];exact r),by rw[kP_V];exact bf _⟩
   exact D4.mpr ⟨p,_,ex,SqT.of (by rw[j9 (λ z=>(F p z).1 f)];exact x3),v5.mpr ⟨_,_,rfl,r1,RepL.one (u6.mpr rfl)⟩⟩
 ·exact⟨v6 _ _ (s _ _ h),by rw[g7,Q];exact i6 _⟩
def Fd(he:PE X e S)(n:attributeBase e "items" X.env (eval e X.env)=eval e X.env)(j:(apos.endLine==pos.line)=true) :
  PI X (.Tuple elts k tpos) (.Call (.Attribute e "items" apos) [] [] pos) (λ C H R=>S C H λ x g=>∃a f d,x=.ref a/\g a=some (.frz f (.dT d))/\∀U:on JI,(∀q∈U,∃F,g q=some (.tup F))->R (ItP a f U d) g):=by
 intro u s C H R I h;refine ny n j (thn (he u s C H _ I h) λ v s1 t0=>?_);obtain⟨x,g,B,r1,a,f,d,e1,L,q⟩:=t0;subst e1;cases r1;obtain⟨i,w,A,N,E⟩:∃i w A,s1.heap.get? a=some i/\i.data=.dict w A:=by obtain⟨r,z1,Q,xs,P,o,w,A,y1,y2,y3,y4⟩:=(show u9 X.prog X.w g s1.heap a (.frz f (.dT d))from B.hok _ _ L);exact⟨o,w,A,y1,y3⟩
 have yo:i=f:=(by obtain⟨r,_⟩:=(show u9 X.prog X.w g s1.heap a (.frz f (.dT d))from B.hok _ _ L);rw[r]at N;cases N;rfl);subst yo;obtain⟨r,Q,O,xs,P,Z⟩:=lI B L E;have J:s1.TypeIs (.ref a) "dict":=⟨i,r,O.1⟩;have nD:∀b,Value.ref a=.ref b->∃f,s1.heap.get? b=some f/\f.dict=none:=λ b q=>by cases q;exact⟨i,r,O.2.1⟩
 refine⟨"dict","dict.items",PySem.F.plainAttrs_dict,nE,PySem.F.type_dict_items,J,nD,eD rfl (PySem.evalArgs_none ?_)⟩;refine call_meetsIn nE J PySem.F.entry_dict_items (PySem.F.args_dict_items_1 _) (EY Q) ⟨J,?_⟩;have W:∀b o,s1.heap.get? b=some o->(s1.heap.push {cls:=.type "dict_items",data:=.fields #[.ref a]}).get? b=some o:=λ b o e=>k6 _ e;have M:=B.kept (t':=s1.toks) W;refine EZ ⟨_,p8 _ rfl,rfl,rfl⟩ (W _ _ r) E ?_;refine⟨_,[_],_,ItP a i _ d,g,rfl,M.kept (t':=s1.toks) λ b o e=>k6 _ e,Fb (elts:=elts) (k:=k) (pos:=tpos) E ((by unfold sx;rw[Z,r3,r3];rfl)),⟨.none,.none,p8 _ rfl⟩,λ c Y=>?_,q _ λ b hb=>?_⟩
 ·rw[u7]at Y;subst Y;exact M.fpOk (i6 _) (M.hok.fresh (i6 _))
 ·obtain⟨y,hy,rfl⟩:=k9.mp hb;have all:∀{l:on (on Key×V)} {m:on _},KT g l m->∀x∈m,∃F,g x.2.1=some (.tup F):=by
   intro l m q
   induction q with
   | nil=>intro x K;exact nomatch K
   | cons p t ih=>
    intro x K;rcases i5.mp K with z | z
    ·rw[z];exact⟨_,p.2.1⟩
    ·exact ih x z
  exact all P y hy
theorem sy:∀{l:on (Sum Int Str)} {k:on Int},unP l=some k->l=kP k
 | [],k,h=>by cases h;rfl
 | .inl a::r,k,h=>by obtain⟨k',c,b⟩:=v4.mp (h);rw[←b,sy c];rfl
 | .inr _::_,_,h=>by cases h
def Fe:∀{ks:on DKey} {b:on DV} {L:on (on Int×Int)},kvp? ks b=some L->∀{D:Dm} {H:Hp} {a:on (on Key×V)},a.map (λ p=>DKey.t p.1)=ks->RepL D H b (a.map (·.2))->a=oeK L:=by
 intro ks
 induction ks with
 | nil=>
  intro b L h D H a e r;cases a with
  | nil=>cases b with
   | nil=>cases h;rfl
   | cons _ _=>cases h
  | cons _ _=>cases e
 | cons j ks m=>
  intro b L h D H a e r;unfold kvp? at h;split at h
  ·exact absurd (by assumption:j::ks=[]) (List.cons_ne_nil _ _)
  ·rename_i l g v d q;cases q;obtain⟨k,s,h⟩:=p4.mp h;obtain⟨L',o,n⟩:=v4.mp h;subst n;cases a with
   | nil=>cases e
   | cons p a=>
    obtain⟨i,f⟩:=p;obtain⟨w,ws,y,x,u⟩:=v5.mp r;cases y;have c:=List.cons.inj e;rw[m o c.2 u,show i=kP k from(DKey.t.inj c.1).trans (sy s),show f=.int v from u6.mp x];rfl
  ·cases h
def Ff(i:attributeBase e "items" X.env (eval e X.env)=eval e X.env)(g:(d.endLine==pos.line)=true)(B:∀q,m=some q->PE X e (dE X.D δ q))
  (h:q9 (Re.thn m λ x c=>itmD x c)=some l):PI X (.Tuple elts k j) (.Call (.Attribute e "items" d) [] [] pos) (dI X.D δ l):=by
 cases f:m with
 | none=>rw[f]at h;cases h
 | some q=>
  rw[f]at h;have A:=B q f;cases q with
  | ok K M=>
   have b:q9 (itmD K M)=some l:=h;unfold itmD at b;split at b
   ·rename_i ks u;split at b
    ·rename_i r;obtain⟨rfl,z⟩:=r;cases o:kvp? ks u with
     | none=>rw[o]at b;cases b
     | some L=>
      rw[o]at b;cases b;exact((λ v (C:PE X e v)=>Fd C i g) _ A).weak λ σ H R' ⟨O,W,R,p⟩=>⟨O,W,R,λ x N s1 E=>by
       obtain⟨a,w,n,J,s,I,F⟩:=ae.mp (E);exact⟨a,w,n,J,v6 _ _ s,λ qs y=>p _ N s1 (Wk.itemsP s (Fe o I F) y (R.hid.mono s1).hdA)⟩⟩
    ·cases b
   ·cases b
def Fg(h:da pr ps=true):bindArgs (PySem.W.fnX nm q pr b sc cl .none .none a pm none cd e) ⟨[d,c],[]⟩=pure [(("part" : Str),d),(("left" : Str),c)]:=ku h λ _ _=>rfl
structure CloTx(C:CloD)(sc:Scope):Prop where
 kind:sc.kind=.function
 co:sc.isCoroutine=false
 gen:sc.isGenerator=false
 nd:C.N.Nodup
 np:C.np=2
 len:2+C.nc<=C.N.length
 n0:C.N[0]? = some ("part" : Str)
 n1:C.N[1]? = some ("left" : Str)
 hx:sc.names.lookup ("part" : Str)=some .local
 hy:sc.names.lookup ("left" : Str)=some .cell
 snd:(sc.names.map (·.1)).Nodup
 fre:∀i x,2<=i->i<2+C.nc->C.N[i]? = some x->sc.names.lookup x=some .free
 slf:sc.names.lookup n7=some .free
theorem lJ:∀{l:on Str},N0 l=true->l.Nodup
 | [],_=>eZ
 | x::r,h=>by unfold N0 at h;rw[g6]at h;refine O9.mpr ⟨λ z=>?_,lJ h.2⟩;have:=h.1;rw[O4.mpr z]at this;cases this
def sA(h:V0 C fn bl cl pr bd sc d=true):da pr (C.N.take C.np)=true/\CloTx C sc/\d=(C.N.drop 2).take C.nc/\C6 ⟨C.N,sc.names,fn,bl,cl,false,true,noCo⟩ C.body bd=true:=by
 unfold V0 at h;simp only[g6,g9,t9,E6,cG,ne_eq,A5]at h;obtain⟨⟨⟨⟨⟨⟨⟨⟨⟨⟨⟨⟨⟨k,l⟩,u⟩,s⟩,r⟩,q⟩,p⟩,o⟩,n⟩,m⟩,c⟩,j⟩,g⟩,f⟩:=h;have ht:C.N.take 2=(["part","left"]:on Str):=by
  rw[l]at k;exact ku k λ _ _=>rfl
 refine⟨k,⟨u,s,r,lJ q,l,p,?_,?_,n,m,lJ o,λ i x a b e=>j x ?_,g⟩,c,f⟩
 ·have:=congrArg (·[0]?) ht;rw[aB JY]at this;exact this
 ·have:=congrArg (·[1]?) ht;rw[aB JY]at this;exact this
 rw[c];refine K1 (i:=i - 2) ?_;rw[aB JX,aH,show 2+_=i by omega];exact e
def sB(D:Dm)(base:JJ)(outer:on Env)(O:on JI)(H:Hp)(C:CloD)(fn bl cl:on Str)(cs:on DV)(f:JI):Prop:=
 ∃q pr bd sc cap cc l ws c o,G9 H n7 q pr bd sc cc f/\V0 C fn bl cl pr bd sc cap=true/\CloScope C.N "part" "left" C.nc sc cc l/\RepL D (L2.wo O H) cs ws/\ws.length=C.nc/\(∀c∈l,∃o v,H c=some (.frz o (.own c))/\o.data=.cell v) /\
  (∀(i:Nat) x v,C.N[2+i]? = some x->ws[i]? = some v->∃c o u,cc.lookup x=some c/\H c=some (.frz o (.own c))/\o.data=.cell (some u)/\RelV v u) /\
  (∀c∈l,∃x,cc.lookup x=some c)/\(cc.lookup n7=some c/\H c=some (.frz o (.own c))/\o.data=.cell (some (.ref f)))/\∀c∈l,base.get? c=none/\c∉frs outer
def V9(P:JN)(w:JM)(K:JQ)(mg:Str->JF JG)(base:JJ)(C:CloD)(fn bl cl:on Str)(k:Nat)(Fc:on DV->JF Ou):Prop:=
 ∀(A:JO) (outer:on Env) (s:JH) (H:Hp) (us:on JG) (vs:on V) (Q:VK) (E:XK) (O:on JI) (f:JI) (cs ds:on DV) (d:DV),RoomL k A->Env0 P w K mg base A outer s H->Vals vs us->Hdn O H ->
  sB ⟨K,mg⟩ base outer O H C fn bl cl cs f->ds.length=C.np->RepL ⟨K,mg⟩ (L2.wo O H) ds vs->Fc (ds++cs)=some (.v d false)->(∀v H',Same H H'->Rep ⟨K,mg⟩ (L2.wo O H') d v->Q v H') ->
  codeAny (model P w) A (.call (.ref f) ⟨us,[]⟩) (CR CX0 outer P w H s Q E) s
section
variable {X:Cx} {δ:on Sv} {pos p:Pos} {re:Re} {k:Nat} {x:Str} {pr:JS} {bd:on JP} {sc:JR} {C:CloD} {fn bl cl cap:on Str} {cs:on DV} {fr:on Nat} {pins:on (JI×Obj)} {σ:St} {H:Hp} {s:JH} {O W:on JI} {f:JI} {q:Str} {cc:on (Str×JI)} {l:on JI} {F:on DV->JF Ou}
def Fh(I:Inv X pins σ H s)(co:V9 X.prog X.w X.K X.mg X.base C fn bl cl k F)(hr:RoomL k X.A)(df:G9 H n7 q pr bd sc cc f)(P:V0 C fn bl cl pr bd sc cap=true)(S:CloScope C.N "part" "left" C.nc sc cc l)
  (E:∀x c,cc.lookup x=some c->X.env.cells.lookup x=some c) (hl:∀c∈l,∃x,cc.lookup x=some c) (n:∀c∈l,X.base.get? c=none/\c∉frs X.stack) (M:cc.lookup n7=some c0) (a0:s.heap.IsCell c0 (some (.ref f)))
  (a4:fr.length=C.nc) (B:∀(j i:Nat),fr[j]? = some i->∃y,C.N[2+j]? = some y/\X.N[i]? = some y/\(X.env.kindOf y=some .cell\/X.env.kindOf y=some .free)) (U:capD δ fr=some cs) (R:RSt X.D H σ δ O W)
  (a1:ds.length=C.np) (rl:RepL X.D (L2.wo (O++W) H) ds vs) (ru:Vals vs Z) (hF:F (ds++cs)=some (.v d false)) (hd:d.nolam=true) (hQ:∀v p,Same H p->Rep X.D (L2.wo (O++W) p) d v->Q v p) :
  wpAny Kb X.A (call (.ref f) Z) (EP X pins σ Q) EE s:=by
 have J:Cells l s.heap H:=⟨λ c h=>by obtain⟨x,e⟩:=hl c h;exact I.freeC x c (E x c e),λ c h=>by
  obtain⟨x,e⟩:=hl c h;obtain⟨v,o,g,d⟩:=I.cell x c (E x c e);exact⟨o,v,g,d⟩⟩
 have same:=J.same;have hdA:=R.hid.hdA;obtain⟨ws,w1,w2,w3⟩:=ln R U;have oc:∀{b:JI},b∈l->b∉O++W:=λ {b} hb z=>by obtain⟨o',A,Y⟩:=hdA b z;rw[J.none b hb]at A;cases A
 obtain⟨o0,g0,d0⟩:=a0;have ca:sB X.D X.base X.stack (O++W) (trC l s.heap H) C fn bl cl cs f:=by
  refine⟨q,pr,bd,sc,cap,cc,l,ws,c0,o0,df.mono same,P,S,w2.mono same.wo,by rw[w1,a4],λ c h=>?_,λ i y v h1 h2=>?_,hl,⟨M,V3 (S.mem _ _ M) g0,d0⟩,n⟩
  ·obtain⟨o,v,g,d'⟩:=J.cel c h;exact⟨o,v,V3 h g,d'⟩
  ·have hi:i<fr.length:=by rw[←w1];exact(v9.mp h2).1
   have hj:=n6 hi;obtain⟨y',A,Y,K⟩:=B i _ hj;rw[h1]at A;cases A;obtain⟨mm,hn',a3⟩:=I.loc;obtain⟨u,rv,lk⟩:=a3 _ y v Y (w3 i _ v hj h2) (.inr K);rcases lk with⟨L,_⟩ | ⟨L,cx,k2,o,k3,k4⟩
   ·have L:=L;rcases K with K | K<;>(rw[K]at L;cases L)
   ·have N:=S.fre (2+i) y JX JX h1;obtain⟨c2,e2⟩:=S.has y N;have:=E y c2 e2;rw[k2]at this;cases this;exact⟨cx,o,u,e2,V3 (S.mem y cx e2) k3,k4,rv⟩
 have e0:=I.env0;refine fv (R6 (co X.A X.stack s _ Z vs (λ v p=>Same (trC l s.heap H) p/\Rep X.D (L2.wo (O++W) p) d v) (λ _ _ _=>False) (O++W) f cs ds d hr (Env0.trC J (λ c h=>(n c h).1) (λ c h=>(n c h).2) e0) ru (λ a ha=>?_) ca a1 (rl.mono same.wo) hF λ v p sm g=>⟨sm,g⟩) λ r s' m=>?_)
 ·obtain⟨o,A,Y⟩:=hdA a ha;exact⟨o,same _ _ A,Y⟩
 ·cases r with
  | error e=>exact(m:False).elim
  | ok fl=>
   cases fl with
   | ret u=>
    refine I.after (Q:=Q) (CE.trC (Q:=Q) J m (λ v p sm z=>?_) λ v p z=>z.1);have a2:∀c∈l,∃o,p c=some (.frz o (.own c)):=λ c h=>by obtain⟨o,v,g,_⟩:=J.cel c h;exact⟨o,sm _ _ (V3 h g)⟩
    refine hQ v _ (λ b o e=>?_) (rJ a2 hd z.2);rw[j9 λ w=>by rw[J.none b w]at e;cases e];exact sm _ _ (same _ _ e)
   | next=>exact False.elim m
   | brk=>exact False.elim m
   | cont=>exact False.elim m
def sC(I:Inv X pins σ H s)(h:G9 H n7 q pr bd sc cc f):PySem.W.FnAt f s.heap:=by
 obtain⟨c',oc,u,vs,t,b,pm,c,T,a,_⟩:=h;exact⟨_,_,_,_,(I.hok _ _ a).1⟩
def sD{l:on (DV×Cl)}(h:M7 a np cs l=some re):∃d,(l.all λ p=>p.2 == .strong||p.2 == .fresh)=true/\(l.map (·.1)).length=np/\a D7 (l.map (·.1)++cs)=some (.v d false)/\d.nolam=true/\re=.ok d .strong:=by
 unfold M7 at h;split at h
 ·rename_i z;split at h
  ·rename_i d b;split at h
   ·rename_i nl;cases h;exact⟨d,z.1,by rw[g7];exact z.2,b,nl,rfl⟩
   ·cases h
  ·cases h
 ·cases h
def tClo(X:Cx)(δ:on Sv)(F:Nat->on DV->JF Ou)(C:CloD)(cs:on DV)(ta:TA)(at_:St->Hp->JI->Prop):TE:=λ σ H Q=>∃f O W,at_ σ H f/\RSt X.D H σ δ O W/\ta σ H λ vs H1=>Same H H1/\∃ds d,RepL X.D (L2.wo (O++W) H1) ds vs/\ds.length=C.np/\F D7 (ds++cs)=some (.v d false)/\d.nolam=true/\∀v H',Same H1 H'->Rep X.D (L2.wo (O++W) H') d v->Q v H'
def sE(co:V9 X.prog X.w X.K X.mg X.base C fn bl cl k (FF D7))(hr:Room k X.A)(o:V0 C fn bl cl pr bd sc cap=true)(S:X.Ok->CloScope C.N "part" "left" C.nc sc cc l/\(∀x c,cc.lookup x=some c->X.env.cells.lookup x=some c)/\∀c∈l,∃x,cc.lookup x=some c)(m:∀{a:on (JI×Obj)} {b:on (JF V)} {H:Hp} {s:JH},Inv X a b H s->∀c∈l,X.base.get? c=none/\c∉frs X.stack)
  (z:∀{a:on (JI×Obj)} {b:on (JF V)} {H H':Hp} {s:JH} {f:JI},Inv X a b H' s->Same H H'->at_ b H f->G9 H' n7 q pr bd sc cc f/\∃c0,cc.lookup n7=some c0/\s.heap.IsCell c0 (some (.ref f))) (n:X.env.kindOf n7=some .cell\/X.env.kindOf n7=some .free)
  (L:fr.length=C.nc) (g:∀(j i:Nat),fr[j]? = some i->∃y,C.N[2+j]? = some y/\X.N[i]? = some y/\(X.env.kindOf y=some .cell\/X.env.kindOf y=some .free)) (w:capD δ fr=some cs)
  (A:PA X (e::es) P) (hs:s9 e=false) (K:es.any s9=false):PE X (.Call (.Name n7 p) (e::es) [] pos) (tClo X δ FF C cs P at_):=by
 intro a s b H Q I h;obtain⟨f,O,W,U,R,h⟩:=h;obtain⟨df,c0,M,Y⟩:=z I (Same.refl H) U;obtain⟨S,v,hl⟩:=S I.ok;have B:=v _ _ M;have J:wpAny Kb X.A (eval (.Name n7 p) X.env) (λ u s1=>u=.ref f/\Inv X a b H s1) X.xe s:=by
  rcases n with n | n
  ·exact cD (iq I.ok.kind n B Y ⟨rfl,I⟩) JY
  ·exact cD (wpAny_loadName_free I.ok.kind n B Y ⟨rfl,I⟩ JY) JY
 refine aF (thn J λ u s1 t0=>?_);obtain⟨eu,Z⟩:=t0;subst eu;refine PySem.W.callWith_F (sC Z df) (thn (A pos a s1 b H _ Z h) λ us s2 B0=>?_) (x5 hs) (bo es K);obtain⟨vs,H2,F,r,sm,ds,d,g1,g2,g3,g4,g5⟩:=B0;obtain⟨E,c2,N,y2⟩:=z F sm U;rw[M]at N;cases N;refine⟨sC F E,?_⟩;exact Fh F co hr.toL E o S v hl (m F) M y2 L g w (R.mono sm) g2 g1 r g3 g4 g5
def G9.un(u:Un fs ex H c h h')(d:G9 H nm q pr bd sc cc f):G9 c nm q pr bd sc cc f:=by
 obtain⟨p,i,o,e,t,a,g,b,T,n,m,l,k,j,r⟩:=d;exact⟨p,i,o,e,t,a,g,b,T,u.frzs _ _ _ n,u.frzs _ _ _ m,l,k,u.tbls _ _ j,r⟩
def Fi(T:CloTx C sc)(ok:X.Ok)(b:∀y∈sc.names,y.2=NameKind.free->∃a,X.env.cells.lookup y.1=some a):CloScope C.N "part" "left" C.nc sc (o6 X.env.cells sc.names []) ((o6 X.env.cells sc.names []).map (·.2))/\(∀x c,(o6 X.env.cells sc.names []).lookup x=some c->X.env.cells.lookup x=some c)/\∀c∈(o6 X.env.cells sc.names []).map (·.2),∃x,(o6 X.env.cells sc.names []).lookup x=some c:=by
 refine⟨⟨T.kind,T.co,T.gen,T.nd,T.n0,T.n1,T.hx,T.hy,T.snd,T.fre,λ x h=>?_,λ x y c i g=>ok.inj x y c (aj b i).1 (aj b g).1,λ x c h=>k9.mpr ⟨_,x8 h,rfl⟩,λ x c h=>R8 T.snd (aj b h).2⟩,λ x c h=>(aj b h).1,λ c f=>?_⟩
 ·have d:=x8 h;obtain⟨c,e⟩:=b _ d rfl;exact⟨c,du b d e⟩
 ·obtain⟨⟨x,c'⟩,d,rfl⟩:=k9.mp f;rcases aV b d with z | z
  ·cases z
  ·exact⟨x,du b z.2 z.1⟩
def sF(P:∀{c:TA},PA X (e::es) c->PE X (.Call (.Name n7 p) (e::es) [] pos) (tClo X δ i C cs c at_))(A:PA X (e::es) (dA X.D δ b))(h:(Rs.thn (some b) λ l=>M7 i C.np cs l)=some re) :
  PE X (.Call (.Name n7 p) (e::es) [] pos) (λ a H Q=>∃f,at_ a H f/\dE X.D δ re a H Q):=by
 cases b with
 | ok l=>
  obtain⟨d,z,j,m,nl,rfl⟩:=sD h;exact(P A).weak λ a H Q ⟨f,k,O,W,R,p⟩=>⟨f,O,W,k,R,O,W,R,λ vs H1 s1 n=>⟨s1,_,d,n.strong (R.hid.mono s1) z,j,m,nl,λ v o s g=>p v o (s1.trans s) g⟩⟩
def Fj(L:DefAt X sc c P (X.env.qual++n7))(b:da pr (C.N.take C.np)=true)(q:X.N.Nodup)(o:X.N[i]? = some n7)(n:X.env.kindOf n7=some .cell)(k:Loc X.env.scope n7)(p:X.fn n7=true\/X.env.scope.names.lookup n7=some .local) :
  PS X (.FunctionDef n7 pr bd [] none [] sc none n7 pos) (λ j e H=>∀f a,Same H a->H f=none->G9 a n7 (X.env.qual++n7) pr bd sc (o6 X.env.cells sc.names []) f->j.nx (e.set i (some (.ref f))) a):=by
 intro g s e H j I h;have l:qualnameIn X.env n7 n7=X.env.qual++n7:=by unfold qualnameIn;rw[n];rfl
 have d:pr.defaults=[]/\pr.kw_defaults=[]/\annTrees pr none X.env=[]:=ku b λ x y=>⟨rfl,rfl,rfl⟩;refine PySem.W.nestDef_K d.1 d.2.1 d.2.2 ?_;rw[l];refine Dw I L λ f a s' w sm m r=>?_;exact fx w q o k (v:=.ref f) rfl (λ s2 u=>⟨_,a,u,h f a sm m r⟩) p
end
def CloG(G:Gs)(F:Nat->on DV->JF Ou)(X:Cx):Prop:=
 (∃c P,X.env.code=.ref c/\∀{pins:on (JI×Obj)} {σ:on (JF V)} {H:Hp} {s:JH},Inv X pins σ H s->PySem.W.CodeHd s.heap c P/\H P=some (.tbl (X.env.qual ++ "<lambda>"))) /\
 (∀x a,X.env.cells.lookup x=some a->X.base.get? a=none/\a∉frs X.stack) /\
 ∀{δ:on Sv} {e:JK} {es:on JK} {pos p:Pos} {rs:Rs} {re:Re} {np nc:Nat},PA X (e::es) (dA X.D δ rs)->s9 e=false->es.any s9=false->cM G F np nc (some rs) (capD δ (List.range' np nc))=some re->PE X (.Call (.Name n7 p) (e::es) [] pos) (dE X.D δ re)
noncomputable def tagN(sc:on (Str×JU)):Str:=if sc.lookup n7=some .cell then n7 else "<lambda>"
structure Good(sg:Sg)(G:Gs)(F:Nat->List DV->Option Ou)(X:Cx):Prop where
 N:X.N=sg.N
 nd:X.N.Nodup
 vis:∀x,visB sg x=true->Vis X.env.scope x
 glo:∀x,gloB sg x=true->Gl X x
 loc:∀x,locB sg x=true->Loc X.env.scope x/\(X.fn x=true\/X.env.scope.names.lookup x=some .local)
 lcl:∀x,sg.sc.lookup x=some .local->X.env.scope.names.lookup x=some .local
 cel:∀x,(sg.sc.lookup x=some .cell\/sg.sc.lookup x=some .free)->X.env.scope.names.lookup x=some .cell\/X.env.scope.names.lookup x=some .free
 calm:X.calm=true
 hu:X.A.units+64<cLine
 fns:∀f x,sg.fn[f]? = some x->∃k fa fd ps,Room k X.A/\X.mg x=some (.ref fa)/\PySem.W.keepIn X.K (.ref fa)=true/\P7 X.K fd ps []/\(∀ds o,F f ds=some o->ds.length=ps.length) /\
  FnOk X.prog X.w X.K X.mg X.base CX0 k fa fd ps (spF X.D ps.length (F f))
 blt:∀x∈sg.bl,X.mg x=none
 con:∀x d,G.con.lookup x=some d->∃u v,X.mg x=some u/\RelV v u/\∀H,Rep X.D H d v
 own:sg.lp=true->PassesOwn Kb X.A X.env X.xe
 st:sg.top=true->X.stack=X.env::X.outer/\X.env.frame=some X.env.locals/\X.ex=[]
 lms:G.fnl.isEmpty=false->(G.fnl=sg.fn/\G.bll=sg.bl/\G.cll=sg.cl)/\(∃k,Room k X.A/\V4 X.prog X.w X.K X.mg X.base sg.fn sg.bl sg.cl k (F F0)/\∀C,G.clo=some C->V9 X.prog X.w X.K X.mg X.base C sg.fn sg.bl sg.cl k (F D7))/\(sg.top=true->∃c P,X.env.code=.ref c/\(∀h:Heap,X.K.In h->PySem.W.CodeHd h c P)/\(P,X.env.qual++tagN sg.sc)∈x9 X.K/\(sg.sc.lookup n7=some .cell->L3 (X.env.qual++n7)=true))
 cos:∀pr bd sc cap,sg.co pr bd sc cap=true->∃C,G.clo=some C/\V0 C sg.fn sg.bl sg.cl pr bd sc cap=true
 clo:sg.lp=true->sg.top=false->CloG G F X
theorem bu:∀{l:on Str},N0 l=true->l.Nodup
 | [],_=>eZ
 | x::r,h=>by unfold N0 at h;rw[g6]at h;refine O9.mpr ⟨λ z=>?_,bu h.2⟩;have:=h.1;rw[O4.mpr z]at this;cases this
def dH(g:Good m G F X)(h:Z8 m f fr sc tg=true):CompScope X.N f sc X.env.scope fr/\(∀(j k i:Nat),fr[j]? = some (some i)->fr[k]? = some (some i)->j=k)/\∀i∈Z7 tg,fr[i]? = some none:=by
 unfold Z8 at h;simp only[g6,E6,g9]at h;obtain⟨⟨⟨⟨⟨⟨B,A⟩,o⟩,z⟩,n⟩,w⟩,v⟩:=h;have d:∀(j i:Nat),fr[j]? = some _->∃x,f[j]? = some x/\m.N[i]? = some x/\(x,NameKind.free)∈sc.names:=λ j i e=>by
  have l:j<f.length:=by rw[←n];exact (v9.mp e).1
  have r:(some i,f[j])∈fr.zip f:=(by refine K1 (i:=j) ?_;rw[hZ];exact⟨e,n6 l⟩);have q:=w _ r;simp only[g6,g9,O4]at q;exact⟨_,n6 l,q.1,q.2⟩
 refine⟨⟨A,bu o,bu z,n,λ j i e=>?_,λ y s u=>?_⟩,λ j k i E C=>?_,B⟩
 ·obtain⟨x,a,b,c⟩:=d j i e;exact⟨x,a,by rw[g.N];exact b,c⟩
 ·have q:=v y s;rw[f8 u]at q;simp only[B5,g9]at q;exact g.cel _ q
 ·obtain⟨x,a,b,_⟩:=d j i E;obtain⟨x',H,p,_⟩:=d k i C;rw[b]at p;cases p;exact jl (bu o) a H
def ak(g:Good j G F X)(h:Z8 j i fr sc tg=true)(C:JI)(b:on (Str×JI))(c:JH)(d:Hp)(fp:on JI):Good ⟨i,sc.names,j.fn,j.bl,j.cl,false,false,noCo⟩ G F (t5 X sc i C b c d fp):=by
 obtain⟨S,_,_⟩:=dH g h;have f:∀x,(t5 X sc i C b c d fp).env.scope.names.lookup x=(sc.names.lookup x).map λ k=>if(k==NameKind.free&&X.env.scope.kind == .function&&X.env.kindOf x==some .cell)=true then NameKind.cell else k:=λ x=>jD
 have one:∀x k,sc.names.lookup x=some k->k ≠ .free->(t5 X sc i C b c d fp).env.scope.names.lookup x=some k:=λ x k e l=>by rw[f,e,K7,g8];intro z;simp only[g6,g9]at z;exact l z.1.1
 have two:∀x,sc.names.lookup x=some .free->(t5 X sc i C b c d fp).env.scope.names.lookup x=some .cell\/(t5 X sc i C b c d fp).env.scope.names.lookup x=some .free:=λ x e=>by
  rw[f,e,K7];split
  ·exact .inl rfl
  ·exact .inr rfl
 refine⟨rfl,S.nd,λ x a=>?_,λ x a=>?_,λ x a=>?_,λ x a=>one x _ a (by intro z;cases z),λ x a=>?_,g.calm,g.hu,g.fns,g.blt,g.con,(λ z=>nomatch z),(λ z=>nomatch z),(λ z=>⟨(g.lms z).1,(g.lms z).2.1,λ w=>nomatch w⟩),(λ _ _ _ _ z=>nomatch z),(λ z=>nomatch z)⟩
 ·unfold visB at a;simp only[B5,g9]at a;rcases a with(a | a) | a
  ·exact .inl (one x _ a (by intro z;cases z))
  ·exact .inr (.inl (one x _ a (by intro z;cases z)))
  ·exact .inr (two x a)
 ·unfold gloB at a;rw[g9]at a;exact one x _ a (by intro z;cases z)
 ·unfold locB at a;simp only[B5,g9]at a;rcases a with a | a
  ·exact⟨.inl (one x _ a (by intro z;cases z)),.inr (one x _ a (by intro z;cases z))⟩
  ·exact⟨.inr (one x _ a (by intro z;cases z)),.inl (by show(sc.names.lookup x==some .cell)=true;rw[a];rfl)⟩
 ·rcases a with a | a
  ·exact .inl (one x _ a (by intro z;cases z))
  ·exact two x a
def bv(g:Good b G F X)(z:b.sc.lookup y=some .cell):X.env.kindOf y=some .cell/\X.fn y=true/\Loc X.env.scope y:=by
 have a:=g.loc y (by unfold locB;rw[z];rfl);have nl:X.env.scope.names.lookup y≠some .local:=λ w=>by rcases g.cel y (.inl z)with v | v<;>(rw[w]at v;cases v)
 exact⟨a.1.elim (λ w=>absurd w nl) id,a.2.elim id λ w=>absurd w nl,a.1⟩
def al(g:Good a G F X)(h:S7 a i x=true):X.N[i]? = some x/\Vis X.env.scope x/\(x==("__debug__" : Str))=false/\(x==("__classdict__" : Str))=false:=by
 unfold S7 at h;simp only[g6,g9,cG,ne_eq]at h;obtain⟨⟨⟨e,d⟩,c⟩,b⟩:=h;exact⟨by rw[g.N];exact e,g.vis x d,A1.mpr c,A1.mpr b⟩
def bw(g:Good a G F X)(h:bltB a x f=true):(∃p,f=.Name x p)/\Gl X x/\X.mg x=none:=by
 unfold bltB at h;simp only[g6,g9,O4]at h;obtain⟨⟨d,c⟩,b⟩:=h;exact⟨S6 d,g.glo x c,g.blt x b⟩
theorem lK(g:Good b G F X):∀(is:on Nat) (es:on JK),es.length=is.length->((is.zip es).all λ p=>match J7 p.2 with | some x=>b.N[p.1]? == some x&&locB b x | none=>false)=true ->
  PGs X es (dw is)/\(assignEach es X.env).length=is.length/\(assignEach es X.env).findIdx? (·.1)=none
 | [],[],_,_=>⟨xJ,rfl,rfl⟩
 | [],_::_,h,_=>by cases h
 | _::_,[],h,_=>by cases h
 | i::is,e::es,c,h=>by
  rw[List.zip_cons_cons,List.all_cons,g6]at h;obtain⟨a,d⟩:=h;obtain⟨A,B,C⟩:=lK g is es (by simpa using c) d;split at a
  ·rename_i x q;obtain⟨p,rfl⟩:=S6 q;simp only[g6,g9]at a;have l:=g.loc x a.2;refine⟨xK (oe g.nd (by rw[g.N];exact a.1) l.1 l.2) A rfl,?_,?_⟩
   ·show(assignEach es X.env).length+1=is.length+1;rw[B]
   ·show(_::assignEach es X.env).findIdx? (·.1)=none;rw[List.findIdx?_cons,C];rfl
  ·cases a
def dJ(g:Good b G F X)(h:tgOk b tg a=true):PG X a (gT X.K tg):=by
 cases tg with
 | one i=>
  unfold tgOk at h;dsimp only at h;split at h
  ·rename_i x q;obtain⟨p,rfl⟩:=S6 q;simp only[g6,g9]at h;have l:=g.loc x h.2;exact oe g.nd (by rw[g.N];exact h.1) l.1 l.2
  ·cases h
 | many c=>
  unfold tgOk at h;dsimp only at h;split at h
  ·rename_i d q;obtain⟨k,p,rfl⟩:=cY q;rw[g6,g6,g9]at h;obtain⟨A,B,C⟩:=lK g c d h.1.1 h.2;exact oh g.calm A B C
  ·cases h
section
variable (G:Gs) (F:Nat->on DV->JF Ou)
def SE(m:ME):Prop:=∀{sg:Sg} {X:Cx} {e:JK} {δ:on Sv} {r:Re},Good sg G F X->corE sg false m e=true->evE G F m δ=some r->PE X e (dE X.D δ r)
def ST(m:ME):Prop:=∀{sg:Sg} {X:Cx} {e:JK} {δ:on Sv} {r:Rt},Good sg G F X->corE sg false m e=true->tstD (evE G F m δ)=some r->PT X e (dT X.D δ r)
def SI(m:ME):Prop:=∀{sg:Sg} {X:Cx} {e tg:JK} {δ:on Sv} {r:Ri},Good sg G F X->corE sg true m e=true->(isZp m=true->(L7 tg).isSome=true)->q9 (evE G F m δ)=some r->PI X tg e (dI X.D δ r)
def SEs(ms:on ME):Prop:=∀{sg:Sg} {X:Cx} {es:on JK} {δ:on Sv} {r:Rs},Good sg G F X->t4 sg ms es=true->evEs G F ms δ=some r->PA X es (dA X.D δ r)
def SAnd(ms:on ME):Prop:=∀{sg:Sg} {X:Cx} {es:on JK} {δ:on Sv} {pos:Pos},Good sg G F X->t4 sg ms es=true ->
 (∀r,L4 G F ms δ=some r->PE X (.BoolOp .And es pos) (dE X.D δ r))/\(∀r,tstD (L4 G F ms δ)=some r->PW X (.BoolOp .And es pos) (dT X.D δ r))
def SOr(ms:on ME):Prop:=∀{sg:Sg} {X:Cx} {es:on JK} {δ:on Sv} {pos:Pos},Good sg G F X->t4 sg ms es=true ->
 (∀r,evOr G F ms δ=some r->PE X (.BoolOp .Or es pos) (dE X.D δ r))/\(∀r,tstD (evOr G F ms δ)=some r->PW X (.BoolOp .Or es pos) (dT X.D δ r))
def S1(m:ME):Prop:=SE G F m/\ST G F m/\SI G F m
end
def S1.of(h:SE G F m)(hw:∀b e,corE b true m e=corE b false m e)(i:∀b e env,corE b false m e=true->∀a,isTrue e env a=(do let v ←a;standAt e.pos;holding [v] (truthy v))):S1 G F m:=
 ⟨h,λ {b X e f r} g c q=>Cy (λ z d=>h g c d) (i b e X.env c) q,λ {b X e tg f r} g c _ q=>rM (λ z d=>h g (by rw[←hw];exact c) d) q⟩
def S1.of2(h:SE G F m)(c:ST G F m)(hw:∀a e,corE a true m e=corE a false m e):S1 G F m:=
 ⟨h,c,λ {a X e tg δ r} g d _ q=>rM (λ z b=>h g (by rw[←hw];exact d) b) q⟩
noncomputable def sG:JK->Bool
 | .UnaryOp .Not _ _=>false | .BoolOp _ _ _=>false | .IfExp _ _ _ _=>false | .Compare _ _ _ _=>false
 | _=>true
def E1(h:sG e=true)(env:Env):∀b,isTrue e env b=(do let v ←b;standAt e.pos;holding [v] (truthy v)):=by
 cases e with
 | UnaryOp o a p=>cases o<;>first | (intro _;rfl) | cases h
 | BoolOp _ _ _=>cases h
 | IfExp _ _ _ _=>cases h
 | Compare _ _ _ _=>cases h
 | _=>intro _;rfl
section
variable {G:Gs} {F:Nat->on DV->JF Ou} {a b c:ME}
def Fk:S1 G F (.var i):=by
 refine .of (λ {c X e δ r} g a h=>?_) (λ _ _=>rfl) (λ c e b a=>?_)
 ·refine J5 a λ x p a=>?_;obtain⟨k,j,f,d⟩:=al g a;exact BU k j f d h
 ·exact J5 a λ x p _=>E1 rfl b
def gC(f:∀a w e,corE a w m e=true->be e=some k)(l:∀δ,evE G F m δ=some (.ok d .strong))(hw:∀a e,corE a true m e=corE a false m e)
  (i:∀{X:Cx} {δ:on Sv} {j:Nat} {pos:Pos} a e,corE a false m e=true->PE X (.Constant k j pos) (dE X.D δ (.ok d .strong))):S1 G F m:=by
 refine .of (λ {a X e δ r} g b h=>?_) hw (λ a e c b=>?_)
 ·obtain⟨j,p,rfl⟩:=qD (f a false e b);rw[l]at h;cases h;exact i a _ b
 ·obtain⟨j,p,rfl⟩:=qD (f a false e b);exact E1 rfl c
def Fm:S1 G F (.int i):=gC (λ sg w e h=>g9.mp h) (λ δ=>rfl) (λ _ _=>rfl) λ _ _ _=>BV
def s_bl:S1 G F (.bl i):=gC (λ sg w e h=>g9.mp h) (λ δ=>rfl) (λ _ _=>rfl) λ _ _ _=>BW
def Fn:S1 G F .non:=gC (λ sg w e h=>g9.mp h) (λ δ=>rfl) (λ _ _=>rfl) λ _ _ _=>BY
def Fo:S1 G F (.str i):=gC (λ sg w e h=>g9.mp (J1.mp h).1) (λ δ=>rfl) (λ _ _=>rfl) λ _ _ h=>BX (i9 (eL (J1.mp h).2) JY)
def Fp:S1 G F (.glb x):=by
 refine .of (λ {c X e δ r} g a h=>?_) (λ _ _=>rfl) (λ c e b a=>?_)
 ·have a:(J7 e==some x&&gloB c x&&x != "__debug__")=true:=a;simp only[g6,g9,cG,ne_eq]at a;obtain⟨p,rfl⟩:=S6 a.1.1;obtain⟨d,k,j⟩:=v4.mp h;cases j;obtain⟨u,v,m,f,i⟩:=g.con x d k;exact(xz (g.glo x a.1.2) m f (A1.mpr a.2)).weak λ σ H Q ⟨O,W,R,p⟩=>p v H (Same.refl H) (i _)
 ·obtain⟨p,rfl⟩:=S6 (g9.mp (J1.mp (J1.mp a).1).1);exact E1 rfl b
def Fq(k:S1 G F a)(j:S1 G F b):S1 G F (.bin op a b):=by
 refine .of (λ {i X e δ r} g c h=>?_) (λ _ _=>rfl) (λ i e f c=>?_)
 ·refine qh c λ ea o eb p c=>?_;simp only[g6,g9]at c;obtain⟨⟨n,m⟩,l⟩:=c;subst n;exact Cg (λ z d=>k.1 g m d) (λ z d=>j.1 g l d) h
 ·exact qh c λ _ _ _ p _=>E1 rfl f
def Fs(k:S1 G F a):S1 G F (.neg a):=by
 refine .of (λ {i X e δ r} g b h=>?_) (λ _ _=>rfl) (λ i e d b=>?_)
 ·refine fX b λ o ea p b=>?_;simp only[g6,g9]at b;obtain⟨c,f⟩:=b;subst c;exact Ch (λ z j=>k.1 g f j) h
 ·refine fX b λ _ _ p b=>?_;simp only[g6,g9]at b;obtain⟨c,f⟩:=b;subst c;exact E1 rfl d
def Ft(i:S1 G F a):S1 G F (.not a):=by
 refine .of2 (λ {k X e j r} g b h=>?_) (λ {k X e j r} g b h=>?_) (λ _ _=>rfl)
 ·refine fX b λ o l p b=>?_;simp only[g6,g9]at b;obtain⟨f,d⟩:=b;subst f;exact CA (λ z c=>i.1 g d c) h
 ·refine fX b λ o l p b=>?_;simp only[g6,g9]at b;obtain⟨f,d⟩:=b;subst f;exact CD (λ z c=>i.2.1 g d c) h
def Fu(m:S1 G F a)(l:S1 G F b):S1 G F (.cmp op a b):=by
 refine .of2 (λ {q X e n r} g c h=>?_) (λ {q X e n r} g c h=>?_) (λ _ _=>rfl)
 ·refine qp c λ u o s p c=>?_;simp only[g6,g9,t9]at c;obtain⟨⟨⟨k,j⟩,i⟩,f⟩:=c;subst k;exact Cq g.hu (λ z d=>m.1 g j d) (λ z d=>l.1 g i d) f h
 ·refine qp c λ u o s p c=>?_;simp only[g6,g9,t9]at c;obtain⟨⟨⟨k,j⟩,i⟩,f⟩:=c;subst k;exact Cu g.hu (λ z d=>m.1 g j d) (λ z d=>l.1 g i d) f h
def Fv(v:S1 G F a)(u:S1 G F b)(j:S1 G F c):S1 G F (.chain op k a b c):=by
 refine .of2 (λ {x X e w r} g f h=>?_) (λ {x X e w r} g f h=>?_) (λ _ _=>rfl)
 ·refine qt f λ C o y B A p f=>?_;simp only[g6,g9,t9]at f;obtain⟨⟨⟨⟨⟨s,i⟩,q⟩,n⟩,m⟩,l⟩:=f;subst s i;exact Cv g.hu (λ z d=>v.1 g q d) (λ z d=>u.1 g n d) (λ z d=>j.1 g m d) l h
 ·refine qt f λ C o y B A p f=>?_;simp only[g6,g9,t9]at f;obtain⟨⟨⟨⟨⟨s,i⟩,q⟩,n⟩,m⟩,l⟩:=f;subst s i;exact Cw g.hu (λ z d=>v.1 g q d) (λ z d=>u.1 g n d) (λ z d=>j.1 g m d) l h
def s_ix(k:S1 G F a)(j:S1 G F b):S1 G F (.ix a b):=by
 refine .of (λ {i X e δ r} g c h=>?_) (λ _ _=>rfl) (λ i e f c=>?_)
 ·refine U9 c λ ea eb p c=>?_;simp only[g6,t9]at c;obtain⟨⟨n,m⟩,l⟩:=c;exact Ck (λ z d=>k.1 g n d) (λ z d=>j.1 g m d) l h
 ·exact U9 c λ _ _ p _=>E1 rfl f
def s_sl(m:S1 G F a)(l:S1 G F b)(i:S1 G F c):S1 G F (.sl a b c):=by
 refine .of (λ {k X e δ r} g d h=>?_) (λ _ _=>rfl) (λ k e j d=>?_)
 ·refine U9 d λ ea es p d=>?_;refine BF d λ _ _ p2 d=>?_;simp only[g6]at d;obtain⟨⟨q,o⟩,n⟩:=d;exact Co (λ z f=>m.1 g q f) (λ z f=>l.1 g o f) (λ z f=>i.1 g n f) h
 ·exact U9 d λ _ _ p _=>E1 rfl j
theorem W0:∀{a:Sg} {b:on ME} {es:on JK},t4 a b es=true->es.any s9=false
 | _,[],[],_=>rfl
 | _,[],_::_,h=>by unfold t4 at h;cases h
 | _,_::_,[],h=>by unfold t4 at h;cases h
 | a,m::b,e::es,h=>by unfold t4 at h;simp[g6,t9]at h;rw[J2,h.1.2,W0 h.2];rfl
def Fw{c:on ME}(i:SEs G F c):S1 G F (.lst c):=by
 refine .of (λ {d X e δ r} g a h=>?_) (λ _ _=>rfl) (λ d e b a=>?_)
 ·refine qk a λ es p a=>?_;exact CL (λ z f=>i g a f) h
 ·exact qk a λ _ p _=>E1 rfl b
def Fx{c:on ME}(i:SEs G F c):S1 G F (.tup c):=by
 refine .of (λ {d X e δ r} g a h=>?_) (λ _ _=>rfl) (λ d e b a=>?_)
 ·refine gb a λ es k p a=>?_;exact CM (λ z f=>i g a f) h
 ·exact gb a λ _ k p _=>E1 rfl b
def Fy(w:SEs G F i):S1 G F (.call f i):=by
 refine .of (λ {l X e δ r} g a h=>?_) (λ _ _=>rfl) (λ l e d a=>?_)
 ·refine J6 a λ ef B m a=>?_;rw[g6,g6]at a;obtain⟨⟨b,A⟩,j⟩:=a;refine J5 b λ x p b=>?_;simp only[g6,g9,cG,ne_eq]at b;obtain⟨k,fa,fd,ps,o,q,u,v,s,fo⟩:=g.fns f x b.1.1;cases B with
  | nil=>cases A
  | cons y ys=>
   have c:=W0 j;rw[J2,N5]at c;exact CS fo s o (g.glo x b.1.2) q u v (λ z n=>w g j n) (A1.mpr b.2) c.1 c.2 h
 ·exact J6 a λ _ _ _ _=>E1 rfl d
def s_bi(C:SEs G F k):S1 G F (.bi f k):=by
 refine .of (λ {x X e E r} g j h=>?_) (λ _ _=>rfl) (λ x e v j=>?_)
 ·refine J6 j λ ef K I j=>?_;rw[g6,g6]at j;obtain⟨⟨J,s⟩,a⟩:=j;obtain⟨⟨p,rfl⟩,c,b⟩:=bw g J;cases K with
  | nil=>cases s
  | cons y H=>
   have d:t4 x k _=true->(∀q,evEs G F k E=some q->PA X _ _)/\s9 y=false/\H.any s9=false:=λ z=>by have i:=W0 z;rw[J2,N5]at i;exact⟨λ w m=>C g z m,i.1,i.2⟩
   cases f with
   | len=>obtain⟨A,s1,s2⟩:=d a;exact dm CW c b boot_len JY JY A s1 s2 h
   | min=>obtain⟨A,s1,s2⟩:=d a;exact dm (CZ g.calm (by have:=g.hu;omega)) c b boot_min JY JY A s1 s2 h
   | max=>obtain⟨A,s1,s2⟩:=d a;exact dm (Da g.calm) c b boot_max JY JY A s1 s2 h
   | sum=>obtain⟨A,s1,s2⟩:=d a;exact dm (Db g.calm) c b Dc JY JY A s1 s2 h
   | int=>obtain⟨A,s1,s2⟩:=d a;exact li Dg c b boot_int JY JY A s1 s2 h
   | tuple=>obtain⟨A,s1,s2⟩:=d a;exact li Di c b boot_tuple JY JY A s1 s2 h
   | list=>obtain⟨A,s1,s2⟩:=d a;exact li Dh c b boot_list JY JY A s1 s2 h
   | abs=>obtain⟨A,s1,s2⟩:=d a;exact dm CY c b boot_abs JY JY A s1 s2 h
   | sset=>
    have a:=a
    clear d
    revert s;refine N9 a λ e1 a=>J6 a λ L u B a=>λ s=>?_
    rw[g6,g6]at a;obtain⟨⟨p',rfl⟩,o,n⟩:=bw g a.1.1;cases u with
    | nil=>cases a.1.2
    | cons y' l=>
     have i:=W0 a.2;rw[J2,N5]at i;cases l with
     | nil=>exact Df g.calm c b o n (λ w m=>C g a.2 m) i.1 h
     | cons y2 yr=>
      have z:=g9.mp a.1.2;simp at z
 ·exact J6 j λ _ _ _ _=>E1 rfl v
def Fz(h:U7.contains x=true):∃t,bq x=some t:=by
 have a:∀x∈U7,∃t,bq x=some t:=by
  intro x b;simp only[U7,i5,O8,P4]at b;rcases b with rfl | rfl | rfl | rfl | rfl | rfl
  ·exact⟨"int",by decide +kernel⟩
  ·exact⟨"bool",by decide +kernel⟩
  ·exact⟨"str",by decide +kernel⟩
  ·exact⟨"list",by decide +kernel⟩
  ·exact⟨"tuple",by decide +kernel⟩
  ·exact⟨"dict",by decide +kernel⟩
 exact a x (O4.mp h)
def FA:∀x∈U7,x ≠ "__name__" /\ (x==("__debug__" : Str))=false:=by
 intro x a;simp[U7,i5,O8,P4]at a;rcases a with rfl | rfl | rfl | rfl | rfl | rfl<;>exact⟨by decide +kernel,by decide +kernel⟩
def FB:V->on V->Hp->VK->Prop:=λ x xs H Q=>∃i,x=.int i/\xs=[]/\Q (.int (aX i)) H
def FC(i:Int):((Builtin.Int.intBits i:Nat):Int)=aX i:=by
 unfold Builtin.Int.intBits aX;by_cases h:i=0
 ·subst h;rfl
 ·rw[g8 (by grind),g8 h];rfl
def FE:MtR X "int.bit_length" FB:=by
 intro a s σ H x xs v us Q I b c h;obtain⟨i,rfl,rfl,q⟩:=h;obtain⟨t,rfl⟩:=(b);cases c;exact PyProof.Rows.call_int_bit_length ⟨.int _,H,I.tok _,by rw[←FC];exact⟨_,rfl⟩,q⟩
def FG(C:S1 G F a):S1 G F (.meth m a es):=by
 refine .of (λ {z X e w r} g b h=>?_) (λ _ _=>rfl) (λ z e s b=>?_)
 ·refine kr b λ ef A b=>?_;refine cT b λ k n u b=>?_;simp only[g6,g9]at b;obtain⟨⟨⟨⟨K,J⟩,f⟩,I⟩,h5⟩:=b;subst K;have o:attributeBase k (qE m) X.env (eval k X.env)=eval k X.env:=by
   rw[B5]at f;rcases f with f | f
   ·obtain⟨y,l⟩:=X2.mp f;obtain⟨B,rfl⟩:=S6 l;rfl
   ·obtain⟨⟨a1,o1,b1⟩,l⟩:=X2.mp f;obtain⟨B,rfl⟩:=BM l;rfl
  have h:(if m=.bitLength then Re.thn _ (λ x _=>mtD m x)else none)=some r:=h;cases m with
  | bitLength=>
   rw[f8 rfl]at h;cases c:evE G F a w with
   | none=>rw[c]at h;cases h
   | some q=>
    rw[c]at h;cases q with
    | ok d dc=>
     have j:mtD .bitLength d=some r:=h;unfold mtD at j;split at j
     ·rename_i i _;cases j;exact((λ t (E:PE X k t)=>zj PySem.F.plainAttrs_int PySem.F.slot_int_bit_length PySem.F.type_int_bit_length FE E o (by rw[g9];exact I)) _ (C.1 g J c)).weak λ σ H Q ⟨O,W,R,p⟩=>⟨O,W,R,λ v M s1 L=>by
       have hv:=L.int (R.hid.mono s1);subst hv;exact⟨rfl,i,rfl,rfl,p _ M s1 A0⟩⟩
     ·cases j
  | index=>rw[g8 JY]at h;cases h
  | get=>rw[g8 JY]at h;cases h
 ·exact kr b λ _ _ _=>E1 rfl s
def FH(o:S1 G F a)(m:S1 G F b):S1 G F (.idx a b):=by
 refine .of (λ {j X e δ r} g c h=>?_) (λ _ _=>rfl) (λ j e f c=>?_)
 ·refine cW c λ ef eb k c=>?_;refine cT c λ ea n i c=>?_;simp only[g6,g9,t9]at c;obtain⟨⟨⟨⟨⟨w,v⟩,u⟩,s⟩,q⟩,p⟩:=c;subst w;obtain⟨y,l⟩:=X2.mp u;obtain⟨np,rfl⟩:=S6 l;exact CQ g.hu (λ z d=>o.1 g v d) (λ z d=>m.1 g q d) rfl (by rw[g9];exact s) (x5 p) h
 ·exact cW c λ _ _ _ _=>E1 rfl f
def FJ(k:S1 G F a)(j:S1 G F b):S1 G F (.dix a b):=by
 refine .of (λ {i X e δ r} g c h=>?_) (λ _ _=>rfl) (λ i e f c=>?_)
 ·refine U9 c λ ea eb p c=>?_;simp only[g6,t9]at c;obtain⟨⟨n,m⟩,l⟩:=c;exact ET (M0 JX g.hu) (λ z d=>k.1 g n d) (λ z d=>j.1 g m d) l h
 ·exact U9 c λ _ _ p _=>E1 rfl f
theorem sH:∀{a:on (Str×Nat)},a.lookup x=some f->(x,f)∈a
 | [],h=>by cases h
 | (y,g)::a,h=>by
  rw[E2]at h;split at h
  ·rename_i q;cases h;rw[g9.mp q];exact k8 ..
  ·exact k5 _ (sH h)
def FK(J:SEs G F j):S1 G F (.callv i xs j):=by
 refine .of (λ {n X e m r} g a h=>?_) (λ _ _=>rfl) (λ n e d a=>?_)
 ·refine J6 a λ ef M s a=>?_;rw[g6,g6,g6]at a;obtain⟨⟨⟨c,L⟩,K⟩,l⟩:=a;refine J5 c λ x p c=>?_;obtain⟨s1,s2,q,o⟩:=al g c;cases M with
  | nil=>cases K
  | cons y ys=>
   have b:=W0 l;rw[J2,N5]at b;have h:fK F xs _ m[i]? = some r:=h;unfold fK at h;split at h
   ·rename_i u E;split at h
    ·rename_i f H;obtain⟨k,fa,fd,ps,w,A,C,I,B,fo⟩:=g.fns f u (g9.mp (E6.mp L _ (sH H)));exact CU fo B w (Y9 s1 s2 q o) A C I E (λ z v=>J g l v) b.1 b.2 h
    ·cases h
   ·cases h
 ·exact J6 a λ _ _ _ _=>E1 rfl d
def FL{a:JS}(h:cZ a ps=true):defaultsOf a env=([],[]):=qG h (λ _ _ _ _=>rfl) λ _ _ _ _=>rfl
def FM(g:Good d G F X)(k:d.lp=true)(h:G.fnl.isEmpty=false)(i:¬d.sc.lookup n7=some .cell):(∃c P,X.env.code=.ref c/\∀{b:on (JI×Obj)} {σ:on (JF V)} {H:Hp} {s:JH},Inv X b σ H s->PySem.W.CodeHd s.heap c P/\H P=some (.tbl (X.env.qual ++ "<lambda>"))) /\
  ∀{b:on (JI×Obj)} {σ:on (JF V)} {H:Hp} {s:JH},Inv X b σ H s->∀x a,(d.sc.lookup x=some .cell\/d.top=false)->X.env.cells.lookup x=some a->X.base.get? a=none/\a∉frs X.stack:=by
 cases ht:d.top with
 | false=>
  obtain⟨f,k2,_⟩:=g.clo k ht;exact⟨f,λ _ x a _=>k2 x a⟩
 | true=>
  obtain⟨_,_,j⟩:=g.lms h;obtain⟨c,P,f,k2,k3,_⟩:=j ht;rw[show tagN d.sc = "<lambda>" from g8 i]at k3;exact⟨⟨c,P,f,λ I=>⟨k2 _ I.kIn,I.tabs _ k3⟩⟩,λ I x a z e=>rK I (bv g (z.elim id λ w=>nomatch w)).2.1 e⟩
def FN(ha:S1 G F a):S1 G F (.maxk a N d B fr):=by
 refine .of (λ {v X e x r} g b h=>?_) (λ _ _=>rfl) (λ v e L b=>?_)
 ·obtain⟨ht,b⟩:=J1.mp b;refine qz b λ ef ea kn el kp pos b=>?_
  simp only[g6,g9,t9]at b;obtain⟨⟨⟨⟨c1,c2⟩,c4⟩,c5⟩,b⟩:=b;refine Br b λ pr bd A lp b=>?_
  subst c2;obtain⟨⟨px,rfl⟩,K,J⟩:=bw g c1;rw[g6]at b;obtain⟨w,c9⟩:=b;have U:=w;unfold qH at w;simp only[g6,g9,t9,E6,cG,ne_eq,A5]at w;obtain⟨⟨⟨⟨⟨⟨⟨⟨⟨⟨⟨⟨S,l2⟩,l3⟩,l4⟩,l5⟩,l6⟩,l7⟩,l8⟩,l9⟩,p⟩,E⟩,lc⟩,C⟩:=w;have h:fI G F (evE G F a x) N d B (capD x fr)=some r:=h;unfold fI at h;split at h
  ·rename_i cs u;split at h
   ·cases h
   ·rename_i H;have l:G.fnl.isEmpty=false:=by simpa using H
    obtain⟨⟨Q,O,M⟩,⟨k,hr,lo,_⟩,wt⟩:=g.lms l;obtain⟨⟨c,P,k1,k2⟩,k3⟩:=FM g ht l lc;have Y:∀y∈A.names,y.2=NameKind.free->v.sc.lookup y.1=some .cell\/v.top=false/\v.sc.lookup y.1=some .free:=λ y f s=>by have z:=C y f;rw[f8 (by rw[s])]at z;rw[B5,g6,t9,g9,g9]at z;exact z
    have o:=λ y f s=>g.cel y.1 ((Y y f s).imp id (·.2));have T:LamTx N (N.take d) A:=by
     have R:(N.take d).length=d:=by rw[X8];omega
     refine⟨l2,l3,l4,bu l5,by rw[R],l8,l9,λ i y h1 h2=>p y ?_⟩;rw[R]at h1;refine K1 (i:=i - d) ?_;rw[aH,show d+(i - d)=i by omega];exact h2
    have m:∀(j i:Nat),fr[j]? = some i->∃y,N[d+j]? = some y/\X.N[i]? = some y/\(X.env.kindOf y=some .cell\/X.env.kindOf y=some .free):=λ j i W=>by
     have hjl:=(v9.mp W).1;have q:d+j<N.length:=by omega
     have f:(N.drop d)[j]? = some N[d+j]:=by rw[aH,n6 q]
     have hz:(i,N[d+j])∈fr.zip (N.drop d):=K1 (i:=j) (by rw[hZ];exact⟨W,f⟩);have q1:=E _ hz;have Z:=p _ (K1 f);exact⟨_,n6 q,by rw[g.N];exact q1,o _ (x8 Z) rfl⟩
    cases n:evE G F a x with
    | none=>rw[n]at h;cases h
    | some ra=>
     rw[n]at h;exact Ec (fr:=fr) (P:=P) (c:=c) lo hr Q O M K J c5 ⟨k1,λ I=>(k2 I).1,λ I=>(k2 I).2,o⟩ (FL S) T (λ I c b=>by
       obtain⟨y,e,hm⟩:=gr I (λ y f s=>I.ok.has y.1 (o y f s)) c b;exact k3 I y c ((Y _ hm rfl).imp id (·.1)) e) ((by unfold Z9;rw[g6];refine⟨S,?_⟩;show corE ⟨N,A.names,G.fnl,G.bll,G.cll,false,false,noCo⟩ false B bd=true;rw[Q,O,M];exact c9)) l7 m u (ha.1 g c4 n) h
  ·cases h
 ·obtain⟨_,b⟩:=J1.mp b;exact qz b λ _ _ _ _ _ _ _=>E1 rfl L
def FO(i:S1 G F c)(o:S1 G F a)(n:S1 G F b):S1 G F (.ite c a b):=by
 refine .of2 (λ {s X e q r} g f h=>?_) (λ {s X e q r} g f h=>?_) (λ _ _=>rfl)
 ·refine qj f λ u w v p f=>?_;simp only[g6]at f;obtain⟨⟨m,l⟩,j⟩:=f;exact CI (λ z d=>i.2.1 g m d) (λ z d=>o.1 g l d) (λ z d=>n.1 g j d) h
 ·refine qj f λ u w v p f=>?_;simp only[g6]at f;obtain⟨⟨m,l⟩,j⟩:=f;exact CH (λ z d=>i.2.1 g m d) (λ z d=>o.2.1 g l d) (λ z d=>n.2.1 g j d) h
def FP(s:SEs G F f):S1 G F (.self k l f):=by
 refine .of (λ {o X e n r} g a h=>?_) (λ _ _=>rfl) (λ o e j a=>?_)
 ·obtain⟨i,a⟩:=J1.mp a;refine J6 a λ ef v q a=>?_
  simp only[g6,t9]at a;obtain⟨⟨c,u⟩,m⟩:=a;refine J5 c λ x p c=>?_
  rw[g9]at c;subst c;rw[g6,t9]at i;have h:cM G F k l _ _=some r:=h;cases v with
  | nil=>cases u
  | cons e0 er=>
   have d:=W0 m;rw[J2,N5]at d;cases b:evEs G F f n with
   | none=>
    rw[b]at h;unfold cM at h;split at h
    ·split at h
     ·obtain⟨_,_,z⟩:=p4.mp h;cases z
     ·cases h
    ·cases h
   | some rs=>
    rw[b]at h;exact(g.clo i.1 i.2).2.2 (s g m b) d.1 d.2 h
 ·obtain⟨_,a⟩:=J1.mp a;exact J6 a λ _ _ _ _=>E1 rfl j
def FQ(w:S1 G F a):S1 G F (.isi a i):=by
 refine .of (λ {j X e δ r} g b h=>?_) (λ _ _=>rfl) (λ j e d b=>?_)
 ·refine qw b λ ef ea et k b=>?_;simp only[g6,t9]at b;obtain⟨⟨⟨⟨B,A⟩,y⟩,h4⟩,c⟩:=b;obtain⟨⟨p,rfl⟩,v,u⟩:=bw g B;split at c
  ·rename_i t;simp only[g6,g9,O4]at c;obtain⟨⟨⟨q,o⟩,n⟩,f⟩:=c;obtain⟨p',rfl⟩:=S6 q;obtain⟨T,x⟩:=Fz (O4.mpr f);obtain⟨m,l⟩:=FA t f;exact Dq x v u (g.glo t o) (g.blt t n) m l (λ z s=>w.1 g A s) y h
  ·cases c
 ·exact qw b λ _ _ _ _ _=>E1 rfl d
theorem lL:∀{a:on ME} {b:on Sv} {l:on (DV×Cl)},evEs G F a b=some (.ok l)->l.length=a.length
 | [],_,_,h=>by unfold evEs at h;cases h;rfl
 | m::a,b,l,h=>by
  unfold evEs at h;split at h
  ·cases h
  ·split at h
   ·cases h
   ·rename_i l' q;cases h;rw[p9,p9,lL q]
theorem sI:∀{b:Sg} {a:on ME} {es:on JK},t4 b a es=true->a.length=es.length
 | _,[],[],_=>rfl
 | _,[],_::_,h=>by unfold t4 at h;cases h
 | _,_::_,[],h=>by unfold t4 at h;cases h
 | b,m::a,e::es,h=>by unfold t4 at h;simp[g6]at h;rw[p9,p9,sI h.2]
def FR(s:SEs G F d):S1 G F (.rng d):=by
 refine⟨λ {n X e m r} g a h=>?_,λ {n X e m r} g a h=>?_,λ {n X e tg m r} g a _ h=>?_⟩
 ·cases(a:false=true)
 ·cases(a:false=true)
 ·refine J6 (J1.mp a).2 λ ef x w a=>?_;rw[g6,A5]at a;obtain⟨a,j⟩:=a;rw[g6]at a;obtain⟨⟨p,rfl⟩,q,o⟩:=bw g a.1;have f:=sI a.2;have c:=W0 a.2;cases x with
  | nil=>
   exfalso;cases d with
   | nil=>cases(h:none=some r)
   | cons _ _=>cases f
  | cons y v=>
   rw[J2,N5]at c;cases v with
   | nil=>exact DF q o (λ z i=>s g a.2 i) c.1 h λ l k=>by rw[lL k,f];rfl
   | cons z u=>
    cases u with
    | nil=>
     have b:=c.2;rw[J2,N5]at b;exact DG q o (λ z i=>s g a.2 i) c.1 b.1 h λ l k=>by rw[lL k,f];rfl
    | cons _ _=>simp at j
def FT(s:S1 G F a):S1 G F (.enu a):=by
 refine⟨λ {d X e c r} g b h=>?_,λ {d X e c r} g b h=>?_,λ {d X e j c r} g b n h=>?_⟩
 ·cases(b:false=true)
 ·cases(b:false=true)
 ·refine cW (J1.mp b).2 λ ef ea l b=>?_;simp only[g6,t9]at b;obtain⟨⟨w,v⟩,u⟩:=b;obtain⟨⟨p,rfl⟩,q,o⟩:=bw g w;have t:=n rfl;cases f:L7 j with
  | none=>rw[f]at t;cases t
  | some i=>
   obtain⟨k,tp,rfl⟩:=cY f;exact DW q o u (λ z m=>s.1 g v m) h
def FU(w:S1 G F a):S1 G F (.itm a):=by
 refine⟨λ {d X e c r} g b h=>?_,λ {d X e c r} g b h=>?_,λ {d X e o c r} g b u h=>?_⟩
 ·cases(b:false=true)
 ·cases(b:false=true)
 ·refine kr (J1.mp b).2 λ ef p b=>?_;refine cT b λ q n m b=>?_;simp only[g6]at b;obtain⟨⟨⟨B,A⟩,y⟩,j⟩:=b;have v:=g9.mp B;subst v;cases i:J7 q with
  | none=>rw[i]at j;cases j
  | some x=>
   obtain⟨np,rfl⟩:=S6 i;have t:=u rfl;cases f:L7 o with
   | none=>rw[f]at t;cases t
   | some l=>
    obtain⟨k,tp,rfl⟩:=cY f;exact Ff rfl y (λ z s=>w.1 g A s) h
def FV{sg:Sg}{X:Cx}{e:JK}{δ:on Sv}{r:Re}{tg:Tg}{fr:on (JF Nat)}{cp:CParts}{tn:on Str}(ha:S1 G F a)(hb:S1 G F b)(g:Good sg G F X)(hemp:cp.ifs=[])
  (h2:corE sg true b cp.it=true) (hz:isZp b=true->(L7 cp.tg).isSome=true) (h4:Z8 sg (F9 sg tn fr) fr cp.sc tg=true) (h5:tgOk ⟨F9 sg tn fr,cp.sc.names,sg.fn,sg.bl,sg.cl,false,false,noCo⟩ tg cp.tg=true) (h6:corE ⟨F9 sg tn fr,cp.sc.names,sg.fn,sg.bl,sg.cl,false,false,noCo⟩ false a cp.elt=true)
  (h:evE G F (.comp a tg b fr) δ=some r):V6 X δ cp.tg cp.it cp.ifs cp.elt cp.sc (F9 sg tn fr) fr tg r:=by
 obtain⟨S,nd,sl⟩:=dH g h4;rw[hemp];exact DI S g.calm nd sl (λ z hz'=>hb.2.2 g h2 hz hz') (λ C cells s₂ H₂ fp=>dJ (ak g h4 C cells s₂ H₂ fp) h5) (λ δ' r' hr C cells s₂ H₂ fp=>ha.1 (ak g h4 C cells s₂ H₂ fp) h6 hr) h
def FW{sg:Sg}{X:Cx}{e cd:JK}{δ:on Sv}{r:Re}{tg:Tg}{fr:on (JF Nat)}{cp:CParts}{tn:on Str}(ha:S1 G F a)(hb:S1 G F b)(hcc:S1 G F c)(g:Good sg G F X)(hemp:cp.ifs=[cd])
  (h2:corE sg true b cp.it=true) (hz:isZp b=true->(L7 cp.tg).isSome=true) (h4:Z8 sg (F9 sg tn fr) fr cp.sc tg=true) (h5:tgOk ⟨F9 sg tn fr,cp.sc.names,sg.fn,sg.bl,sg.cl,false,false,noCo⟩ tg cp.tg=true) (h6:corE ⟨F9 sg tn fr,cp.sc.names,sg.fn,sg.bl,sg.cl,false,false,noCo⟩ false a cp.elt=true)
  (h7:corE ⟨F9 sg tn fr,cp.sc.names,sg.fn,sg.bl,sg.cl,false,false,noCo⟩ false c cd=true) (h:evE G F (.compi a tg b c fr) δ=some r):V6 X δ cp.tg cp.it cp.ifs cp.elt cp.sc (F9 sg tn fr) fr tg r:=by
 obtain⟨S,nd,sl⟩:=dH g h4;rw[hemp];exact DJ S g.calm nd sl (λ z hz'=>hb.2.2 g h2 hz hz') (λ C cells s₂ H₂ fp=>dJ (ak g h4 C cells s₂ H₂ fp) h5) (λ δ' r' hr C cells s₂ H₂ fp=>ha.1 (ak g h4 C cells s₂ H₂ fp) h6 hr)
  (λ δ' r' hr C cells s₂ H₂ fp=>hcc.2.1 (ak g h4 C cells s₂ H₂ fp) h7 hr) h
def am(G:Gs)(F:Nat->on DV->JF Ou)(m:ME):Prop:=∀{sg:Sg} {X:Cx} {e:JK} {δ:on Sv} {r:Re},Good sg G F X->corE sg false m e=true->evE G F m δ=some r ->
 ∃(cp:CParts) (N':on Str) (fr:on (JF Nat)) (tg:Tg) (p:Pos),e=.ListComp cp.elt [⟨cp.tg,cp.it,cp.ifs,0⟩] cp.sc p/\CompScope X.N N' cp.sc X.env.scope fr/\V6 X δ cp.tg cp.it cp.ifs cp.elt cp.sc N' fr tg r /\
  (∀C cells s₂ H₂ fp,PG (t5 X cp.sc N' C cells s₂ H₂ fp) cp.tg (gT X.K tg))/\F8 cp.it=false
def am.s1(h:am G F m)(hw:∀a e,corE a true m e=corE a false m e)(f:∀a e,corE a false m e=true->sG e=true):S1 G F m:=by
 refine .of (λ {a X e δ r} g b q=>?_) hw (λ a e c b=>?_)
 ·obtain⟨cp,N',fr,tg,p,rfl,S,P,i,d⟩:=h g b q;exact P.pe S g.calm i d
 ·exact E1 (f a e b) c
def sJ(m:S1 G F a)(l:S1 G F b):am G F (.comp a tg b fr):=by
 intro sg X e δ r g k h;refine gh k λ f p k=>?_
 simp only[g6,t9,B5]at k;obtain⟨⟨⟨s,q,o⟩,n⟩,c⟩:=k;obtain⟨tn,_,c⟩:=A3 c;simp only[g6]at c;refine⟨f,_,fr,tg,p,rfl,(dH g c.1.1).1,FV (e:=.ListComp f.elt [⟨f.tg,f.it,f.ifs,0⟩] f.sc p) m l g (List.isEmpty_iff.mp s) q (λ z=>?_) c.1.1 c.1.2 c.2 h,λ C d i j u=>dJ (ak g c.1.1 C d i j u) c.1.2,n⟩;rcases o with w | w
 ·rw[z]at w;cases w
 ·exact w
def sM(q:S1 G F a)(o:S1 G F b)(m:S1 G F c):am G F (.compi a tg b c fr):=by
 intro sg X e δ r g l h;refine gh l λ i p l=>?_
 simp only[g6,t9,B5]at l;obtain⟨⟨⟨v,u⟩,s⟩,d⟩:=l;obtain⟨tn,_,d⟩:=A3 d;obtain⟨ec,n,d⟩:=AZ d;simp only[g6]at d;refine⟨i,_,fr,tg,p,rfl,(dH g d.1.1.1).1,FW (e:=.ListComp i.elt [⟨i.tg,i.it,i.ifs,0⟩] i.sc p) q o m g n v (λ z=>?_) d.1.1.1 d.1.1.2 d.1.2 d.2 h,λ C f j k x=>dJ (ak g d.1.1.1 C f j k x) d.1.1.2,s⟩;rcases u with w | w
 ·rw[z]at w;cases w
 ·exact w
def FX(g:S1 G F a)(f:S1 G F b):S1 G F (.comp a tg b fr):=am.s1 (λ {c X e δ r}=>sJ g f) (λ _ _=>rfl) λ c e d=>gh d λ _ _ _=>rfl
def FY(i:S1 G F a)(h:S1 G F b)(d:S1 G F c):S1 G F (.compi a tg b c fr):=am.s1 (λ {f X e δ r}=>sM i h d) (λ _ _=>rfl) λ f e g=>gh g λ _ _ _=>rfl
def FZ:SEs G F []:=λ {sg X b δ r} g a h=>by
 cases b with
 | nil=>unfold evEs at h;cases h;exact CJ
 | cons _ _=>unfold t4 at a;cases a
def Ga(j:S1 G F a)(i:SEs G F d):SEs G F (a::d):=λ {sg X f δ r} g b h=>by
 cases f with
 | nil=>unfold t4 at b;cases b
 | cons e f=>
  unfold t4 at b;simp only[g6,t9]at b;unfold evEs at h;exact CK b.1.2 (λ z c=>j.1 g b.1.1 c) (λ z c=>i g b.2 c) h
def Gb:SAnd G F []:=λ {sg X es δ a} g hc=>⟨λ r h=>(by unfold L4 at h;cases h),λ r h=>(by unfold L4 at h;cases h)⟩
def Gc:SOr G F []:=λ {sg X es δ a} g hc=>⟨λ r h=>(by unfold evOr at h;cases h),λ r h=>(by unfold evOr at h;cases h)⟩
def Gd(i:S1 G F a)(n:SAnd G F f):SAnd G F (a::f):=λ {l X d k j} g b=>by
 cases d with
 | nil=>unfold t4 at b;cases b
 | cons e d=>
  unfold t4 at b;simp only[g6,t9]at b;cases f with
  | nil=>
   cases d with
   | nil=>
    refine⟨λ r h=>?_,λ r h=>?_⟩
    ·unfold L4 at h;exact nY (i.1 g b.1.1 h)
    ·unfold L4 at h;exact xC (i.2.1 g b.1.1 h)
   | cons _ _=>have:=b.2;unfold t4 at this;cases this
  | cons m f=>
   cases d with
   | nil=>have:=b.2;unfold t4 at this;cases this
   | cons e' d=>
    have B:=@n l X _ k j g b.2;refine⟨λ r h=>?_,λ r h=>?_⟩
    ·unfold L4 at h;exact CB (λ z c=>i.1 g b.1.1 c) (λ z c=>B.1 z c) h
    ·unfold L4 at h;exact CF (λ z c=>i.2.1 g b.1.1 c) (λ z c=>B.2 z c) h
def Ge(i:S1 G F a)(n:SOr G F f):SOr G F (a::f):=λ {l X d k j} g b=>by
 cases d with
 | nil=>unfold t4 at b;cases b
 | cons e d=>
  unfold t4 at b;simp only[g6,t9]at b;cases f with
  | nil=>
   cases d with
   | nil=>
    refine⟨λ r h=>?_,λ r h=>?_⟩
    ·unfold evOr at h;exact nY (i.1 g b.1.1 h)
    ·unfold evOr at h;exact xD (i.2.1 g b.1.1 h)
   | cons _ _=>have:=b.2;unfold t4 at this;cases this
  | cons m f=>
   cases d with
   | nil=>have:=b.2;unfold t4 at this;cases this
   | cons e' d=>
    have B:=@n l X _ k j g b.2;refine⟨λ r h=>?_,λ r h=>?_⟩
    ·unfold evOr at h;exact CC (λ z c=>i.1 g b.1.1 c) (λ z c=>B.1 z c) h
    ·unfold evOr at h;exact CG (λ z c=>i.2.1 g b.1.1 c) (λ z c=>B.2 z c) h
def Gf(f:SAnd G F d):S1 G F (.and d):=by
 refine .of2 (λ {j X e i r} g a h=>?_) (λ {j X e i r} g a h=>?_) (λ _ _=>rfl)
 ·refine ga a λ o k p a=>?_;simp only[g6,g9]at a;obtain⟨c,b⟩:=a;subst c;exact(f g b).1 r h
 ·refine ga a λ o k p a=>?_;simp only[g6,g9]at a;obtain⟨c,b⟩:=a;subst c;exact((f g b).2 r h).pt
def s_or(f:SOr G F d):S1 G F (.or d):=by
 refine .of2 (λ {j X e i r} g a h=>?_) (λ {j X e i r} g a h=>?_) (λ _ _=>rfl)
 ·refine ga a λ o k p a=>?_;simp only[g6,g9]at a;obtain⟨c,b⟩:=a;subst c;exact(f g b).1 r h
 ·refine ga a λ o k p a=>?_;simp only[g6,g9]at a;obtain⟨c,b⟩:=a;subst c;exact((f g b).2 r h).pt
end
section
variable {G:Gs} {F:Nat->on DV->JF Ou}
mutual
theorem snd:∀m:ME,S1 G F m
 | .var _=>Fk
 | .int _=>Fm
 | .bl _=>s_bl
 | .str _=>Fo
 | .non=>Fn
 | .glb _=>Fp
 | .bin _ a b=>Fq (snd a) (snd b)
 | .neg a=>Fs (snd a)
 | .not a=>Ft (snd a)
 | .cmp _ a b=>Fu (snd a) (snd b)
 | .chain _ _ a b c=>Fv (snd a) (snd b) (snd c)
 | .and es=>Gf (sN es)
 | .or es=>s_or (sO es)
 | .lst es=>Fw (sndL es)
 | .tup es=>Fx (sndL es)
 | .ix a b=>s_ix (snd a) (snd b)
 | .sl a b c=>s_sl (snd a) (snd b) (snd c)
 | .call _ es=>Fy (sndL es)
 | .bi _ es=>s_bi (sndL es)
 | .isi a _=>FQ (snd a)
 | .meth _ a _=>FG (snd a)
 | .comp a _ b _=>FX (snd a) (snd b)
 | .compi a _ b c _=>FY (snd a) (snd b) (snd c)
 | .idx a b=>FH (snd a) (snd b)
 | .rng es=>FR (sndL es)
 | .enu a=>FT (snd a)
 | .itm a=>FU (snd a)
 | .dix a b=>FJ (snd a) (snd b)
 | .callv _ _ es=>FK (sndL es)
 | .maxk a _ _ _ _=>FN (snd a)
 | .ite a b c=>FO (snd a) (snd b) (snd c)
 | .self _ _ es=>FP (sndL es)
theorem sndL:∀ms:on ME,SEs G F ms
 | []=>FZ
 | a::ms=>Ga (snd a) (sndL ms)
theorem sN:∀ms:on ME,SAnd G F ms
 | []=>Gb
 | a::ms=>Gd (snd a) (sN ms)
theorem sO:∀ms:on ME,SOr G F ms
 | []=>Gc
 | a::ms=>Ge (snd a) (sO ms)
end
end
section
variable (G:Gs) (F:Nat->on DV->JF Ou) (fu:Nat)
def SS(m:MS):Prop:=∀{sg:Sg} {X:Cx} {st:JP} {δ:on Sv} {o:Out},Good sg G F X->corS sg m st=true->evS G F fu m δ=some o->PS X st (dS X.D δ o)
def SSs(ms:on MS):Prop:=∀{sg:Sg} {X:Cx} {sts:on JP} {δ:on Sv} {o:Out},Good sg G F X->C6 sg ms sts=true->evSs G F fu ms δ=some o->PSs X sts (dS X.D δ o)
end
def Gg(h:qI e=true):am G F e:=by
 cases e with
 | comp a _ b _=>exact sJ (snd a) (snd b)
 | compi a _ b c _=>exact sM (snd a) (snd b) (snd c)
 | _=>cases h
def Gh:SS G F fu (.set i own e):=by
 intro sg X st u o g c h;refine cX c λ t v w c=>?_
 refine J5 c λ x pt c=>?_;simp only[g6,g9,B5,t9]at c;obtain⟨⟨⟨E,C⟩,s⟩,d⟩:=c;have l:=g.loc x C;have q:X.N[i]? = some x:=by rw[g.N];exact E
 have h:Re.thnS u _ _=some o:=h;cases hv:S4 v with
 | false=>exact se g.nd q l.1 l.2 (λ z j=>(snd e).1 g s j) (gw hv) h
 | true=>
  rcases d with d | B
  ·rw[hv]at d;cases d
  ·cases m:evE G F e u with
   | none=>rw[m]at h;cases h
   | some r=>
    obtain⟨a,N',fr,tg,p,rfl,S,P,A,y⟩:=Gg B g s m;cases f:(X.env.blockKind == .function&&X.env.kindOf x==some .local&&pt.line==(Expr.ListComp a.elt [⟨a.tg,a.it,a.ifs,0⟩] a.sc p).pos.line && !_)with
    | false=>
     have b:=(by show(pure (X.env.blockKind == .function&&X.env.kindOf x==some .local&&pt.line==(Expr.ListComp a.elt [⟨a.tg,a.it,a.ifs,0⟩] a.sc p).pos.line && !(a.sc.names.any λ (n,k)=>n==x&&(k == .local||k == .cell))):Sem Bool)=pure false;rw[f]);exact se g.nd q l.1 l.2 (λ z j=>(snd e).1 g s j) b h
    | true=>
     have b:=(by show(pure (X.env.blockKind == .function&&X.env.kindOf x==some .local&&pt.line==(Expr.ListComp a.elt [⟨a.tg,a.it,a.ifs,0⟩] a.sc p).pos.line && !(a.sc.names.any λ (n,k)=>n==x&&(k == .local||k == .cell))):Sem Bool)=pure true;rw[f]);rw[m]at h;have d:X.env.kindOf x=some .local:=by simp only[g6,g9]at f;exact f.1.1.2
     exact Ej S g.calm g.nd q d P A y b h
def Gi:SS G F fu (.app i e):=by
 intro sg X st δ o g a h;refine kf a λ v k a=>?_
 refine cW a λ ef ea c a=>?_;refine cT a λ ob n d a=>?_;simp only[g6,t9]at a;obtain⟨⟨⟨⟨s,b⟩,r⟩,q⟩,p⟩:=a;refine J5 b λ x np b=>?_;obtain⟨s1,s2,j,f⟩:=al g b;have m:=g9.mp s;subst m;exact Ek (Y9 s1 s2 j f) (λ z l=>(snd e).1 g r l) q p h
def Gj:SS G F fu (.ext i e):=by
 intro sg X st δ o g a h;refine kf a λ v k a=>?_
 refine cW a λ ef ea c a=>?_;refine cT a λ ob n d a=>?_;simp only[g6,t9]at a;obtain⟨⟨⟨⟨s,b⟩,r⟩,q⟩,p⟩:=a;refine J5 b λ x np b=>?_;obtain⟨s1,s2,j,f⟩:=al g b;have m:=g9.mp s;subst m;exact En (Y9 s1 s2 j f) (λ z l=>(snd e).1 g r l) q p h
def Gk:SS G F fu (.retd i):=by
 intro sg X st δ o g a h;refine kt a λ v d a=>?_
 refine J5 a λ x np a=>?_;obtain⟨s1,s2,c,b⟩:=al g a;exact EJ (Y9 s1 s2 c b) h
def Gm:SS G F fu (.sep i):=by
 intro sg X st δ o g a h;refine cX a λ t v b a=>?_
 refine J5 a λ x np a=>?_;refine BG a λ _ a=>?_;rw[g6,g9]at a;obtain⟨d,c⟩:=g.loc x a.2;exact EW g.nd (by rw[g.N];exact a.1) d c h
def Gn:SS G F fu (.dpp i ks e):=by
 intro sg X st δ o g a h;refine cX a λ t v k a=>?_
 refine U9 a λ ob ek sp a=>?_;simp only[g6,t9]at a;obtain⟨⟨⟨d,c⟩,m⟩,l⟩:=a;refine J5 d λ x np d=>?_;obtain⟨s1,s2,j,f⟩:=al g d;refine gb c λ es tk tp c=>?_;exact EX (M0 JX g.hu) (Y9 s1 s2 j f) (λ z b=>(snd e).1 g m b) (λ z b=>sndL ks g c b) l h
def Go:SS G F fu (.seti i k e):=by
 intro sg X st δ o g a h;refine cX a λ t v j a=>?_
 refine U9 a λ ob ek sp a=>?_;simp only[g6,t9]at a;obtain⟨⟨⟨c,n⟩,m⟩,l⟩:=a;refine J5 c λ x np c=>?_;obtain⟨s1,s2,f,d⟩:=al g c;exact El (Y9 s1 s2 f d) (λ z b=>(snd e).1 g l b) (λ z b=>(snd k).1 g n b) m h
def Gp:SS G F fu (.exp e):=by
 intro sg X st δ o g a h;refine kf a λ _ _ a=>?_
 simp only[g6,t9]at a;exact Ei (λ z b=>(snd e).1 g a.1 b) a.2 h
def Gq:SS G F fu (.ret e):=by
 intro sg X st δ o g a h;refine kt a λ _ _ a=>?_
 exact Eh (λ z b=>(snd e).1 g a b) h
def Gr:SS G F fu (.sett is e):=by
 intro sg X st δ o g b h;refine cX b λ t v c b=>?_
 simp only[g6,t9]at b;obtain⟨⟨⟨a,j⟩,i⟩,f⟩:=b;unfold tgOk at a;dsimp only at a;split at a
 ·rename_i l q;obtain⟨kk,tp,rfl⟩:=cY q;rw[g6,g6,g9]at a;obtain⟨A,B,C⟩:=lK g is l a.1.1 a.2;exact Ep (AF g.calm A B C) (λ z d=>(snd e).1 g j d) f i h
 ·cases a
def Gu:SS G F fu (.aug i e):=by
 intro sg X st δ o g c h;refine BE c λ t op v f c=>?_
 rw[g6,g6]at c;obtain⟨⟨n,b⟩,m⟩:=c;cases g9.mp n;refine J5 b λ x p b=>?_
 rw[g6]at b;have l:=g.loc x b.2;obtain⟨a,d,h⟩:=p4.mp h;exact Es g.nd (by rw[g.N];exact g9.mp b.1) l.1 l.2 (λ z j=>(snd e).1 g m j) (Er d) h
def Gv:SS G F fu .unk:=by
 intro sg X st δ o g hc h;cases h
def Gw:SS G F fu (.frz i):=by
 intro sg X st δ o g a h;cases a
def Gx:SS G F fu (.dfr i fr a es):=by
 intro sg X st δ o g b h;cases b
def Gy(i:SSs G F fu a)(f:SSs G F fu b):SS G F fu (.iff c a b):=by
 intro sg X st δ o g d h;refine By d λ _ _ _ _ d=>?_
 simp only[g6]at d;exact Eg (λ z e=>(snd c).2.1 g d.1.1 e) (λ z e=>i g d.1.2 e) (λ z e=>f g d.2 e) h
def t_fo(f:SSs G F fu body):SS G F fu (.fo tg e body):=by
 intro sg X st δ o g a h;refine BK a λ _ _ _ _ a=>?_
 simp only[g6,t9,B5]at a;obtain⟨⟨⟨⟨n,m⟩,l,k⟩,j⟩,i⟩:=a;exact Et (g.own n) g.calm (λ z c=>(snd e).2.2 g l (λ w=>by
  rcases k with q | q
  ·rw[w]at q;cases q
  ·exact q) c) (dJ g m) (λ b o' d=>f g i d) j h
def t_wh(f:SSs G F fu body):SS G F fu (.wh c body):=by
 intro sg X st δ o g a h;refine BL a λ _ _ _ a=>?_
 simp only[g6]at a;exact Eu (g.own a.1.1) (λ b r d=>(snd c).2.1 g a.1.2 d) (λ b o' e=>f g a.2 e) h
noncomputable def sP:MS->Bool
 | .dfr _ _ _ _=>true
 | .frz _=>true
 | _=>false
def Gz:SSs G F fu []:=by
 intro sg X c δ o g d h;cases c with
 | nil=>unfold evSs at h;cases h;exact Ed
 | cons a b=>unfold C6 at d;cases d
def GA(b:SSs G F fu f):SSs G F fu (.frz i::f):=by
 intro m X e c o g k h;have a:C6 m f e=true:=by unfold C6 at k;exact k
 unfold evSs at h;have j:evS G F fu (.frz i) c=frzS c i c[i]?:=rfl;rw[j]at h;cases q:c[i]? with
 | none=>rw[q]at h;exact b g a h
 | some l=>
  rw[q]at h;cases l with
  | own d=>exact Em q (b g a h)
  | no=>exact b g a h
  | val d=>exact b g a h
  | od d=>exact b g a h
def GB(q:G.clo=some C)(h:dfrS G F fr c b i f=some o):C.nc=fr.length/\f=some .no/\G.fnl.isEmpty=false/\∃n c0 cs l d,c=some (.ok (.int n) c0)/\i=some cs/\b=some (.ok l)/\M7 F C.np cs l=some (.ok d .strong)/\o=.rt (.tup [.int n,d]) false:=by
 unfold dfrS at h;rw[q]at h;dsimp only at h;split at h
 ·rename_i z;obtain⟨m,e,k⟩:=z;obtain⟨cs,s,h⟩:=p4.mp h;obtain⟨r,a,h⟩:=p4.mp h;have g:f=some .no:=by
   unfold noB at e;split at e
   ·rfl
   ·cases e
  cases c with
  | none=>cases a
  | some c=>
   cases c with
   | ok d0 c0=>
    obtain⟨n,p,a⟩:=p4.mp (a);obtain rfl:=y9 p;cases b with
    | none=>cases a
    | some b=>
     cases b with
     | ok l=>
      obtain⟨r',j,a⟩:=p4.mp (a);obtain⟨d,_,_,_,_,rfl⟩:=sD j;cases a;cases h;exact⟨m,g,k,n,c0,cs,l,d,rfl,s,rfl,j,rfl⟩
 ·cases h
def GC:SSs G F fu (.dfr i fr a es::ms):=by
 intro E X a0 q o g b h;have Y:(ky E i fr a0 (λ e l=>corE E false a e&&t4 E es l)&&ms.isEmpty)=true:=by unfold C6 at b;exact b
 rw[g6]at Y;obtain⟨b,hms⟩:=Y;have h:(match dfrS G F fr (evE G F a q) (evEs G F es q) (capD q fr) q[i]? with | some (.nx δ')=>evSs G F fu ms δ' | o=>o)=some o:=h;unfold ky at b;rw[g6,g6,g9]at b;obtain⟨⟨ht,m⟩,b⟩:=b;refine Z4 b λ sa sb b=>BI b λ n pr bd Z x dp b=>?_
 simp only[g6,g9,E6,A5]at b;obtain⟨⟨⟨⟨⟨⟨rfl,rfl⟩,hi⟩,a9⟩,a5⟩,a4⟩,b⟩:=b;refine kt b λ v rp b=>gb b λ ts tk tp b=>Z4 b λ ex ec b=>J6 b λ ef ea cp b=>?_
 simp only[g6,t9]at b;obtain⟨⟨⟨h1,h2⟩,a1⟩,h0,h3⟩:=b;refine J5 h1 λ x np h1=>?_
 rw[g9]at h1;subst h1;cases ea with
 | nil=>cases h2
 | cons e0 er=>
  have ns:=W0 h3;rw[J2,N5]at ns;obtain⟨C,hC,J⟩:=g.cos _ _ _ _ a9;obtain⟨a2,tx,U,_⟩:=sA J;cases hd:dfrS G F fr (evE G F a q) (evEs G F es q) (capD q fr) q[i]? with
  | none=>rw[hd]at h;cases h
  | some o'=>
   obtain⟨z1,z2,z3,n0,c0,cs,l,d,b3,e1,e2,e3,rfl⟩:=GB hC hd;rw[hd]at h;cases h;obtain⟨_,⟨k,hr,_,b0⟩,wt⟩:=g.lms z3;obtain⟨c,P,k1,k2,k3,k4⟩:=wt ht;rw[show tagN E.sc=n7 from f8 m]at k3;have B:∀y∈Z.names,y.2=NameKind.free->E.sc.lookup y.1=some .cell:=λ y r K=>by have z:=a4 y r;rw[f8 (by rw[K])]at z;exact g9.mp z
   obtain⟨c1,c2,c3⟩:=bv g m;have D:=Fj (pos:=dp) (bd:=bd) (⟨k1,k2,k3,λ y r K=>(bv g (B y r K)).1,k4 m⟩) a2 g.nd (by rw[g.N];exact hi) c1 c3 (.inl c2);have has:X.Ok->∀y∈Z.names,y.2=NameKind.free->∃a,X.env.cells.lookup y.1=some a:=λ ok y r K=>ok.has y.1 (.inl (bv g (B y r K)).1)
   have PC:PE X (.Call (.Name n7 np) (e0::er) [] cp) (λ L H Q=>∃f,(L[i]? = some (some (.ref f))/\G9 H n7 (X.env.qual++n7) pr bd Z (o6 X.env.cells Z.names []) f)/\dE X.D q (.ok d .strong) L H Q):=by
    refine sF (cs:=cs) (C:=C) (λ {ta} A=>sE (b0 C hC) hr J (λ ok=>Fi tx ok (has ok)) (λ I=>DB I (has I.ok) λ y r K=>(bv g (B y r K)).2.1) (λ {b4 L H H' s f} I sm ha=>⟨ha.2.mono sm,?_⟩) (.inl c1) z1.symm (λ j i' hj=>?_) e1 A ns.1 ns.2) ((sndL es) g h3 e2) e3
    ·obtain⟨mm,hn',a6⟩:=I.loc;obtain⟨u,rv,lk⟩:=a6 i n7 _ (by rw[g.N];exact hi) ha.1 (.inr (.inl c1));obtain rfl:u=Value.ref f:=rv;rcases lk with⟨q1,_⟩ | ⟨_,cx,q2,q3⟩
     ·have q1:X.env.kindOf n7=some .local:=q1;rw[c1]at q1;cases q1
     ·exact⟨cx,du (has I.ok) (x8 tx.slf) q2,q3⟩
    ·have hjl:j<fr.length:=(v9.mp hj).1;have S:=a5 i' (K1 hj);have r:E.N[i']? = some (E.N.getD i' ""):=by rw[n6 S,r9,n6 S];rfl
     have hq:((C.N.drop 2).take C.nc)[j]? = some (E.N.getD i' ""):=(by rw[←U,p5,hj];rfl);have N:=(by rw[aB JX,aH]at hq;exact hq);refine⟨_,N,by rw[g.N];exact r,.inl ?_⟩;have b2:=tx.fre (2+j) _ JX JX N;exact(bv g (B _ (x8 b2) rfl)).1
   have PX:=(snd a).1 g h0 b3;refine(fy D (fy (jn (pos:=rp) (jr (x1:=tk) (pos:=tp) (P6 PX (P6 PC U5 (x5 rfl)) (x5 a1)))) fz)).weak λ Dn L H ⟨H0,O,W,R,frr,fo,sm,kk⟩ f H' s1 hn df=>?_;have a7:i<L.length:=by rw[R.len];exact(v9.mp z2).1
   have R1:=(R.mono s1).anyNo z2 (some (.ref f));refine⟨O,W,R1,λ v0 Hx M gx=>⟨f,⟨by rw[L9 a7],df.mono M⟩,O,W,R1.mono M,λ v H2 s2 g2=>⟨by show(2:Nat)<=sizeLine;decide,λ p hp=>kk _ _ (((sm.trans s1).trans (M.trans s2)).trans (v7 hp)) ?_⟩⟩⟩;have a8:=gx.int (R1.hid.mono M);subst a8;have b1:Rep X.D (L2.wo (O++W) H2) d v:=g2;have a3:p∉O:=λ w=>(R1.mono M).hid.ot p (B4 _ w) (s2.free hp);show Rep X.D _ (.tup [.int n0,d]) (.ref p);exact D4.mpr ⟨p,_,rfl,SqT.of (by rw[j9 a3];exact x3),v5.mpr ⟨_,_,rfl,u6.mpr rfl,RepL.one ((b1.mono (G0 bg)).mono (v7 hp).wo)⟩⟩
def GD(e:sP m=false)(b:C6 c (m::d) a=true):∃st r,a=st::r/\corS c m st=true/\C6 c d r=true:=by
 cases a with
 | nil=>cases m<;>first | (cases e;done) | (unfold C6 at b;cases b)
 | cons st a=>exact⟨st,a,rfl,by cases m<;>first | (cases e;done) | (unfold C6 at b;rw[g6]at b;exact b)⟩
def H9(i:SS G F fu m)(l:SSs G F fu f)(j:sP m=false):SSs G F fu (m::f):=by
 intro sg X c δ o g k h;obtain⟨st,c,rfl,a⟩:=GD j k;unfold evSs at h;split at h
 ·rename_i b q;exact Ee (i g a.1 q) (l g a.2 h)
 ·rename_i e;cases o with
  | nx b=>exact absurd h (e b)
  | rt d fr=>exact Ef (i g a.1 h)
section
variable {G:Gs} {F:Nat->on DV->JF Ou} {fu:Nat}
mutual
theorem sndS:∀m:MS,SS G F fu m
 | .set _ _ _=>Gh
 | .app _ _=>Gi
 | .ext _ _=>Gj
 | .seti _ _ _=>Go
 | .exp _=>Gp
 | .ret _=>Gq
 | .iff _ a b=>Gy (B9 a) (B9 b)
 | .fo _ _ body=>t_fo (B9 body)
 | .wh _ body=>t_wh (B9 body)
 | .sep _=>Gm
 | .dpp _ _ _=>Gn
 | .retd _=>Gk
 | .unk=>Gv
 | .sett _ _=>Gr
 | .aug _ _=>Gu
 | .frz _=>Gw
 | .dfr _ _ _ _=>Gx
theorem B9:∀ms:on MS,SSs G F fu ms
 | []=>Gz
 | .dfr _ _ _ _::ms=>GC
 | .frz _::ms=>GA (B9 ms)
 | .sett i o::ms=>H9 (sndS (.sett i o)) (B9 ms) rfl
 | .aug i o::ms=>H9 (sndS (.aug i o)) (B9 ms) rfl
 | .set i o e::ms=>H9 (sndS (.set i o e)) (B9 ms) rfl
 | .app i o::ms=>H9 (sndS (.app i o)) (B9 ms) rfl
 | .ext i o::ms=>H9 (sndS (.ext i o)) (B9 ms) rfl
 | .seti i k o::ms=>H9 (sndS (.seti i k o)) (B9 ms) rfl
 | .exp e::ms=>H9 (sndS (.exp e)) (B9 ms) rfl
 | .ret e::ms=>H9 (sndS (.ret e)) (B9 ms) rfl
 | .iff c a b::ms=>H9 (sndS (.iff c a b)) (B9 ms) rfl
 | .fo t i b::ms=>H9 (sndS (.fo t i b)) (B9 ms) rfl
 | .wh c b::ms=>H9 (sndS (.wh c b)) (B9 ms) rfl
 | .retd i::ms=>H9 (sndS (.retd i)) (B9 ms) rfl
 | .sep i::ms=>H9 (sndS (.sep i)) (B9 ms) rfl
 | .dpp i k e::ms=>H9 (sndS (.dpp i k e)) (B9 ms) rfl
 | .unk::ms=>H9 (sndS .unk) (B9 ms) rfl
end
end
structure FunD(K:PySem.W.Frag)(x qual:Str)(st:Stmt)(f:Addr)(fd:FuncData):Prop where
 ex:∃(oc:Value) (od:Option Addr) (dV kV doc pm:Value) (an:Option Addr) (cdv ct:Value) (osl:Array (Option Value)),
  fd=PySem.W.fnOf x qual (Y8 st) (M4 st) (w6 st) dV kV doc pm an cdv ct/\K.lookup f=some ⟨oc,od,.func fd,osl⟩/\PySem.W.codeIn K cdv qual=true
def FunD.okX{K:JQ}(F:FunD K x a d f fd)(S:FnScope N ps (w6 d))(g:∀vs H Q E,e vs H Q E->vs.length=ps.length)
  (c:∀(b:JG),fd.code=b->∀(A:JO) (outer:on Env) (s:JH) (H:Hp) (vs:on V) (Q:VK) (E:XK),Room k (A.deeper (envOfC a (w6 d) s.heap.objs.size f b))->e vs H Q E ->
   ∃t,PSs (cxD P w K mg base N a (w6 d) f b A outer s H) (M4 d) t/\t {nx:=λ _ o=>Q .non o,rt:=Q} (start N vs) H):FnOk P w K mg base CX0 (k+1) f fd ps e:=by
 obtain⟨oc,od,dV,kV,n,pm,an,b,ct,j,rfl,l,i⟩:=F.ex;exact yK l i S g λ A outer s H vs Q E m h=>c b rfl A outer s H vs Q E m h
theorem RSt.start(m:n=N.length)(r:RepL D (L2.wo O H) ds vs)(k:Hdn O H):RSt D H (L2.start N vs) (p7 n ds) O []:=by
 subst m;have c:∀(i:Nat) b,(p7 N.length ds)[i]? ≠ some (.own b):=λ i b h=>by
  unfold p7 at h;by_cases e:i<(ds.map Sv.val).length
  ·rw[X1 e,p5]at h;cases q:ds[i]? with
   | none=>rw[q]at h;cases h
   | some d=>rw[q]at h;cases h
  ·rw[X0 JX,X3]at h;split at h<;>cases h
 have g:∀(i:Nat) b,(p7 N.length ds)[i]? ≠ some (.od b):=λ i b h=>by
  unfold p7 at h;by_cases e:i<(ds.map Sv.val).length
  ·rw[X1 e,p5]at h;cases q:ds[i]? with
   | none=>rw[q]at h;cases h
   | some d=>rw[q]at h;cases h
  ·rw[X0 JX,X3]at h;split at h<;>cases h
 refine⟨λ i d h=>?_,λ i b h=>absurd h (c i b),λ i j a p d2 h=>absurd h (c i p),λ i d h=>absurd h (g i d),?_,⟨λ a f=>k.ne a (by simpa using f),Same.refl _,λ a f=>(nomatch f),λ a f=>(nomatch f),k⟩⟩
 ·unfold p7 at h;by_cases e:i<(ds.map Sv.val).length
  ·rw[X1 e,p5]at h;cases q:ds[i]? with
   | none=>rw[q]at h;cases h
   | some d'=>
    rw[q]at h;cases h;obtain⟨v,l,o⟩:=r.get q;refine⟨v,?_,by rw[C8];exact o⟩;unfold L2.start;rw[X1 (by rw[g7];exact(v9.mp l).1),p5,l];rfl
  ·rw[X0 JX,X3]at h;split at h<;>cases h
 ·unfold L2.start p7;rw[t7,t7,g7,g7,aC,aC,r.length]
noncomputable def cloB(o:JF CloD)(fn bl cl:on Str):JS->on JP->JR->on Str->Bool:=match o with
 | some C=>V0 C fn bl cl
 | none=>noCo
def dqB(x:Str)(sc:on (Str×JU)):Bool:=L3 (x ++ ".<locals>." ++ n7)==(sc.lookup n7==some .cell)
def GE(h:dqB x sc=true):tagQ x=(x ++ ".<locals>.")++tagN sc/\(sc.lookup n7=some .cell->L3 ((x ++ ".<locals>.")++n7)=true):=by
 unfold dqB at h;rw[g9]at h;unfold tagQ tagN;by_cases z:sc.lookup n7=some .cell
 ·have e:L3 (x ++ ".<locals>." ++ n7)=true:=by rw[h,z];rfl
  have a:L3 (x ++ ".<locals>." ++ "plan_of")=true:=e;rw[f8 z,f8 a];exact⟨rfl,λ _=>e⟩
 ·have e:L3 (x ++ ".<locals>." ++ n7)=false:=by rw[h];exact A1.mpr z
  rw[g8 z,g8 ((by have:L3 (x ++ ".<locals>." ++ "plan_of")=false:=e;rw[this];decide))];exact⟨rfl,λ w=>absurd w z⟩
structure Stands(K:PySem.W.Frag)(mg:Str->Option Value)(fn bl cl:List Str)(d:FD)(x:Str)(fa:Addr)(fd:FuncData)(ps:List Str):Prop where
 mg:mg x=some (.ref fa)
 kp:PySem.W.keepIn K (.ref fa)=true
 bi:P7 K fd ps []
 np:d.np=ps.length
 ex:∃qual st N,qual=x/\FunD K x qual st fa fd/\FnScope N ps (w6 st)/\d.n=N.length/\C6 ⟨N,(w6 st).names,fn,bl,cl,true,true,cloB d.clo fn bl cl⟩ d.body (M4 st)=true/\dqB x (w6 st).names=true
def HS(K:JQ)(mg:Str->JF JG)(fn bl cl:on Str)(T:on FD)(fs:on Str):Prop:=∀(i:Nat) d x,T[i]? = some d->fs[i]? = some x->∃fa fd ps,Stands K mg fn bl cl d x fa fd ps
def HC(K:JQ)(mg:Str->JF JG)(c:on (Str×DV)):Prop:=∀x d,c.lookup x=some d->∃u v,mg x=some u/\RelV v u/\∀H,Rep ⟨K,mg⟩ H d v
def IH1(P:JN)(w:JM)(K:JQ)(mg:Str->JF JG)(base:JJ)(G:Gs)(T:on FD)(fu:Nat)(fn bl cl:on Str)(k:Nat):Prop:=∀(i:Nat) d x fa fd ps,T[i]? = some d->fn[i]? = some x->Stands K mg fn bl cl d x fa fd ps->FnOk P w K mg base CX0 k fa fd ps (spF ⟨K,mg⟩ ps.length (run G T fu k i))
def HLM(K:JQ)(G:Gs)(T:on FD)(fn bl cl:on Str):Prop:=G.fnl.isEmpty=false->(G.fnl=fn/\G.bll=bl/\G.cll=cl)/\T.length<=jI/\∀(i:Nat) (d:FD) (x qual:Str) (st:JP) (fa:JI) (fd:FuncData),T[i]? = some d->fn[i]? = some x->qual=x->FunD K x qual st fa fd->∃c P,fd.code=.ref c/\(∀h:JJ,K.In h->PySem.W.CodeHd h c P)/\(P,tagQ qual)∈x9 K
def GF(hd:T[f]? = some d)(a:d.np=n)(q:run G T fu k f ds=some o):ds.length=n:=by
 cases k with
 | zero=>cases q
 | succ k=>
  rw[jJ hd]at q;split at q
  ·rename_i z;rw[z,a]
  ·cases q
def lM{K:JQ}(u:T.length=fn.length)(n:HS K mg fn bl cl T fn)
  (i:IH1 P w K mg base G T fu fn bl cl k) (p:Room k A) (f:Nat) (y:Str) (j:fn[f]? = some y) :
  ∃m l fd ps,Room m A/\mg y=some (.ref l)/\PySem.W.keepIn K (.ref l)=true/\P7 K fd ps []/\(∀ds o,run G T fu k f ds=some o->ds.length=ps.length)/\FnOk P w K mg base CX0 m l fd ps (spF ⟨K,mg⟩ ps.length (run G T fu k f)):=by
 have r:f<T.length:=by rw[u];exact(v9.mp j).1
 obtain⟨h,b⟩:∃h,T[f]? = some h:=⟨_,n6 r⟩;obtain⟨e,d,c,g⟩:=n f h y b j;exact⟨k,e,d,c,p,g.mg,g.kp,g.bi,λ ds o q=>GF b g.np q,i f h y e d c b j g⟩
def GG{G:Gs}(h:o=none\/o=G.clo)(z:cloB o fn bl cl b bd sc a=true):∃C,G.clo=some C/\V0 C fn bl cl b bd sc a=true:=by
 cases o with
 | none=>cases z
 | some C=>exact⟨C,(h.elim (λ w=>nomatch w) id).symm,z⟩
def GH{K:JQ}(hT:T.length=fn.length)(hs:HS K mg fn bl cl T fn)(b4:∀x∈bl,mg x=none)
  (Z:HC K mg G.con) (Y:G.fnl=fn/\G.bll=bl/\G.cll=cl) (b5:T.length<=jI)
  (b1:IH1 P w K mg base G T fu fn bl cl k) (b0:V4 P w K mg base fn bl cl k (run G T fu k F0)) (a9:∀C,G.clo=some C->V9 P w K mg base C fn bl cl k (run G T fu k D7)):V4 P w K mg base fn bl cl (k+1) (run G T fu (k+1) F0):=by
 intro A F s H us W Q E O f m cs ds d hr e0 r hO m1 m2 m3 rp rl hF hq;have j:=hF;rw[ph (Q9 (i9 b5 JY)),f8 rfl]at j;unfold lamR at j;dsimp only at j;split at j
 ·rename_i a2;obtain⟨n1,n2,n3,n4⟩:=a2;split at j
  ·rename_i d' b3;split at j
   ·rename_i nl;cases j;obtain⟨f',pr,bd,sc,q,a3,l,U,e1,lf,p,S,rc,a8,a7,a6⟩:=kA.mp rp;cases e1;have a5:=lf.mono v6;have a4:∀c∈l,∃o v,H c=some (.frz o (.own c))/\s.heap.get? c=some o/\o.data=.cell v:=λ c hc=>by obtain⟨o,v,M,L⟩:=a7 c hc;have g:=(B8 M).2;exact⟨o,v,g,(e0.hok c _ g).1,L⟩
    unfold Z9 at p;rw[g6]at p;have X:=rl.length;have B:(m.N.take m.np).length=m.np:=by rw[X8];omega
    have b2:us.length=(m.N.take m.np).length:=by rw[←r.length,X,B];exact n1
    have hlw:=rc.length;have J:∀c∈l,∃o,H c=some (.frz o (.own c)):=λ c hc=>by obtain⟨o,_,g,_⟩:=a4 c hc;exact⟨o,g⟩
    have b6:Hdn O (L2.wo l H):=λ a ha=>by obtain⟨o,M,L⟩:=hO a ha;refine⟨o,?_,L⟩;rw[j9 λ z=>by obtain⟨o',g⟩:=J a z;rw[M]at g;cases g;cases L];exact M
    refine Du (ws:=U) (vs:=W) S (⟨a4⟩) hr.ok e0 a5 (λ pm c' ctv=>BQ p.1 b2) (by rw[X,B];exact n1) r (by rw[B];exact a8) (λ i x v h1 h2=>?_) λ c'=>?_
    ·rw[B]at h1;obtain⟨c,o,u,M,L,g3,g4⟩:=a6 i x v h1 h2;have g:=(B8 L).2;exact⟨c,u,M,⟨o,(e0.hok c _ g).1,g3⟩,g4⟩
    ·have I:Room k (A.deeper (PySem.W.envX q sc s.heap.objs.size f (.ref c') a3)):=hr.deeper _;have g4:Good ⟨m.N,sc.names,fn,bl,cl,false,false,noCo⟩ G (run G T fu k) (dr P w K mg base m.N q sc f (.ref c') a3 A F s (L2.wo l H)):=by
      refine⟨rfl,S.nd,λ y h=>?_,λ y h=>?_,λ y h=>?_,λ y h=>h,λ y h=>h,rfl,I.units,lM hT hs b1 I,b4,Z,(λ z=>nomatch z),(λ z=>nomatch z),(λ z=>⟨Y,⟨k,I,b0,a9⟩,λ w=>nomatch w⟩),(λ _ _ _ _ z=>nomatch z),(λ z=>nomatch z)⟩
      ·unfold visB at h;simp only[B5,g9]at h;rcases h with(h | h) | h
       ·exact .inl h
       ·exact .inr (.inl h)
       ·exact .inr (.inr h)
      ·unfold gloB at h;rw[g9]at h;exact h
      ·unfold locB at h;simp only[B5,g9]at h;rcases h with h | h
       ·exact⟨.inl h,.inr h⟩
       ·exact absurd rfl (S.nocell _ (x8 h))
     have pe:=(snd m.body).1 g4 ((by have:=p.2;rw[m1,m2,m3]at this;exact this)) b3;refine⟨_,pe,O,[],?_,λ v H' sm gt=>λ a1=>?_⟩
     ·have R:=RSt.start (D:=⟨K,mg⟩) (N:=m.N) (ds:=ds++cs) (vs:=W++U) (n:=m.N.length) rfl ((V5 J n3 rl).append (V5 J n4 rc)) b6;have e1:p7 m.N.length (ds++cs)=(ds++cs).map Sv.val:=(by unfold p7;rw[t7,show m.N.length - (ds.length+cs.length)=0 by omega];exact C8 _);have e2:L2.start m.N (W++U)=(W++U).map some:=(by unfold L2.start;rw[t7,show m.N.length - (W.length+U.length)=0 by omega];exact C8 _);rw[e1,e2]at R;exact R
     ·have a0:Rep ⟨K,mg⟩ (L2.wo (O++[]) H') d v:=gt;rw[C8]at a0;refine hq v _ (λ b o e=>?_) (a0.mono λ b o e=>?_)
      ·by_cases hb:b∈l
       ·rw[gq hb];exact e
       ·rw[Q2 hb];exact sm _ _ (by rw[j9 hb];exact e)
      ·obtain⟨hb,e⟩:=B8 e;rw[j9 hb,Q2 λ z=>by rw[a1 b z]at e;cases e];exact e
   ·cases j
  ·cases j
 ·cases j
def GI{K:JQ}(hT:T.length=fn.length)(hs:HS K mg fn bl cl T fn)(d7:∀x∈bl,mg x=none)
  (b3:HC K mg G.con) (b1:G.fnl=fn/\G.bll=bl/\G.cll=cl) (d9:T.length<=jI)
  (c8:IH1 P w K mg B G T fu fn bl cl k) (c7:V4 P w K mg B fn bl cl k (run G T fu k F0)) (a7:∀C,G.clo=some C->V9 P w K mg B C fn bl cl k (run G T fu k D7)) (hC:G.clo=some C):V9 P w K mg B C fn bl cl (k+1) (run G T fu (k+1) D7):=by
 intro A F s H us vs Q E O f cs ds d hr e0 r hO ca b2 rl hF hq;have d8:T[D7]? = none:=Q9 (i9 d9 JY);have a0:=hF;rw[ph d8,g8 JY,f8 rfl]at a0;unfold cloR at a0;rw[hC]at a0;have L:(if(ds++cs).length=C.np+C.nc/\DV.nolams (ds++cs)=true then(match evSs G (run G T fu k) fu C.body (p7 C.N.length (ds++cs))with
  | some (.rt d false)=>if d.nolam then some (Ou.v d false)else none
  | _=>none)else none)=some (.v d false):=a0
 split at L
 ·rename_i b8;split at L
  ·rename_i d' d4;split at L
   ·rename_i nl;cases L;obtain⟨q,pr,bd,J,cap,cc,l,ws,c0,o0,df,a2,S,rc,a3,c6,c5,d2,⟨s1,s2,s3⟩,M⟩:=ca;obtain⟨d1,tx,d6,a5⟩:=sA a2;have a1:∀c∈l,∃o v,H c=some (.frz o (.own c))/\s.heap.get? c=some o/\o.data=.cell v:=λ c Z=>by obtain⟨o,v,g,g2⟩:=c6 c Z;exact⟨o,v,g,(e0.hok c _ g).1,g2⟩
    have Ct:CellsT l s.heap H:=⟨a1⟩;have b0:vs.length=ds.length:=rl.length;have a9:=tx.np;rw[a9]at b2;obtain⟨v1,v2,rfl⟩:∃v1 v2,vs=[v1,v2]:=by
     rw[b2]at b0
     match vs,b0 with
     | [v1,v2],_=>exact⟨v1,v2,rfl⟩
    obtain⟨u1,u2,rfl,c3,c2⟩:=cJ r;have Y:∀c∈l,∃o,H c=some (.frz o (.own c)):=λ c Z=>by obtain⟨o,_,g,_⟩:=a1 c Z;exact⟨o,g⟩
    have b4:Hdn O (L2.wo l H):=λ a ha=>by obtain⟨o,g1,g2⟩:=hO a ha;refine⟨o,?_,g2⟩;rw[j9 λ z=>by obtain⟨o',g⟩:=Y a z;rw[g1]at g;cases g;cases g2];exact g1
    have U:∀{a b:on DV},DV.nolams (a++b)=true->DV.nolams a=true/\DV.nolams b=true:=λ {a b} h=>by
     induction a with
     | nil=>exact⟨rfl,h⟩
     | cons x a ih=>
      have h':(x.nolam&&DV.nolams (a++b))=true:=h;rw[g6]at h';obtain⟨i1,i2⟩:=ih h'.2;refine⟨?_,i2⟩;show(x.nolam&&DV.nolams a)=true;rw[h'.1,i1];rfl
    obtain⟨n3,n4⟩:=U b8.2;have nt:∀{b:JI} {o:Obj} {u:HO},H b=some (.frz o u)->(∀v,o.data ≠ .cell v)->b∉l:=λ e hd z=>by obtain⟨o',v,g,_,d'⟩:=a1 _ z;rw[e]at g;cases g;exact hd v d'
    refine Dz (N:=C.N) (ws:=ws) (n:=C.N.length - 2 - C.nc) (by rw[a3];exact S) Ct hr.ok e0 df (λ b6 pm c' b7=>Fg d1) c3 c2 (by rw[a3];have:=tx.len;omega) (λ i x v h1 h2=>?_) λ c' oc u T' h1 h2 h3=>?_
    ·obtain⟨c,o,u,g1,g2,g3,g4⟩:=c5 i x v h1 h2;exact⟨c,u,g1,⟨o,(e0.hok c _ g2).1,g3⟩,g4⟩
    ·have W:Room k (A.deeper (PySem.W.envX q J s.heap.objs.size f (.ref c') (ownC s J++cc))):=hr.deeper _;have a8:∀v,oc.data ≠ .cell v:=λ v z=>by obtain⟨o,vv,_,_,_,_,_,_,_,q1,_,q2,_⟩:=h3 s.heap (e0.hok c' _ h1).1;rw[(e0.hok c' _ h1).1]at q1;cases q1;rw[q2]at z;cases z
     have e4:G9 (L2.wo l H) n7 q pr bd J cc f:=by
      obtain⟨c1,c4,u1,b9,t1,b6,pm,b7,T1,y1,y2,y3,y4,y5,y6⟩:=df;refine⟨c1,c4,u1,b9,t1,b6,pm,b7,T1,?_,?_,y3,y4,?_,y6⟩
      ·rw[j9 (nt y1 λ v z=>by cases z)];exact y1
      ·rw[j9 (nt y2 λ v z=>by rw[y3]at z;cases z)];exact y2
      ·rw[j9 λ z=>by obtain⟨o',g⟩:=Y _ z;rw[y5]at g;cases g];exact y5
     have new:∀c∈l,B.get? c=none/\c∉frs (PySem.W.envX q J s.heap.objs.size f (.ref c') (ownC s J++cc)::F):=λ c Z=>by
      refine⟨(M c Z).1,λ z=>?_⟩;obtain⟨o,v,_,g,_⟩:=a1 c Z;have z':c∈s.heap.objs.size::frs F:=z;rcases i5.mp z' with w | w
      ·exact absurd (k7 g) (by rw[w];exact D6 _)
      ·exact(M c Z).2 w
     have d5:∀x c,cc.lookup x=some c->(ownC s J++cc).lookup x=some c:=λ x c e=>by rw[S.at (S.fr x c e)];exact e
     have a6:∀x a,(ownC s J++cc).lookup x=some a->B.get? a=none/\a∉frs (PySem.W.envX q J s.heap.objs.size f (.ref c') (ownC s J++cc)::F):=λ x a e=>by
      rw[M5]at e;cases w:(ownC s J).lookup x with
      | none=>rw[w]at e;exact new a (S.mem x a e)
      | some a'=>
       rw[w]at e;cases e;have ab:=(jc J.names (s.heap.push {cls:=.type "frame",data:=.dict #[]}) (s.heap.objs.size+1) [] ⟨λ _ _ hm=>(nomatch hm),List.Pairwise.nil⟩ (by rw[D5];exact i6 _)).empty x a (by rw[D5];exact x8 w);have ab:s.heap.objs.size<a:=ab.2;refine⟨aD (i9 e0.bsz (K9 ab)),λ z=>?_⟩;rcases i5.mp z with w | w
       ·exact absurd ab (by rw[w];exact D6 _)
       ·obtain⟨_,o,ho,_⟩:=e0.funs.mem w
        exact absurd (P2 (k7 ho) ab) (D6 _)
     have g4:Good ⟨C.N,J.names,fn,bl,cl,false,true,noCo⟩ G (run G T fu k) (br P w K mg B C.N q J f (.ref c') cc A F s (L2.wo l H)):=by
      refine⟨rfl,tx.nd,λ y m=>?_,λ y m=>?_,λ y m=>?_,λ y m=>m,λ y m=>m,rfl,W.units,lM hT hs c8 W,d7,b3,(λ _=>PassesOwn.never),(λ z=>nomatch z),(λ z=>⟨b1,⟨k,W,c7,a7⟩,λ w=>nomatch w⟩),(λ _ _ _ _ z=>nomatch z),λ _ _=>⟨⟨c',T',rfl,λ I=>DA Ct h1 a8 h2 h3 I⟩,a6,?_⟩⟩
      ·unfold visB at m;simp only[B5,g9]at m;rcases m with(m | m) | m
       ·exact .inl m
       ·exact .inr (.inl m)
       ·exact .inr (.inr m)
      ·unfold gloB at m;rw[g9]at m;exact m
      ·unfold locB at m;simp only[B5,g9]at m;rcases m with m | m
       ·exact⟨.inl m,.inr m⟩
       ·exact⟨.inr m,.inl (by show(J.names.lookup y==some .cell)=true;rw[m];rfl)⟩
      ·intro δ e es pos p rs re np nc e6 d0 c9 h;unfold cM at h;rw[hC]at h;dsimp only at h;split at h
       ·rename_i z;obtain⟨rfl,rfl⟩:=z;obtain⟨e5,e1,h⟩:=p4.mp h;refine(sF (cs:=e5) (C:=C) (at_:=λ _ _ f'=>f'=f) (λ {ta} A=>sE (q:=q) (X:=br P w K mg B C.N q J f (.ref c') cc _ F s (L2.wo l H)) (a7 C hC) W a2 (λ _=>⟨S,λ x c e=>d5 x c e,d2⟩) (λ _ c Z=>new c Z) (λ {e7 σ H1 H2 s' f'} I sm ha=>?_) (.inr tx.slf) (by rw[List.length_range']) (λ j i' hj=>?_) e1 A d0 c9) e6 h).weak λ σ H Q z=>⟨f,rfl,z⟩
        ·subst ha;refine⟨e4.un I.base,c0,s1,o0,I.base.keep c0 o0 (e0.hok c0 _ s2).1 (V2 (S.mem _ _ s1)) (M c0 (S.mem _ _ s1)).2 (λ z=>absurd (show c0∈([]:on JI)from z) (by simp)),s3⟩
        ·have d3:j<C.nc:=by have:=(v9.mp hj).1;rw[List.length_range']at this;exact this
         rw[List.getElem?_range' d3]at hj;cases hj;have a4:2+j<C.N.length:=by have:=tx.len;omega
         refine⟨C.N[2+j],n6 a4,?_,.inr (tx.fre _ _ JX JX (n6 a4))⟩;show C.N[C.np+1*j]? = _;rw[a9,Y7];exact n6 a4
       ·cases h
     refine⟨_,B9 C.body g4 a5 d4,L2.wo l H,O,[],?_,(λ a ha=>(nomatch ha)),b4.ne,Same.refl _,λ v H' sm gt=>λ b5=>?_⟩
     ·have R:=RSt.start (D:=⟨K,mg⟩) (N:=C.N) (ds:=ds++cs) (vs:=[v1,v2]++ws) (n:=C.N.length) rfl ((V5 Y n3 rl).append (V5 Y n4 rc)) b4;have e2:L2.start C.N ([v1,v2]++ws)=(v1::v2::ws).map some++List.replicate (C.N.length - 2 - C.nc) none:=(by unfold L2.start;rw[t7,a3,Nat.sub_sub];rfl);rw[e2]at R;exact R
     ·have e3:Rep ⟨K,mg⟩ (L2.wo O H') d v:=gt;refine hq v _ (λ b o e=>?_) (e3.mono λ b o e=>?_)
      ·by_cases hb:b∈l
       ·rw[gq hb];exact e
       ·rw[Q2 hb];exact sm _ _ (by rw[j9 hb];exact e)
      ·obtain⟨hb,e⟩:=B8 e;rw[j9 hb,Q2 λ z=>by rw[b5 b z]at e;cases e];exact e
   ·cases L
  ·cases L
 ·cases L
def GJ{K:JQ}{i:Nat}{st:JP}(O:T.length=fn.length)(M:HS K mg fn bl cl T fn)(r:∀x∈bl,mg x=none)
  (j:HC K mg G.con)
  (h:HLM K G T fn bl cl) (p:∀d∈T,d.clo=none\/d.clo=G.clo)
  (m:IH1 P w K mg base G T fu fn bl cl k) (f:G.fnl.isEmpty=false->V4 P w K mg base fn bl cl k (run G T fu k F0)/\∀C,G.clo=some C->V9 P w K mg base C fn bl cl k (run G T fu k D7))
  (v:T[i]? = some d) (Q:fn[i]? = some x) (g:b=x) (F:FunD K x b st l fd) (S:FnScope N ps (w6 st)) (o:dqB x (w6 st).names=true) (q:fd.code=e) (n:Room k (A.deeper (envOfC b (w6 st) s.heap.objs.size l e))) :
  Good ⟨N,(w6 st).names,fn,bl,cl,true,true,cloB d.clo fn bl cl⟩ G (run G T fu k) (cxOf CX P w K mg base N b (w6 st) l e A outer s H E):=by
 refine⟨rfl,S.nd,λ y a=>?_,λ y a=>?_,λ y a=>⟨?_,.inl rfl⟩,λ y a=>a,λ y a=>a,rfl,n.units,lM O M m n,r,j,λ _=>PassesOwn.leaving,λ _=>⟨rfl,rfl,rfl⟩,λ z=>⟨(h z).1,⟨k,n,(f z).1,(f z).2⟩,λ _=>by
   obtain⟨c,P,L,J,u⟩:=(h z).2.2 i d x b st l fd v Q g F;subst g;obtain⟨I,B⟩:=GE o;rw[I]at u;exact⟨c,P,q.symm.trans L,J,u,B⟩⟩,(λ pr bd sc R z=>GG (p d (K1 v)) z),λ _ z=>nomatch z⟩
 ·unfold visB at a;simp only[B5,g9]at a;rcases a with(a | a) | a
  ·exact .inl a
  ·exact .inr (.inl a)
  ·exact .inr (.inr a)
 ·unfold gloB at a;rw[g9]at a;exact a
 ·unfold locB at a;simp only[B5,g9]at a;exact a
theorem sQ{K:JQ}(I:T.length=fn.length)(B:HS K mg fn bl cl T fn)(l:∀x∈bl,mg x=none)
  (c:HC K mg G.con)
  (e:HLM K G T fn bl cl) (y:∀d∈T,d.clo=none\/d.clo=G.clo) :
  ∀k,(IH1 P w K mg j G T fu fn bl cl k)/\(G.fnl.isEmpty=false->V4 P w K mg j fn bl cl k (run G T fu k F0)/\∀C,G.clo=some C->V9 P w K mg j C fn bl cl k (run G T fu k D7))
 | 0=>by
  refine⟨λ i d x fa fd ps Z h2 S=>?_,λ _=>⟨(λ A b s H us u Q E O f m cs J d _ _ _ _ _ _ _ _ _ Y _=>by cases Y),λ C _ A b s H us u Q E O f cs J d _ _ _ _ _ _ _ Y _=>by cases Y⟩⟩;refine⟨λ u H Q E h=>?_,λ A b s H a1 us u Q E hr he hb hv h=>?_⟩ <;>
  ·obtain⟨_,_,_,_,_,_,q,_⟩:=h;cases q
 | k+1=>by
  obtain⟨n,g⟩:=sQ I B l c e y k;refine⟨λ i d x fa fd ps Z h2 S=>?_,λ z=>⟨GH I B l c (e z).1 (e z).2.1 n (g z).1 (g z).2,λ C hC=>GI I B l c (e z).1 (e z).2.1 n (g z).1 (g z).2 hC⟩⟩;obtain⟨a0,st,N,M,F,FS,hn,hc,U⟩:=S.ex;refine F.okX FS (λ u H Q E h=>?_) (λ cdv X A b s H u Q E hr h=>?_)
  ·obtain⟨O,J,o,_,e1,e2,_⟩:=h;rw[e2.length,e1]
  ·obtain⟨O,J,o,ho,e1,e2,r,e4⟩:=h;rw[jJ Z,f8 (e1.trans S.np.symm)]at r;cases p:evSs G _ fu d.body (p7 d.n J)with
   | none=>rw[p]at r;cases r
   | some oo=>
    rw[p]at r;refine⟨_,B9 d.body (GJ I B l c e y n g Z h2 M F FS U X hr) hc p,H,O,[],RSt.start hn e2 ho,(λ a ha=>(nomatch ha)),ho.ne,Same.refl H,?_⟩;cases oo with
    | nx δ=>cases r;exact λ σ' L W R fr sm=>e4 .non L sm (show Rep ⟨K,mg⟩ (L2.wo O L) .non .non by unfold Rep;rfl)
    | rt d fr=>cases r;exact λ v L sm gt=>e4 v L sm gt
noncomputable def okH(d:FD)(N ps:on Str)(st:JP):Bool:=
 (w6 st).kind == .function && !(w6 st).isCoroutine && !(w6 st).isGenerator&&N0 N&&(N.take ps.length==ps) &&
 ps.all (λ x=>(w6 st).names.lookup x==some .local||(w6 st).names.lookup x==some .cell)&&(w6 st).names.all (λ y=>!(y.2 == .free)) &&
 d.n==N.length&&d.np==ps.length
noncomputable def okD(fn bl cl:on Str)(d:FD)(N ps:on Str)(st:JP):Bool:=okH d N ps st&&C6 ⟨N,(w6 st).names,fn,bl,cl,true,true,cloB d.clo fn bl cl⟩ d.body (M4 st)
section
variable {P:JN} {w:JM} {K:JQ} {mg:Str->JF JG} {base h:JJ} {G:Gs} {T:on FD} {fu:Nat} {fn bl cl:on Str}
def lN{kV i:JG}(X:K.In h)(F:h.Ns mainGlobals mg)(ok:okH d N ps e=true)
  (q:C6 ⟨N,(w6 e).names,fn,bl,cl,true,true,cloB d.clo fn bl cl⟩ d.body (M4 e)=true)
  (a:PySem.W.nsIn K mainGlobals x=some (some (.ref f))) (l:K.lookup f=some ⟨p,o,.func (PySem.W.fnOf x x (Y8 e) (M4 e) (w6 e) .none kV g pm j b i),m⟩)
  (c:PySem.W.codeIn K b x=true) (k:PySem.W.keepIn K (.ref f)=true)
  (r:∀(kV g pm:JG) (j:JF JI) (b i:JG) (n:on JG),n.length=ps.length->bindArgs (PySem.W.fnOf x x (Y8 e) (M4 e) (w6 e) .none kV g pm j b i) ⟨n,[]⟩=pure (ps.zip n)) (E:dqB x (w6 e).names=true:=by decide +kernel) :
  Stands K mg fn bl cl d x f (PySem.W.fnOf x x (Y8 e) (M4 e) (w6 e) .none kV g pm j b i) ps:=by
 unfold okH at ok;simp only[g6,g9,t9,E6,B5,A1]at ok;obtain⟨⟨⟨⟨⟨⟨⟨⟨C,B⟩,A⟩,z⟩,y⟩,w⟩,v⟩,u⟩,s⟩:=ok;exact⟨PySem.W.mg_of X F a,k,.all (r kV g pm j b i),s,x,e,N,rfl,⟨p,o,.none,kV,g,pm,j,b,i,m,rfl,l,c⟩,⟨C,B,A,bu z,y,w,v⟩,u,q,E⟩
def bz{st:JP}(h:okD fn bl cl d N ps st=true):okH d N ps st=true/\C6 ⟨N,(w6 st).names,fn,bl,cl,true,true,cloB d.clo fn bl cl⟩ d.body (M4 st)=true:=by
 unfold okD at h;rw[g6]at h;exact h
def GK:HS K mg fn bl cl [] fs:=λ i d x h=>by cases h
def p0(h:Stands K mg fn bl cl d x e fd ps)(t:HS K mg fn bl cl T fs):HS K mg fn bl cl (d::T) (x::fs):=λ i f c b a=>by
 cases i with
 | zero=>cases b;cases a;exact⟨_,_,_,h⟩
 | succ i=>exact t i f c b a
def GL:L2.wo [] H=H:=by
 funext b
 unfold L2.wo;simp
def GM:HC K mg []:=λ x d h=>by cases h
def lO(h:∃u v,mg y=some u/\RelV v u/\∀H,Rep ⟨K,mg⟩ H d v)(t:HC K mg c):HC K mg ((y,d)::c):=λ x a q=>by
 rw[E2]at q;split at q
 ·rename_i e;cases q
  rwa [eq_of_beq e]
 ·exact t x a q
noncomputable def spS(K:JQ):Sp:=λ vs H Q _=>∃(a:JI) (ns:on Int),vs=[.ref a]/\ns.length<=63/\SqS K H a (ns.map V.int)/\∀H',Q (.bl true) H'
def GN(O:T.length=fn.length)(C:HS K mg fn bl cl T fn)(n:∀x∈bl,mg x=none)
  (c:HC K mg G.con) (W:T[i]? = some d) (U:fn[i]? = some x) (S:Stands K mg fn bl cl d x o fd [p])
  (l:HLM K G T fn bl cl) (m:∀d∈T,d.clo=none\/d.clo=G.clo)
  (j:∀ns:on Int,ns.length<=63->run G T fu k i [.scr ns]=some (.v (.bl true) false)):FnOk P w K mg base CX0 k o fd [p] (spS K):=by
 refine⟨λ z H Q E h=>?_,λ A b s H f B z Q E F L M hv h=>?_⟩
 ·obtain⟨a,ns,rfl,_⟩:=h;rfl
 ·obtain⟨a,ns,rfl,J,R,I⟩:=h;refine R6 (((sQ O C n c l m k).1 i d x o fd [p] W U S).run A b s H f B _ Q E0 F L M hv ⟨[],[.scr ns],_,(λ a N=>(nomatch N)),rfl,?_,j ns J,λ v y _ g=>?_⟩) λ r s' q=>?_
  ·refine RepL.one (S8.mpr ⟨a,rfl,?_⟩);rw[GL];exact R
  ·have u:Rep ⟨K,mg⟩ (L2.wo [] y) _ v:=g;rw[aa]at u;subst u;exact I y
  ·cases r with
   | error e=>exact(q:False).elim
   | ok X=>cases X<;>first | exact False.elim q | exact q
end
def walkE{l:PySem.W.OpenLaw}{XP:(Str->JF JG)->JJ->Prop}{K:Params->JQ}(r:l.most=some 63)(g:d.params.defaults=[])(o:Room k callerA)
  (x:∀(w:JM) (h:JJ),YP w h->(K w.params).In h) (e:∀(w:JM) (h:JJ),YP w h->(∀p∈x9 (K w.params),(K w.params).lookup p.1=none/\h.get? p.1=some {cls:=.none,data:=.fields #[]} /\ isCodeTable h p.1)/\((x9 (K w.params)).map (·.1)).Nodup)
  (F:∀(w:JM) (c:Str->JF JG) (j:JI) (h:JJ),(K w.params).In h->h.Ns mainGlobals c->c d.name=some (.ref j) ->
   ∃i:FuncData,(∀(s:JH) (u:JG),BindsTo s i ⟨[u],[]⟩ [(p,u)])/\∀b:JJ,(K w.params).In b->b.Ns mainGlobals c->FnOk l.prog w (K w.params) c b CX0 k j i [p] (spS (K w.params))) :
  PySem.W.WalkO q loose XP YP l.row.toRowW d [] (λ f m=>PySem.call f m):=
 L2.walk_of r JY g o x e F (λ _ _ a n v A y=>⟨a,n,rfl,v,SqS.of A y,λ _=>rfl⟩) λ _ _ _ _ _ z=>z
noncomputable def sR(K:JQ)(o:Obj)(c:JI):JF JI:=match o.cls,o.data with
 | .type "code",.fields vs=>(match(vs[11]?:JF JG),(vs[18]?:JF JG),(vs[7]?:JF JG),(vs[9]?:JF JG),(vs[10]?:JF JG)with
  | some (.ref P),some (.str _ _),some (.int _ _),some (.bool _),some (.int _ _)=>if(c==P)=false/\(K.lookup P).isNone=true then some P else none
  | _,_,_,_,_=>none)
 | _,_=>none
def GO(K:JQ):Bool:=K.all λ p=>match p.2.data with
 | .func fd=>(match fd.code with
  | .ref c=>(match K.lookup c with | some o=>(sR K o c).isSome | none=>true)
  | _=>true)
 | _=>true
def dL{vs:JL JG}(h:vs[i]? = some v):vs.getD i .none=v:=by
 rw[aA,h];rfl
def GP{K:JQ}{st:JP}(R:GO K=true)(F:FunD K x f st W fd):∃c P,fd.code=.ref c/\(∀h:JJ,K.In h->PySem.W.CodeHd h c P)/\(P,tagQ f)∈x9 K:=by
 obtain⟨oc,od,dV,kV,Y,pm,an,w,ct,H,e,I,g⟩:=F.ex;have j:fd.code=w:=by rw[e]
 have q:=E6.mp R _ (cK I);dsimp only at q;unfold PySem.W.codeIn at g;split at g
 ·rename_i c;rw[j]at q;dsimp only at q;split at g
  ·rename_i cls Z y sl p;rw[p]at q;dsimp only at q;obtain⟨P,i⟩:=X2.mp q;unfold sR at i;split at i
   ·rename_i B A S;have u:=(by have:=S;injection this);subst u;split at i
    ·rename_i P' k E U m b C l o O N M L;split at i
     ·rename_i d;cases i;split at g
      ·rename_i a n t r hv;have Q:=g9.mp g;subst Q;have J:y[1]? = some (.str n t):=by rw[←K0,hv];rfl
       refine⟨c,P,j,λ h X=>⟨_,y,k,E,U,m,b,C,l,X _ _ p,A,rfl,o,dL o,dL O,dL N,dL M,dL L,λ z=>?_⟩,?_⟩
       ·rw[z]at d;have:=d.1;simp at this
       ·unfold x9;refine bX.mpr ⟨_,cK p,?_⟩;have v:=A;subst v;simp only[o,J,d.2,if_true]
      ·cases g
     ·cases i
    ·cases i
   ·cases i
  ·cases g
 ·cases g
def GQ{K:JQ}(h:p∈x9 K):∃(c:JI) (a:Obj) (vs:JL JG),(c,a)∈K/\a.cls=.type "code" /\ a.data=.fields vs/\vs[11]? = some (.ref p.1)/\K.lookup p.1=none:=by
 unfold x9 at h;obtain⟨⟨c,a⟩,d,e⟩:=bX.mp h;dsimp only at e;split at e
 ·rename_i vs g f;split at e
  ·rename_i P q t b k2;split at e
   ·rename_i z;cases e;exact⟨c,a,vs,d,g,f,b,nk.mp z⟩
   ·cases e
  ·cases e
 ·cases e
def GR{K:JQ}(f:(K.map (·.1)).Nodup)(h:(c,o)∈K):K.lookup c=some o:=by
 induction K with
 | nil=>cases h
 | cons y l g=>
  rw[o5]at f;have d:=O9.mp f;obtain⟨a,b⟩:=y;rw[E2];rcases i5.mp h with z | z
  ·cases z;rw[T5]
  ·have:c≠a:=λ e=>d.1 (by rw[←e];exact k9.mpr ⟨_,z,rfl⟩);rw[A1.mpr this];exact g d.2 z
def htb_of{K T:JQ}(i:K.In h)(f:T.In h)(e:(K.map (·.1)).Nodup)(j:(x9 K).map (λ p=>T.lookup p.1)=(x9 K).map λ _=>some {cls:=.none,data:=.fields #[]}) :
  ∀p∈x9 K,K.lookup p.1=none/\h.get? p.1=some {cls:=.none,data:=.fields #[]} /\ isCodeTable h p.1:=λ p a=>by
 obtain⟨c,d,b,g,n,m,l,k⟩:=GQ a;exact⟨k,f _ _ (List.map_inj_left.mp j p a),c,d,b,i _ _ (GR e g),n,m,l⟩
def in_app{K:JQ}(X:PySem.W.Frag.In (T++K) h)(f:(K.map (·.1)).all (λ a=>(T.lookup a).isNone)=true):K.In h/\T.In h:=by
 have c:∀(T K:JQ) a,(T++K).lookup a=(T.lookup a).or (K.lookup a):=λ T K a=>by
  induction T with
  | nil=>simp
  | cons y l d=>
   obtain⟨b,v⟩:=y;rw[List.cons_append,E2,E2];cases hb:a==b with
   | true=>rfl
   | false=>
    exact d
 refine⟨λ a o e=>X a o ?_,λ a o e=>X a o ?_⟩
 ·rw[c,nk.mp (E6.mp f a (k9.mpr ⟨_,cK e,rfl⟩)),e];rfl
 ·rw[c,e];rfl
end L2
end
noncomputable section
namespace k63
open PySem L2
noncomputable def sU:FD:=⟨3,3,none,[.ret (.and [.isi (.var 0) ["int"],.not (.isi (.var 0) ["bool"]),.chain .LtE .LtE (.var 1) (.var 0) (.var 2)])]⟩
def sV:FD:=⟨3,1,none,[.set 1 false (.int 0),.fo (.one 2) (.var 0) [.set 1 false (.call 2 [.var 1,.bi .abs [.var 2]])],.ret (.comp (.bin .FloorDiv (.var 0) (.var 1)) (.one 0) (.var 0) [none,some 1])]⟩
noncomputable def sW:FD:=⟨5,2,none,[.set 2 false (.var 0),.set 3 false (.var 1),.wh (.cmp .NotEq (.var 3) (.int 0)) [.set 4 false (.bin .Mod (.var 2) (.var 3)),.set 2 false (.var 3),.set 3 false (.var 4)],.ret (.var 2)]⟩
noncomputable def sX:FD:=⟨1,1,none,[.ret (.bi .tuple [.comp (.bi .tuple [.comp (.ix (.var 0) (.var 1)) (.one 0) (.var 1) [none,some 0]]) (.one 0) (.rng [.bi .len [.ix (.var 0) (.int 0)]]) [none,some 0]])]⟩
noncomputable def sY:FD:=⟨3,3,none,[.exp (.call 5 [.var 1,.bi .len [.var 0]]),.exp (.call 5 [.var 2,.bi .len [.ix (.var 0) (.int 0)]]),.ret (.call 8 [.var 0,.call 7 [.var 1],.call 7 [.var 2]])]⟩
noncomputable def sZ:FD:=⟨2,2,none,[.iff (.not (.call 0 [.var 0,.int 1,.bin .Sub (.bin .LShift (.int 1) (.var 1)) (.int 1)])) [.unk] []]⟩
noncomputable def GS:FD:=⟨2,2,none,[.iff (.not (.call 0 [.var 0,.int 0,.bin .Sub (.var 1) (.int 1)])) [.unk] []]⟩
noncomputable def tj:FD:=⟨1,1,none,[.ret (.compi (.var 0) (.one 0) (.rng [.meth .bitLength (.var 0) []]) (.bin .BitAnd (.bin .RShift (.var 1) (.var 0)) (.int 1)) [none,some 0])]⟩
noncomputable def tm:FD:=⟨3,3,none,[.ret (.bi .tuple [.comp (.bi .tuple [.comp (.ix (.ix (.var 1) (.var 2)) (.var 0)) (.one 0) (.var 1) [none,some 2,some 0]]) (.one 0) (.var 1) [none,some 2,some 0]])]⟩
noncomputable def tq:FD:=⟨1,1,none,[.ret (.comp (.idx (.var 1) (.var 0)) (.one 0) (.var 0) [none,some 0])]⟩
noncomputable def tu:FD:=⟨1,1,none,[.ret (.call 9 [.call 3 [.var 0]])]⟩
noncomputable def tw:FD:=⟨1,1,none,[.ret (.call 8 [.var 0,.bi .sset [.call 9 [.var 0]],.bi .sset [.call 10 [.var 0]]])]⟩
noncomputable def tz:FD:=⟨2,1,none,[.set 1 false (.call 11 [.var 0]),.ret (.and [.cmp .LtE (.bi .len [.var 1]) (.glb "SMALL_LINES"),.cmp .LtE (.bi .len [.ix (.var 1) (.int 0)]) (.glb "SMALL_LINES")])]⟩
noncomputable def tA:FD:=⟨1,1,none,[.iff (.not (.call 12 [.var 0])) [.unk] []]⟩
def tB:FD:=⟨3,1,none,[.set 1 true (.lst []),.fo (.one 2) (.var 0) [.ext 1 (.var 2)],.ret (.bi .sset [.var 1])]⟩
noncomputable def tE:FD:=⟨1,1,none,[.ret (.call 16 [.call 17 [.var 0]])]⟩
noncomputable def tF:FD:=⟨1,1,none,[.ret (.comp (.tup [.ix (.var 0) (.int 0),.ix (.var 0) (.int 1),.var 1]) (.many [0,1]) (.itm (.var 0)) [none,none])]⟩
noncomputable def tG:FD:=⟨1,1,none,[.ret (.call 19 [.var 0,.int 0,.glb "joined_bits"])]⟩
noncomputable def lP:FD:=⟨2,2,none,[.ret (.bin .Add (.int 1) (.bi .max [.var 0,.var 1]))]⟩
def GT:FD:=⟨8,3,none,[.exp (.call 13 [.var 0]),.set 3 false (.call 11 [.var 0]),.sep 4,.fo (.one 5) (.rng [.int 1,.bin .LShift (.int 1) (.bi .len [.var 3])]) [.fo (.one 6) (.rng [.int 1,.bin .LShift (.int 1) (.bi .len [.ix (.var 3) (.int 0)])]) [.iff (.cmp .Eq (.bi .len [.call 14 [.call 4 [.var 3,.var 5,.var 6]]]) (.int 1)) [.dpp 4 [.var 5,.var 6] (.var 1)] [.set 7 false (.call 20 [.var 5,.var 6]),.dpp 4 [.var 5,.var 6] (.bi .min [.comp (.callv 4 [("joined_bits",18)] [.dix (.var 5) (.var 2),.dix (.var 5) (.var 3)]) (.many [0,1,2,3]) (.var 7) [none,none,none,none,some 2,some 4]])]]],.retd 4]⟩
noncomputable def lQ:FD:=⟨4,2,none,[.set 2 false (.comp (.tup [.str "row",.var 0,.tup [.bin .Sub (.var 1) (.var 0),.var 2],.tup [.var 0,.var 2]]) (.one 0) (.call 21 [.var 0]) [none,some 0,some 1]),.set 3 false (.comp (.tup [.str "column",.var 0,.tup [.var 1,.bin .Sub (.var 2) (.var 0)],.tup [.var 1,.var 0]]) (.one 0) (.call 21 [.var 1]) [none,some 0,some 1]),.ret (.bin .Add (.var 2) (.var 3))]⟩
noncomputable def lR:FD:=⟨1,1,none,[.ret (.compi (.var 0) (.one 0) (.rng [.int 1,.var 0]) (.and [.cmp .Eq (.bin .BitAnd (.var 0) (.var 1)) (.var 0),.cmp .Lt (.var 0) (.bin .Sub (.var 1) (.var 0))]) [none,some 0])]⟩
noncomputable def GU:FD:=⟨7,3,none,[.set 3 true (.lst []),.set 4 false (.var 0),.wh (.cmp .Eq (.ix (.var 4) (.int 0)) (.str "ask")) [.set 5 false (.ite (.cmp .Eq (.ix (.var 4) (.int 1)) (.str "row")) (.var 1) (.var 2)),.set 6 false (.bin .BitAnd (.bin .RShift (.ix (.var 4) (.int 2)) (.var 5)) (.int 1)),.app 3 (.var 6),.set 4 false (.ite (.cmp .Eq (.var 6) (.int 1)) (.ix (.var 4) (.int 4)) (.ix (.var 4) (.int 3)))],.frz 3,.ret (.tup [.var 3,.ix (.var 4) (.int 1)])]⟩
noncomputable def GV:FD:=⟨3,3,none,[.ret (.ix (.call 22 [.var 0,.var 1,.var 2]) (.int 1))]⟩
def GW:FD:=⟨8,3,none,[.set 3 false (.int 0),.fo (.many [4,5]) (.enu (.var 0)) [.fo (.many [6,7]) (.enu (.var 5)) [.iff (.cmp .Eq (.call 23 [.var 2,.var 4,.var 6]) (.var 7)) [.aug 3 (.ix (.ix (.var 1) (.var 4)) (.var 6))] []]],.ret (.var 3)]⟩
noncomputable def clo:JF CloD:=some ⟨["part","left","table","weights","numbers","split"],2,3,[.iff (.cmp .Eq (.var 1) (.int 0)) [.ret (.tup [.str "end",.call 28 [.var 2,.var 3,.ix (.var 0) (.int 0),.ix (.var 0) (.int 1)]])] [],.iff (.cmp .Eq (.dix (.var 4) (.bin .Add (.var 0) (.tup [.var 1]))) (.dix (.var 4) (.bin .Add (.var 0) (.tup [.bin .Sub (.var 1) (.int 1)])))) [.ret (.self 2 3 [.var 0,.bin .Sub (.var 1) (.int 1)])] [],.set 5 false (.maxk (.call 20 [.ix (.var 0) (.int 0),.ix (.var 0) (.int 1)]) ["way","numbers","left"] 1 (.call 27 [.var 1,.var 0,.bin .Sub (.var 2) (.int 1)]) [4,1]),.ret (.tup [.str "ask",.ix (.var 5) (.int 0),.ix (.var 5) (.int 1),.self 2 3 [.ix (.var 5) (.int 2),.bin .Sub (.var 1) (.int 1)],.self 2 3 [.ix (.var 5) (.int 3),.bin .Sub (.var 1) (.int 1)]])]⟩
def GX:FD:=⟨6,3,clo,[.set 3 false (.call 26 [.var 0,.var 1,.var 2]),.set 4 false (.tup [.bin .Sub (.bin .LShift (.int 1) (.bi .len [.var 0])) (.int 1),.bin .Sub (.bin .LShift (.int 1) (.bi .len [.ix (.var 0) (.int 0)])) (.int 1)]),.dfr 5 [0,1,3] (.dix (.var 3) (.bin .Add (.var 4) (.tup [.var 2]))) [.var 4,.var 2]]⟩
def GY:FD:=⟨9,3,none,[.iff (.or [.cmp .Gt (.bi .len [.var 0]) (.glb "MOST_WEIGHED"),.cmp .Gt (.bi .len [.ix (.var 0) (.int 0)]) (.glb "MOST_WEIGHED")]) [.unk] [],.sep 3,.fo (.one 4) (.rng [.int 1,.bin .LShift (.int 1) (.bi .len [.var 0])]) [.fo (.one 5) (.rng [.int 1,.bin .LShift (.int 1) (.bi .len [.ix (.var 0) (.int 0)])]) [.set 6 false (.call 28 [.var 0,.var 1,.var 4,.var 5]),.dpp 3 [.var 4,.var 5,.int 0] (.call 29 [.var 0,.var 1,.var 4,.var 5,.var 6]),.fo (.one 7) (.rng [.int 1,.bin .Add (.var 2) (.int 1)]) [.set 8 false (.comp (.call 27 [.var 1,.var 0,.bin .Sub (.var 2) (.int 1)]) (.one 0) (.call 20 [.var 4,.var 5]) [none,some 3,some 7]),.dpp 3 [.var 4,.var 5,.var 7] (.bi .max [.bin .Add (.lst [.dix (.var 3) (.tup [.var 4,.var 5,.bin .Sub (.var 7) (.int 1)])]) (.var 8)])]]],.retd 3]⟩
noncomputable def GZ:FD:=⟨3,3,none,[.ret (.bin .Add (.dix (.var 0) (.bin .Add (.ix (.var 1) (.int 2)) (.tup [.var 2]))) (.dix (.var 0) (.bin .Add (.ix (.var 1) (.int 3)) (.tup [.var 2]))))]⟩
noncomputable def Ha:FD:=⟨4,4,none,[.ret (.maxk (.call 14 [.call 4 [.var 0,.var 2,.var 3]]) ["word","table","weights","rows","columns"] 1 (.call 29 [.var 1,.var 2,.var 3,.var 4,.var 0]) [0,1,2,3])]⟩
def Hb:FD:=⟨7,5,none,[.set 5 false (.int 0),.fo (.one 6) (.call 7 [.var 2]) [.aug 5 (.bi .sum [.compi (.ix (.ix (.var 1) (.var 2)) (.var 0)) (.one 0) (.call 7 [.var 3]) (.cmp .Eq (.ix (.ix (.var 3) (.var 2)) (.var 0)) (.var 4)) [none,some 1,some 6,some 0,some 4]])],.ret (.var 5)]⟩
noncomputable def tH:FD:=⟨4,4,none,[.exp (.call 6 [.var 2,.bi .len [.var 0]]),.exp (.call 6 [.var 3,.bi .len [.ix (.var 0) (.int 0)]]),.ret (.call 33 [.var 1,.call 32 [.var 0,.var 1,.var 2,.var 3]])]⟩
def tI:FD:=⟨5,2,none,[.set 2 true (.lst []),.fo (.one 3) (.rng [.bi .len [.var 0]]) [.ext 2 (.comp (.tup [.call 32 [.var 1,.var 2,.var 3,.var 0],.var 3,.var 0]) (.one 0) (.rng [.bi .len [.ix (.var 0) (.int 0)]]) [none,some 0,some 1,some 3])],.set 4 false (.bi .min [.var 2]),.ret (.bin .Add (.call 33 [.var 1,.ix (.var 4) (.int 0)]) (.tup [.ix (.var 4) (.int 1),.ix (.var 4) (.int 2)]))]⟩
noncomputable def tJ:FD:=⟨4,4,none,[.ret (.bi .sum [.compi (.var 0) (.many [0,1]) (.var 1) (.cmp .Eq (.call 23 [.var 1,.var 2,.var 3]) (.ix (.ix (.var 4) (.var 2)) (.var 3))) [none,none,some 2,some 3,some 0]])]⟩
noncomputable def tK:FD:=⟨2,2,none,[.ret (.bi .tuple [.call 1 [.lst [.var 1,.bi .sum [.comp (.var 0) (.many [0,1]) (.var 0) [none,none]]]]])]⟩
noncomputable def tL:FD:=⟨1,1,none,[.ret (.ix (.ix (.call 15 [.var 0]) (.neg (.int 1))) (.int 2))]⟩
noncomputable def tM:FD:=⟨2,2,none,[.iff (.cmp .Lt (.var 1) (.bi .len [.var 0])) [.ret (.ix (.var 0) (.var 1))] [],.ret (.int 0)]⟩
def tN:FD:=⟨7,2,none,[.set 2 true (.lst []),.set 3 false (.var 0),.fo (.one 4) (.rng [.var 1]) [.app 2 (.bin .Mod (.var 3) (.int 306783379)),.set 3 false (.bin .FloorDiv (.var 3) (.int 306783379))],.iff (.cmp .Gt (.var 3) (.int 0)) [.ret (.var 2)] [],.set 5 false (.bin .Add (.bin .Mod (.var 0) (.int 2147483647)) (.int 48271)),.fo (.one 4) (.rng [.var 1]) [.set 5 false (.bin .Mod (.bin .Add (.bin .Add (.bin .Mult (.var 5) (.int 48271)) (.bin .Mult (.var 4) (.var 4))) (.int 11)) (.int 2147483647)),.set 6 false (.bin .Add (.bin .Add (.bin .Mult (.bin .FloorDiv (.var 5) (.int 977)) (.int 16807)) (.bin .Mult (.var 5) (.bin .Add (.bin .Mult (.var 4) (.var 4)) (.int 7)))) (.var 4)),.seti 2 (.var 4) (.bin .FloorDiv (.bin .Mod (.var 6) (.int 2147483587)) (.int 7))],.ret (.var 2)]⟩
def lT:FD:=⟨9,3,none,[.set 3 false (.call 37 [.call 36 [.var 0,.int 0],.int 8]),.set 4 false (.bin .Add (.int 1) (.bin .Mod (.ix (.var 3) (.int 0)) (.var 2))),.set 5 false (.bin .Add (.int 1) (.bin .Mod (.ix (.var 3) (.int 1)) (.var 2))),.set 6 false (.ix (.lst [.int 2,.int 3,.int 10,.int 2]) (.bin .Mod (.ix (.var 3) (.int 3)) (.int 4))),.set 7 true (.comp (.bin .Mod (.var 0) (.var 1)) (.one 0) (.call 37 [.call 36 [.var 0,.int 1],.bin .Mult (.var 4) (.var 5)]) [none,some 6]),.fo (.one 8) (.rng [.bi .min [.bin .Mult (.var 4) (.var 5),.bin .Sub (.bi .len [.var 0]) (.var 1)]]) [.seti 7 (.var 8) (.bin .Mod (.ix (.var 0) (.bin .Add (.var 1) (.var 8))) (.var 6))],.ret (.bi .tuple [.comp (.bi .tuple [.sl (.var 1) (.bin .Mult (.var 0) (.var 2)) (.bin .Add (.bin .Mult (.var 0) (.var 2)) (.var 2))]) (.one 0) (.rng [.var 4]) [none,some 7,some 5]])]⟩
def tO:FD:=⟨3,1,none,[.set 1 false (.lst []),.fo (.one 2) (.var 0) [.set 1 false (.bin .Add (.var 1) (.bi .list [.var 2]))],.ret (.var 1)]⟩
noncomputable def tP:FD:=⟨6,3,none,[.set 3 false (.ix (.var 0) (.bin .Mod (.var 1) (.bi .len [.var 0]))),.iff (.or [.cmp .Eq (.var 2) (.int 0),.cmp .Eq (.bin .Mod (.var 3) (.int 4)) (.int 0)]) [.ret (.tup [.str "end",.bin .Mod (.bin .FloorDiv (.var 3) (.int 4)) (.int 10)])] [],.set 4 false (.call 40 [.var 0,.bin .Add (.bin .Mult (.int 2) (.var 1)) (.int 1),.bin .Sub (.var 2) (.int 1)]),.set 5 false (.call 40 [.var 0,.bin .Add (.bin .Mult (.int 2) (.var 1)) (.int 2),.bin .Sub (.var 2) (.int 1)]),.ret (.tup [.str "ask",.ix (.lst [.str "row",.str "column"]) (.bin .Mod (.bin .FloorDiv (.var 3) (.int 4)) (.int 2)),.bin .Add (.int 1) (.bin .Mod (.bin .FloorDiv (.var 3) (.int 8)) (.int 255)),.var 4,.var 5])]⟩
noncomputable def lU:FD:=⟨2,2,none,[.iff (.cmp .Eq (.ix (.var 0) (.int 0)) (.str "end")) [.ret (.tup [.str "end",.ix (.var 1) (.bin .Mod (.ix (.var 0) (.int 1)) (.bi .len [.var 1]))])] [],.ret (.tup [.str "ask",.ix (.var 0) (.int 1),.ix (.var 0) (.int 2),.call 41 [.ix (.var 0) (.int 3),.var 1],.call 41 [.ix (.var 0) (.int 4),.var 1]])]⟩
noncomputable def Hc:FD:=⟨5,3,none,[.set 3 false (.call 37 [.var 0,.int 61]),.set 4 false (.call 40 [.var 3,.int 0,.var 1]),.iff (.cmp .Eq (.bin .Mod (.ix (.var 3) (.int 60)) (.int 5)) (.int 0)) [.ret (.var 4)] [],.ret (.call 41 [.var 4,.var 2])]⟩
noncomputable def tQ:FD:=⟨4,2,none,[.set 2 false (.call 37 [.var 1,.int 17]),.set 3 false (.ix (.lst [.int 2,.int 100,.int 100,.int 7]) (.bin .Mod (.ix (.var 2) (.int 16)) (.int 4))),.ret (.comp (.comp (.bin .Mod (.ix (.var 1) (.bin .Add (.bin .Mult (.int 4) (.var 2)) (.var 0))) (.var 3)) (.one 0) (.rng [.bi .len [.ix (.var 1) (.int 0)]]) [none,some 2,some 0,some 3]) (.one 0) (.rng [.bi .len [.var 0]]) [none,some 0,some 2,some 3])]⟩
noncomputable def Hd:FD:=⟨6,3,none,[.set 3 false (.call 25 [.var 0,.var 1,.var 2]),.set 4 false (.call 25 [.var 0,.var 1,.bi .min [.int 4,.bin .Add (.var 2) (.int 1)]]),.set 5 false (.bi .sum [.comp (.bi .sum [.var 0]) (.one 0) (.var 1) [none]]),.iff (.or [.cmp .Gt (.ix (.var 3) (.int 0)) (.ix (.var 4) (.int 0)),.cmp .Gt (.ix (.var 4) (.int 0)) (.var 5)]) [.ret (.non)] [],.iff (.and [.cmp .GtE (.var 2) (.call 34 [.var 0]),.cmp .NotEq (.ix (.var 3) (.int 0)) (.var 5)]) [.ret (.non)] [],.ret (.ix (.var 3) (.int 0))]⟩
def tR:FD:=⟨9,4,none,[.set 4 false (.int 0),.fo (.one 5) (.rng [.bi .len [.var 0]]) [.fo (.one 6) (.rng [.bi .len [.ix (.var 0) (.int 0)]]) [.sett [7,8] (.call 30 [.var 0,.var 2,.var 5,.var 6]),.set 4 false (.bin .Add (.var 4) (.bin .Mult (.bin .Mult (.ix (.ix (.var 1) (.var 5)) (.var 6)) (.var 7)) (.bin .FloorDiv (.var 3) (.var 8))))]],.ret (.cmp .Eq (.var 4) (.bi .sum [.comp (.bin .Mult (.var 0) (.call 24 [.var 2,.var 3,.var 1])) (.many [0,1]) (.var 2) [none,none,some 0,some 1]]))]⟩
def tS:FD:=⟨13,1,none,[.set 1 false (.call 38 [.var 0,.int 3,.int 4]),.set 2 false (.bin .Mod (.ix (.call 37 [.call 36 [.var 0,.int 2],.int 1]) (.int 0)) (.int 5)),.set 3 false (.call 39 [.var 1]),.set 4 true (.lst []),.fo (.one 5) (.bin .Add (.lst [.call 36 [.var 0,.int 2]]) (.sl (.var 0) (.int 3) (.int 22))) [.app 4 (.tup [.bin .Add (.int 1) (.bin .Mod (.ix (.call 37 [.var 5,.int 3]) (.int 2)) (.int 6)),.call 42 [.var 5,.var 2,.var 3]])],.set 6 false (.bi .sum [.comp (.var 0) (.many [0,1]) (.var 4) [none,none]]),.set 7 false (.call 31 [.var 1,.var 4]),.set 8 false (.int 0),.frz 4,.fo (.many [9,10]) (.var 4) [.set 8 false (.bin .Add (.var 8) (.bi .int [.cmp .Eq (.call 24 [.var 1,.bin .Mult (.lst [.bin .Mult (.lst [.int 1]) (.bi .len [.ix (.var 1) (.int 0)])]) (.bi .len [.var 1]),.var 10]) (.bi .len [.var 3])]))],.iff (.cmp .NotEq (.cmp .Eq (.ix (.var 7) (.int 0)) (.ix (.var 7) (.int 1))) (.cmp .Eq (.var 8) (.bi .len [.var 4]))) [.ret (.bl false)] [],.fo (.one 5) (.lst [.call 36 [.var 0,.int 1],.call 36 [.var 0,.int 2]]) [.set 11 false (.call 43 [.var 1,.var 5]),.set 12 false (.call 44 [.var 1,.var 11,.var 2]),.iff (.or [.cmp .Is (.var 12) (.non),.not (.call 45 [.var 1,.var 11,.var 4,.var 6])]) [.ret (.bl false)] [],.iff (.cmp .Gt (.bin .Mult (.ix (.var 7) (.int 0)) (.bi .sum [.comp (.bi .sum [.var 0]) (.one 0) (.var 11) [none]])) (.bin .Mult (.var 12) (.ix (.var 7) (.int 1)))) [.ret (.bl false)] [],.frz 4,.fo (.many [9,10]) (.var 4) [.iff (.cmp .Gt (.call 24 [.var 1,.var 11,.var 10]) (.var 12)) [.ret (.bl false)] []]],.ret (.bl true)]⟩
def T:on FD:=[sU,sV,sW,sX,sY,sZ,GS,tj,tm,tq,tu,tw,tz,tA,tB,tE,tF,tG,lP,GT,lQ,lR,GU,GV,GW,GX,GY,GZ,Ha,Hb,tH,tI,tJ,tK,tL,sU,tM,tN,lT,tO,tP,lU,Hc,tQ,Hd,tR,tS]
noncomputable def fnl:on Str:="is_int" :: "in_lowest_terms" :: "common_divisor" :: "flipped" :: "cut" :: "check_cards" :: "check_card" :: "cards_in" :: "crossing" :: "row_kinds" :: "column_kinds" :: "trimmed" :: "is_small" :: "check_small" :: "words_in" :: "bits_paper" :: "paper" :: "bits_numbers" :: "joined_bits" :: "least_numbers" :: "splits" :: "halves" :: "way" :: "reached" :: "right_weight" :: "best_right" :: "best_weights" :: "split_weight" :: "best_word" :: "word_weight" :: "right_share" :: "worst_share" :: "right_sum" :: "share_of" :: "least_bits" :: "is_int" :: "_law_cell_at" :: "_law_stream" :: "_law_full_table" :: "_law_words" :: "_law_drawn_plan" :: "_law_few_words" :: "_law_plan" :: "_law_weights" :: "_law_best" :: "_law_mean" :: "law" :: []
noncomputable def bll:on Str:="isinstance" :: "int" :: "bool" :: "abs" :: "tuple" :: "range" :: "len" :: "sorted" :: "set" :: "max" :: "min" :: "enumerate" :: "sum" :: "list" :: []
noncomputable def cll:on Str:="TalkError" :: "NoCard" :: "TooGreat" :: []
def G:Gs:={con:=[("SMALL_LINES",.int 5),("MOST_WEIGHED",.int 4),("joined_bits",.fn "joined_bits")],clo:=clo,fnl:=fnl,bll:=bll,cll:=cll}
end k63
namespace k63
open PySem L2
def gD(ns:on Int)(j:Nat):∃v:Int,run G T fu (k+1) 36 [.scr ns,.int j]=some (.v (.int v) false):=by
 rw[o8 rfl rfl];unfold tM;have c:∀F,evE G F (.cmp .Lt (.var 1) (.bi .len [.var 0])) _=some _:=λ F=>b_lt (f6 rfl) (rfl:evE G F _ [.val (.scr ns),.val (.int j)]=some _)
 by_cases h:j<ns.length
 ·refine⟨ns[j],o9 (Z1 (r6 ((c _).trans (by rw[B1 JX]))) (n9 (p6 (o7 (f6 rfl) (f6 rfl) ?_))))⟩;show((C9 ns.length (j:Int)).bind λ j=>ns[j]?).map DV.int=_;unfold C9;rw[f8 (C2 j),f8 JX,B2];show(ns[j]?).map DV.int=_;rw[n6 h];rfl
 ·exact⟨0,o9 (D8 (r6 ((c _).trans (by rw[A7 JX]))) (n9 rfl))⟩
def Q3{n:Nat}(h:Ka e cl (.int n))(hn:n<=1000):q9 (evE G F (.rng [e]) δ)=some (.ok (upTo 0 n) .fresh):=by
 show q9 (Rs.thn _ _)=_;rw[f7 h i8,cO];have hs:(F6 (n:Int)&&decide ((n:Int)<=(m9:Int)))=true:=by rw[g6,R4];refine⟨?_,w4 (show(n:Int)<=1000 by omega) JY⟩;unfold F6;rw[g6,R4,R4];exact⟨w4 JY (C2 n),eK (show(n:Int)<=1000 by omega) JY⟩
 show q9 ((if F6 (n:Int)&&decide ((n:Int)<=(m9:Int))then some (upTo 0 (n:Int).toNat)else none).map λ a=>.ok _ .fresh)=_;rw[f8 hs,B2];rfl
def ao(h:Ka e c (.lst ds)):evE G F (.bi .tuple [e]) δ=some (.ok (.tup ds) c.item):=by
 show Rs.thn _ _=_;rw[f7 h i8];rfl
def dM(h:Ka e c (.lst ds)):evE G F (.bi .len [e]) δ=some (.ok (.int ds.length) .strong):=by
 show Rs.thn _ _=_;rw[f7 h i8];rfl
def T0(h:Ka e c (.tup ds)):evE G F (.bi .len [e]) δ=some (.ok (.int ds.length) .strong):=by
 show Rs.thn _ _=_;rw[f7 h i8];rfl
def iD(r:on Int):on DV:=r.map DV.int
noncomputable def rL(rows:on (on Int)):DV:=.lst (rows.map λ r=>.lst (iD r))
noncomputable def tT(rows:on (on Int)):DV:=.tup (rows.map λ r=>.tup (iD r))
def Rect(n m:Nat)(rows:on (on Int)):Prop:=rows.length=n/\∀r∈rows,r.length=m
noncomputable def col(rows:on (on Int))(j:Nat):on Int:=rows.map λ r=>r.getD j 0
def flip(m:Nat)(rows:on (on Int)):on (on Int):=(List.range m).map (col rows)
def lV{j:Nat}(h:j<r.length):ixD (.tup (iD r)) (.int j)=some (.int (r.getD j 0)):=by
 have a:(j:Int)<((r.map DV.int).length:Int):=by rw[g7];exact_mod_cast h
 unfold iD;simp only[ixD,atD,C9,f8 (C2 j),f8 a,K6,B2,p5,n6 h,K7,r9,cf]
def He{j:Nat}(h:j<r.length):ixD (.lst (iD r)) (.int j)=some (.int (r.getD j 0)):=by
 have a:(j:Int)<((r.map DV.int).length:Int):=by rw[g7];exact_mod_cast h
 unfold iD;simp only[ixD,atD,C9,f8 (C2 j),f8 a,K6,B2,p5,n6 h,K7,r9,cf]
noncomputable def sub(rows:on (on Int))(I J:on Nat):on (on Int):=I.map λ i=>J.map λ j=>(rows.getD i []).getD j 0
def ap{i:Nat}(h:i<rows.length):ixD (tT rows) (.int i)=some (.tup (iD (rows.getD i []))):=by
 have a:(i:Int)<((rows.map λ r=>DV.tup (iD r)).length:Int):=by rw[g7];exact_mod_cast h
 simp only[tT,ixD,atD,C9,f8 (C2 i),f8 a,K6,B2,p5,n6 h,K7,r9,cf]
def J9{rows:on (on Int)}(h:i<rows.length):rows.getD i []∈rows:=by
 rw[r9,n6 h];exact T7 h
theorem tU(n:Nat):∀r:on Int,DV.plains n (iD r)=true
 | []=>by unfold iD;simp[DV.plains]
 | a::r=>by have q:=tU n r;unfold iD at q ⊢;rw[o5];unfold DV.plains;rw[q];cases n<;>rfl
def Hf(h:Ka e cl (.int i))(a:i<=1000)(b : -1000<=i):q9 (evE G F (.rng [e]) δ)=some (.ok (upTo 0 i.toNat) .fresh):=by
 show q9 (Rs.thn _ _)=_;rw[f7 h i8,cO];have hs:(F6 i&&decide (i<=(m9:Int)))=true:=by rw[g6,R4];refine⟨?_,w4 a JY⟩;unfold F6;rw[g6,R4,R4];exact⟨w4 JY b,eK a JY⟩
 show q9 ((if F6 i&&decide _ then some _ else none).map λ ds=>.ok _ .fresh)=_;rw[f8 hs];rfl
noncomputable def dN(n m:Nat)(ws:on Int):on (on Int):=(List.range n).map λ j=>(ws.drop (j*m)).take m
def Hg(h:ws.length=n*m):Rect n m (dN n m ws):=by
 unfold dN;refine⟨by rw[g7,u8],λ r a=>?_⟩;obtain⟨j,b,rfl⟩:=k9.mp a;rw[X8,iH,h];have:(j+1)*m<=n*m:=Nat.mul_le_mul_right m (o4.mp b);rw[U2,Y7]at this;omega
def Hh(g:Ka a c (.lst ds))(e:Ka b c1 (.int l))(f:Ka d i (.int h)):evE G F (.sl a b d) δ=some (.ok (.lst (cutD ds (some l) (some h))) (Cl.anew c c)):=by
 show Re.thn _ _=_;rw[g,G4];show Re.thn _ _=_;rw[e,G4];show Re.thn _ _=_;rw[f];rfl
def Hi{m:Nat}(h:ws.length=n*m)(b:j<n):cutD (iD ws) (some ((j:Int)*m)) (some ((j:Int)*m+m))=iD ((ws.drop (j*m)).take m):=by
 have d:((j:Int)*m)=((j*m:Nat):Int):=by push_cast;rfl
 have c:((j:Int)*m+m)=((j*m+m:Nat):Int):=by push_cast;rfl
 have a:=(by have:(j+1)*m<=n*m:=Nat.mul_le_mul_right m b;rw[U2,Y7]at this;exact this);have len:(iD ws).length=n*m:=by unfold iD;rw[g7,h]
 unfold cutD slIx;rw[c,d];simp only[len];rw[g8 JX,g8 JX,B2,B2,iS a,iS JX,show j*m+m - j*m=m by omega];unfold iD;rw[←List.map_drop,←List.map_take]
def lW(h:j<n):C9 n (j:Int)=some j:=by
 unfold C9;rw[f8 (C2 j),f8 JX,B2]
def gE{es:on ME}(h:evEs G F es δ=some (.ok l)):evE G F (.bi .min es) δ=minD l:=by
 have e:evE G F (.bi .min es) δ=Rs.thn _ _:=rfl;rw[e,h];rfl
def aq(R:Rect n m rows):Rect m n (flip m rows):=by
 unfold flip;refine⟨by rw[g7,u8],λ r a=>?_⟩;obtain⟨j,hj,rfl⟩:=k9.mp a;unfold col;rw[g7,R.1]
def Hj{i:Nat}(h:i<rows.length):ixD (rL rows) (.int i)=some (.lst (iD (rows.getD i []))):=by
 have a:(i:Int)<((rows.map λ r=>DV.lst (iD r)).length:Int):=by rw[g7];exact_mod_cast h
 simp only[rL,ixD,atD,C9,f8 (C2 i),f8 a,K6,B2,p5,n6 h,K7,r9,cf]
def lX{es:on ME}(h:evEs G F es δ=some (.ok l))(a:l.length<=m9)(hs:stros l=true):evE G F (.lst es) δ=some (.ok (.lst (l.map (·.1))) .fresh):=by
 have e:evE G F (.lst es) δ=Rs.thn _ _:=rfl;rw[e,h,cO,f8 a,hs];rfl
noncomputable def nD(l:on Nat):on DV:=l.map λ (j:Nat)=>DV.int (j:Int)
theorem tV{c:Type}[BEq c][LawfulBEq c]{f:c->DV}(d:∀a b,deq (f a) (f b)=(a==b))(r:c):∀{l:on c},r∈l->R9 (f r) (l.map f)=some (l.idxOf r)
 | a::l,g=>by
  rw[o5];unfold R9;rw[d,List.idxOf_cons];cases h:(a==r)with
  | true=>rfl
  | false=>
   have i:r∈l:=by
    rcases i5.mp g with e | e
    ·subst e;simp at h
    ·exact e
   rw[tV d r i];rfl
theorem tW:∀a b:on Int,deqs (iD a) (iD b)=(a==b)
 | [],[]=>rfl
 | [],_::_=>rfl
 | _::_,[]=>rfl
 | x::a,y::b=>by have c:=tW a b;unfold iD at c ⊢;rw[o5,o5];unfold deqs;rw[c];unfold deq;rfl
def Hk(a b:on Int):deq (.tup (iD a)) (.tup (iD b))=(a==b):=tW a b
theorem tX:∀{l:on DV},(∀d∈l,d.plain n=true)->DV.plains n l=true
 | [],_=>by unfold DV.plains;rfl
 | d::r,h=>by unfold DV.plains;rw[h d (k8 ..),tX λ x a=>h x (k5 _ a)];rfl
def tY(n:Nat)(a:on Int):DV.plain (n+1) (.tup (iD a))=true:=tU n a
def Hl(n:Nat)(rows:on (on Int)):DV.plains (n+1) (rows.map λ r=>.tup (iD r))=true:=tX λ d a=>by
 obtain⟨r,_,rfl⟩:=k9.mp a;exact tY n r
def Hm{rows:on (on Int)}(h:r∈rows)(a:rows.length<=1000):idxD (.tup (rows.map λ r=>.tup (iD r))) (.tup (iD r))=some (.int (rows.idxOf r:Nat)):=by
 unfold idxD;dsimp;rw[tY 59,Hl 59,B1 (by rw[g7];exact i9 a JY),tV Hk r h];rfl
def Hn(e:evE G F a δ=some (.ok x cx))(hs:seqB x=true)(c:evE G F b δ=some (.ok y cy))(h:idxD x y=some d):evE G F (.idx a b) δ=some (.ok d .strong):=by
 show Re.thn _ _=_;rw[e,G4,f8 hs,c,G4,h];rfl
theorem tZ{b:Type}{h f:b->DV}:∀{l:on b},(∀a∈l,g (h a)=some (.item (f a)))->u0 g (l.map h)=some (l.map f)
 | [],_=>rfl
 | a::r,q=>by rw[o5,o5];unfold u0;rw[q a (k8 ..)];show(match u0 g _ with | none=>none | some xs=>some _)=_;rw[tZ λ x c=>q x (k5 _ c)]
def Q4{e:Type}{l:on e}{h f:e->DV}(hw:q9 (evE G F it δ)=some (.ok (l.map h) cl))(g:cl ≠ .weak)(hl:l.length<=m9)
  (q:∀a∈l,∃d c,tg.bind (h a) (x4 fr δ)=some d/\evE G F elt d=some (.ok (f a) c)/\stro (f a) c=true):evE G F (.comp elt tg it fr) δ=some (.ok (.lst (l.map f)) .fresh):=by
 show Ri.thn _ _=_;rw[hw,aY,g8 (by rintro(z | z);exact g z;rw[g7]at z;omega),tZ (λ a i=>?_)]
 ·rfl
 ·obtain⟨d,c,m,k,j⟩:=q a i;rw[m,K6,k];show(if stro (f a) c then some (Rc.item (f a))else none)=_;rw[f8 j]
def Ho{j:Nat}(b:rows.length<=1000)(w:q9 (evE G F (.var 1) [.val (.int (j:Int)),.val d])=some (.ok (rows.map h) .strong))(c:∀r∈rows,ixD (h r) (.int j)=some (.int (r.getD j 0))):evE G F (.comp (.ix (.var 0) (.var 1)) (.one 0) (.var 1) [none,some 0]) [.val (.int j),.val d]=some (.ok (.lst (iD (col rows j))) .fresh):=by
 rw[Q4 w JY (i9 b JY) λ r a=>⟨[.val (h r),.val _],.strong,rfl,o7 (f6 rfl) (f6 rfl) (c r a),rfl⟩];unfold iD col;rw[r3];rfl
def Hq(rows:on (on Int))(m j:Nat)(b:∀r∈rows,r.length=m)(d:j<m)(c:rows.length<=1000):evE G F (.comp (.ix (.var 0) (.var 1)) (.one 0) (.var 1) [none,some 0]) [.val (.int j),.val (tT rows)]=some (.ok (.lst (iD (col rows j))) .fresh):=Ho c rfl λ r a=>lV (by rw[b r a];exact d)
def Hr{n:Nat}(h:Ka e c (.int (n:Int)))(a:n<=1000):q9 (evE G F (.rng [e]) δ)=some (.ok ((List.range n).map λ (j:Nat)=>DV.int (j:Int)) .fresh):=by
 rw[Q3 h a];unfold L2.upTo
 congr 2
 apply K4;intro j _
 congr 1
 omega
def Hs(rows:on (on Int))(n m:Nat)(R:Rect n m rows)(f:0<n)(c:n<=1000)(b:m<=1000):run G T fu (k+1) 3 [tT rows]=some (.v (tT (flip m rows)) false):=by
 rw[o8 rfl rfl];have d:0<rows.length:=by rw[R.1];exact f
 have e:=T0 (F:=run G T fu k) (δ:=p7 1 [tT rows]) (o7 (a:=.var 0) (f6 rfl) (i3 (i:=((0:Nat):Int))) (ap d));rw[show(iD _).length=m by unfold iD;rw[g7];exact R.2 _ (J9 d)]at e;have h:=Q4 (tg:=.one 0) (fr:=[none,some 0]) (Hr e b) JY (by rw[u8];exact i9 b JY) λ j g=>
  ⟨[.val _,.val _],.strong,rfl,ao (Hq rows m j R.2 (o4.mp g) (by rw[R.1];exact c)),rfl⟩
 unfold sX;refine o9 (n9 (p6 (cl:=.strong) ((ao h).trans ?_)));unfold tT flip;rw[r3];rfl
def ua(rows:on (on Int))(n m:Nat)(R:Rect n m rows)(I J:on Nat)(o:∀i∈I,i<n)(h:∀j∈J,j<m)(d:I.length<=1000)(b:J.length<=1000):run G T fu (k+1) 8 [tT rows,.lst (nD I),.lst (nD J)]=some (.v (tT (sub rows I J)) false):=by
 rw[o8 rfl rfl];have p:=Q4 (F:=run G T fu k) (δ:=p7 3 [tT rows,.lst (nD I),.lst (nD J)]) (l:=I) (f:=λ i=>.tup (iD (J.map λ j=>(rows.getD i []).getD j 0))) (elt:=.bi .tuple [.comp (.ix (.ix (.var 1) (.var 2)) (.var 0)) (.one 0) (.var 1) [none,some 2,some 0]]) (tg:=.one 0) (it:=.var 1) (fr:=[none,some 2,some 0]) rfl JY (i9 d JY) λ i g=>by
  refine⟨[.val _,.val _,.val (tT rows)],.strong,rfl,ao (c:=.fresh) ?_,rfl⟩;have a:i<rows.length:=by rw[R.1];exact o i g
  rw[Q4 (l:=J) rfl JY (i9 b JY) λ j e=>⟨[.val _,.val (tT rows),.val _],.strong,rfl,o7 (o7 (cx:=.strong) (f6 rfl) (f6 rfl) (ap a)) (f6 rfl) (lV (by rw[R.2 _ (J9 a)];exact h j e)),rfl⟩];unfold iD;rw[r3];rfl
 unfold tm;refine o9 (n9 (p6 (cl:=.strong) ((ao p).trans ?_)));unfold tT sub;rw[r3];rfl
noncomputable def kI(rows:on (on Int)):on Int:=rows.map λ r=>((rows.idxOf r:Nat):Int)
def ub(rows:on (on Int))(a:rows.length<=1000):run G T fu (k+1) 9 [tT rows]=some (.v (.lst (iD (kI rows))) true):=by
 rw[o8 rfl rfl];unfold tq;have e:=Q4 (F:=run G T fu k) (δ:=p7 1 [tT rows]) (elt:=.idx (.var 1) (.var 0)) (tg:=.one 0) (it:=.var 0) (fr:=[none,some 0]) rfl JY (i9 a JY) (λ r b=>⟨[.val _,.val (tT rows)],.strong,rfl,Hn (f6 rfl) rfl (f6 rfl) (Hm b a),rfl⟩);have c:(rows.map λ r=>DV.int ((rows.idxOf r:Nat):Int))=iD (kI rows):=by unfold iD kI;rw[r3];rfl
 rw[c]at e;exact o9 (n9 (p6 e))
theorem lY:∀{l:on Int},y∈insI x l↔y=x\/y∈l
 | []=>by simp[insI]
 | z::l=>by
  unfold insI;split
  ·simp
  ·rw[i5,lY,i5];constructor<;>(rintro(h | h | h)<;>simp[h])
theorem lZ:∀{l:on Int},y∈F5 l↔y∈l
 | []=>L0
 | z::l=>by unfold F5;rw[lY,lZ,i5]
theorem uc{y:Int}:∀{l σ:on Int},y∈l.foldl dk σ↔y∈σ\/y∈l
 | [],σ=>by simp
 | z::l,σ=>by
  rw[eR,uc,i5];unfold dk;split
  ·rename_i h;constructor
   ·rintro(q | q)
    ·exact .inl q
    ·exact .inr (.inr q)
   ·rintro(q | q | q)
    ·exact .inl q
    ·rw[q];exact .inl h
    ·exact .inr q
  ·rw[C7,u7,or_assoc]
theorem fR:∀{l σ:on Int},(l.foldl dk σ).length<=σ.length+l.length
 | [],σ=>by simp
 | z::l,σ=>by
  rw[eR,p9];have:=fR (l:=l) (σ:=dk σ z);have h2:(dk σ z).length<=σ.length+1:=by unfold dk;split<;>simp
  omega
theorem dO:∀r:on Int,ints? (iD r)=some r
 | []=>rfl
 | x::r=>by show(ints? (iD r)).map _=_;rw[dO r];rfl
def ud(h:evE G F e δ=some (.ok (.lst (iD r)) c))(hl:r.length<=60):evE G F (.bi .sset [e]) δ=some (.ok (.lst (iD (F5 (r.foldl dk [])))) .fresh):=by
 show Rs.thn _ _=_;rw[f7 h i8];show(match ints? (iD r)with
  | some a=>if a.length<4000/\(a.foldl dk []).length<64 then some _ else none
  | none=>none)=_
 rw[dO];have:=fR (l:=r) (σ:=[]);rw[Y1]at this;exact f8 ⟨by omega,by omega⟩
def gF{F:Nat->on DV->JF Ou}{δ:on Sv}{G:Gs}{a b:ME}{r:on ME}{cx:Cl}{o:JF Re}(ha:Ka a cx (.bl true))(hb:evE G F (.and (b::r)) δ=o):evE G F (.and (a::b::r)) δ=o:=by
 have e:evE G F (.and (a::b::r)) δ=Re.thn (evE G F a δ) (λ x c=>andD x c (L4 G F (b::r) δ)):=rfl;have e2:evE G F (.and (b::r)) δ=L4 G F (b::r) δ:=rfl;rw[e,ha,G4,←e2,hb];rfl
def ma{F:Nat->on DV->JF Ou}{δ:on Sv}{G:Gs}{a b:ME}{r:on ME}{cx:Cl}(ha:Ka a cx (.bl false)):evE G F (.and (a::b::r)) δ=some (.ok (.bl false) cx):=by
 have e:evE G F (.and (a::b::r)) δ=Re.thn (evE G F a δ) (λ x c=>andD x c (L4 G F (b::r) δ)):=rfl;rw[e,ha,G4];rfl
def md{F:Nat->on DV->JF Ou}{δ:on Sv}{G:Gs}{a:ME}{o:JF Re}(ha:evE G F a δ=o):evE G F (.and [a]) δ=o:=by
 have e:evE G F (.and [a]) δ=evE G F a δ:=rfl;rw[e,ha]
def bA(c:tg.bind d δ=some δ1)(b:body δ1=some (.nx a)):q0 tg body (d::r) δ=q0 tg body r a:=by
 show(match tg.bind d δ with | none=>none | some δ1=>match body δ1 with | some (.nx a)=>q0 tg body r a | o=>o)=_;rw[c];show(match body δ1 with | some (.nx a)=>q0 tg body r a | o=>o)=_;rw[b]
theorem ue:∀{a b:on Int},a.Pairwise (· < ·)->b.Pairwise (· < ·)->(∀x,x∈a↔x∈b)->a=b
 | [],[],_,_,_=>rfl
 | [],y::b,_,_,h=>absurd ((h y).mpr (k8 ..)) (by simp)
 | x::a,[],_,_,h=>absurd ((h x).mp (k8 ..)) (by simp)
 | x::a,y::b,d,c,h=>by
  rw[K5]at d c;have e:x=y:=by
   rcases i5.mp ((h x).mp (k8 ..))with z | z
   ·exact z
   ·rcases i5.mp ((h y).mpr (k8 ..))with w | w
    ·exact w.symm
    ·have h1:=d.1 y w;have h2:=c.1 x z;omega
  subst e;rw[ue d.2 c.2 λ z=>?_];constructor
  ·intro q;rcases i5.mp ((h z).mp (k5 _ q))with w | w
   · exact absurd (d.1 _ q) JX
   ·exact w
  ·intro q;rcases i5.mp ((h z).mpr (k5 _ q))with w | w
   · exact absurd (c.1 _ q) JX
   ·exact w
theorem uf:∀{l:on Int},l.Pairwise (· < ·)->x∉l->(insI x l).Pairwise (· < ·)
 | [],_,_=>by simp[insI]
 | y::l,h,b=>by
  rw[K5]at h;unfold insI;split
  ·rename_i q;rw[K5];refine⟨λ z a=>?_,K5.mpr h⟩;rcases i5.mp a with w | w
   ·rwa [w]
   ·have:=h.1 z w;omega
  ·rename_i q;rw[K5];refine⟨λ z a=>?_,uf h.2 λ w=>b (k5 _ w)⟩;rcases lY.mp a with w | w
   ·subst w;have:z≠y:=λ e=>b (by grind)
    omega
   ·exact h.1 z w
theorem ug:∀{l:on Int},l.Nodup->(F5 l).Pairwise (· < ·)
 | [],_=>List.Pairwise.nil
 | x::l,h=>by
  rw[O9]at h;exact uf (ug h.2) λ z=>h.1 (lZ.mp z)
theorem uh:∀{l c:on Int},c.Nodup->(l.foldl dk c).Nodup
 | [],_,h=>h
 | x::l,c,h=>by
  rw[eR];refine uh ?_;unfold dk;split
  ·exact h
  ·rename_i q;rw[List.nodup_append];refine⟨h,by simp,λ a f b d e=>?_⟩;rw[u7]at d;subst d e;exact q f
def ui{l:on Int}(a:t.Pairwise (· < ·))(h:∀x,x∈l↔x∈t):F5 (l.foldl dk [])=t:=
 ue (ug (uh eZ)) a λ x=>by rw[lZ,uc,←h];simp
def nI(l:on Nat):on Int:=l.map λ (j:Nat)=>(j:Int)
def uj(l:on Nat):iD (nI l)=nD l:=by unfold iD nI nD;rw[r3];rfl
def uk(p:Nat->Bool)(n:Nat):(nI ((List.range n).filter p)).Pairwise (· < ·):=by
 unfold nI;rw[List.pairwise_map];refine List.Pairwise.filter _ (List.Pairwise.imp ?_ nM);intro a b h;omega
def ul:x∈nI l↔∃j∈l,(j:Int)=x:=by unfold nI;rw[k9]
noncomputable def FI(rows:on (on Int)):on Nat:=(List.range rows.length).filter λ r=>rows.idxOf (rows.getD r [])==r
def gG{rows:on (on Int)}(h:r∈rows):rows.idxOf r<rows.length:=ei h
def gH{rows:on (on Int)}(h:r∈rows):rows.getD (rows.idxOf r) []=r:=by
 have a:=gG h;rw[r9,n6 a,cf];exact iy a
def Hu(rows:on (on Int)):F5 ((kI rows).foldl dk [])=nI (FI rows):=by
 refine ui (uk _ _) λ x=>?_;rw[ul];unfold kI FI;rw[k9];constructor
 ·rintro⟨r,a,rfl⟩
  refine⟨rows.idxOf r,A2.mpr ⟨o4.mpr (gG a),?_⟩,rfl⟩;rw[gH a,g9]
 ·rintro⟨j,b,rfl⟩
  obtain⟨d,c⟩:=A2.mp b;exact⟨rows.getD j [],J9 (o4.mp d),by rw[g9.mp c]⟩
def gI(h:i∈FI rows):i<rows.length:=o4.mp (A2.mp h).1
def bB(rows:on (on Int)):(FI rows).length<=rows.length:=by
 unfold FI;have:=eH (λ r=>rows.idxOf (rows.getD r [])==r) (List.range rows.length)
 rwa [u8]at this
def W1(h:0<rows.length):0<(FI rows).length:=by
 refine eE (A2.mpr ⟨o4.mpr h,?_⟩);cases rows with
 | nil=>cases h
 | cons r rs=>simp
def um(rows:on (on Int)):(kI rows).length=rows.length:=by unfold kI;rw[g7]
def Hv(rows:on (on Int))(n m:Nat)(R:Rect n m rows)(c:0<n)(b:n<=1000)(a:m<=1000):run G T fu (k+2) 10 [tT rows]=some (.v (.lst (iD (kI (flip m rows)))) true):=by
 rw[o8 rfl rfl];unfold tu;exact o9 (n9 (p6 (i7 (f7 (i7 rfl rfl (Hs rows n m R c b a)) i8) rfl (ub _ (by rw[(aq R).1];exact a)))))
def uo(rows:on (on Int))(n m:Nat)(R:Rect n m rows)(g:0<n)(a:n<=60)(b:m<=60):run G T fu (k+3) 11 [tT rows]=some (.v (tT (sub rows (FI rows) (FI (flip m rows)))) false):=by
 rw[o8 rfl rfl];unfold tw;have c:=aq R;have f:=ud (F:=run G T fu (k+2)) (δ:=[.val _]) (e:=.call 9 [.var 0]) (i7 rfl rfl (ub rows (by rw[R.1];omega))) (by rw[um,R.1];exact a);have d:=ud (F:=run G T fu (k+2)) (δ:=[.val _]) (e:=.call 10 [.var 0]) (i7 rfl rfl (Hv rows n m R g JX JX)) (by rw[um,c.1];exact b);rw[Hu,uj]at f d;have p:=ua (fu:=fu) (k:=k+1) rows n m R (FI rows) (FI _) (λ i o=>by have:=gI o;rw[R.1]at this;exact this) (λ j h=>by have:=gI h;rw[c.1]at this;exact this) (by have:=bB rows;rw[R.1]at this;omega) (by have:=bB (flip m rows);rw[c.1]at this;omega);exact o9 (n9 (p6 (i7 (l:=[(tT rows,.strong),(.lst (nD (FI rows)),.fresh),(.lst (nD (FI (flip m rows))),.fresh)]) (f7 (f6 rfl) (f7 f (f7 d i8))) rfl p)))
def b_le(d:Ka a cx (.int i))(c:Ka b cy (.int j)):evE G F (.cmp .LtE a b) δ=some (.ok (.bl (decide (i<=j))) .strong):=G5 d c rfl
def sm(a b:Nat):Bool:=decide (a<6)&&decide (b<6)
def Hw(h:0<I.length):∃r a,sub rows I J=r::a/\r.length=J.length:=by
 cases I with
 | nil=>cases h
 | cons i I=>exact⟨_,_,rfl,by simp⟩
def Hy(rows:on (on Int))(n m:Nat)(R:Rect n m rows)(o:0<n)(f:n<=60)(g:m<=60):run G T fu (k+4) 12 [tT rows]=some (.v (.bl (sm (FI rows).length (FI (flip m rows)).length)) false):=by
 rw[o8 rfl rfl];unfold tz;have u:=uo (fu:=fu) (k:=k) rows n m R o f g;obtain⟨r,a,w,x⟩:=Hw (W1 (by rw[R.1];exact o));have p:(sub rows (FI rows) (FI (flip m rows))).length=(FI rows).length:=by unfold sub;rw[g7]
 rw[w]at u p;have v:evE G (run G T fu (k+3)) (.bi .len [.var 1]) [.val (tT rows),.val (tT (r::a))]=some (.ok (.int (FI rows).length) .strong):=by have t:=T0 (F:=run G T fu (k+3)) (δ:=[.val (tT rows),.val (tT (r::a))]) (e:=.var 1) (ds:=(r::a).map λ r=>.tup (iD r)) (c:=.strong) rfl;rw[g7,p]at t;exact t
 have s:∀h:on Sv,evE G (run G T fu (k+3)) (.glb "SMALL_LINES") h=some (.ok (.int 5) .strong):=λ h=>rfl;refine o9 (i4 (n5 (d:=tT (r::a)) (cl:=.strong) (i7 (l:=[(tT rows,.strong)]) rfl rfl u) rfl) (n9 (p6 (cl:=.strong) ?_)));have b:=b_le v (s _);have j:=b_le ((by have t:=T0 (F:=run G T fu (k+3)) (δ:=[.val (tT rows),.val (tT (r::a))]) (o7 (f6 (n:=1) (d:=tT (r::a)) rfl) (i3 (i:=0)) (ap (rows:=r::a) (i:=0) (by simp)));rw[show(iD ((r::a).getD 0 [])).length=(FI (flip m rows)).length by unfold iD;rw[g7];exact x]at t;exact t)) (s _);have z:decide (((FI rows).length:Int)<=5)=decide ((FI rows).length<6):=by rw[iL];omega
 have y:decide (((FI (flip m rows)).length:Int)<=5)=decide ((FI (flip m rows)).length<6):=by rw[iL];omega
 rw[z]at b;rw[y]at j;unfold sm;cases q:decide ((FI rows).length<6)with
 | true=>rw[q]at b;exact gF b (md j)
 | false=>rw[q]at b;exact ma b
theorem uq{i:Type}{h f:i->DV}{p:i->Bool}:∀{l:on i},(∀a∈l,g (h a)=some (if p a then .item (f a)else .skip))->u0 g (l.map h)=some ((l.filter p).map f)
 | [],_=>rfl
 | a::l,q=>by
  have d:=q a (k8 ..);have j:=uq (g:=g) (h:=h) (f:=f) (p:=p) (l:=l) λ b k=>q b (k5 _ k);cases e:p a with
  | true=>
   rw[e]at d;show(match g (h a)with | none=>none | some .skip=>u0 g _ | some (.item x)=>match u0 g (l.map h)with | none=>none | some c=>some (x::c))=_;rw[d,bQ e,o5];show(match u0 g (l.map h)with | none=>none | some c=>some (f a::c))=_;rw[j]
  | false=>
   rw[e]at d;show(match g (h a)with | none=>none | some .skip=>u0 g (l.map h) | some (.item x)=>match u0 g (l.map h)with | none=>none | some c=>some (x::c))=_;rw[d,eB (by rw[e];simp)];exact j
def Hz{d:Type}{l:on d}{h f:d->DV}{p:d->Bool}(e:q9 (evE G F it δ)=some (.ok (l.map h) cl))(hc:cl ≠ .weak)(hl:l.length<=m9)
  (q:∀a∈l,∃b,tg.bind (h a) (x4 fr δ)=some b/\tstD (evE G F cd b)=some (.ok (p a))/\∃c,evE G F elt b=some (.ok (f a) c)/\stro (f a) c=true):evE G F (.compi elt tg it cd fr) δ=some (.ok (.lst ((l.filter p).map f)) .fresh):=by
 show Ri.thn _ _=_;rw[e,aY,g8 (by grind),uq (λ a g=>?_)]
 ·rfl
 ·obtain⟨b,m,k,c,j,i⟩:=q a g;rw[m,K6,k,j];cases p a with
  | false=>rfl
  | true=>
   show(if stro (f a) c then some _ else none)=_;rw[f8 i];rfl
noncomputable def WI(rows:on (on Int)):on Nat:=(List.range 10).filter λ w=>rows.any λ r=>r.any λ x=>x==(w:Int)
def ur(rows:on (on Int))(e:∀r∈rows,∀x∈r,0<=x/\x<=9):F5 (rows.flatten.foldl dk [])=nI (WI rows):=by
 refine ui (uk _ _) λ x=>?_;rw[ul,List.mem_flatten];unfold WI;constructor
 ·rintro⟨r,b,a⟩
  have:=e r b x a;refine⟨x.toNat,A2.mpr ⟨o4.mpr JX,T8.mpr ⟨r,b,T8.mpr ⟨x,a,?_⟩⟩⟩,by omega⟩;rw[g9];omega
 ·rintro⟨j,d,rfl⟩
  obtain⟨_,g⟩:=A2.mp d;obtain⟨r,b,f⟩:=T8.mp g;obtain⟨x,a,c⟩:=T8.mp f;rw[g9]at c;exact⟨r,b,by rw[←c];exact a⟩
def HA(c:δ[i]? = some (.own (.lst ds)))(h:evE G F e δ=some (.ok (.tup a) .strong))(b:ds.length+a.length<=m9):evS G F fu (.ext i e) δ=some (.nx (δ.set i (.own (.lst (ds++a))))):=by
 show(match δ[i]? with | some (.own (.lst ds))=>Re.thnS δ _ _ | _=>none)=_;rw[c];show Re.thnS δ _ _=_;rw[h];show(if Cl.strong=.strong\/Cl.strong=.fresh then(if ds.length+a.length<=m9 then some (Out.nx _)else none)else none)=_;rw[f8 (.inl rfl),f8 b]
theorem ut(t:Sv)(j:m<=8):∀(rows:on (on Int)) (a:on Int) (c:Sv),(∀r∈rows,r.length=m)->a.length+rows.length*m<=1000->∃e,q0 (.one 2) (λ b=>evSs G F fu [.ext 1 (.var 2)] b) (rows.map λ r=>.tup (iD r)) [t,.own (.lst (iD a)),c]=some (.nx [t,.own (.lst (iD (a++rows.flatten))),e])
 | [],a,c,_,_=>⟨c,by rw[List.flatten_nil,C8];rfl⟩
 | r::rows,a,c,h,k=>by
  have i:=h r (k8 ..);rw[p9,U2,Y7]at k;obtain⟨e,g⟩:=ut t j rows (a++r) _ (λ f d=>h f (k5 _ d)) (by rw[t7,i];omega);refine⟨e,?_⟩;rw[O6,←O7,←g];refine bA rfl (i4 (HA rfl (f6 rfl) ?_) ?_)
  ·unfold iD;rw[g7,g7];exact i9 (show a.length+r.length<=1000 by omega) JY
  ·unfold iD;rw[A9];rfl
theorem uu(m:Nat):∀n,(List.replicate n m).sum=n*m
 | 0=>by simp
 | n+1=>by rw[O5,A6,uu m n,U2,Y7,jb]
theorem uv:∀{l:on Int},(insI x l).length=l.length+1
 | []=>rfl
 | z::l=>by unfold insI;split<;>simp[uv]
theorem uw:∀{l:on Int},(F5 l).length=l.length
 | []=>rfl
 | z::l=>by unfold F5;rw[uv,uw,p9]
def ux(rows:on (on Int))(n m:Nat)(R:Rect n m rows)(i:n<=8)(c:m<=8)(j:∀r∈rows,∀x∈r,0<=x/\x<=9):run G T fu (k+1) 14 [tT rows]=some (.v (.lst (nD (WI rows))) true):=by
 rw[o8 rfl rfl];unfold tB;have nm:n*m<=8*8:=Y3 i c;obtain⟨p,e⟩:=ut (fu:=fu) _ c rows [] .no R.2 (by rw[R.1];simp;omega);rw[iO]at e;have o:∀x∈rows.flatten,0<=x/\x<=9:=λ x g=>by obtain⟨r,h,g⟩:=List.mem_flatten.mp g;exact j r h x g
 have a:(rows.flatten.foldl dk []).length<64/\rows.flatten.length<4000:=by
  have s:=ur rows j;have q:=uw (l:=rows.flatten.foldl dk []);rw[s]at q;have l2:(nI (WI rows)).length<=10:=(by unfold nI WI;rw[g7];exact i9 (eH _ _) (by simp));have l3:rows.flatten.length=n*m:=by
   rw[List.length_flatten];have:rows.map List.length=List.replicate n m:=by rw[List.eq_replicate_iff];refine⟨by rw[g7];exact R.1,λ b o=>?_⟩;obtain⟨r,h,rfl⟩:=k9.mp o;exact R.2 r h
   rw[this,uu]
  omega
 have s1:evE G (run G T fu k) (.bi .sset [.var 1]) [.val (tT rows),.own (.lst (iD rows.flatten)),p]=some (.ok (.lst (nD (WI rows))) .fresh):=by
  show Rs.thn (evEs G (run G T fu k) [.var 1] [.val (tT rows),.own (.lst (iD rows.flatten)),p]) (λ l=>fF l)=_;rw[f7 (cQ (d:=.lst (iD rows.flatten)) rfl) i8];show(match ints? (iD rows.flatten)with
   | some f=>if f.length<4000/\(f.foldl dk []).length<64 then some (Re.ok (.lst ((F5 (f.foldl dk [])).map DV.int)) .fresh)else none
   | none=>none)=_
  rw[dO];show(if rows.flatten.length<4000/\(rows.flatten.foldl dk []).length<64 then some (Re.ok (.lst (iD (F5 (rows.flatten.foldl dk [])))) .fresh)else none)=_;rw[f8 ⟨a.2,a.1⟩,ur rows j,uj]
 exact o9 (i4 (Z2 rfl) (B6 (ds:=rows.map λ r=>.tup (iD r)) (cl:=.strong) rfl (.inl rfl) e (n9 (p6 s1))))
def me:run G T fu (k+1) 0 [.int x,.int a,.int b]=some (.v (.bl (decide (a<=x)&&decide (x<=b))) false):=by
 rw[o8 rfl rfl];have e:evE G (run G T fu k) (.chain .LtE .LtE (.var 1) (.var 0) (.var 2)) [.val (.int x),.val (.int a),.val (.int b)]=some (.ok (.bl (decide (a<=x)&&decide (x<=b))) .strong):=by show(match some (decide (a<=x))with | none=>none | some false=>some (Re.ok _ .strong) | some true=>(some _).map λ k=>.ok _ .strong)=_;cases decide (a<=x)<;>rfl
 exact o9 (n9 (p6 (gF rfl (gF rfl (md e)))))
def uy(r o:Nat):Builtin.bitAnd r o=((r &&& o:Nat):Int):=by
 unfold Builtin.bitAnd;rw[B1 (C2 r),B1 (C2 o)];rfl
def uz(o i:Nat):Builtin.bitAnd ((o:Int)/2^((i:Int).toNat)) 1=if o.testBit i then 1 else 0:=by
 have e:(o:Int)/2^((i:Int).toNat)=((o/2^i:Nat):Int):=(by rfl);rw[e,show(1:Int)=((1:Nat):Int)from rfl,uy,Nat.and_one_is_mod,Nat.testBit_eq_decide_div_mod_eq];have:o/2^i%2=0\/o/2^i%2=1:=by omega
 rcases this with h | h<;>rw[h]<;>rfl
noncomputable def cs(c:Nat):on Nat:=(List.range (c.log2+1)).filter c.testBit
def gJ(c:Nat)(h0:0<c)(h:c<2^64):run G T fu (k+1) 7 [.int c]=some (.v (.lst (nD (cs c))) true):=by
 rw[o8 rfl rfl];have f:aX (c:Int)=((c.log2+1:Nat):Int):=by unfold aX;rw[g8 JX,Int.natAbs_natCast];push_cast;rfl
 have hl:c.log2<64:=(fq JX).mpr h;have a:=Ab (G:=G) (δ:=p7 1 [.int c]) (elt:=.var 0) (tg:=.one 0) (it:=.rng [.meth .bitLength (.var 0) []]) (fr:=[none,some 0]) (p:=λ d=>match d with | .int i=>c.testBit i.toNat | _=>false) (cl:=.fresh)
  (Q3 ((by rw[←f];rfl)) JX) JY (by unfold L2.upTo;rw[g7,u8];exact i9 (show c.log2+1<=64 by omega) JY) (λ d hd=>by
   obtain⟨j,hj,rfl⟩:=zX hd;rw[show(0:Int)+(j:Int)=j by omega];refine⟨[.val (.int j),.val (.int c)],rfl,?_,rfl⟩;have l:evE G (run G T fu k) (.bin .RShift (.var 1) (.var 0)) [.val (.int j),.val (.int c)]=some (.ok (.int ((c:Int)/2^((j:Int).toNat))) .strong):=E4 (f6 rfl) (f6 rfl) (show(if 0<=(j:Int)then some (Re.ok (.int ((c:Int)/2^((j:Int).toNat))) Cl.strong)else none)=_ from f8 (C2 j));have g:evE G (run G T fu k) (.bin .BitAnd (.bin .RShift (.var 1) (.var 0)) (.int 1)) [.val (.int j),.val (.int c)]=some (.ok (.int (if c.testBit j then 1 else 0)) .strong):=E4 l i3 (by rw[←uz];rfl);have b:∀t:Bool,tstD (some (Re.ok (DV.int (if t=true then 1 else 0)) Cl.strong))=some (Rt.ok t):=λ t=>by cases t<;>rfl
   rw[g];refine(b _).trans ?_;show _=some (Rt.ok (c.testBit (j:Int).toNat));rw[B2])
 have e:(upTo 0 (c.log2+1)).filter (λ d=>match d with | .int i=>c.testBit i.toNat | _=>false)=nD (cs c):=by
  unfold L2.upTo nD cs;rw[List.filter_map];have:((λ d=>match d with | DV.int i=>c.testBit i.toNat | _=>false) ∘ λ (i:Nat)=>DV.int (0+(i:Int)))=c.testBit:=by
   funext j
   show c.testBit ((0:Int)+(j:Int)).toNat=_;rw[show((0:Int)+(j:Int)).toNat=j by omega]
  rw[this];apply K4;intro j _;show DV.int _=DV.int _
  congr 1
  omega
 rw[e]at a;unfold tj;exact o9 (n9 (p6 a))
def HB{n:Nat}(hn:n<=1000)(h:Ka e cl (.int n)):evE G F (.bin .Sub (.bin .LShift (.int 1) e) (.int 1)) δ=some (.ok (.int (((2^n:Nat):Int) - 1)) .strong):=by
 refine L5 (cx:=.strong) (E4 i3 h ?_) i3;show(if 0<=_/\_<=1000000/\(1:Int).natAbs<2^64 then some (Re.ok _ Cl.strong)else none)=_;rw[f8 ⟨C2 n,by omega,by decide⟩,B2,Int.one_mul]
 push_cast
 rfl
def uA{n:Nat}(a:n<=1000)(h:run G T fu (k+1) 0 [d,.int 1,.int (((2^n:Nat):Int) - 1)]=some (.v (.bl t) false)):run G T fu (k+2) 5 [d,.int n]=if t then some (.v .non false)else none:=by
 rw[o8 rfl rfl];unfold sZ;have q:=fM (i7 (δ:=p7 2 [d,.int n]) (es:=[.var 0,.int 1,.bin .Sub (.bin .LShift _ (.var 1)) _]) (f7 (f6 rfl) (f7 i3 (f7 (HB a (f6 rfl)) i8))) rfl h);cases t with
 | true=>exact jK (D8 (r6 q) rfl)
 | false=>
  show Ou.of _=_;unfold evSs;rw[(fL (r6 q))];rfl
def uC(h:c<2^n)(a:j∈cs c):j<n:=by
 unfold cs at a;rw[A2]at a;by_cases q:j<n
 ·exact q
 ·have z:=ik (t6 h (K2 JY (show n<=j by omega)));rw[z]at a;cases a.2
def uD(h0:0<c)(h:c<2^64):(cs c).length<=1000:=by
 have hl:=(fq JX).mpr h;unfold cs;exact i9 (eH _ _) (by rw[u8];omega)
def uE(rows:on (on Int))(n m a b:Nat)(R:Rect n m rows)(hn:0<n)(f:n<=64)(h:m<=64)(u:0<a)(s:a<2^n)(p:0<b)(o:b<2^m):run G T fu (k+3) 4 [tT rows,.int a,.int b]=some (.v (tT (sub rows (cs a) (cs b))) false):=by
 rw[o8 rfl rfl];obtain⟨c,rest,rfl⟩:∃c rest,rows=c::rest:=by
  cases rows with
  | nil=>have:=R.1;simp at this;omega
  | cons a b=>exact⟨a,b,rfl⟩
 have r:a<2^64:=t6 s (K2 JY f);have l:b<2^64:=t6 o (K2 JY h);have w:=(by have q:=T0 (F:=run G T fu (k+2)) (δ:=p7 3 [tT (c::rest),.int a,.int b]) (e:=.var 0) rfl;rw[g7,R.1]at q;exact q);have v:=(by have e:evE G (run G T fu (k+2)) (.ix (.var 0) (.int 0)) (p7 3 [tT (c::rest),.int a,.int b])=some (.ok (.tup (iD c)) .strong):=o7 (x:=tT (c::rest)) (y:=.int 0) (f6 rfl) i3 (ap (rows:=c::rest) (i:=0) (by simp));have q:=T0 e;rw[show(iD c).length=m by unfold iD;rw[g7,(R.2 c (k8 ..))]]at q;exact q);have C:=uA (fu:=fu) (k:=k) (d:=.int a) (n:=n) (t:=true) JX (by rw[me,B1 JX,B1 JX];rfl);have B:=uA (fu:=fu) (k:=k) (d:=.int b) (n:=m) (t:=true) JX (by rw[me,B1 JX,B1 JX];rfl);have g:=ua (fu:=fu) (k:=k+1) (c::rest) n m R (cs a) (cs b) (λ i A=>uC s A) (λ j z=>uC o z) (uD u r) (uD p l);unfold sY;exact o9 (i4 (cP (i7 (f7 (f6 rfl) (f7 w i8)) rfl C)) (i4 (cP (i7 (f7 (f6 rfl) (f7 v i8)) rfl B)) (n9 (p6 (i7 (f7 (f6 rfl) (f7 (i7 (f7 (f6 rfl) i8) rfl (gJ a u r)) (f7 (i7 (f7 (f6 rfl) i8) rfl (gJ b p l)) i8))) rfl g)))))
noncomputable def cd(n:Nat):Nat->on Int
 | 0=>[]
 | l+1=>((n/2^l%2:Nat):Int)::cd n l
def HD(h:Ka e cl (.int i)):evE G F (.neg e) δ=some (.ok (.int (-i)) .strong):=by
 show Re.thn _ _=_;rw[h];rfl
def sd(s:Bool):DV:=if s then .str "row" else .str "column"
noncomputable def hd(l:on Nat):DV:=match l with | []=>.non | c::_=>.int c
theorem gK{c:Type}{p q:c->Bool}:∀{l:on c},(∀x∈l,p x=true->q x=true)->(l.filter p).length<=(l.filter q).length
 | [],_=>i6 _
 | a::l,h=>by
  have e:=gK λ x f=>h x (k5 _ f);cases b:p a with
  | false=>
   rw[eB (by rw[b];decide)];cases d:q a with
   | false=>rw[eB (by rw[d];decide)];exact e
   | true=>rw[bQ d,p9];omega
  | true=>
   rw[bQ b,bQ (h a (k8 ..) b),p9,p9];omega
theorem uF{b:Type}{p q r:b->Bool}:∀{l:on b},(∀x∈l,p x=true->q x=true\/r x=true)->(l.filter p).length<=(l.filter q).length+(l.filter r).length
 | [],_=>i6 _
 | a::l,h=>by
  have ih:=uF λ x c=>h x (k5 _ c);rw[M1,M1,M1];cases f:p a<;>cases e:q a<;>cases d:r a<;>simp only[if_true,if_false,p9,G1]<;>first | omega | exact absurd ((h a (k8 ..)) f) (by rw[e,d];simp)
theorem uG{b:Type}{p q:b->Bool}:∀{l:on b},(l.filter p).length=(l.filter λ x=>p x&&q x).length+(l.filter λ x=>p x && !q x).length
 | []=>rfl
 | a::l=>by have ih:=uG (p:=p) (q:=q) (l:=l);rw[M1,M1,M1];cases ep:p a<;>cases eq:q a<;>simp<;>omega
theorem uH{g:Nat->Nat}(c:g 0=0)(a:∀t,t<10->g (t+1)<=g t+1):∀N n,N<=10->n<=g N->∃t,t<=N/\g t=n
 | 0,n,_,h=>⟨0,i6 _,by omega⟩
 | N+1,n,hN,h=>by
  by_cases q:n<=g N
  ·obtain⟨t,h1,b⟩:=uH c a N n JX q;exact⟨t,by omega,b⟩
  ·have:=a N JX;exact⟨N+1,i6 _,by omega⟩
def uI:∀t,t<10->((List.range 10).filter λ w=>w==t).length<=1:=by decide
def N2(h:j∈cs c):c.testBit j=true:=(A2.mp h).2
def au(h:c.testBit j=true):j∈cs c:=by
 refine A2.mpr ⟨o4.mpr ?_,h⟩;have a:c≠0:=by intro z;rw[z,eO]at h;cases h
 have:=(Nat.le_log2 a).mpr (ib h);omega
def tb5(hc:c<32)(h:c.testBit j=true):j<5:=by
 have h1:=ib h;rcases U1 j 5 with z | z
 ·exact z
 ·have:2^5<=2^j:=K2 JY z;omega
def Sb(h C:Nat):Prop:=0<h/\h<C/\h &&& C=h
def HE:∀C,C<32->∀h,h<32->h &&& C=h->∀j,j<5->(C - h).testBit j=(C.testBit j && !h.testBit j)/\(h.testBit j=true->C.testBit j=true):=by decide +kernel
def Sb.lt(s:Sb h C)(a:C<32):h<32:=P2 s.2.1 a
def dP(s:Sb h C)(b:C<32)(c:j∈cs (C - h)):j∈cs C/\j∉cs h:=by
 have a:=N2 c;have d:=tb5 JX a;rw[(HE C b h (s.lt b) s.2.2 j d).1,g6]at a;refine⟨au a.1,λ z=>?_⟩;rw[N2 z]at a;exact absurd a.2 JY
def HF:∀R,R<32->2<=(cs R).length->∃h∈List.range 32,(0<h/\h<R/\h &&& R=h)/\2*(cs h).length<=(cs R).length+1/\2*(cs (R - h)).length<=(cs R).length+1:=by decide +kernel
def HG:∀e d c b a:Bool,∃h∈List.range 32,h.testBit 0=e/\h.testBit 1=d/\h.testBit 2=c/\h.testBit 3=b/\h.testBit 4=a:=by decide +kernel
def HH(q:Nat->Bool):∃h,h<32/\∀j,j<5->h.testBit j=q j:=by
 obtain⟨h,b,g,f,e,d,c⟩:=HG (q 0) (q 1) (q 2) (q 3) (q 4);refine⟨h,o4.mp b,λ j a=>?_⟩
 match j,a with
 | 0,_=>exact g
 | 1,_=>exact f
 | 2,_=>exact e
 | 3,_=>exact d
 | 4,_=>exact c
def HI:∀C,C<32->∀h,h<32->(∀j,j<5->h.testBit j=true->C.testBit j=true)->h &&& C=h/\h<=C:=by decide +kernel
def tb0(e:h.testBit j=true):0<h:=by
 rcases eJ h with z | z
 ·rw[z,eO]at e;cases e
 ·exact z
def av:∀c,c<32->0<c->0<(cs c).length:=by decide +kernel
abbrev Mx:=Nat->Nat->Int
def wp(f:Mx)(R C:Nat)(w:Nat):Bool:=(cs R).any λ i=>(cs C).any λ j=>f i j==(w:Int)
def wn(f:Mx)(R C:Nat):Nat:=((List.range 10).filter (wp f R C)).length
def Q5:wp f R C w=true↔∃i j,i∈cs R/\j∈cs C/\f i j=(w:Int):=by
 unfold wp;rw[T8];constructor
 ·rintro⟨i,b,h⟩
  obtain⟨j,a,h⟩:=T8.mp h;exact⟨i,j,b,a,g9.mp h⟩
 ·rintro⟨i,j,b,a,h⟩
  exact⟨i,b,T8.mpr ⟨j,a,g9.mpr h⟩⟩
def HJ(x:C<32)(K:(cs R).length=1)(h2:2<=wn f R C):∃h,Sb h C/\2*wn f R h<=wn f R C+1/\2*wn f R (C - h)<=wn f R C+1:=by
 obtain⟨i,hi⟩:∃i,cs R=[i]:=by
  match e:cs R,K with
  | [i],_=>exact⟨i,rfl⟩
 let g:Nat->Nat:=λ t=>((List.range 10).filter λ w=>wp f R C w&&decide (w<t)).length
 have M:g 0=0:=(by show((List.range 10).filter λ w=>wp f R C w&&decide (w<0)).length=0;rw[show(λ w=>wp f R C w&&decide (w<0))=λ _=>false from funext λ w=>by simp];simp);have L:∀t,t<10->g (t+1)<=g t+1:=λ t E=>by
  refine i9 (uF λ w _ h=>?_) (Nat.add_le_add_left (uI t E) _);rw[g6,A5]at h;by_cases z:w=t
  ·exact .inr (g9.mpr z)
  ·exact .inl (by rw[g6,A5];exact⟨h.1,by omega⟩)
 have gN:wn f R C<=g 10:=gK λ w k h=>by rw[g6,A5];exact⟨h,o4.mp k⟩
 obtain⟨t,_,E⟩:=uH M L 10 ((wn f R C+1)/2) (i6 _) JX;have sm:wn f R C=g t+((List.range 10).filter λ w=>wp f R C w && !decide (w<t)).length:=uG;obtain⟨h,F,v⟩:=HH λ j=>C.testBit j&&decide (f i j<(t:Int))
 obtain⟨s1,H⟩:=HI C x h F λ j J e=>by rw[v j J,g6]at e;exact e.1
 have d:∀j,j∈cs h↔j∈cs C/\f i j<(t:Int):=λ j=>by
  constructor
  ·intro e;have l:=N2 e;rw[v j (tb5 F l),g6,A5]at l;exact⟨au l.1,l.2⟩
  ·rintro⟨n,m⟩
   have l:=N2 n;exact au (by rw[v j (tb5 x l),l,cw,A5];exact m)
 have ex:∀{p:Nat->Bool},0<((List.range 10).filter λ w=>wp f R C w&&p w).length->∃w j,p w=true/\j∈cs C/\f i j=(w:Int):=λ {p} I=>by obtain⟨w,k⟩:=W8 I;have k:=(A2.mp k).2;rw[g6]at k;obtain⟨B,j,a,b,c⟩:=Q5.mp k.1;rw[hi,u7]at a;subst a;exact⟨w,j,k.2,b,c⟩
 have u:h<C:=by
  rcases U1 h C with z | z
  ·exact z
  ·exfalso;have e:h=C:=Nat.le_antisymm H z;obtain⟨w,j,n,m,y⟩:=ex (p:=λ w=>!decide (w<t)) JX;have:=((d j).mp (by rw[e];exact m)).2;rw[y]at this;rw[t9,ig]at n;omega
 have s:Sb h C:=⟨((by obtain⟨w,j,n,m,y⟩:=ex (by show 0<g t;omega);have:j∈cs h:=(d j).mpr ⟨m,by rw[y];have:=eL n;omega⟩;exact tb0 (N2 this))),u,s1⟩;refine⟨h,s,?_,?_⟩
 ·have:wn f R h<=g t:=gK λ w _ q=>by
   obtain⟨B,j,a,b,c⟩:=Q5.mp q;have o:=a;rw[hi,u7]at o;subst o;obtain⟨r,A⟩:=(d j).mp b;rw[g6,A5];exact⟨Q5.mpr ⟨_,j,a,r,c⟩,by rw[c]at A;omega⟩
  omega
 ·have:wn f R (C - h)<=((List.range 10).filter λ w=>wp f R C w && !decide (w<t)).length:=gK λ w _ q=>by
   obtain⟨B,j,a,b,c⟩:=Q5.mp q;have o:=a;rw[hi,u7]at o;subst o;obtain⟨r,A⟩:=dP s x b;rw[g6,t9,ig];refine⟨Q5.mpr ⟨_,j,a,r,c⟩,λ z=>A ((d j).mpr ⟨r,?_⟩)⟩;rw[c];omega
  omega
noncomputable def hv(R:Nat):on Nat:=((List.range (R - 1)).map (· + 1)).filter λ h=>h &&& R==h&&decide (h<R - h)
def HK:∀R,R<32->∀h,h<32->0<h->h<R->h &&& R=h->((hv R).contains h||((hv R).contains (R - h)&&decide (R - (R - h)=h)))=true:=by decide +kernel
def mh(R:Nat)(b:R<32)(h:Nat)(a:h<32)(s:Sb h R):h∈hv R\/(R - h∈hv R/\R - (R - h)=h):=by
 have:=HK R b h a s.1 s.2.1 s.2.2;rw[B5,g6,A5]at this;rcases this with z | z
 ·exact .inl (O4.mp z)
 ·exact .inr ⟨O4.mp z.1,z.2⟩
def W3(q:h∈hv R):Sb h R/\h<R - h:=by
 obtain⟨c,a⟩:=A2.mp q;obtain⟨i,b,rfl⟩:=k9.mp c;rw[g6,g9,A5]at a;have:=o4.mp b;exact⟨⟨by omega,by omega,a.1⟩,a.2⟩
def HL(a:R<32)(c:C<32)(i:0<R)(C0:0<C)(g:2<=wn f R C):hv R≠[]\/hv C≠[]:=by
 have b:∀R,R<32->(∃h,Sb h R)->hv R≠[]:=λ R a ⟨h,s⟩ e=>by
  rcases mh R a h (s.lt a) s with z | z
  ·rw[e]at z;cases z
  ·rw[e]at z;cases z.1
 have rp:=av R a i;by_cases d:2<=(cs R).length
 ·obtain⟨h,_,s,_⟩:=HF R a d;exact .inl (b R a ⟨h,s⟩)
 ·obtain⟨h,s,_⟩:=HJ c JX g;exact .inr (b C c ⟨h,s⟩)
end k63
end
noncomputable section
namespace k63
open PySem L2
variable {fu k:Nat} {F:Nat->on DV->JF Ou} {δ:on Sv} {ds:on DV} {cl:Cl} {N M:Nat} {R C:Nat}
def bC{n:Nat}(c:Ka b cx (.int n))(hn:n<=1000):q9 (evE G F (.rng [.int 1,b]) δ)=some (.ok (upTo 1 (n - 1)) .fresh):=by
 show q9 (Rs.thn (evEs G F [.int 1,b] δ) (λ l=>(rngD l).map λ a=>.ok (.lst a) .fresh))=_;rw[f7 i3 (f7 c i8),cO];have hs:(F6 1&&F6 (n:Int)&&decide ((n:Int) - 1<=(m9:Int)))=true:=by rw[g6,g6,R4];refine⟨⟨by decide,?_⟩,w4 (show(n:Int) - 1<=1000 by omega) JY⟩;unfold F6;rw[g6,R4,R4];exact⟨w4 JY (C2 n),eK (show(n:Int)<=1000 by omega) JY⟩
 show q9 ((if F6 1&&F6 (n:Int)&&decide ((n:Int) - 1<=(m9:Int))then some (upTo 1 ((n:Int) - 1).toNat)else none).map λ a=>.ok (.lst a) .fresh)=_;rw[f8 hs,show((n:Int) - 1).toNat=n - 1 by omega];rfl
def HM(n:Nat):upTo 1 n=((List.range n).map (· + 1)).map λ (h:Nat)=>DV.int (h:Int):=by
 unfold L2.upTo;rw[r3];apply K4;intro j _;show DV.int _=DV.int _
 congr 1
 simp only[Function.comp];omega
def HN{i j:Nat}(d:Ka a cx (.int i))(c:Ka b cy (.int j)):evE G F (.bin .BitAnd a b) δ=some (.ok (.int ((i &&& j:Nat):Int)) .strong):=E4 d c (by show some _=_;rw[uy])
def uJ{i j:Nat}(d:Ka a cx (.int i))(c:Ka b cy (.int j)):evE G F (.cmp .Eq a b) δ=some (.ok (.bl (i==j)) .strong):=by
 rw[b_eq d c]
 congr 3
 rw[eS,g9,g9];omega
def uK(hR:R<32):run G T fu (k+1) 21 [.int R]=some (.v (.lst (nD (hv R))) true):=by
 rw[o8 (fd:=lR) rfl rfl];unfold lR;have w:=bC (F:=run G T fu k) (δ:=p7 1 [.int R]) (b:=.var 0) (n:=R) (f6 rfl) JX;rw[HM]at w;refine o9 (n9 (p6 (cl:=.fresh) (Hz w JY (by rw[g7,u8];exact i9 (show R - 1<=1000 by omega) JY) λ h f=>?_)));refine⟨[.val (.int h),.val (.int R)],rfl,?_,.strong,f6 rfl,rfl⟩;obtain⟨i,e,rfl⟩:=k9.mp f;have:=o4.mp e;have c:=uJ (F:=run G T fu k) (δ:=[.val (.int ((i+1:Nat):Int)),.val (.int R)]) (HN (a:=.var 0) (b:=.var 1) (f6 rfl) (f6 rfl)) (f6 (n:=0) rfl);have d:=b_lt (G:=G) (F:=run G T fu k) (δ:=[.val (.int ((i+1:Nat):Int)),.val (.int R)]) (f6 (n:=0) rfl) (L5 (a:=.var 1) (b:=.var 0) (f6 rfl) (f6 rfl));have g:decide (((i+1:Nat):Int)<(R:Int) - ((i+1:Nat):Int))=decide (i+1<R - (i+1)):=by rw[iL];omega
 rw[g]at d;cases q:((i+1) &&& R==i+1)with
 | true=>
  rw[q]at c;rw[gF c (md d)];rfl
 | false=>
  rw[q]at c;rw[ma c];rfl
def le4m{l:on a}(h:l.length<=4):l.length<=m9:=i9 h JY
abbrev Wy:=DV×Nat×(Nat×Nat)×(Nat×Nat)
noncomputable def wD(a:Wy):DV:=.tup [a.1,.int a.2.1,.tup [.int a.2.2.1.1,.int a.2.2.1.2],.tup [.int a.2.2.2.1,.int a.2.2.2.2]]
def wl(R C:Nat):on Wy:=(hv R).map (λ h=>(.str "row",h,(R - h,C),(h,C)))++(hv C).map (λ h=>(.str "column",h,(R,C - h),(R,h)))
def Q6(h:R<32):(hv R).length<=31:=by
 unfold hv;refine i9 (eH ..) ?_;rw[g7,u8];omega
def uL{b:Nat}(h:b<a):(a:Int) - (b:Int)=((a - b:Nat):Int):=by omega
def mi(d:R<32)(e:C<32):run G T fu (k+2) 20 [.int R,.int C]=some (.v (.lst ((wl R C).map wD)) true):=by
 rw[o8 (fd:=lQ) rfl rfl];unfold lQ;have q:=i7 (G:=G) (F:=run G T fu (k+1)) (δ:=p7 4 [.int R,.int C]) (f:=21) (es:=[.var 0]) (l:=[(.int R,.strong)]) rfl rfl (uK (k:=k) (fu:=fu) d);have p:=i7 (G:=G) (F:=run G T fu (k+1)) (δ:=[.val (.int R),.val (.int C),.val (.lst ((hv R).map λ h=>wD (.str "row",h,(R - h,C),(h,C)))),.no]) (f:=21) (es:=[.var 1]) (l:=[(.int C,.strong)]) rfl rfl (uK (k:=k) (fu:=fu) e);have m:q9 (evE G (run G T fu (k+1)) (.call 21 [.var 0]) (p7 4 [.int R,.int C]))=some (.ok ((hv R).map λ (h:Nat)=>DV.int (h:Int)) .fresh):=by rw[q];rfl
 have g:q9 (evE G (run G T fu (k+1)) (.call 21 [.var 1]) [.val (.int R),.val (.int C),.val (.lst ((hv R).map λ h=>wD (.str "row",h,(R - h,C),(h,C)))),.no])=some (.ok ((hv C).map λ (h:Nat)=>DV.int (h:Int)) .fresh):=by rw[p];rfl
 have o:=Q4 (elt:=.tup [.str "row",.var 0,.tup [.bin .Sub (.var 1) (.var 0),.var 2],.tup [.var 0,.var 2]]) (tg:=.one 0) (fr:=[none,some 0,some 1]) m JY (i9 (Q6 d) JY) λ h c=>
  ⟨[.val (.int h),.val (.int R),.val (.int C)],.strong,rfl,by
   have s:=L5 (G:=G) (F:=run G T fu (k+1)) (δ:=[.val (.int h),.val (.int R),.val (.int C)]) (a:=.var 1) (b:=.var 0) (i:=R) (j:=h) (f6 rfl) (f6 rfl);rw[uL (W3 c).1.2.1]at s;exact F7 (f7 Q0 (f7 (f6 rfl) (f7 (F7 (f7 s (f7 (f6 rfl) i8)) (le4m (by simp)) rfl) (f7 (F7 (f7 (f6 rfl) (f7 (f6 rfl) i8)) (le4m (by simp)) rfl) i8)))) (le4m (by simp)) rfl,rfl⟩
 have n:=Q4 (elt:=.tup [.str "column",.var 0,.tup [.var 1,.bin .Sub (.var 2) (.var 0)],.tup [.var 1,.var 0]]) (tg:=.one 0) (fr:=[none,some 0,some 1]) g JY (i9 (Q6 e) JY) λ h c=>
  ⟨[.val (.int h),.val (.int R),.val (.int C)],.strong,rfl,by
   have s:=L5 (G:=G) (F:=run G T fu (k+1)) (δ:=[.val (.int h),.val (.int R),.val (.int C)]) (a:=.var 2) (b:=.var 0) (i:=C) (j:=h) (f6 rfl) (f6 rfl);rw[uL (W3 c).1.2.1]at s;exact F7 (f7 Q0 (f7 (f6 rfl) (f7 (F7 (f7 (f6 rfl) (f7 s i8)) (le4m (by simp)) rfl) (f7 (F7 (f7 (f6 rfl) (f7 (f6 rfl) i8)) (le4m (by simp)) rfl) i8)))) (le4m (by simp)) rfl,rfl⟩
 refine o9 (i4 (n5 o rfl) (i4 (n5 n rfl) (n9 (p6 (cl:=.fresh) ?_))));refine(E4 (f6 rfl) (f6 rfl) (show binD .Add _ _ .strong .strong=some (.ok (.lst ((wl R C).map wD)) .fresh)from ?_));show(if((hv R).map λ h=>wD (.str "row",h,(R - h,C),(h,C))).length+((hv C).map λ h=>wD (.str "column",h,(R,C - h),(R,h))).length<=m9 then _ else none)=_;rw[f8]
 ·unfold wl;rw[A9,r3,r3];rfl
 ·rw[g7,g7];exact i9 (fb (Q6 d) (Q6 e)) JY
section
variable {α β:Type} [BEq α] [LawfulBEq α] {κ:α->on Int} {ν:β->Int}
def kG(κ:α->on Int)(p:α):DKey:=.t (kP (κ p))
noncomputable def ksG(κ:α->on Int)(L:on (α×β)):on DKey:=L.map λ p=>kG κ p.1
noncomputable def vsG(ν:β->Int)(L:on (α×β)):on DV:=L.map λ p=>.int (ν p.2)
def dG(κ:α->on Int)(ν:β->Int)(L:on (α×β)):DV:=.dct (ksG κ L) (vsG ν L)
def lG(κ:α->on Int)(ν:β->Int)(L:on (α×β)):DV:=.dcl (ksG κ L) (vsG ν L)
def uM(h:kP p=kP q):p=q:=(List.map_inj_right λ _ _=>Sum.inl.inj).mp h
theorem uN(b:∀p q,a p=a q->p=q)(q:α):∀L:on (α×β),U6 (kG a q) (ksG a L) (vsG ν L)=(L.lookup q).map λ z=>DV.int (ν z)
 | []=>rfl
 | (p,z)::L=>by
  show(if kG a p=kG a q then some (DV.int (ν z))else U6 _ (ksG a L) (vsG ν L))=_;rw[E2];by_cases h:p=q
  ·rw[f8 (by rw[h]),h,T5];rfl
  ·rw[g8 (λ e:kG a p=kG a q=>h (b _ _ (uM (DKey.t.inj e)))),uN b q L,show(q==p)=false from A1.mpr (Ne.symm h)]
theorem no_G(a:∀p q,κ p=κ q->p=q):∀{L:on (α×β)},L.lookup q=none->kG κ q∉ksG κ L
 | [],_,h=>by cases h
 | (p,z)::L,e,h=>by
  rw[E2]at e;split at e
  ·cases e
  ·rename_i b;rcases i5.mp h with w | w
   ·rw[a _ _ (uM (DKey.t.inj w)),T5]at b;cases b
   ·exact no_G a e w
def mj(l:on Int):ints? (l.map DV.int)=some l:=dO l
def aw(a:∀p q,κ p=κ q->p=q)(f:asDc X=some (ksG κ L,vsG ν L))(c:evE G F u δ=some (.ok X cx))(h:evE G F e δ=some (.ok (.tup ((κ q).map .int)) cy))(b:L.lookup q=some z):evE G F (.dix u e) δ=some (.ok (.int (ν z)) .strong):=by
 show Re.thn _ _=_;rw[c,G4,h,G4];unfold dixD keyI;rw[f];show((ints? _).bind λ k=>(U6 _ _ _).bind λ d=>(asI d).bind λ v=>some _)=_;rw[mj];show((U6 (kG κ q) _ _).bind λ d=>(asI d).bind λ v=>some _)=_;rw[uN a,b];rfl
def mn{ks:on DKey}(h:δ[i]? = some (.od (.dcl ks vs))):evE G F (.var i) δ=some (.ok (.dcl ks vs) .weak):=by
 show varE δ[i]? = _;rw[h];rfl
def mo(a:∀p q,κ p=κ q->p=q)(k:δ[i]? = some (.od (lG κ ν L)))(g:evE G F e δ=some (.ok (.int (ν z)) m))(h:evEs G F es δ=some (.ok l))(f:l.map (·.1)=(κ q).map .int)(j:(κ q).length<=3)(b:L.lookup q=none)(c:L.length<100000):evS G F fu (.dpp i es e) δ=some (.nx (δ.set i (.od (lG κ ν (L++[(q,z)]))))):=by
 show((asOd δ[i]?).bind λ p=>Re.thnS δ _ λ d _=>Rs.thnS δ _ λ l=>(dppD i δ p l d).map Out.nx)=_;rw[k];show Re.thnS δ _ _=_;rw[g];show Rs.thnS δ _ _=_;rw[h];show(dppD i δ _ l _).map Out.nx=_;unfold dppD;rw[f,mj];show((if(ksG κ L).length<m9/\(κ q).length<=3 then some (δ.set i (.od (.dcl (putD (kG κ q) _ _ _).1 (putD (kG κ q) _ _ _).2)))else none).map Out.nx)=_;rw[f8 ⟨by unfold ksG;rw[g7];exact P2 c JY,j⟩];unfold putD;rw[g8 (no_G a b)];unfold lG ksG vsG;rw[A9,A9];rfl
end
abbrev Tb:=on ((Nat×Nat)×Nat)
def k2(p:Nat×Nat):on Int:=[(p.1:Int),(p.2:Int)]
def uO(p q:Nat×Nat)(h:k2 p=k2 q):p=q:=by
 obtain⟨a,b⟩:=p;obtain⟨c,d⟩:=q;unfold k2 at h;simp only[List.cons.injEq,and_true]at h;rw[Y5 h.1,Y5 h.2]
def vN(z:Nat):Int:=z
abbrev dC(L:Tb):DV:=dG k2 vN L
abbrev dD(L:Tb):DV:=lG k2 vN L
def uP{r c z:Nat}(b:δ[i]? = some (.od (dD L)))(h:evE G F e δ=some (.ok (.tup [.int r,.int c]) cx))(a:L.lookup (r,c)=some z):evE G F (.dix (.var i) e) δ=some (.ok (.int z) .strong):=aw (q:=(r,c)) uO rfl (mn b) h a
def uQ{r c z:Nat}(k:δ[i]? = some (.od (dD L)))(g:Ka e l (.int z))(j:Ka a cx (.int r))(h:Ka b cy (.int c))(d:L.lookup (r,c)=none)(f:L.length<100000):evS G F fu (.dpp i [a,b] e) δ=some (.nx (δ.set i (.od (dD (L++[((r,c),z)]))))):=mo uO k g (f7 j (f7 h i8)) rfl (show 2<=3 by decide) d f
def HP(c:δ[i]? = some (.val (.fn x)))(a:xs.lookup x=some f)(b:evEs G F es δ=some (.ok l))(hs:(l.all λ p=>p.2 == .strong||p.2 == .fresh)=true)(h:F f (l.map (·.1))=some (.v d false)):evE G F (.callv i xs es) δ=some (.ok d .strong):=by
 show fK F xs _ δ[i]? = _;rw[c,b];show(match xs.lookup x with
   | some f=>J4 F f l
   | none=>none)=_
 rw[a];show J4 F f l=_;unfold J4;rw[h,hs];rfl
theorem uR:∀(r:on Int) (m:Int),(minI m r=m\/minI m r∈r)/\minI m r<=m/\∀x∈r,minI m r<=x
 | [],m=>⟨.inl rfl,E3 _,λ x a=>nomatch a⟩
 | y::r,m=>by
  show(minI _ r=m\/minI _ r∈y::r)/\minI _ r<=m/\∀x∈y::r,minI _ r<=x;obtain⟨d,c,b⟩:=uR r (if y<m then y else m);by_cases q:y<m
  ·rw[f8 q]at d c b ⊢;refine⟨.inr ?_,by omega,λ x a=>?_⟩
   ·rcases d with z | z
    ·rw[z];exact k8 ..
    ·exact k5 _ z
   ·rcases i5.mp a with z | z
    ·rw[z];exact c
    ·exact b x z
  ·rw[g8 q]at d c b ⊢;refine⟨?_,c,λ x a=>?_⟩
   ·rcases d with z | z
    ·exact .inl z
    ·exact .inr (k5 _ z)
   ·rcases i5.mp a with z | z
    ·rw[z];omega
    ·exact b x z
theorem uS:∀l:on Nat,ints? (nD l)=some (l.map λ (j:Nat)=>(j:Int))
 | []=>rfl
 | a::l=>by show(ints? (nD l)).map _=_;rw[uS l];rfl
def HQ(h:evE G F e δ=some (.ok (.lst (nD l)) cl))(f:l≠[]):∃z∈l,(∀x∈l,z<=x)/\evE G F (.bi .min [e]) δ=some (.ok (.int (z:Nat)) .strong):=by
 cases l with
 | nil=>exact absurd rfl f
 | cons a l=>
  obtain⟨i,g,c⟩:=uR _ a;have k:evE G F (.bi .min [e]) δ=some (.ok (.int (minI a (l.map λ (j:Nat)=>(j:Int)))) .strong):=by rw[gE (f7 h i8)];show(match ints? (nD (a::l))with | some (n::r)=>some _ | _=>_)=_;rw[uS];rfl
  obtain⟨z,b,ez⟩:∃z∈a::l,minI a _=((z:Nat):Int):=by
   rcases i with q | q
   ·exact⟨a,k8 ..,q⟩
   ·obtain⟨z,b,q⟩:=k9.mp q;exact⟨z,k5 _ b,q.symm⟩
  refine⟨z,b,λ x d=>?_,by rw[k,ez]⟩;rw[ez]at g c;rcases i5.mp d with q | q
  ·rw[q];omega
  ·have:=c _ (k9.mpr ⟨x,q,rfl⟩);omega
end k63
end
noncomputable section
namespace k63
open PySem L2
def HR(a b:Nat):run G T fu (k+1) 18 [.int a,.int b]=some (.v (.int ((1+max a b:Nat):Int)) false):=by
 rw[o8 rfl rfl];unfold lP;have m:evE G (run G T fu k) (.bi .max [.var 0,.var 1]) (p7 2 [.int a,.int b])=some (.ok (.int ((max a b:Nat):Int)) .strong):=by
  show some _=_
  congr 3
  by_cases h:(b:Int)>(a:Int)
  ·rw[f8 h];omega
  ·rw[g8 h];omega
 have s:=D0 (i3 (G:=G) (i:=1)) m;rw[show(1:Int)+_=((1+max a b:Nat):Int) by omega]at s;exact o9 (n9 (p6 s))
end k63
end
noncomputable section
namespace k63
open PySem L2
variable {fu k:Nat} {F:Nat->on DV->JF Ou} {δ:on Sv} {ds:on DV} {cl:Cl} {R C a b:Nat} {rest:on (on Int)} {L:Tb}
def mf(rest:on (on Int)):Mx:=λ i j=>(rest.getD i []).getD j 0
def uT(rest:on (on Int))(R C:Nat):WI (sub rest (cs R) (cs C))=(List.range 10).filter (wp (mf rest) R C):=by
 unfold WI sub wp mf
 congr 1
 funext w
 rw[jg]
 congr 1
 funext i
 show((cs C).map λ j=>(rest.getD i []).getD j 0).any _=_;rw[jg];rfl
def W9(rest:on (on Int)):Prop:=∀r∈rest,∀x∈r,0<=x/\x<=9
def HU{r:on Int}(h:j<r.length):r.getD j 0∈r:=by
 rw[r9,n6 h];exact T7 h
def bD(c:Rect a b rest)(e:W9 rest)(g:i<a)(f:j<b):0<=mf rest i j/\mf rest i j<=9:=by
 have d:=J9 (by rw[c.1];exact g);exact e _ d _ (HU (by rw[c.2 _ d];exact f))
def N3(a:c<2^n)(h:i∈cs c):i<n:=by
 exact(Nat.pow_lt_pow_iff_right (by decide:1<2)).mp (M0 (ib (N2 h)) a)
def p32(h:n<=5):2^n<=32:=K2 JY h
def cs5:∀c,c<32->(cs c).length<=5:=by decide +kernel
def uU(f:Rect a b rest)(e:W9 rest)(h:a<=5)(g:b<=5)(l:0<R)(k:R<2^a)(n:0<C)(m:C<2^b):0<wn (mf rest) R C:=by
 have pa:=p32 h;have pb:=p32 g;obtain⟨i,d⟩:=W8 (av R JX l);obtain⟨j,c⟩:=W8 (av C JX n);have q:=bD f e (N3 k d) (N3 m c);unfold wn;refine eE (a:=(mf rest i j).toNat) (A2.mpr ⟨o4.mpr JX,Q5.mpr ⟨i,j,d,c,by omega⟩⟩)
def HV(e:Rect a b rest)(h:W9 rest)(z:0<a)(s:a<=5)(q:b<=5)(A:0<R)(f:R<2^a)(B:0<C)(g:C<2^b)(w:δ[3]? = some (.val (tT rest)))(v:δ[5]? = some (JZ R))(u:δ[6]? = some (JZ C)) :
  evE G (run G T fu (k+3)) (.bi .len [.call 14 [.call 4 [.var 3,.var 5,.var 6]]]) δ=some (.ok (.int (wn (mf rest) R C:Nat)) .strong):=by
 have pa:=p32 s;have pb:=p32 q;have m:Rect (cs R).length (cs C).length (sub rest (cs R) (cs C)):=(by refine⟨by unfold sub;rw[g7],λ r d=>?_⟩;obtain⟨i,_,rfl⟩:=k9.mp d;rw[g7]);have c:W9 _:=λ r d x n=>by obtain⟨i,p,rfl⟩:=k9.mp d;obtain⟨j,o,rfl⟩:=k9.mp n;exact bD e h (N3 f p) (N3 g o)
 have y:=i7 (G:=G) (f7 (f6 w) (f7 (f6 v) (f7 (f6 u) i8))) rfl (uE (fu:=fu) (k:=k) rest a b R C e z JX JX A f B g);have l:=dM (i7 (f7 y i8) rfl (ux _ _ _ m (i9 (cs5 R JX) JY) (i9 (cs5 C JX) JY) c));rw[uT]at l;unfold nD at l;rw[g7]at l;exact l
noncomputable def lnB:on MS:=[.iff (.cmp .Eq (.bi .len [.call 14 [.call 4 [.var 3,.var 5,.var 6]]]) (.int 1)) [.dpp 4 [.var 5,.var 6] (.var 1)] [.set 7 false (.call 20 [.var 5,.var 6]),.dpp 4 [.var 5,.var 6] (.bi .min [.comp (.callv 4 [("joined_bits",18)] [.dix (.var 5) (.var 2),.dix (.var 5) (.var 3)]) (.many [0,1,2,3]) (.var 7) [none,none,none,none,some 2,some 4]])]]
structure Jt where
 g:Nat
 j:Nat->Nat->Nat
 nm:Str
abbrev jB:Jt:=⟨0,λ a b=>1+max a b,"joined_bits"⟩
abbrev JOk(J:Jt):Prop:=J=jB
def HW(h:JOk J)(d:δ[i]? = some (.val (.fn J.nm)))(c:evEs G (run G T fu (k+1)) es δ=some (.ok [(.int a,.strong),(.int b,.strong)])):evE G (run G T fu (k+1)) (.callv i [("joined_bits",18)] es) δ=some (.ok (.int ((J.j a b:Nat):Int)) .strong):=by
 subst h;exact HP d rfl c rfl (HR a b)
def lnD(J:Jt)(t:DV)(rest:on (on Int))(L:Tb)(x y w:Sv):on Sv:=[.val t,.val (.int J.g),.val (.fn J.nm),.val (tT rest),.od (dD L),x,y,w]
end k63
end
noncomputable section
namespace k63
open PySem L2
def dQ{n:Nat}(h:Ka e cx (.int n))(hn:n<=1000):evE G F (.bin .LShift (.int 1) e) δ=some (.ok (.int ((2^n:Nat):Int)) .strong):=E4 i3 h (by
 show(if 0<=_/\_<=1000000/\(1:Int).natAbs<2^64 then some (Re.ok _ .strong)else none)=_;rw[f8 ⟨by omega,by omega,by decide⟩,B2,Int.one_mul]
 congr 3)
def lnF:MS:=.fo (.one 6) (.rng [.int 1,.bin .LShift (.int 1) (.bi .len [.ix (.var 3) (.int 0)])]) lnB
def uV(h:noOt i δ=true):evS G F fu (.sep i) δ=some (.nx (δ.set i (.od (.dcl [] [])))):=f8 h
def uW{ks:on DKey}(h:δ[i]? = some (.od (.dcl ks vs))):evS G F fu (.retd i) δ=some (.rt (.dct ks vs) false):=by
 show((asOd δ[i]?).bind λ p=>some _)=_;rw[h];rfl
def HX(rows:on (on Int))(n m:Nat)(d:Rect n m rows)(e:0<n)(a:n<=60)(b:m<=60)(h1:(FI rows).length<=5)(h2:(FI (flip m rows)).length<=5):run G T fu (k+5) 13 [tT rows]=some (.v .non false):=by
 rw[o8 rfl rfl];unfold tA;have c:=i7 (G:=G) (δ:=p7 1 [tT rows]) (es:=[.var 0]) rfl rfl (Hy (fu:=fu) (k:=k) rows n m d e a b);have s:sm (FI rows).length (FI (flip m rows)).length=true:=by unfold sm;rw[g6,A5,A5];omega
 rw[s]at c;exact jK (D8 (r6 (fM c)) rfl)
def rst(m:Nat)(rows:on (on Int)):on (on Int):=sub rows (FI rows) (FI (flip m rows))
theorem uX:∀k:on Int,unP (kP k)=some k
 | []=>rfl
 | a::r=>by show(unP (kP r)).map _=_;rw[uX r];rfl
theorem uY:∀L:on (b×a),kvp? (ksG κ L) (vsG ν L)=some (L.map λ p=>(κ p.1,ν p.2))
 | []=>rfl
 | p::L=>by show((unP _).bind λ k=>(kvp? (ksG κ L) (vsG ν L)).map _)=_;rw[uX,uY L];rfl
noncomputable def tD(p:(Nat×Nat)×Nat):DV:=.tup [.int p.1.1,.int p.1.2,.int p.2]
def HY(L:Tb)(h:L≠[])(a:L.length<=100000):run G T fu (k+1) 16 [dC L]=some (.v (.lst (L.map tD)) true):=by
 rw[o8 rfl rfl];unfold tF;have w:q9 (evE G (run G T fu k) (.itm (.var 0)) (p7 1 [dC L]))=some (.ok (L.map λ p=>.tup [.tup [.int p.1.1,.int p.1.2],.int p.2]) .strong):=by have b:evE G (run G T fu k) (.itm (.var 0)) (p7 1 [dC L])=Re.thn (evE G (run G T fu k) (.var 0) (p7 1 [dC L])) (λ x c=>itmD x c):=rfl;rw[b,f6 rfl,G4];show q9 (if Cl.strong=.strong/\(ksG k2 L).isEmpty=false then(kvp? (ksG k2 L) (vsG vN L)).map (λ l=>.ok _ .strong)else none)=_;rw[f8 ⟨rfl,by cases L with | nil=>exact absurd rfl h | cons _ _=>rfl⟩,uY];show some _=_;rw[r3];rfl
 refine o9 (n9 (p6 (Q4 w JY (i9 a JY) λ p hp=>?_)));refine⟨[.val _,.val _],.strong,rfl,?_,rfl⟩;exact F7 (f7 (o7 (cx:=.strong) (f6 rfl) (i3 (i:=0)) rfl) (f7 (o7 (cx:=.strong) (f6 rfl) (i3 (i:=1)) rfl) (f7 (f6 rfl) i8))) (le4m (by simp)) rfl
def HZ(xs:on DV)(x:DV):ixD (.lst (xs++[x])) (.int (-1))=some x:=by
 show(C9 (xs++[x]).length (-1)).bind _=_;have e:C9 (xs++[x]).length (-1)=some xs.length:=by
  unfold C9;rw[g8 JY,f8 (by rw[t7];simp;omega)];rw[t7]
  congr 1
  simp;omega
 rw[e,K6,X0 (i6 _),Nat.sub_self];rfl
def b_gt{G:Gs}{F:Nat->on DV->JF Ou}{δ:on Sv}{a b:ME}{i j:Int}{cx cy:Cl}(ha:Ka a cx (.int i))(hb:Ka b cy (.int j)):evE G F (.cmp .Gt a b) δ=some (.ok (.bl (decide (j<i))) .strong):=G5 ha hb rfl
def bE(h1 : -(2^62)<j)(h2:j<2^62):E8 i j=true:=by
 unfold E8;have e1:(2:Int)^62=4611686018427387904:=JY;have e2:(2:Int)^64=18446744073709551616:=JY;rw[B1 (show -(2^64)<j by omega),B1 (show j<2^64 by omega)];rw[Bool.and_self,jd,je]
abbrev sS(c n:Int)(xs:on Int)(a b d e:Sv):on Sv:=[.val (.int c),.val (.int n),.own (.lst (iD xs)),a,b,d,e]
def Ia(xs:on Int)(x:Int):iD xs++[DV.int x]=iD (xs++[x]):=by unfold iD;rw[A9];rfl
noncomputable def s1:on MS:=[.app 2 (.bin .Mod (.var 3) (.int 306783379)),.set 3 false (.bin .FloorDiv (.var 3) (.int 306783379))]
noncomputable def s2:on MS:=[.set 5 false (.bin .Mod (.bin .Add (.bin .Add (.bin .Mult (.var 5) (.int 48271)) (.bin .Mult (.var 4) (.var 4))) (.int 11)) (.int 2147483647)),.set 6 false (.bin .Add (.bin .Add (.bin .Mult (.bin .FloorDiv (.var 5) (.int 977)) (.int 16807)) (.bin .Mult (.var 5) (.bin .Add (.bin .Mult (.var 4) (.var 4)) (.int 7)))) (.var 4)),.seti 2 (.var 4) (.bin .FloorDiv (.bin .Mod (.var 6) (.int 2147483587)) (.int 7))]
def Ib(c:Int)(n:Nat)(hn:n<=100):∃xs:on Int,xs.length=n/\run G T fu (k+1) 37 [.int c,.int (n:Int)]=some (.v (.lst (iD xs)) true):=by
 rw[o8 (fd:=tN) rfl rfl];have w:∀(xs:on Int) (a b d e:Sv),q9 (evE G (run G T fu k) (.rng [.var 1]) (sS c n xs a b d e))=some (.ok (upTo 0 n) .fresh):=λ xs a b d e=>Q3 (f6 rfl) JX
 have U:∃g,q0 (.one 4) (λ g=>evSs G (run G T fu k) fu s1 g) (upTo 0 n) (sS c n [] (JZ c) .no .no .no)=some (.nx g)/\∃xs r b,xs.length=n/\g=sS c n xs (JZ r) b .no .no:=(by refine M8 (i:=4) (I:=λ j s=>∃xs r b,xs.length=j/\s=sS c n xs (JZ r) b .no .no) n 0 (λ j L s C=>?_) ⟨[],c,.no,rfl,rfl⟩;obtain⟨xs,r,b,m,rfl⟩:=C;refine⟨sS c n (xs++[r%306783379]) (JZ (r/306783379)) (JZ (0+(j:Int))) .no .no,?_,xs++[r%306783379],_,_,by rw[t7,m];rfl,rfl⟩;refine i4 (δ':=sS c n (xs++[r%306783379]) (JZ r) (JZ (0+(j:Int))) .no .no) ?_ (i4 (n5 (aZ (f6 rfl) i3 JY) rfl) rfl);have:=jL (fu:=fu) (G:=G) (F:=run G T fu k) (i:=2) (δ:=sS c n xs (JZ r) (JZ (0+(j:Int))) .no .no) (ds:=iD xs) rfl (D1 (f6 (n:=3) (d:=.int r) rfl) (i3 (i:=306783379)) JY) rfl (by unfold iD;rw[g7,m];exact t6 (show j<1000 by omega) JY);rw[Ia]at this;exact this);obtain⟨g,O,xs,r,b,K,rfl⟩:=U;have y:=b_gt (G:=G) (F:=run G T fu k) (δ:=sS c n xs (JZ r) b .no .no) (f6 (n:=3) (d:=.int r) rfl) (i3 (i:=0));by_cases z:0<r
 ·rw[B1 z]at y;exact⟨xs,K,o9 (i4 (Z2 (d:=.lst []) rfl) (i4 (n5 (f6 rfl) rfl) (B6 (w [] _ _ _ _) (.inr rfl) O (Z1 (r6 y) (n9 (p6 (cl:=.top) (cQ rfl)))))))⟩
 ·rw[A7 z]at y;have S:∃g,q0 (.one 4) (λ g=>evSs G (run G T fu k) fu s2 g) (upTo 0 n) (sS c n xs (JZ r) b (JZ (c%2147483647+48271)) .no)=some (.nx g)/\∃xs b q e,xs.length=n/\g=sS c n xs (JZ r) b q e:=by
   have:=M8 (i:=4) (body:=λ g=>evSs G (run G T fu k) fu s2 g) (I:=λ _ s=>∃xs b q e,xs.length=n/\s=sS c n xs (JZ r) b (JZ q) e) n 0 (λ j L s C=>?_) (δ:=sS c n xs (JZ r) b (JZ (c%2147483647+48271)) .no) ⟨xs,b,_,.no,K,rfl⟩
   ·obtain⟨g,M,h,B,q,o,m,Z⟩:=this;exact⟨g,M,h,B,_,o,m,Z⟩
   ·obtain⟨h,B,q,o,m,rfl⟩:=C;rw[jh];have N:(2:Int)^62=4611686018427387904:=JY;have jj:((j:Int)*(j:Int))<=10000:=by
     have M:j*j<=100*100:=Y3 JX JX;have:((j*j:Nat):Int)<=10000:=by omega
     rw[Int.natCast_mul]at this;exact this
    have j0:0<=(j:Int)*(j:Int):=Int.mul_nonneg (C2 j) (C2 j);obtain⟨D,x⟩:∃D,sS c n h (.val (.int r)) (.val (.int (j:Int))) (.val (.int q)) o=D:=⟨_,rfl⟩;have H:evE G (run G T fu k) (.var 4) D=some (.ok (.int (j:Int)) .strong):=by rw[←x];exact f6 rfl
    have R:evE G (run G T fu k) (.var 5) D=some (.ok (.int q) .strong):=by rw[←x];exact f6 rfl
    have Q:=D1 (D0 (D0 (F1 R (i3 (i:=48271)) (bE JX JX)) (F1 H H (bE JX JX))) (i3 (i:=11))) (i3 (i:=2147483647)) JY;obtain⟨p,Y⟩:∃p,(q*48271+(j:Int)*(j:Int)+11)%2147483647=p:=⟨_,rfl⟩;rw[Y]at Q;obtain⟨v,l⟩:∃v,sS c n h (.val (.int r)) (.val (.int (j:Int))) (.val (.int p)) o=v:=⟨_,rfl⟩;have A:evE G (run G T fu k) (.var 4) v=some (.ok (.int (j:Int)) .strong):=by rw[←l];exact f6 rfl
    have E:evE G (run G T fu k) (.var 5) v=some (.ok (.int p) .strong):=by rw[←l];exact f6 rfl
    have P:=D0 (D0 (F1 (aZ E (i3 (i:=977)) JY) (i3 (i:=16807)) (bE JX JX)) (F1 E (D0 (F1 A A (bE JX JX)) (i3 (i:=7))) (bE JX JX))) A;obtain⟨u,X⟩:∃u,p/977*16807+p*((j:Int)*(j:Int)+7)+(j:Int)=u:=⟨_,rfl⟩;rw[X]at P;refine⟨sS c n (h.set j (u%2147483587/7)) (JZ r) (JZ (j:Int)) (JZ p) (JZ u),?_,h.set j (u%2147483587/7),_,_,_,by rw[C4];exact m,rfl⟩;show evSs G (run G T fu k) fu s2 (sS c n h (JZ r) (JZ (j:Int)) (JZ q) o)=_;rw[x];refine i4 (δ':=v) (by rw[n5 Q rfl,←x,←l];rfl) (i4 (δ':=sS c n h (JZ r) (JZ (j:Int)) (JZ p) (JZ u)) (by rw[n5 P rfl,←l];rfl) (i4 ?_ rfl));have J:=pz (fu:=fu) (G:=G) (F:=run G T fu k) (i:=2) (k:=.var 4) (δ:=sS c n h (JZ r) (JZ (j:Int)) (JZ p) (JZ u)) (ds:=iD h) (j:=j) rfl (aZ (D1 (f6 (n:=6) (d:=.int u) rfl) (i3 (i:=2147483587)) JY) (i3 (i:=7)) JY) (f6 rfl) rfl (lW (by unfold iD;rw[g7,m];exact L));have es:(iD h).set j (DV.int (u%2147483587/7))=iD (h.set j (u%2147483587/7)):=by unfold iD;rw[List.map_set]
    rw[es]at J;exact J
  obtain⟨g,N,h,B,q,o,W,rfl⟩:=S;exact⟨h,W,o9 (i4 (Z2 (d:=.lst []) rfl) (i4 (n5 (f6 rfl) rfl) (B6 (w [] _ _ _ _) (.inr rfl) O (D8 (r6 y) (i4 (n5 (D0 (D1 (f6 rfl) i3 JY) i3) rfl) (B6 (w xs _ _ _ _) (.inr rfl) N (n9 (p6 (cl:=.top) (cQ rfl)))))))))⟩
def bF(c:Int)(n:Nat)(a:n<=100):∃xs:on Int,xs.length=n/\run G T fu (k+1) 37 [.int c,.int n]=some (.v (.lst (xs.map DV.int)) true):=Ib c n a
def b_ne(d:Ka a cx (.int i))(c:Ka b cy (.int j)):evE G F (.cmp .NotEq a b) δ=some (.ok (.bl (i != j)) .strong):=G5 d c rfl
def mq(d:Ka a cx (.lst x))(c:Ka b cy (.lst y))(h:x.length+y.length<=1000):evE G F (.bin .Add a b) δ=some (.ok (.lst (x++y)) (Cl.anew cx cy)):=
 E4 d c (f8 (i9 h JY))
def uZ(h:j<m):(flip m rows).getD j []=col rows j:=by
 unfold flip;rw[r9,p5,aE h];rfl
def vb:(flip m rows).length=m:=by unfold flip;rw[g7,u8]
def dR{xs:on Int}{i:Int}(c:0<=i)(h:i<xs.length):∃v,∀{F:Nat->on DV->JF Ou} {δ:on Sv} {e:ME},evE G F e δ=some (.ok (.lst (xs.map DV.int)) .strong)->evE G F (.ix e (.int i)) δ=some (.ok (.int v) .strong):=by
 obtain⟨v,a⟩:=fP c h;exact⟨v,λ b=>o7 b i3 a⟩
def lst1(h:evE G F e δ=some (.ok d c))(hs:stro d c=true):evE G F (.lst [e]) δ=some (.ok (.lst [d]) .fresh):=lX (f7 h i8) (show 1<=m9 by decide) (by unfold stros;simp[hs])
def Ic(e:Ka a cx (.int i))(d:Ka b cy (.int j))(c:0<=j):evE G F (.bin .RShift a b) δ=some (.ok (.int (i/2^j.toNat)) .strong):=
 E4 e d (f8 c)
def lenT(R:Rect n m rows)(h:evE G F e δ=some (.ok (tT rows) .strong)):evE G F (.bi .len [e]) δ=some (.ok (.int (n:Int)) .strong):=by
 have q:=T0 h;rw[g7,R.1]at q;exact q
def W4(R:Rect n m rows)(b:0<n)(h:evE G F e δ=some (.ok (tT rows) .strong)):evE G F (.bi .len [.ix e (.int 0)]) δ=some (.ok (.int (m:Int)) .strong):=by
 have a:0<rows.length:=by rw[R.1];exact b
 have t:=T0 (o7 h (i3) (ap a));rw[show(iD _).length=m by unfold iD;rw[g7];exact R.2 _ (J9 a)]at t;exact t
noncomputable def minN:on Nat->Nat
 | []=>0
 | x::r=>if r.isEmpty then x else min x (minN r)
theorem mr:∀{l:on Nat},l≠[]->minN l∈l/\∀x∈l,minN l<=x
 | [],h=>absurd rfl h
 | [x],_=>⟨by simp[minN],by simp[minN]⟩
 | x::y::r,_=>by
  obtain⟨c,b⟩:=mr (l:=y::r) (by simp);have e:minN (x::y::r)=min x _:=rfl;rw[e];refine⟨?_,λ z a=>?_⟩
  ·by_cases q:x<=minN (y::r)
   ·rw[iS q];exact k8
   ·rw[Nat.min_eq_right JX];exact k5 _ c
  ·rcases i5.mp a with q | q
   ·rw[q];exact Nat.min_le_left ..
   ·exact i9 (Nat.min_le_right ..) (b z q)
def Ie(c:z∈l)(d:∀x∈l,z<=x):z=minN l:=by
 obtain⟨a,b⟩:=mr (l:=l) (by rintro rfl;cases c);exact Nat.le_antisymm (d _ a) (b _ c)
def stp(J:Jt)(f:Mx)(V:Nat->Nat->Nat)(R C:Nat):Nat:=if wn f R C=1 then J.g else minN ((wl R C).map λ w=>J.j (V w.2.2.1.1 w.2.2.1.2) (V w.2.2.2.1 w.2.2.2.2))
def zZ(J:Jt)(f:Mx):Nat->Nat->Nat->Nat
 | 0,_,_=>0
 | n+1,R,C=>stp J f (zZ J f n) R C
def mt(h:w∈wl R C):(∃g,Sb g R/\g<R - g/\w.2.2=((R - g,C),(g,C)))\/∃g,Sb g C/\g<C - g/\w.2.2=((R,C - g),(R,g)):=by
 unfold wl at h;rcases C7.mp h with q | q
 ·obtain⟨g,a,rfl⟩:=k9.mp q;exact .inl ⟨g,(W3 a).1,(W3 a).2,rfl⟩
 ·obtain⟨g,a,rfl⟩:=k9.mp q;exact .inr ⟨g,(W3 a).1,(W3 a).2,rfl⟩
def Ig(h:w∈wl R C):w.2.2.1.1+w.2.2.1.2<R+C/\w.2.2.2.1+w.2.2.2.2<R+C:=by
 rcases mt h with⟨g,s,_,e⟩ | ⟨g,s,_,e⟩
 ·rw[e];have:=s.1;have:=s.2.1;dsimp only;omega
 ·rw[e];have:=s.1;have:=s.2.1;dsimp only;omega
def vc{V:Nat->Nat->Nat}(h:∀r c,r+c<R+C->V r c=W r c):stp J f V R C=stp J f W R C:=by
 unfold stp;split
 ·rfl
 ·congr 1
  apply K4;intro w d;obtain⟨a,b⟩:=Ig d;rw[h _ _ a,h _ _ b]
theorem mu(f:Mx):∀(N n R C:Nat),n<=N->R+C<=n->zZ J f n R C=zZ J f (R+C) R C
 | 0,n,R,C,b,a=>by rw[show R+C=n by omega]
 | N+1,n,R,C,b,a=>by
  by_cases e:R+C=n
  ·rw[e]
  ·obtain⟨m,rfl⟩:∃m,n=m+1:=⟨n - 1,by omega⟩;cases hk:R+C with
   | zero=>
    obtain rfl:R=0:=by omega
    obtain rfl:C=0:=by omega
    show stp J f _ 0 0=0;unfold stp;split
    ·rename_i h;have:wn f 0 0=0:=rfl;omega
    ·rfl
   | succ k=>
    show stp J f _ R C=stp J f _ R C;exact vc λ r c h=>by rw[mu f N m r c JX JX,mu f N k r c JX JX]
def V(J:Jt)(f:Mx)(R C:Nat):Nat:=zZ J f (R+C) R C
def V_eq(f:Mx)(h:0<R+C):V J f R C=stp J f (V J f) R C:=by
 unfold V;cases hk:R+C with
 | zero=>omega
 | succ k=>
  show stp J f _ R C=_;exact vc λ r c h=>mu f k k r c (i6 _) JX
def r1(n:Nat):on Nat:=(List.range (n - 1)).map (· + 1)
def bG:j∈r1 n↔0<j/\j<n:=by
 unfold r1;rw[k9];constructor
 ·rintro⟨i,h,rfl⟩;have:=o4.mp h;omega
 ·rintro⟨h1,h2⟩;exact⟨j - 1,o4.mpr JX,by omega⟩
def vd(h:0<c):r1 (c+1)=r1 c++[c]:=by
 unfold r1;obtain⟨d,rfl⟩:∃d,c=d+1:=⟨c - 1,by omega⟩;rw[show d+1+1 - 1=d+1 by omega,show d+1 - 1=d by omega,aM,A9];rfl
noncomputable def ps(b r c:Nat):on (Nat×Nat):=(r1 r).flatMap (λ i=>(r1 (2^b)).map λ j=>(i,j))++(r1 c).map λ j=>(r,j)
def W5:q∈ps b r c↔(0<q.1/\q.1<r/\0<q.2/\q.2<2^b)\/(q.1=r/\0<q.2/\q.2<c):=by
 unfold ps;rw[C7,eP,k9];constructor
 ·rintro(⟨i,h1,h2⟩ | ⟨j,h,rfl⟩)
  ·obtain⟨j,a,rfl⟩:=k9.mp h2;have:=bG.mp h1;have:=bG.mp a;exact .inl ⟨by omega,by omega,by omega,by omega⟩
  ·exact .inr ⟨rfl,bG.mp h⟩
 ·rintro(⟨h1,h2,a,h4⟩ | ⟨h1,h2,a⟩)
  ·exact .inl ⟨q.1,bG.mpr ⟨h1,h2⟩,k9.mpr ⟨q.2,bG.mpr ⟨a,h4⟩,rfl⟩⟩
  ·exact .inr ⟨q.2,bG.mpr ⟨h2,a⟩,by rw[←h1]⟩
def ve(h:0<c):ps b r (c+1)=ps b r c++[(r,c)]:=by
 unfold ps;rw[vd h,A9,O7];rfl
def gL(h:0<r):ps b (r+1) 1=ps b r (2^b):=by
 unfold ps;rw[vd h,iu];show _++[]=_;rw[C8]
 congr 1
 simp
def Ih(b:Nat):ps b 1 1=[]:=rfl
def vf(n:Nat):(r1 n).length=n - 1:=by unfold r1;rw[g7,u8]
theorem mv(b:Nat):∀d,(ps b (d+1) 1).length=d*(2^b - 1)
 | 0=>by rw[Ih];simp
 | d+1=>by
  have e:ps b (d+1) (2^b)=ps b (d+1) 1++(r1 (2^b)).map λ j=>(d+1,j):=by unfold ps;rw[O7];rfl
  rw[gL JX,e,t7,g7,vf,mv b d,Nat.succ_mul]
def tbl(J:Jt)(f:Mx)(b r c:Nat):Tb:=(ps b r c).map λ p=>(p,V J f p.1 p.2)
theorem vg{V:Nat×Nat->Nat}:∀l:on (Nat×Nat),(l.map λ p=>(p,V p)).lookup q=if q∈l then some (V q)else none
 | []=>rfl
 | p::l=>by
  rw[o5,E2];by_cases e:q=p
  ·subst e;simp
  ·rw[show(q==p)=false from A1.mpr e];show(l.map λ p=>_).lookup q=_;rw[vg l];simp[e]
def mw(q:Nat×Nat):(tbl J f b r c).lookup q=if q∈ps b r c then some (V J f q.1 q.2)else none:=vg _
def vh(f:Mx)(b r c:Nat):(tbl J f b r c).length=(ps b r c).length:=g7 ..
def mx(a:b<=5)(R0:0<R)(hR:R<=32)(hC:C<=32):(ps b R C).length<=1000:=by
 have e:ps b R C=ps b R 1++(r1 C).map λ j=>(R,j):=by unfold ps;rw[O7];rfl
 obtain⟨d,rfl⟩:∃d,R=d+1:=⟨R - 1,by omega⟩;rw[e,t7,g7,vf,mv];have pb:=p32 a;have:d*(2^b - 1)<=31*31:=Y3 JX JX;omega
def vk(c:0<C)(a:C<2^b)(R0:0<R)(h:w∈wl R C):w.2.2.1∈ps b R C/\w.2.2.2∈ps b R C:=by
 rcases mt h with⟨g,s,_,e⟩ | ⟨g,s,_,e⟩
 ·have:=s.1;have:=s.2.1;rw[e];exact⟨W5.mpr (.inl ⟨by dsimp only;omega,by dsimp only;omega,c,a⟩),W5.mpr (.inl ⟨by dsimp only;omega,by dsimp only;omega,c,a⟩)⟩
 ·have:=s.1;have:=s.2.1;rw[e];exact⟨W5.mpr (.inr ⟨rfl,by dsimp only;omega,by dsimp only;omega⟩),W5.mpr (.inr ⟨rfl,by dsimp only;omega,by dsimp only;omega⟩)⟩
def wv(J:Jt)(f:Mx)(w:Wy):Nat:=J.j (V J f w.2.2.1.1 w.2.2.1.2) (V J f w.2.2.2.1 w.2.2.2.2)
def vm(h:0<C):tbl J f b R (C+1)=tbl J f b R C++[((R,C),V J f R C)]:=by
 unfold tbl;rw[ve h,A9];rfl
def vn(d:R<32)(e:C<32)(h:0<R)(i:0<C)(g:2<=wn f R C):wl R C≠[]:=by
 intro a;unfold wl at a;obtain⟨c,b⟩:=List.append_eq_nil_iff.mp a;rcases HL d e h i g with q | q
 ·exact q (bU.mp c)
 ·exact q (bU.mp b)
def Ii{rest:on (on Int)}(O:JOk J)(t:DV)(v:Rect a b rest)(u:W9 rest)(S:0<a)(n:a<=5)(j:b<=5)(f:0<R)(A:R<2^a)(g:0<C)(s:C<2^b)(w:Sv) :
  ∃E,evSs G (run G T fu (k+3)) fu lnB (lnD J t rest (tbl J (mf rest) b R C) (JZ R) (JZ C) w)=some (.nx (lnD J t rest (tbl J (mf rest) b R (C+1)) (JZ R) (JZ C) E)):=by
 have pa:=p32 n;have pb:=p32 j;have o:R<32:=by omega
 have p:C<32:=by omega
 have e:(tbl J (mf rest) b R C).length<100000:=by rw[vh];have:=mx (b:=b) (R:=R) (C:=C) j f JX JX;omega
 have x:(tbl J (mf rest) b R C).lookup (R,C)=none:=by
  rw[mw,g8 λ z=>?_];rcases W5.mp z with q | q
  ·have:=q.2.1;dsimp only at this;omega
  ·have:=q.2.2;dsimp only at this;omega
 have r:=HV (fu:=fu) (k:=k) (δ:=lnD J t rest (tbl J (mf rest) b R C) (JZ R) (JZ C) w) v u S n j f A g s rfl rfl rfl;have c:=uJ r (i3 (i:=((1:Nat):Int)));have B:=uU v u n j f A g s;have d:=V_eq (J:=J) (mf rest) (R:=R) (C:=C) JX;unfold stp at d;rw[vm g];by_cases m:wn (mf rest) R C=1
 ·rw[m]at c;rw[f8 m]at d;rw[d];exact⟨w,pq (r6 c) (i4 (uQ (z:=J.g) rfl (f6 rfl) (f6 rfl) (f6 rfl) x e) rfl) rfl⟩
 ·have H:=A1.mpr m;rw[H]at c;rw[g8 m]at d;have P:2<=wn (mf rest) R C:=by omega
  have Q:=Q4 (F:=run G T fu (k+3)) (δ:=lnD J t rest (tbl J (mf rest) b R C) (JZ R) (JZ C) (.val (.lst ((wl R C).map wD)))) (l:=wl R C) (h:=wD) (elt:=.callv 4 [("joined_bits",18)] [.dix (.var 5) (.var 2),.dix (.var 5) (.var 3)]) (tg:=.many [0,1,2,3]) (it:=.var 7) (fr:=[none,none,none,none,some 2,some 4]) (cl:=.strong) rfl JY
   (by unfold wl;rw[t7,g7,g7];exact i9 (fb (Q6 o) (Q6 p)) JY) λ w M=>by obtain⟨K,I⟩:=vk g s f M;refine⟨[.val w.1,.val (.int w.2.1),.val _,.val _,.val (.fn J.nm),.od _],.strong,rfl,?_,rfl⟩;exact HW (k:=k+2) O rfl (f7 (uP rfl (f6 rfl) (by rw[mw,f8 K])) (f7 (uP rfl (f6 rfl) (by rw[mw,f8 I])) i8))
  have ne:(wl R C).map (wv J (mf rest))≠[]:=λ z=>vn o p f g P (bU.mp z);obtain⟨z,L,N,y⟩:=HQ ((by rw[Q];unfold nD;rw[r3];rfl)) ne;rw[Ie L N,show minN ((wl R C).map (wv J (mf rest)))=V J (mf rest) R C from d.symm]at y;exact⟨_,pu (r6 c) (i4 (n5 (i7 rfl rfl (mi o p)) rfl) (i4 (uQ (z:=V J (mf rest) R C) rfl y (f6 rfl) (f6 rfl) x e) rfl)) rfl⟩
def Ij{rest:on (on Int)}(m:JOk J)(t:DV)(g:Rect a b rest)(f:W9 rest)(o:0<a)(l:a<=5)(i:b<=5)(q:0<R)(p:R<2^a)(y w:Sv) :
  ∃δ',q0 (.one 6) (λ δ'=>evSs G (run G T fu (k+3)) fu lnB δ') (upTo 1 (2^b - 1)) (lnD J t rest (tbl J (mf rest) b R 1) (JZ R) y w)=some (.nx δ')/\∃d c,δ'=lnD J t rest (tbl J (mf rest) b R (2^b - 1+1)) (JZ R) d c:=by
 refine M8 (I:=λ j δ'=>∃d c,δ'=lnD J t rest (tbl J (mf rest) b R (j+1)) (JZ R) d c) _ 1 (λ j hj δ h=>?_) ⟨y,w,rfl⟩;obtain⟨d,c,rfl⟩:=h;obtain⟨w2,e⟩:=Ii m t g f o l i q p (C:=j+1) JX JX c;have n:(lnD J t rest (tbl J (mf rest) b R (j+1)) (JZ R) d c).set 6 (JZ (1+(j:Int)))=lnD J t rest (tbl J (mf rest) b R (j+1)) (JZ R) (JZ ((j+1:Nat):Int)) c:=by show lnD J t rest _ (JZ R) (JZ (1+(j:Int))) c=_;rw[show(1:Int)+_=((j+1:Nat):Int) by omega]
 exact⟨_,by rw[n];exact e,_,_,rfl⟩
def Ik{rest:on (on Int)}(s:JOk J)(t:DV)(g:Rect a b rest)(q:W9 rest)(o:0<a)(r:a<=5)(n:b<=5)(x y w:Sv) :
  ∃δ',q0 (.one 5) (λ δ'=>evSs G (run G T fu (k+3)) fu [lnF] δ') (upTo 1 (2^a - 1)) (lnD J t rest [] x y w)=some (.nx δ')/\∃f c d,δ'=lnD J t rest (tbl J (mf rest) b (2^a - 1+1) 1) f c d:=by
 have pb:=p32 n;have b1:=eU b;refine M8 (I:=λ j δ'=>∃f c d,δ'=lnD J t rest (tbl J (mf rest) b (j+1) 1) f c d) _ 1 (λ j hj δ h=>?_) ⟨x,y,w,rfl⟩;obtain⟨f,c,d,rfl⟩:=h;obtain⟨p,e,y2,w2,rfl⟩:=Ij s t g q o r n (R:=j+1) JX JX c d;rw[show 2^b - 1+1=2^b by omega]at e;have v:(lnD J t rest (tbl J (mf rest) b (j+1) 1) f c d).set 5 (JZ (1+(j:Int)))=lnD J t rest (tbl J (mf rest) b (j+1) 1) (JZ ((j+1:Nat):Int)) c d:=(by show lnD J t rest (tbl J (mf rest) b (j+1) 1) (JZ (1+(j:Int))) c d=_;rw[show(1:Int)+(j:Int)=((j+1:Nat):Int) by omega]);have u:tbl J (mf rest) b (j+1) (2^b)=tbl J (mf rest) b (j+1+1) 1:=by unfold tbl;rw[gL JX]
 rw[u]at e;have l:0<rest.length:=by rw[g.1];exact o
 have m:=T0 (F:=run G T fu (k+3)) (δ:=lnD J t rest (tbl J (mf rest) b (j+1) 1) (JZ ((j+1:Nat):Int)) c d) (o7 (a:=.var 3) (b:=.int 0) (cx:=.strong) (f6 rfl) (i3 (i:=((0:Nat):Int))) (ap l));rw[show(iD (rest.getD 0 [])).length=b by unfold iD;rw[g7];exact g.2 _ (J9 l)]at m;exact⟨_,by rw[v];exact B6 (bC (dQ m JX) JX) (.inr rfl) e rfl,_,_,_,rfl⟩
def ft(J:Jt)(m:Nat)(rows:on (on Int)):Tb:=tbl J (mf (rst m rows)) (FI (flip m rows)).length (2^(FI rows).length) 1
def vo:Rect (FI rows).length (FI (flip m rows)).length (rst m rows):=by
 refine⟨by unfold rst sub;rw[g7],λ r a=>?_⟩;obtain⟨i,_,rfl⟩:=k9.mp a;rw[g7]
def vp(a:Rect n m rows)(b:W9 rows):W9 (rst m rows):=λ r d x c=>by
 obtain⟨i,f,rfl⟩:=k9.mp d;obtain⟨j,e,rfl⟩:=k9.mp c;have:=gI f;have:=gI e;rw[(aq a).1]at this;exact bD a b (by rw[←a.1];omega) this
def Il(o:JOk J)(rows:on (on Int))(n m:Nat)(d:Rect n m rows)(l:W9 rows)(f:0<n)(b:n<=60)(c:m<=60)(g:(FI rows).length<=5)(i:(FI (flip m rows)).length<=5) :
  run G T fu (k+6) 19 [tT rows,.int J.g,.fn J.nm]=some (.v (dC (ft J m rows)) false):=by
 have a:=vo (m:=m) (rows:=rows);obtain⟨j,e,x',y',w',rfl⟩:=Ik o _ a (vp d l) (W1 (by rw[d.1];exact f)) g i .no .no .no;have a1:=eU (FI rows).length;rw[show 2^(FI rows).length - 1+1=2^(FI rows).length by omega]at e;have pa:=p32 g;rw[o8 rfl rfl];have h:=T0 (F:=run G T fu (k+5)) (δ:=lnD J (tT rows) (rst m rows) [] .no .no .no) (e:=.var 3) rfl;rw[g7,a.1]at h;show Ou.of _=_;exact o9 (i4 (cP (i7 rfl rfl (HX rows n m d f b c g i))) (i4 (n5 (i7 rfl rfl (uo rows n m d f b c)) rfl) (i4 (uV rfl) (B6 (bC (dQ h JX) JX) (.inr rfl) e (n9 (uW rfl))))))
def vq(d:0<(FI rows).length)(c:0<(FI (flip m rows)).length):∃L,ft J m rows=L++[((2^(FI rows).length - 1,2^(FI (flip m rows)).length - 1),V J (mf (rst m rows)) (2^(FI rows).length - 1) (2^(FI (flip m rows)).length - 1))]:=by
 unfold ft;generalize (FI rows).length=A at *;generalize (FI _).length=B at *;have a1:=i9 (by decide:2<=2^1) (K2 JY d);have b1:=i9 (by decide:2<=2^1) (K2 JY c);have e:=vm (J:=J) (f:=mf (rst m rows)) (b:=B) (R:=2^A - 1) (C:=2^B - 1) JX;rw[show 2^B - 1+1=2^B by omega]at e;have a:tbl J (mf (rst m rows)) B (2^A) 1=tbl J (mf (rst m rows)) B (2^A - 1) (2^B):=by have:=gL (b:=B) (r:=2^A - 1) JX;rw[show 2^A - 1+1=2^A by omega]at this;unfold tbl;rw[this]
 exact⟨_,a.trans e⟩
def Im(b:(FI rows).length<=5)(a:(FI (flip m rows)).length<=5):(ft J m rows).length=(2^(FI rows).length - 1)*(2^(FI (flip m rows)).length - 1)/\(ft J m rows).length<=1000:=by
 unfold ft;rw[vh];have c:=eU (FI rows).length;refine⟨?_,mx a c (p32 b) JX⟩;have:=mv (FI (flip m rows)).length (2^(FI rows).length - 1)
 rwa [show 2^(FI rows).length - 1+1=2^(FI rows).length by omega]at this
def Io(rows:on (on Int))(n m:Nat)(a:Rect n m rows)(j:W9 rows)(g:0<n)(b:n<=60)(l:0<m)(d:m<=60)(i:(FI rows).length<=5)(h:(FI (flip m rows)).length<=5) :
  run G T fu (k+8) 15 [tT rows]=some (.v (.lst ((ft jB m rows).map tD)) true):=by
 have e:=Il (fu:=fu) (k:=k) rfl rows n m a j g b d i h;rw[o8 rfl rfl];unfold tE;have c:=i7 (G:=G) (F:=run G T fu (k+7)) (δ:=p7 1 [tT rows]) (f:=17) (es:=[.var 0]) rfl rfl ((by rw[o8 rfl rfl];unfold tG;exact o9 (n9 (p6 (i7 rfl rfl e)))));obtain⟨L,o⟩:=vq (W1 (by rw[a.1];exact g)) (W1 (by rw[(aq a).1];exact l));exact o9 (n9 (p6 (i7 (f7 c i8) rfl (HY _ (by rw[o];simp) (by have:=(Im (J:=jB) i h).2;omega)))))
def Iq(rows:on (on Int))(n m:Nat)(a:Rect n m rows)(h:W9 rows)(e:0<n)(b:n<=60)(f:0<m)(d:m<=60)(l:(FI rows).length<=5)(j:(FI (flip m rows)).length<=5) :
  run G T fu (k+9) 34 [tT rows]=some (.v (.int (V jB (mf (rst m rows)) (2^(FI rows).length - 1) (2^(FI (flip m rows)).length - 1):Nat)) false):=by
 have g:=Io (fu:=fu) (k:=k) rows n m a h e b f d l j;obtain⟨L,o⟩:=vq (W1 (by rw[a.1];exact e)) (W1 (by rw[(aq a).1];exact f));rw[o]at g;rw[o8 rfl rfl];unfold tL;generalize 2^(FI rows).length - 1=A at *;generalize 2^(FI _).length - 1=B at *;have c:=i7 (G:=G) (δ:=p7 1 [tT rows]) (es:=[.var 0]) rfl rfl g;rw[A9]at c;exact o9 (n9 (p6 (o7 (cx:=.strong) (o7 c (HD (i3 (i:=1))) (HZ _ _)) (i3 (i:=2)) rfl)))
inductive Pn where
 | fin (w:Int) | ask (s:Bool) (c:Nat) (n y:Pn)
noncomputable def Pn.D:Pn->DV
 | .fin w=>.tup [.str "end",.int w]
 | .ask s c n y=>.tup [.str "ask",sd s,.int c,n.D,y.D]
noncomputable def Pn.deep:Pn->Nat
 | .fin _=>0
 | .ask _ _ n y=>1+max n.deep y.deep
noncomputable def Pn.rch:Pn->Nat->Nat->Int
 | .fin w,_,_=>w
 | .ask s c n y,i,j=>if c.testBit (if s then i else j)then y.rch i j else n.rch i j
noncomputable def bs:Nat->(Nat->Bool)->Nat
 | 0,_=>0
 | n+1,q=>2^n*(if q n then 1 else 0)+bs n q
theorem vt(q:Nat->Bool):∀n,bs n q<2^n
 | 0=>Nat.zero_lt_one
 | n+1=>by have:=vt q n;show 2^n*_+bs n q<2^(n+1);rw[ji];split<;>omega
theorem vw(q:Nat->Bool)(i:Nat):∀n,(bs n q).testBit i=(decide (i<n)&&q i)
 | 0=>by show Nat.testBit 0 i=_;rw[eO,A7 (eT i)];rfl
 | n+1=>by
  show(2^n*_+bs n q).testBit i=_;rw[Nat.testBit_two_pow_mul_add _ (vt q n)];split
  ·rename_i h;rw[vw q i n,B1 h,B1 JX]
  ·rename_i h;by_cases e:i=n
   ·subst e;rw[Nat.sub_self,B1 (T6 i)];cases q i<;>rfl
   ·rw[A7 JX];obtain⟨d,hd⟩:∃d,i - n=d+1:=⟨i - n - 1,by omega⟩;rw[hd];cases q n
    ·exact eO _
    ·show Nat.testBit 1 (d+1)=false;exact ik (by rw[ji];have:=eU d;omega)
noncomputable def kd(rows:on (on Int))(c:Nat):Nat:=rows.idxOf (rows.getD c [])
def kx(rows:on (on Int))(c:Nat):Nat:=(FI rows).idxOf (kd rows c)
section
variable {rows:on (on Int)} {i j n m h:Nat}
def vx(a:i<rows.length):kd rows i∈FI rows:=by
 unfold FI;have:=J9 a;refine A2.mpr ⟨o4.mpr (gG this),?_⟩;unfold kd;rw[gH this,T5]
def gM(a:i<rows.length):kx rows i<(FI rows).length:=ei (vx a)
def vy(a:i<rows.length):(FI rows).getD (kx rows i) 0=kd rows i:=by
 unfold kx;rw[r9,n6 (ei (vx a))];exact iy _
def ks(rows:on (on Int)):on Nat:=(FI rows).map λ t=>bs rows.length λ c=>kd rows c==t
def wd(rows:on (on Int))(h:Nat):Nat:=((cs h).map λ t=>(ks rows).getD t 0).sum
def Ir(h:Rect n m rows)(o:i<n)(f:j<m):mf (rst m rows) (kx rows i) (kx (flip m rows) j)=mf rows i j:=by
 have a:i<rows.length:=by rw[h.1];exact o
 have b:j<(flip m rows).length:=by rw[vb];exact f
 have e:=gM a;have d:=gM b;have p:mf (rst m rows) (kx rows i) (kx (flip m rows) j)=mf rows ((FI rows).getD (kx rows i) 0) ((FI (flip m rows)).getD (kx (flip m rows) j) 0):=(by unfold mf rst sub;rw[r9 (i:=kx rows i),p5,n6 e];show(List.map _ _).getD _ 0=_;rw[r9,p5,n6 d,r9 (i:=kx rows i),n6 e,r9 (l:=FI (flip m rows)),n6 d];rfl);rw[p,vy a,vy b];have r1:rows.getD (kd rows i) []=rows.getD i []:=gH (J9 a);have g:(flip m rows).getD (kd (flip m rows) j) []=(flip m rows).getD j []:=gH (J9 b);have k:kd (flip m rows) j<m:=by have:=gG (J9 b);rw[vb]at this;exact this
 rw[uZ k,uZ f]at g;have c:(col rows (kd (flip m rows) j)).getD i 0=(col rows j).getD i 0:=by rw[g]
 unfold col at c;rw[r9,r9,p5,p5,n6 a]at c;unfold mf;rw[r1,r9 (l:=rows),n6 a];exact c
end
def dU(h:w∈wl R C):(∃g,Sb g R/\w=(sd true,g,(R - g,C),(g,C)))\/∃g,Sb g C/\w=(sd false,g,(R,C - g),(R,g)):=by
 unfold wl at h;rcases C7.mp h with q | q
 ·obtain⟨g,a,rfl⟩:=k9.mp q;exact .inl ⟨g,(W3 a).1,rfl⟩
 ·obtain⟨g,a,rfl⟩:=k9.mp q;exact .inr ⟨g,(W3 a).1,rfl⟩
def Iu{R C:Nat}{f:Mx}(h9:∀i∈cs R,∀j∈cs C,0<=f i j/\f i j<=9){i0 j0:Nat}(hi0:i0∈cs R)(hj0:j0∈cs C):wn f R C=1↔∀i∈cs R,∀j∈cs C,f i j=f i0 j0:=by
 unfold wn;have inF:∀i∈cs R,∀j∈cs C,(f i j).toNat∈(List.range 10).filter (wp f R C):=λ i hi j hj=>by have:=h9 i hi j hj;exact A2.mpr ⟨o4.mpr JX,Q5.mpr ⟨i,j,hi,hj,by omega⟩⟩
 constructor
 ·intro h i hi j hj;obtain⟨w,hw⟩:=List.length_eq_one_iff.mp h;have q1:=inF i hi j hj;have q2:=inF i0 hi0 j0 hj0;rw[hw]at q1 q2;have:=u7.mp q1;have:=u7.mp q2;have:=h9 i hi j hj;have:=h9 i0 hi0 j0 hj0;omega
 ·intro h;have b0:=h9 i0 hi0 j0 hj0;have e:(List.range 10).filter (wp f R C)=(List.range 10).filter λ w=>w==(f i0 j0).toNat:=by
   apply List.filter_congr;intro w _;rw[eS,Q5,g9];constructor
   ·rintro⟨i,j,hi,hj,q⟩;have:=h i hi j hj;omega
   ·rintro rfl;exact⟨i0,j0,hi0,hj0,by omega⟩
  have q:=inF i0 hi0 j0 hj0;rw[e]at q ⊢;have:=uI (f i0 j0).toNat JX;have:=eE q;omega
def vz{F:Nat->Int}{l:on Nat}(h:l.Perm m):(l.map F).sum=(m.map F).sum:=by
 induction h with
 | nil=>rfl
 | cons a _ c=>simp only[o5,A6,c]
 | swap a b l=>simp only[o5,A6];omega
 | trans _ _ a b=>exact a.trans b
def Iv:∀R,R<32->∀h,h<32->0<h/\h<R/\h &&& R=h->(cs (R - h)++cs h).isPerm (cs R)=true:=by decide +kernel
def dW(a:R<32)(s:Sb h R):(cs (R - h)++cs h).Perm (cs R):=List.isPerm_iff.mp (Iv R a h (s.lt a) s)
def Iw:∀R,R<32->∀c,c<32->R &&& c=0\/R &&& c=R\/(0<R &&& c/\R &&& c<R/\(R &&& c) &&& R=R &&& c):=by decide +kernel
def sm2(R C:Nat)(F:Nat->Nat->Int):Int:=((cs R).map λ i=>((cs C).map λ j=>F i j).sum).sum
theorem dX{F:Nat->Int}:∀{l:on Nat},(∀i∈l,F i<=F' i)->(l.map F).sum<=(l.map F').sum
 | [],_=>E3 _
 | a::l,h=>by
  simp only[o5,A6];have h1:=h a (k8 ..);have h2:=dX λ i b=>h i (k5 _ b)
  omega
theorem gO{F:Nat->Int}:∀{l:on Nat},(l.map λ i=>F i+F' i).sum=(l.map F).sum+(l.map F').sum
 | []=>rfl
 | a::l=>by simp only[o5,A6,gO];omega
section
variable {R C h:Nat} {F F' f g:Nat->Nat->Int}
def bH(H:∀i∈cs R,∀j∈cs C,F i j<=F' i j):sm2 R C F<=sm2 R C F':=dX λ i b=>dX λ j a=>H i b j a
def vA(H:∀i∈cs R,∀j∈cs C,F i j=F' i j):sm2 R C F=sm2 R C F':=cj (bH λ i b j a=>M3 (H i b j a)) (bH λ i b j a=>M3 (H i b j a).symm)
def vC(a:R<32)(s:Sb h R):sm2 R C F=sm2 (R - h) C F+sm2 h C F:=by
 unfold sm2;rw[←vz (dW a s),A9,eV]
def vD(a:C<32)(s:Sb h C):sm2 R C F=sm2 R (C - h) F+sm2 R h F:=by
 unfold sm2;rw[←gO]
 congr 1
 refine K4 λ i _=>?_;rw[←vz (dW a s),A9,eV]
def my(R C:Nat):sm2 R C (λ _ _=>0)=0:=by
 have z:∀l:on Nat,(l.map λ _=>(0:Int)).sum=0:=λ l=>by
  induction l with
  | nil=>rfl
  | cons a l c=>simp only[o5,A6,c];rfl
 unfold sm2;rw[show(λ i:Nat=>((cs C).map λ j=>(0:Int)).sum)=λ _=>0 from funext λ _=>z _,z]
def vE(H:∀i∈cs R,∀j∈cs C,0<=F i j):0<=sm2 R C F:=by
 rw[←my R C];exact bH H
def ww(f g:Mx)(R C:Nat)(w:Int):Int:=sm2 R C λ i j=>if f i j=w then g i j else 0
def pw(f g:Mx)(p:Pn)(R C:Nat):Int:=sm2 R C λ i j=>if p.rch i j=f i j then g i j else 0
def mxl(x:Int)(l:on Int):Int:=l.foldl max x
theorem bI:∀{l:on Int} {x:Int},x<=mxl x l/\∀y∈l,y<=mxl x l
 | [],x=>⟨E3 _,λ y h=>nomatch h⟩
 | a::l,x=>by
  have b:=bI (l:=l) (x:=max x a);refine⟨w4 JX b.1,λ y c=>?_⟩;rcases i5.mp c with rfl | c
  ·exact w4 JX b.1
  ·exact b.2 y c
theorem gP:∀{l:on Int} {x:Int},x<=b->(∀y∈l,y<=b)->mxl x l<=b
 | [],x,h,_=>h
 | a::l,x,h,H=>gP (l:=l) (by have:=H a (k8 ..);omega) λ y c=>H y (k5 _ c)
def bW(f g:Mx):Nat->Nat->Nat->Int
 | 0,R,C=>mxl 0 ((List.range 10).map λ (w:Nat)=>ww f g R C (w:Int))
 | l+1,R,C=>mxl (bW f g l R C) ((wl R C).map λ w=>bW f g l w.2.2.1.1 w.2.2.1.2+bW f g l w.2.2.2.1 w.2.2.2.2)
def bJ(l R C:Nat):bW f g l R C<=bW f g (l+1) R C:=bI.1
def gQ(h:w∈wl R C):bW f g l w.2.2.1.1 w.2.2.1.2+bW f g l w.2.2.2.1 w.2.2.2.2<=bW f g (l+1) R C:=bI.2 _ (k9.mpr ⟨w,h,rfl⟩)
def Ix(a:R<32)(s:Sb h R):bW f g l (R - h) C+bW f g l h C<=bW f g (l+1) R C:=by
 rcases mh R a h (s.lt a) s with q | ⟨q,e⟩
 ·exact gQ (B4 _ (k9.mpr ⟨h,q,rfl⟩))
 ·have:=gQ (f:=f) (g:=g) (l:=l) (w:=(.str "row",R - h,_,(R - h,C))) (B4 _ (k9.mpr ⟨R - h,q,rfl⟩));dsimp only at this;rw[e]at this;omega
def Iy(a:C<32)(s:Sb h C):bW f g l R (C - h)+bW f g l R h<=bW f g (l+1) R C:=by
 rcases mh C a h (s.lt a) s with q | ⟨q,e⟩
 ·exact gQ (u4 _ (k9.mpr ⟨h,q,rfl⟩))
 ·have:=gQ (f:=f) (g:=g) (l:=l) (w:=(.str "column",C - h,_,(R,C - h))) (u4 _ (k9.mpr ⟨C - h,q,rfl⟩));dsimp only at this;rw[e]at this;omega
def gR(h:i∈cs R)(a:c.testBit i=true):i∈cs (R &&& c):=au (by rw[eW,N2 h,a];rfl)
def bK(h:i∈cs (R &&& c)):i∈cs R/\c.testBit i=true:=by
 have:=N2 h;rw[eW,g6]at this;exact⟨au this.1,this.2⟩
def Iz(a:R<32):R &&& (c%32)=R &&& c:=by
 apply Nat.eq_of_testBit_eq;intro i;rw[eW,eW,show(32:Nat)=2^5 from rfl,Nat.testBit_mod_two_pow];by_cases h:i<5
 ·simp[h]
 ·have:=ik (t6 a (by show 2^5<=2^i;exact K2 JY JX));simp[this]
def vF(c:Nat)(a:R<32):R &&& c=0\/R &&& c=R\/Sb (R &&& c) R:=by
 have:=Iw R a (c%32) (cE _ JY)
 rwa [Iz a]at this
def IA(g0:∀i j,0<=g i j)(X:∀i∈cs R,∀j∈cs C,0<=f i j/\f i j<=9):∀(p:Pn) (l:Nat),p.deep<=l->∀d m,d<32->m<32->(∀i∈cs d,i∈cs R)->(∀j∈cs m,j∈cs C)->pw f g p d m<=bW f g l d m:=by
 intro p
 induction p with
 | fin w=>
  intro l _ d m u v A B;have Y:pw f g (.fin w) d m<=bW f g 0 d m:=by
   by_cases S:0<=w/\w<=9
   ·refine w4 (M3 (vA λ i _ j _=>?_)) (bI.2 (ww f g d m w) (k9.mpr ⟨w.toNat,o4.mpr JX,by rw[Int.toNat_of_nonneg S.1]⟩));show(if w=f i j then g i j else 0)=if f i j=w then g i j else 0
    by_cases e:f i j=w
    ·rw[f8 e,f8 e.symm]
    ·rw[g8 e,g8 (Ne.symm e)]
   ·refine w4 (w4 (bH (F':=λ _ _=>0) λ i a j r=>?_) (M3 ?_)) (bI (x:=0)).1
    ·show(if w=f i j then g i j else 0)<=0;have:=X i (A i a) j (B j r);rw[g8 JX];exact E3 _
    ·exact my _ _
  have P:∀l,bW f g 0 d m<=bW f g l d m:=λ l=>by
   induction l with
   | zero=>exact E3 _
   | succ l Q=>exact w4 Q (bJ ..)
  exact w4 Y (P l)
 | ask s c n y F E=>
  intro l W d m u v A B;have U:1+max n.deep y.deep<=l:=W;obtain⟨l,rfl⟩:∃k,l=k+1:=⟨l - 1,by omega⟩;have M:n.deep<=l:=by omega
  have L:y.deep<=l:=by omega
  have I:∀{N O:Nat} (q:Pn),(∀i∈cs N,∀j∈cs O,(Pn.ask s c n y).rch i j=q.rch i j)->sm2 N O (λ i j=>if(Pn.ask s c n y).rch i j=f i j then g i j else 0)=pw f g q N O:=λ {N O} q H=>vA λ i a j r=>by rw[H i a j r]
  cases s with
  | true=>
   have J:∀{i j:Nat},c.testBit i=true->(Pn.ask true c n y).rch i j=y.rch i j:=λ h=>f8 h;have K:∀{i j:Nat},c.testBit i≠true->(Pn.ask true c n y).rch i j=n.rch i j:=λ h=>g8 h;rcases vF c u with z | z | z
   ·refine w4 (M3 (I n λ i a j _=>K λ h=>?_)) (w4 (F l M d m u v A B) (bJ ..));have:=gR a h;rw[z]at this;exact absurd (N2 this) (by simp)
   ·exact w4 (M3 (I y λ i a j _=>J (bK (by rw[z];exact a)).2)) (w4 (E l L d m u v A B) (bJ ..))
   ·have o:=λ {i} (a:i∈cs (d - (d &&& c)))=>dP z u a;have a1:=F l M (d - (d &&& c)) m JX v (λ i a=>A i (o a).1) B;have Z:=E l L (d &&& c) m (z.lt u) v (λ i a=>A i (bK a).1) B;have b:=Ix (f:=f) (g:=g) (C:=m) (l:=l) u z;unfold pw;rw[vC u z,I n λ i a j _=>K λ h=>(o a).2 (gR (o a).1 h),I y λ i a j _=>J (bK a).2];omega
  | false=>
   have J:∀{i j:Nat},c.testBit j=true->(Pn.ask false c n y).rch i j=y.rch i j:=λ h=>f8 h;have K:∀{i j:Nat},c.testBit j≠true->(Pn.ask false c n y).rch i j=n.rch i j:=λ h=>g8 h;rcases vF c v with z | z | z
   ·refine w4 (M3 (I n λ i _ j r=>K λ h=>?_)) (w4 (F l M d m u v A B) (bJ ..));have:=gR r h;rw[z]at this;exact absurd (N2 this) (by simp)
   ·exact w4 (M3 (I y λ i _ j r=>J (bK (by rw[z];exact r)).2)) (w4 (E l L d m u v A B) (bJ ..))
   ·have o:=λ {i} (a:i∈cs (m - (m &&& c)))=>dP z v a;have a1:=F l M d (m - (m &&& c)) u JX A (λ i a=>B i (o a).1);have Z:=E l L d (m &&& c) u (z.lt v) A (λ i a=>B i (bK a).1);have b:=Iy (f:=f) (g:=g) (R:=d) (l:=l) v z;unfold pw;rw[vD v z,I n λ i _ j r=>K λ h=>(o r).2 (gR (o r).1 h),I y λ i _ j r=>J (bK r).2];omega
theorem bL(g0:∀i j,0<=g i j):∀(l:Nat) {R C:Nat},R<32->C<32->bW f g l R C<=sm2 R C g
 | 0,R,C,_,_=>gP (vE λ i _ j _=>g0 i j) λ y hy=>by
  obtain⟨w,_,rfl⟩:=k9.mp hy;refine bH λ i _ j _=>?_
  show(if f i j=(w:Int)then g i j else 0)<=g i j;split
  ·exact E3 _
  ·exact g0 i j
 | l+1,R,C,hR,hC=>gP (bL g0 l hR hC) λ y hy=>by
  obtain⟨w,hw,rfl⟩:=k9.mp hy;rcases mt hw with⟨h,s,_,e⟩ | ⟨h,s,_,e⟩<;>rw[e]
  ·rw[vC hR s];have:=bL g0 l (R:=R - h) (C:=C) JX hC;have:=bL g0 l (s.lt hR) hC;dsimp only;omega
  ·rw[vD hC s];have:=bL g0 l (R:=R) (C:=C - h) hR JX;have:=bL g0 l hR (s.lt hC);dsimp only;omega
def vG(b:R<32)(s:Sb h R)(a:i∈cs R):i∈cs (R - h)\/i∈cs h:=C7.mp ((dW b s).mem_iff.mpr a)
def wn_0(g:∀i∈cs R,∀j∈cs C,0<=f i j/\f i j<=9)(d:R<32)(h:0<R)(e:C<32)(k:0<C):0<wn f R C:=by
 obtain⟨i,c⟩:=W8 (av R d h);obtain⟨j,b⟩:=W8 (av C e k);have:=g i c j b;refine eE (a:=(f i j).toNat) (A2.mpr ⟨o4.mpr JX,Q5.mpr ⟨i,j,c,b,by omega⟩⟩)
theorem V_ex:∀(n R C:Nat),R+C<=n->0<R->R<32->0<C->C<32->(∀i∈cs R,∀j∈cs C,0<=f i j/\f i j<=9)->∃p:Pn,p.deep=V jB f R C/\∀i∈cs R,∀j∈cs C,p.rch i j=f i j
 | 0,R,C,h,u,_,_,_,_=>by omega
 | n+1,R,C,hn,u,k,v,o,r=>by
  by_cases I:wn f R C=1
  ·obtain⟨M,H⟩:=W8 (av R k u);obtain⟨L,F⟩:=W8 (av C o v);refine⟨.fin (f M L),?_,λ i a j c=>((Iu r H F).mp I i a j c).symm⟩;rw[V_eq f JX];exact(f8 I).symm
  ·have O:2<=wn f R C:=by have:=wn_0 r k u o v;omega
   have e:=V_eq (J:=jB) f (R:=R) (C:=C) JX;unfold stp at e;rw[g8 I]at e;have m:=(mr (l:=(wl R C).map λ w=>jB.j (V jB f w.2.2.1.1 w.2.2.1.2) (V jB f w.2.2.2.1 w.2.2.2.2)) (by simpa using vn k o u v O)).1;rw[←e]at m;obtain⟨w,N,K⟩:=k9.mp m;rcases dU N with⟨g,s,rfl⟩ | ⟨g,s,rfl⟩
   ·have s1:=s.1;have s2:=s.2.1;have d:=λ {i} (a:i∈cs (R - g))=>dP s k a;have E:∀{i},i∈cs g->i∈cs R:=λ a=>(dW k s).mem_iff.mp (u4 _ a);obtain⟨p,B,A⟩:=V_ex n (R - g) C JX JX JX v o λ i a j c=>r i (d a).1 j c;obtain⟨q,y,x⟩:=V_ex n g C JX s1 (s.lt k) v o λ i a j c=>r i (E a) j c;refine⟨.ask true g p q,by rw[←K,←B,←y];rfl,λ i a j c=>?_⟩;rcases vG k s a with z | z
    ·exact(g8 λ b=>(d z).2 (au b)).trans (A i z j c)
    ·exact(f8 (N2 z)).trans (x i z j c)
   ·have s1:=s.1;have s2:=s.2.1;have d:=λ {i} (a:i∈cs (C - g))=>dP s o a;obtain⟨p,B,A⟩:=V_ex n R (C - g) JX u k JX JX λ i a j c=>r i a j (d c).1;obtain⟨q,y,x⟩:=V_ex n R g JX u k s1 (s.lt o) λ i a j c=>r i a j ((λ a=>(dW o s).mem_iff.mp (u4 _ a)) c);refine⟨.ask false g p q,by rw[←K,←B,←y];rfl,λ i a j c=>?_⟩;rcases vG o s c with z | z
    ·exact(g8 λ b=>(d z).2 (au b)).trans (A i a j z)
    ·exact(f8 (N2 z)).trans (x i a j z)
end
noncomputable def sum2(n m:Nat)(F:Nat->Nat->Int):Int:=((List.range n).map λ i=>((List.range m).map λ j=>F i j).sum).sum
def vH:sum2 n m (λ i j=>F i j+F' i j)=sum2 n m F+sum2 n m F':=by
 unfold sum2;rw[←gO]
 congr 1
 exact K4 λ i _=>gO
theorem gU(a:Int):∀{l:on Nat},(l.map λ i=>a*F i).sum=a*(l.map F).sum
 | []=>(fi a).symm
 | b::l=>by simp only[o5,A6,gU a,Int.mul_add]
def mz(a:Int):sum2 n m (λ i j=>a*F i j)=a*sum2 n m F:=by
 unfold sum2;rw[←gU]
 congr 1
 exact K4 λ i _=>gU a
def gV(H:∀i,i<n->∀j,j<m->F i j<=F' i j):sum2 n m F<=sum2 n m F':=dX λ i b=>dX λ j a=>H i (o4.mp b) j (o4.mp a)
def dY(H:∀i,i<n->∀j,j<m->F i j=F' i j):sum2 n m F=sum2 n m F':=cj (gV λ i b j a=>M3 (H i b j a)) (gV λ i b j a=>M3 (H i b j a).symm)
def IB:sum2 n m (λ _ _=>0)=0:=by
 have:=mz (n:=n) (m:=m) (F:=λ _ _=>0) 0;simp only[Int.zero_mul]at this;exact this
theorem exch{g:Nat->Nat->Int}{a:Type}(s:a->Int)(ok:a->Nat->Nat->Bool):∀l:on a,sum2 n m (λ i j=>g i j*(l.map λ k=>if ok k i j then s k else 0).sum)=(l.map λ k=>s k*sum2 n m λ i j=>if ok k i j then g i j else 0).sum
 | []=>by show sum2 n m (λ i j=>g i j*0)=0;simp only[fi];exact IB
 | k::l=>by
  rw[o5,A6,←exch s ok l,←mz,←vH];refine dY λ i _ j _=>?_
  rw[o5,A6,Int.mul_add]
  congr 1
  split
  ·exact aP ..
  ·rw[fi,fi]
theorem vI{c:Type}{a b:c->Int}:∀{l:on c},(∀k∈l,a k<=b k)->(l.map a).sum<=(l.map b).sum
 | [],_=>E3 _
 | k::l,h=>by
  simp only[o5,A6];have h1:=h k (k8 ..);have h2:=vI λ k d=>h k (k5 _ d)
  omega
theorem vJ{a:Type}{s:a->Int}(b:Int):∀{l:on a},(l.map λ k=>s k*b).sum=(l.map s).sum*b
 | []=>(Int.zero_mul b).symm
 | k::l=>by simp only[o5,A6,vJ b,Int.add_mul]
def IC{a:Type}{s:a->Int}{ok:a->Nat->Nat->Bool}{l:on a}(o:∀i j,0<=g i j)(d:∀k∈l,0<=s k)(h:∀k∈l,sum2 n m (λ i j=>if ok k i j then g i j else 0)<=b)(ht:∀i,i<n->∀j,j<m->t<=(l.map λ k=>if ok k i j then s k else 0).sum) :
  t*sum2 n m g<=(l.map s).sum*b:=by
 rw[←mz,←vJ];refine w4 (gV (F':=λ i j=>g i j*(l.map λ k=>if ok k i j then s k else 0).sum) λ i f j e=>?_) ?_
 ·rw[aP];exact mY (ht i f j e) (o i j)
 ·rw[exch s ok l];exact vI λ k c=>mY (h k c) (d k c)
end k63
end
noncomputable section
namespace k63
open PySem L2
variable {fu k:Nat} {F:Nat->on DV->JF Ou} {δ:on Sv} {ds:on DV} {cl:Cl} {n m:Nat} {rows wr:on (on Int)}
def vK(h:tstD (evE G F c δ)=some (.ok t))(d:(if t then evE G F a δ else evE G F b δ)=o):evE G F (.ite c a b) δ=o:=by
 show Rt.thn _ _=o;rw[h];exact d
def vL(f:δ[i]? = some (JZ a))(h:Ka e c (.int b)):evS G F fu (.aug i e) δ=some (.nx (δ.set i (JZ (a+b)))):=by
 show((asIv δ[i]?).bind λ a=>Re.thnS δ _ λ d _=>(asI d).bind λ b=>some _)=_;rw[f,h];rfl
def vM(a:δ[i]? = some (.own d))(h:evSs G F fu r (δ.set i (.val d))=o):evSs G F fu (.frz i::r) δ=o:=by
 refine i4 (?_:frzS δ i δ[i]? = _) h;rw[a];rfl
def ID:cmpD .Eq (.str "ask") (.str "ask")=some true:=by decide +kernel
def IE:cmpD .Eq (.str "end") (.str "ask")=some false:=by decide +kernel
def IF(s:Bool):cmpD .Eq (sd s) (.str "row")=some s:=by cases s<;>decide +kernel
abbrev wS(q:DV)(i j:Nat)(bs:on DV)(p:DV)(c d:Sv):on Sv:=[.val q,.val (.int (i:Int)),.val (.int (j:Int)),.own (.lst bs),.val p,c,d]
def wC:ME:=.cmp .Eq (.ix (.var 4) (.int 0)) (.str "ask")
noncomputable def wB:on MS:=[.set 5 false (.ite (.cmp .Eq (.ix (.var 4) (.int 1)) (.str "row")) (.var 1) (.var 2)),.set 6 false (.bin .BitAnd (.bin .RShift (.ix (.var 4) (.int 2)) (.var 5)) (.int 1)),.app 3 (.var 6),.set 4 false (.ite (.cmp .Eq (.var 6) (.int 1)) (.ix (.var 4) (.int 4)) (.ix (.var 4) (.int 3)))]
theorem vO(q:DV)(i j:Nat):∀(p:Pn) (bs:on DV) (c d:Sv) (N:Nat),p.deep<N->bs.length+p.deep<=1000->∃g l k,G3 (λ f=>tstD (evE G F wC f)) (λ f=>evSs G F fu wB f) N (wS q i j bs p.D c d)=some (.nx (wS q i j g (Pn.fin (p.rch i j)).D l k))
 | .fin w,bs,c,d,N+1,_,_=>⟨bs,c,d,jM (r6 (cl:=.strong) (G5 (o7 (cx:=.strong) (f6 rfl) i3 rfl) Q0 IE))⟩
 | .ask s o a b,bs,c,d,N+1,C,z=>by
  have B:1+max a.deep b.deep<N+1:=C;have v:bs.length+(1+max a.deep b.deep)<=1000:=z;have A:=uz o (if s then i else j);have m:∀{n:on Sv} {y:Nat} {d:DV},n[4]? = some (.val (Pn.ask s o a b).D)->ixD (Pn.ask s o a b).D (.int (y:Int))=some d->evE G F (.ix (.var 4) (.int (y:Int))) n=some (.ok d .strong):=λ h e=>o7 (f6 h) i3 e;have s1:evS G F fu (.set 5 false (.ite (.cmp .Eq (.ix (.var 4) (.int 1)) (.str "row")) (.var 1) (.var 2))) (wS q i j bs (Pn.ask s o a b).D c d)=some (.nx (wS q i j bs (Pn.ask s o a b).D (JZ ((if s then i else j:Nat):Int)) d)):=
   n5 (vK (r6 (G5 (m (y:=1) rfl rfl) Q0 (IF s))) (by cases s<;>rfl)) rfl
  have s2:evS G F fu (.set 6 false (.bin .BitAnd (.bin .RShift (.ix (.var 4) (.int 2)) (.var 5)) (.int 1))) (wS q i j bs (Pn.ask s o a b).D (JZ ((if s then i else j:Nat):Int)) d)=some (.nx (wS q i j bs (Pn.ask s o a b).D (JZ ((if s then i else j:Nat):Int)) (JZ (if o.testBit (if s then i else j)then 1 else 0)))):=
   n5 (E4 (Ic (m (y:=2) rfl rfl) (f6 rfl) (C2 _)) i3 (congrArg (λ x=>some (Re.ok (.int x) .strong)) A)) rfl
  have r:∀(t:Bool) (p:Pn),o.testBit (if s then i else j)=t->(if t then b else a)=p->p.deep<N->bs.length+1+p.deep<=1000->∃g l k,G3 (λ f=>tstD (evE G F wC f)) (λ f=>evSs G F fu wB f) (N+1) (wS q i j bs (Pn.ask s o a b).D c d)=some (.nx (wS q i j g (Pn.fin (p.rch i j)).D l k)):=λ t p ht u H E=>by
   rw[ht]at s2;obtain⟨g,l,k,e⟩:=vO q i j p (bs++[.int (if t then 1 else 0)]) _ _ N H (by rw[t7];exact E);refine⟨g,l,k,fO (r6 (cl:=.strong) (G5 (m (y:=0) rfl rfl) Q0 ID)) (i4 s1 (i4 s2 (i4 (jL rfl (f6 rfl) rfl (M0 (show bs.length<=1000 by omega) JY)) (i4 (n5 (d:=p.D) (cl:=.strong) (vK (t:=t) (r6 (cl:=.strong) (by cases t<;>rfl)) ?_) rfl) rfl)))) e⟩;subst u;cases t
   ·exact m (y:=3) rfl rfl
   ·exact m (y:=4) rfl rfl
  show ∃g l k,_=some (Out.nx (wS q i j g (Pn.fin (if o.testBit (if s then i else j)then b.rch i j else a.rch i j)).D l k));cases ht:o.testBit (if s then i else j)with
  | true=>exact r true b ht rfl JX JX
  | false=>exact r false a ht rfl JX JX
def vP(p:Pn)(i j:Nat)(h:p.deep<fu)(hl:p.deep<=1000):run G T fu (k+2) 23 [p.D,.int (i:Int),.int (j:Int)]=some (.v (.int (p.rch i j)) false):=by
 obtain⟨a,c',d',e⟩:=vO p.D i j p [] .no .no fu h (by rw[Y1];omega);have w:run G T fu (k+1) 22 [p.D,.int (i:Int),.int (j:Int)]=some (.v (.tup [.lst a,.int (p.rch i j)]) false):=by rw[o8 rfl rfl];exact o9 (i4 (Z2 rfl) (i4 (n5 (f6 rfl) rfl) (pA e (vM rfl (n9 (p6 (F7 (f7 (f6 rfl) (f7 (o7 (cx:=.strong) (f6 rfl) i3 rfl) i8)) (show 2<=m9 by decide) rfl)))))))
 rw[o8 rfl rfl];exact o9 (n9 (p6 (cl:=.strong) (o7 (cx:=.strong) (i7 (fr:=false) (l:=[(p.D,.strong),(.int (i:Int),.strong),(.int (j:Int),.strong)]) rfl rfl w) i3 rfl)))
theorem mD{I:Nat->on Sv->Prop}:∀(n:Nat),(∀j<n,∀δ,I j δ->∃δ1 a,tg.bind (h j) δ=some δ1/\body δ1=some (.nx a)/\I (j+1) a)->∀{δ:on Sv},I 0 δ->∃δ',q0 tg body ((List.range n).map h) δ=some (.nx δ')/\I n δ'
 | 0,_,δ,c=>⟨δ,rfl,c⟩
 | n+1,d,δ,c=>by obtain⟨δ1,f,e⟩:=mD n (λ j hj=>d j JX) c;obtain⟨a,b,k,i,g⟩:=d n JX δ1 e;refine⟨b,?_,g⟩;rw[aM,A9,pD f];exact jN k i
theorem mE:∀(l:on DV) (k:Nat),enuD k l=(List.range l.length).map λ c=>.tup [.int ((k+c:Nat):Int),l.getD c .non]
 | [],_=>rfl
 | a::l,k=>by
  show .tup _::enuD (k+1) l=_;rw[mE l (k+1),p9,nL,o5,r3]
  congr 1
  refine K4 λ c _=>?_;show DV.tup _=DV.tup _;rw[show k+1+c=k+(c+1) by omega];rfl
def su(f:Nat->Int)(j:Nat):Int:=((List.range j).map f).sum
def gW(f:Nat->Int)(j:Nat):su f (j+1)=su f j+f j:=by
 unfold su;rw[aM,A9,eV];simp
def mF{i j:Nat}{k:Cl}(R:Rect n m wr)(h:evE G F a δ=some (.ok (rL wr) .strong))(g:Ka b l (.int (i:Int)))(f:Ka e k (.int (j:Int)))(c:i<n)(d:j<m):evE G F (.ix (.ix a b) e) δ=some (.ok (.int (mf wr i j)) .strong):=
 o7 (o7 h g (Hj (by rw[R.1];exact c))) f (He (by rw[R.2 _ (J9 (by rw[R.1];exact c))];exact d))
def vQ{i j:Nat}{k:Cl}(R:Rect n m wr)(h:evE G F a δ=some (.ok (tT wr) .strong))(g:Ka b l (.int (i:Int)))(f:Ka e k (.int (j:Int)))(c:i<n)(d:j<m):evE G F (.ix (.ix a b) e) δ=some (.ok (.int (mf wr i j)) .strong):=
 o7 (o7 h g (ap (by rw[R.1];exact c))) f (lV (by rw[R.2 _ (J9 (by rw[R.1];exact c))];exact d))
abbrev rS(rows wr:on (on Int))(p:Pn)(t:Int)(a b c d:Sv):on Sv:=[.val (tT rows),.val (rL wr),.val p.D,.val (.int t),a,b,c,d]
def rw2(n m:Nat)(rows wr:on (on Int))(p:Pn):Int:=sum2 n m λ i j=>if p.rch i j=mf rows i j then mf wr i j else 0
def mG(R:Rect n m rows)(W:Rect n m wr)(n8:n<=8)(m8:m<=8){p:Pn}(h:p.deep<fu)(B:p.deep<=1000):run G T fu (k+3) 24 [tT rows,rL wr,p.D]=some (.v (.int (rw2 n m rows wr p)) false):=by
 rw[o8 rfl rfl];have s:∀i,i<n->∀t x y,∃f,q0 (.many [6,7]) (λ f=>evSs G (run G T fu (k+2)) fu [.iff (.cmp .Eq (.call 23 [.var 2,.var 4,.var 6]) (.var 7)) [.aug 3 (.ix (.ix (.var 1) (.var 4)) (.var 6))] []] f) ((List.range m).map λ c=>.tup [.int ((0+c:Nat):Int),(iD (rows.getD i [])).getD c .non]) (rS rows wr p t (JZ (i:Int)) (.val (.tup (iD (rows.getD i [])))) x y)=some (.nx f)/\∃x y,f=rS rows wr p (t+su (λ j=>if p.rch i j=mf rows i j then mf wr i j else 0) m) (JZ (i:Int)) (.val (.tup (iD (rows.getD i [])))) x y:=λ i g t x y=>by
  have rl:=R.2 _ (J9 (by rw[R.1];exact g));refine mD (I:=λ j f=>∃x y,f=rS rows wr p (t+su (λ j=>if p.rch i j=mf rows i j then mf wr i j else 0) j) (JZ (i:Int)) (.val (.tup (iD (rows.getD i [])))) x y) m (λ j C v I=>?_) ⟨x,y,by rw[show su _ 0=0 from rfl,fj]⟩;obtain⟨x,y,rfl⟩:=I;have e:(iD (rows.getD i [])).getD j .non=.int (mf rows i j):=(by unfold iD mf;rw[r9,p5,r9 (l:=rows.getD i []),n6 JX];rfl);rw[e,aO,gW];have o:evE G (run G T fu (k+2)) (.cmp .Eq (.call 23 [.var 2,.var 4,.var 6]) (.var 7)) (rS rows wr p (t+su (λ j=>if p.rch i j=mf rows i j then mf wr i j else 0) j) (JZ (i:Int)) (.val (.tup (iD (rows.getD i [])))) (JZ (j:Int)) (JZ (mf rows i j)))=some (.ok (.bl (p.rch i j==mf rows i j)) .strong):=b_eq (i7 (fr:=false) (l:=[(p.D,.strong),(.int (i:Int),.strong),(.int (j:Int),.strong)]) rfl rfl (vP p i j h B)) (f6 rfl);refine⟨_,_,rfl,?_,.val (.int (j:Int)),.val (.int (mf rows i j)),rfl⟩;by_cases q:p.rch i j=mf rows i j
  ·rw[show(p.rch i j==mf rows i j)=true from g9.mpr q]at o;rw[f8 q,←iY];exact pq (r6 o) (i4 (vL rfl (mF W (f6 rfl) (f6 rfl) (f6 rfl) g C)) rfl) rfl
  ·rw[show(p.rch i j==mf rows i j)=false from A1.mpr q]at o;rw[g8 q,fj];exact D8 (r6 o) rfl
 have A:=mD (tg:=.many [4,5]) (body:=λ f=>evSs G (run G T fu (k+2)) fu [.fo (.many [6,7]) (.enu (.var 5)) [.iff (.cmp .Eq (.call 23 [.var 2,.var 4,.var 6]) (.var 7)) [.aug 3 (.ix (.ix (.var 1) (.var 4)) (.var 6))] []]] f) (h:=λ c=>.tup [.int ((0+c:Nat):Int),(rows.map λ r=>DV.tup (iD r)).getD c .non])
  (I:=λ i f=>∃a b x y,f=rS rows wr p (su (λ i=>su (λ j=>if p.rch i j=mf rows i j then mf wr i j else 0) m) i) a b x y) n (λ i g v I=>by
   obtain⟨a,b,x,y,rfl⟩:=I;have e:(rows.map λ r=>DV.tup (iD r)).getD i .non=.tup (iD (rows.getD i [])):=by rw[r9,p5,r9,n6 (by rw[R.1];exact g)];rfl
   rw[e,aO];obtain⟨f,u,z,w,rfl⟩:=s i g _ x y;refine⟨_,_,rfl,B6 (cl:=.strong) ?_ (.inl rfl) u rfl,_,_,z,w,by rw[gW]⟩;show some (Ri.ok (enuD 0 (iD (rows.getD i []))) .strong)=_;rw[mE,show(iD (rows.getD i [])).length=m by unfold iD;rw[g7];exact R.2 _ (J9 (by rw[R.1];exact g))]) ⟨.no,.no,.no,.no,rfl⟩
 obtain⟨f,u,a,b,x,y,rfl⟩:=A;exact o9 (i4 (n5 (d:=.int 0) (cl:=.strong) rfl rfl) (B6 ((by show some (Ri.ok (enuD 0 (rows.map λ r=>.tup (iD r))) .strong)=_;rw[mE,g7,R.1])) (.inl rfl) u (n9 (p6 (cl:=.strong) (f6 rfl)))))
end k63
end
noncomputable section
namespace k63
open PySem L2
abbrev dv(p:Pn):DV:=p.D
abbrev vl(p:Pn):Nat->Nat->Int:=p.rch
abbrev ht(p:Pn):Nat:=p.deep
abbrev side:Bool->DV:=sd
def IG(a:0<r)(hl:r<l):2*(l%r)<l:=by
 have h1:=cE l a;have h2:=Nat.div_add_mod l r;have h4:r<=r*(l/r):=Nat.le_mul_of_pos_right r (Nat.div_pos JX a);omega
def IH{i j:Nat}(d:Ka a cx (.int (i:Int)))(c:Ka b cy (.int (j:Int)))(h:0<j):evE G F (.bin .Mod a b) δ=some (.ok (.int ((i%j:Nat):Int)) .strong):=by
 rw[show((i%j:Nat):Int)=(i:Int)%(j:Int)from rfl];exact D1 d c JX
def vR{i j:Nat}(d:Ka a cx (.int (i:Int)))(c:Ka b cy (.int (j:Int)))(h:0<j)(h2:j<2^200):evE G F (.bin .FloorDiv a b) δ=some (.ok (.int ((i/j:Nat):Int)) .strong):=by
 refine E4 d c ?_;show(if(0:Int)<_/\_<2^200 then some (Re.ok _ .strong)else none)=_;rw[f8 ⟨by omega,by omega⟩];rfl
def gdC:ME:=.cmp .NotEq (.var 3) (.int 0)
noncomputable def gdB:on MS:=[.set 4 false (.bin .Mod (.var 2) (.var 3)),.set 2 false (.var 3),.set 3 false (.var 4)]
def gd_f{F:Nat->on DV->JF Ou}{x y:Sv}{g:Nat}{c:Sv}:tstD (evE G F gdC [x,y,.val (.int (g:Int)),.val (.int ((0:Nat):Int)),c])=some (.ok false):=r6 (cl:=.strong) (G5 (f6 rfl) i3 rfl)
def gd_t{F:Nat->on DV->JF Ou}{x y:Sv}{g l:Nat}{c:Sv}(h:0<l):tstD (evE G F gdC [x,y,.val (.int (g:Int)),.val (.int (l:Int)),c])=some (.ok true):=by
 have q:evE G F gdC [x,y,.val (.int (g:Int)),.val (.int (l:Int)),c]=some (.ok (.bl (!((l:Int)==0))) .strong):=G5 (f6 rfl) i3 rfl;rw[show((l:Int)==0)=false by rw[A1];omega]at q;exact r6 q
def gd_s{fu:Nat}{F:Nat->on DV->JF Ou}{x y:Sv}{g l:Nat}{c:Sv}(h:0<l):evSs G F fu gdB [x,y,.val (.int (g:Int)),.val (.int (l:Int)),c]=some (.nx [x,y,.val (.int (l:Int)),.val (.int ((g%l:Nat):Int)),.val (.int ((g%l:Nat):Int))]):=
 i4 (n5 (IH (f6 rfl) (f6 rfl) h) rfl) (i4 (n5 (cl:=.strong) (f6 rfl) rfl) (i4 (n5 (cl:=.strong) (f6 rfl) rfl) rfl))
theorem vS{fu:Nat}{F:Nat->on DV->JF Ou}(x y:Sv):∀(m g l N:Nat) (c:Sv),l<2^m->2*m+1<=N->∃c',G3 (λ δ'=>tstD (evE G F gdC δ')) (λ δ'=>evSs G F fu gdB δ') N [x,y,.val (.int (g:Int)),.val (.int (l:Int)),c]=some (.nx [x,y,.val (.int ((Nat.gcd g l:Nat):Int)),.val (.int ((0:Nat):Int)),c'])
 | m,g,0,N+1,c,_,_=>⟨c,by rw[Nat.gcd_zero_right];exact jM gd_f⟩
 | 0,g,l+1,_,_,h,_=>by simp at h
 | m+1,g,l+1,N+2,c,h,hN=>by
  rw[Nat.gcd_comm,Nat.gcd_rec];by_cases hr:g%(l+1)=0
  ·rw[hr,Nat.gcd_zero_left];have st:=gd_s (F:=F) (fu:=fu) (x:=x) (y:=y) (g:=g) (l:=l+1) (c:=c) JX;rw[hr]at st;exact⟨_,fO (gd_t JX) st (jM gd_f)⟩
  ·have hr0:0<g%(l+1):=by omega
   have hlt:g%(l+1)<l+1:=cE g JX;have hh:=IG hr0 hlt;have hb:(l+1)%(g%(l+1))<2^m:=by rw[ji]at h;omega
   obtain⟨c',e⟩:=vS x y m (g%(l+1)) ((l+1)%(g%(l+1))) N (JZ (((l+1)%(g%(l+1)):Nat):Int)) hb JX;rw[Nat.gcd_comm,←Nat.gcd_rec]at e;exact⟨c',fO (gd_t JX) (gd_s JX) (fO (gd_t hr0) (gd_s hr0) e)⟩
def vT(a b:Nat)(c:b<2^190)(hf:400<=fu):run G T fu (k+1) 2 [.int (a:Int),.int (b:Int)]=some (.v (.int ((Nat.gcd a b:Nat):Int)) false):=by
 obtain⟨c',e⟩:=vS _ _ 190 a b fu .no c JX;rw[o8 rfl rfl];unfold sW;exact o9 (i4 (n5 (f6 rfl) rfl) (i4 (n5 (f6 rfl) rfl) (pA e (n9 (p6 (f6 rfl))))))
def vU{i:Nat}(h:Ka e c (.int (i:Int))):evE G F (.bi .abs [e]) δ=some (.ok (.int (i:Int)) .strong):=by
 show Rs.thn _ _=_;rw[f7 h i8];show some _=_;rw[g8 JX]
def II(t b:Nat)(ht:t<2^190)(e:b<2^190)(h:0<b)(c:400<=fu):run G T fu (k+2) 1 [.lst [.int (t:Int),.int (b:Int)]]=some (.v (.lst [.int ((t/Nat.gcd t b:Nat):Int),.int ((b/Nat.gcd t b:Nat):Int)]) true):=by
 rw[o8 rfl rfl];unfold sV;have i:0<Nat.gcd t b:=ic t h;have g:=vT (fu:=fu) (k:=k) 0 t ht c;have l:=vT (fu:=fu) (k:=k) t b e c;rw[Nat.gcd_zero_left]at g
 let L:DV:=.lst [.int (t:Int),.int (b:Int)]
 have s1:q0 (.one 2) (λ a=>evSs G (run G T fu (k+1)) fu [.set 1 false (.call 2 [.var 1,.bi .abs [.var 2]])] a) [.int (t:Int),.int (b:Int)] [.val L,.val (.int ((0:Nat):Int)),.no]=some (.nx [.val L,.val (.int ((Nat.gcd t b:Nat):Int)),.val (.int (b:Int))]):=by
  unfold q0;have n:evSs G (run G T fu (k+1)) fu [.set 1 false (.call 2 [.var 1,.bi .abs [.var 2]])] [.val L,.val (.int ((0:Nat):Int)),.val (.int (t:Int))]=some (.nx [.val L,.val (.int (t:Int)),.val (.int (t:Int))]):=
   i4 (n5 (i7 (fr:=false) (f7 (f6 rfl) (f7 (vU (f6 rfl)) i8)) rfl g) rfl) rfl
  have m:evSs G (run G T fu (k+1)) fu [.set 1 false (.call 2 [.var 1,.bi .abs [.var 2]])] [.val L,.val (.int (t:Int)),.val (.int (b:Int))]=some (.nx [.val L,.val (.int ((Nat.gcd t b:Nat):Int)),.val (.int (b:Int))]):=
   i4 (n5 (i7 (fr:=false) (f7 (f6 rfl) (f7 (vU (f6 rfl)) i8)) rfl l) rfl) rfl
  show(match evSs G (run G T fu (k+1)) fu _ [.val L,.val (.int ((0:Nat):Int)),.val (.int (t:Int))]with | some (.nx δ2)=>q0 (.one 2) _ [.int (b:Int)] δ2 | o=>o)=_;rw[n];exact jN rfl m
 have j:=pB (G:=G) (F:=run G T fu (k+1)) (δ:=[.val L,.val (.int ((Nat.gcd t b:Nat):Int)),.val (.int (b:Int))]) (elt:=.bin .FloorDiv (.var 0) (.var 1)) (tg:=.one 0) (it:=.var 0) (fr:=[none,some 1]) (f:=λ d=>match d with | .int x=>.int (x/(Nat.gcd t b:Nat)) | d=>d) (cl:=.strong) rfl JY (show 2<=m9 by decide) (λ d hd=>by
  have:∃x:Nat,d=.int (x:Int):=by
   rcases i5.mp hd with q | q
   ·exact⟨t,q⟩
   ·exact⟨b,u7.mp q⟩
  obtain⟨x,rfl⟩:=this;exact⟨[.val (.int (x:Int)),.val _],rfl,vR (f6 rfl) (f6 rfl) i (M0 (Nat.gcd_le_right t h) (P2 e JY))⟩)
 exact o9 (i4 (n5 (d:=.int ((0:Nat):Int)) (cl:=.strong) rfl rfl) (B6 (cl:=.strong) rfl (.inl rfl) s1 (n9 (p6 j))))
abbrev Mz:=on (Nat×Pn)
def pr(p:Nat×Pn):DV:=.tup [.int (p.1:Int),dv p.2]
def mxD(M:Mz):DV:=.lst (M.map pr)
def tot(M:Mz):Nat:=(M.map (·.1)).sum
noncomputable def rgt(f:Nat->Nat->Int)(M:Mz)(i j:Nat):Mz:=M.filter λ p=>vl p.2 i j==f i j
theorem ax(p:Nat×Pn->Bool):∀M:Mz,tot (M.filter p)<=tot M
 | []=>i6 _
 | a::M=>by
  have q:=ax p M;unfold tot at q ⊢;rw[M1];split
  ·rw[o5,o5,A6,A6];omega
  ·rw[o5,A6];omega
theorem vV:∀l:on Nat,ints? (l.map λ (x:Nat)=>DV.int (x:Int))=some (l.map λ (x:Nat)=>(x:Int))
 | []=>rfl
 | a::l=>by show(ints? _).map _=_;rw[(vV l)];rfl
theorem mH:∀l:on Nat,(l.map λ (x:Nat)=>(x:Int)).sum=((l.sum:Nat):Int)
 | []=>rfl
 | a::l=>by rw[o5,A6,A6,mH l];rfl
def vW{l:on Nat}(h:evE G F e δ=some (.ok (.lst (l.map λ (x:Nat)=>DV.int (x:Int))) c)):evE G F (.bi .sum [e]) δ=some (.ok (.int ((l.sum:Nat):Int)) .strong):=by
 show Rs.thn _ _=_;rw[f7 h i8];show(ints? _).map _=_;rw[vV,K7,mH]
theorem vX{c:Type}{h f:c->DV}:∀{l:on c},(∀a∈l,g (h a)=some (.item (f a)))->u0 g (l.map h)=some (l.map f)
 | [],_=>rfl
 | a::l,q=>by rw[o5];unfold u0;rw[q a (k8 ..)];dsimp only;rw[vX λ b d=>q b (k5 _ d)];rfl
theorem vY{c:Type}{h f:c->DV}{p:c->Bool}:∀{l:on c},(∀a∈l,g (h a)=some (if p a then .item (f a)else .skip))->u0 g (l.map h)=some ((l.filter p).map f)
 | [],_=>rfl
 | a::l,q=>by
  rw[o5,M1];unfold u0;rw[q a (k8 ..)];have r:=vY λ b d=>q b (k5 _ d)
  cases p a with
  | true=>rw[f8 rfl,f8 rfl];dsimp only;rw[r];rfl
  | false=>rw[g8 z7,g8 z7];exact r
def ay{d:Type}{l:on d}{h f:d->DV}(hw:q9 (evE G F it δ)=some (.ok (l.map h) cl))(i:cl ≠ .weak)(g:l.length<=1000)
  (q:∀a∈l,∃δ' c,tg.bind (h a) (x4 fr δ)=some δ'/\evE G F elt δ'=some (.ok (f a) c)/\stro (f a) c=true):evE G F (.comp elt tg it fr) δ=some (.ok (.lst (l.map f)) .fresh):=by
 have e:l.length<=m9:=i9 g JY;show Ri.thn _ _=_;rw[hw,aY,g8 (by rintro(z | z);exact i z;rw[g7]at z;omega),vX (λ a j=>?_)]
 ·rfl
 ·obtain⟨δ',c,n,m,k⟩:=q a j;rw[n,K6,m];show(if stro (f a) c then some (Rc.item (f a))else none)=_;rw[f8 k]
def vZ{d:Type}{l:on d}{h f:d->DV}{p:d->Bool}{cd:ME}(hw:q9 (evE G F it δ)=some (.ok (l.map h) cl))(i:cl ≠ .weak)(g:l.length<=1000)
  (q:∀a∈l,∃δ' c,tg.bind (h a) (x4 fr δ)=some δ'/\tstD (evE G F cd δ')=some (.ok (p a))/\evE G F elt δ'=some (.ok (f a) c)/\stro (f a) c=true):evE G F (.compi elt tg it cd fr) δ=some (.ok (.lst ((l.filter p).map f)) .fresh):=by
 have e:l.length<=m9:=i9 g JY;show Ri.thn _ _=_;rw[hw,aY,g8 (by rintro(z | z);exact i z;rw[g7]at z;omega),vY (λ a j=>?_)]
 ·rfl
 ·obtain⟨δ',c,o,n,m,k⟩:=q a j;rw[o,K6,n,m];cases p a with
  | false=>rfl
  | true=>
   show(if stro (f a) c then some (Rc.item (f a))else none)=_;rw[f8 k];rfl
def wb(c:M.length<=1000)(h:q9 (evE G F it δ)=some (.ok (M.map pr) cl))(b:cl ≠ .weak):evE G F (.bi .sum [.comp (.var 0) (.many [0,1]) it [none,none]]) δ=some (.ok (.int ((tot M:Nat):Int)) .strong):=by
 have a:=ay (elt:=.var 0) (tg:=.many [0,1]) (fr:=[none,none]) h b c λ p hp=>⟨[.val _,.val _],.strong,rfl,f6 rfl,rfl⟩;rw[show(M.map λ p=>DV.int _)=(M.map (·.1)).map λ _=>DV.int _ by rw[r3];rfl]at a;exact vW a
noncomputable def low(t b:Nat):DV:=.tup [.int ((t/Nat.gcd t b:Nat):Int),.int ((b/Nat.gcd t b:Nat):Int)]
def wc(d:M.length<=1000)(t:Nat)(ht:t<2^190)(b:tot M<2^190)(e:0<tot M)(a:400<=fu):run G T fu (k+3) 33 [mxD M,.int (t:Int)]=some (.v (low t (tot M)) false):=by
 rw[o8 rfl rfl];unfold tK;have c:=II (k:=k) t _ ht b e a;exact o9 (n9 (p6 (ao (i7 (f7 (lX (f7 (f6 rfl) (f7 (wb d rfl JY) i8)) (show 2<=m9 by decide) rfl) i8) rfl c))))
end k63
end
noncomputable section
namespace k63
open PySem L2
variable {fu k:Nat} {F:Nat->on DV->JF Ou} {δ:on Sv} {ds:on DV} {cl:Cl} {n m:Nat} {rows:on (on Int)}
def IJ(R:Rect n m rows)(e:i<n)(d:j<m)(f:M.length<=1000)(b:∀p∈M,F g [dv p.2,.int (i:Int),.int (j:Int)]=some (.v (.int (vl p.2 i j)) false)) :
  evE G F (.bi .sum [.compi (.var 0) (.many [0,1]) (.var 1) (.cmp .Eq (.call g [.var 1,.var 2,.var 3]) (.ix (.ix (.var 4) (.var 2)) (.var 3))) [none,none,some 2,some 3,some 0]]) (p7 4 [tT rows,mxD M,.int (i:Int),.int (j:Int)])=some (.ok (.int ((tot (rgt (mf rows) M i j):Nat):Int)) .strong):=by
 have a:=vZ (δ:=p7 4 [tT rows,mxD M,.int (i:Int),.int (j:Int)]) (elt:=.var 0) (tg:=.many [0,1]) (it:=.var 1) (cd:=.cmp .Eq (.call g [.var 1,.var 2,.var 3]) (.ix (.ix (.var 4) (.var 2)) (.var 3))) (fr:=[none,none,some 2,some 3,some 0]) rfl JY f λ p c=>
  ⟨[.val _,.val _,.val _,.val _,.val _],.strong,rfl,r6 (b_eq (i7 (fr:=false) (l:=[(dv p.2,.strong),(.int (i:Int),.strong),(.int (j:Int),.strong)]) rfl rfl (b p c)) (vQ R (f6 rfl) (f6 rfl) (f6 rfl) e d)),f6 rfl,rfl⟩
 rw[show((M.filter λ p=>vl p.2 i j==mf rows i j).map λ p=>DV.int (p.1:Int))=((rgt (mf rows) M i j).map (·.1)).map λ _=>DV.int _ by rw[r3];rfl]at a;exact vW a
def Low(fu:Nat)(M:Mz):Prop:=∀p∈M,ht p.2<=100
def we(R:Rect n m rows)(d:i<n)(c:j<m)(e:M.length<=1000)(b:Low fu M)(hf:400<=fu):run G T fu (k+3) 32 [tT rows,mxD M,.int (i:Int),.int (j:Int)]=some (.v (.int ((tot (rgt (mf rows) M i j):Nat):Int)) false):=by
 rw[o8 rfl rfl];unfold tJ;exact o9 (n9 (p6 (IJ R d c e λ p a=>vP p.2 i j (by have:p.2.deep<=100:=b p a;omega) (by have:p.2.deep<=100:=b p a;omega))))
def wf{s:Nat}(h:i<s):run G T fu (k+2) 6 [.int (i:Int),.int (s:Int)]=some (.v .non false):=by
 rw[o8 rfl rfl];have q:=me (fu:=fu) (k:=k) (x:=(i:Int)) (a:=0) (b:=(s:Int) - 1);rw[B1 JX,B1 JX]at q;exact jK (D8 (r6 (fM (i7 (f7 (f6 rfl) (f7 i3 (f7 (L5 (f6 rfl) i3) i8))) rfl q))) rfl)
structure Mix(fu:Nat)(M:Mz):Prop where
 len:M.length<=30
 low:Low fu M
 pos:0<tot M
 top:tot M<2^190
def IK(R:Rect n m rows)(c:i<n)(b:j<m)(a:Mix fu M)(d:400<=fu):run G T fu (k+4) 30 [tT rows,mxD M,.int (i:Int),.int (j:Int)]=some (.v (low (tot (rgt (mf rows) M i j)) (tot M)) false):=by
 have e:M.length<=1000:=by have:=a.len;omega
 rw[o8 rfl rfl];unfold tH;have f:=wc (k:=k) e (tot (rgt (mf rows) M i j)) (M0 (ax _ M) a.top) a.top a.pos d;exact o9 (i4 (cP (i7 (fr:=false) (f7 (f6 rfl) (f7 (lenT R (f6 rfl)) i8)) rfl (wf (k:=k+1) c))) (i4 (cP (i7 (f7 (f6 rfl) (f7 (W4 R JX (f6 rfl)) i8)) rfl (wf b)))
  (n9 (p6 (cl:=.strong) (i7 (fr:=false) (f7 (f6 rfl) (f7 (i7 (fr:=false) (l:=[(tT rows,.strong),(mxD M,.strong),(.int (i:Int),.strong),(.int (j:Int),.strong)]) rfl rfl (we R c b e a.low d)) i8)) rfl f)))))
abbrev Tr:=Int×Int×Int
noncomputable def trow(f:Nat->Nat->Nat)(m i:Nat):on Tr:=(List.range m).map λ (j:Nat)=>((f i j:Int),(i:Int),(j:Int))
def tall(f:Nat->Nat->Nat)(m n:Nat):on Tr:=(List.range n).flatMap (trow f m)
def wg(f:Nat->Nat->Nat)(m n:Nat):tall f m (n+1)=tall f m n++trow f m n:=by
 unfold tall;rw[aM,iu]
 congr 1
 rw[List.flatMap_cons,List.flatMap_nil,C8]
theorem mI(f:Nat->Nat->Nat)(m:Nat):∀n,(tall f m n).length=n*m
 | 0=>by rw[Nat.zero_mul];rfl
 | n+1=>by rw[wg,t7,mI f m n,U2,Y7];congr 1;unfold trow;rw[g7,u8]
def IL(h:p∈tall f m n):∃i j,i<n/\j<m/\p=((f i j:Int),(i:Int),(j:Int)):=by
 obtain⟨i,b,c⟩:=eP.mp h;obtain⟨j,a,rfl⟩:=k9.mp c;exact⟨i,j,o4.mp b,o4.mp a,rfl⟩
theorem wj:∀l:on Tr,trips? (l.map trD)=some l
 | []=>rfl
 | p::l=>by show(trips? _).map _=_;rw[(wj l)];rfl
theorem wk:∀(l:on Tr) (p:Tr),E9 p l∈p::l
 | [],p=>u7.mpr rfl
 | q::l,p=>by
  unfold E9;have h:=wk l (if ltT q p then q else p);rcases i5.mp h with h | h
  ·split at h
   ·rename_i z;rw[f8 z,h];exact k5 _ (k8 ..)
   ·rename_i z;rw[g8 z,h];exact k8 ..
  ·exact k5 _ (k5 _ h)
def lst3(l:on Tr):Tr:=match l with | []=>(0,0,0) | p::r=>E9 p r
def IM(a:l≠[])(h:evE G F e δ=some (.ok (.lst (l.map trD)) c)):evE G F (.bi .min [e]) δ=some (.ok (trD (lst3 l)) c.item):=by
 rw[gE (f7 h i8)];cases l with
 | nil=>exact absurd rfl a
 | cons p r=>
  show(match trips? ((p::r).map trD)with | some (n::r)=>some _ | _=>none)=_;rw[wj];rfl
def IN{i:Nat}(hm:m<=8)(k:x4 fr δ=[.no,.val b,.val c,.val (.int (i:Int))])(e:evE G F (.bi .len [.ix (.var a) (.int 0)]) δ=some (.ok (.int (m:Int)) .strong))
  (d:∀j<m,F g [b,c,.int (i:Int),.int (j:Int)]=some (.v (.int ((f i j:Nat):Int)) false)) :
  evE G F (.comp (.tup [.call g [.var 1,.var 2,.var 3,.var 0],.var 3,.var 0]) (.one 0) (.rng [.bi .len [.ix (.var a) (.int 0)]]) fr) δ=some (.ok (.lst ((trow f m i).map trD)) .fresh):=by
 have q:=ay (elt:=.tup [.call g [.var 1,.var 2,.var 3,.var 0],.var 3,.var 0]) (tg:=.one 0) (Q3 e JX) JY (by rw[u8];omega) λ j h=>by rw[k,show(0:Int)+_=(j:Int) by omega];exact⟨[.val _,.val b,.val c,.val _],.strong,rfl,F7 (f7 (i7 (f7 (f6 rfl) (f7 (f6 rfl) (f7 (f6 rfl) (f7 (f6 rfl) i8)))) rfl (d j (o4.mp h))) (f7 (f6 rfl) (f7 (f6 rfl) i8))) (show 3<=m9 by decide) rfl,rfl⟩
 unfold trow;rw[r3];exact q
def rf(rows:on (on Int))(M:Mz)(i j:Nat):Nat:=tot (rgt (mf rows) M i j)
def IP(a:Mix fu M)(i j:Nat):rf rows M i j<2^190:=M0 (ax _ M) a.top
def IQ(c:δ[i]? = some (.own (.lst ds)))(h:evE G F e δ=some (.ok (.lst a) .fresh))(b:ds.length+a.length<=1000):evS G F fu (.ext i e) δ=some (.nx (δ.set i (.own (.lst (ds++a))))):=by
 show(match δ[i]? with | some (.own (.lst ds))=>Re.thnS δ _ _ | _=>none)=_;rw[c];show Re.thnS δ _ _=_;rw[h];show(if Cl.fresh=.strong\/Cl.fresh=.fresh then(if ds.length+a.length<=m9 then some (Out.nx _)else none)else none)=_;rw[f8 (.inr rfl),f8 (i9 b JY)]
def IR(a:m<=8)(hn:n<=8)(hj:j<n):((tall f m j).map trD).length+((trow f m j).map trD).length<=1000:=by
 rw[g7,g7,mI];have:j*m<=8*8:=Y3 JX a;unfold trow;rw[g7,u8];omega
def wm(a:0<n)(b:0<m):tall f m n≠[]:=by
 intro h;have:=mI f m n;rw[h]at this;have:=Nat.mul_pos a b;simp at *;omega
def IS(h:l≠[]):lst3 l∈l:=by
 cases l with
 | nil=>exact absurd rfl h
 | cons p r=>exact wk r p
def wq(a:x≠[])(b:x.length+y.length<=1000):binD .Add (.tup x) (.tup y) .strong .strong=some (.ok (.tup (x++y)) .strong):=by
 show(if x.length+y.length<=m9/\x≠[]then some (Re.ok _ .strong)else none)=_;exact f8 ⟨i9 b JY,a⟩
noncomputable def wrst(t b i j:Nat):DV:=.tup [.int ((t/Nat.gcd t b:Nat):Int),.int ((b/Nat.gcd t b:Nat):Int),.int (i:Int),.int (j:Int)]
def IT(R:Rect n m rows)(o:0<n)(u:0<m)(l:n<=8)(d:m<=8)(g:Mix fu M)(v:400<=fu):∃i j,i<n/\j<m/\lst3 (tall (rf rows M) m n)=((rf rows M i j:Int),(i:Int),(j:Int))/\run G T fu (k+4) 31 [tT rows,mxD M]=some (.v (wrst (rf rows M i j) (tot M) i j) false):=by
 obtain⟨i,j,y,h,e⟩:=IL (IS (wm (f:=rf rows M) o u));refine⟨i,j,y,h,e,?_⟩;have b:M.length<=1000:=by have:=g.len;omega
 rw[o8 rfl rfl];unfold tI;have x:=M8 (i:=3) (I:=λ j r=>∃z:Sv,r=[.val (tT rows),.val (mxD M),.own (.lst ((tall (rf rows M) m j).map trD)),z,.no])
  (body:=λ c=>evSs G (run G T fu (k+3)) fu [.ext 2 (.comp (.tup [.call 32 [.var 1,.var 2,.var 3,.var 0],.var 3,.var 0]) (.one 0) (.rng [.bi .len [.ix (.var 0) (.int 0)]]) [none,some 0,some 1,some 3])] c) n 0
  (λ j h r I=>by
   obtain⟨z,rfl⟩:=I;rw[show(0:Int)+(j:Int)=j by omega];refine⟨_,i4 (IQ rfl (IN (m:=m) (i:=j) (a:=0) (f:=rf rows M) d rfl (W4 R o (f6 rfl)) (λ j' p=>we (k:=k) R h p b g.low v)) (IR d l h)) rfl,.val (.int (j:Int)),?_⟩;rw[wg,A9];rfl) ⟨.no,rfl⟩
 refine o9 (i4 (Z2 rfl) (Ac (Q3 (n:=n) (lenT R (f6 rfl)) JX) (.inr rfl) x λ c q=>?_));obtain⟨z,rfl⟩:=q;have s:=IM (F:=run G T fu (k+3)) (wm (f:=rf rows M) o u) (cQ (G:=G) (n:=2) (δ:=[.val (tT rows),.val (mxD M),.own (.lst ((tall (rf rows M) m n).map trD)),z,.no]) rfl);rw[e]at s;have w:=wc (k:=k) b (rf rows M i j) (IP g i j) g.top g.pos v;exact i4 (n5 (cl:=.strong) s rfl) (n9 (p6 (E4 (i7 rfl rfl w) rfl (wq (by intro z;cases z) (show 4<=1000 by decide)))))
def IU(x:Int):∃a:Int,0<a/\a<=10/\ixD (.lst [.int 2,.int 3,.int 10,.int 2]) (.int (x%4))=some (.int a):=by
 have:x%4=0\/x%4=1\/x%4=2\/x%4=3:=by omega
 rcases this with h | h | h | h<;>rw[h]
 ·exact⟨2,by decide,by decide,rfl⟩
 ·exact⟨3,by decide,by decide,rfl⟩
 ·exact⟨10,by decide,by decide,rfl⟩
 ·exact⟨2,by decide,by decide,rfl⟩
abbrev Scw(ns xs:on Int)(n m:Nat)(tp:Int)(x y:Sv):on Sv:=[.val (.scr ns),.val (.int 3),.val (.int 4),.val (.lst (xs.map DV.int)),.val (.int n),.val (.int m),.val (.int tp),x,y]
def IV(ns:on Int)(hns:ns.length<=63):∃(n m:Nat) (rows:on (on Int)),0<n/\n<=4/\0<m/\m<=4/\Rect n m rows/\W9 rows/\run G T fu (k+2) 38 [.scr ns,.int 3,.int 4]=some (.v (tT rows) false):=by
 obtain⟨S,c0⟩:=gD (fu:=fu) (k:=k) ns 0;obtain⟨v1,c1⟩:=gD (fu:=fu) (k:=k) ns 1;obtain⟨s,w,Q⟩:=bF (fu:=fu) (k:=k) S 8 JY;obtain⟨a0,h0⟩:=dR (xs:=s) (i:=0) JX (by rw[w];omega);obtain⟨a1,h1⟩:=dR (xs:=s) (i:=1) JX (by rw[w];omega);obtain⟨a3,N⟩:=dR (xs:=s) (i:=3) JX (by rw[w];omega);obtain⟨p,C,Z,L⟩:=IU a3;have X:∀y:Int,0<=y%p/\y%p<=9:=λ y=>⟨iT y JX,by have:=iz y C;omega⟩
 obtain⟨n,hn⟩:∃n:Nat,1+a0%4=(n:Int):=⟨(1+a0%4).toNat,by omega⟩;obtain⟨m,hm⟩:∃m:Nat,1+a1%4=(m:Int):=⟨(1+a1%4).toNat,by omega⟩;have W:n<=4:=by omega
 have Y:m<=4:=by omega
 have nm:n*m<=64:=i9 (Y3 W Y) JY;obtain⟨A,J,P⟩:=bF (fu:=fu) (k:=k) v1 (n*m) JX;have H:E8 (n:Int) (m:Int)=true:=by unfold E8;simp;omega
 have cm:=pB (G:=G) (F:=run G T fu (k+1)) (δ:=(Scw ns s n m p .no .no)) (elt:=.bin .Mod (.var 0) (.var 1)) (tg:=.one 0) (fr:=[none,some 6]) (f:=λ d=>match d with | .int x=>.int (x%p) | d=>d) (ds:=A.map DV.int) (cl:=.fresh)
  (by
   have q:=i7 (G:=G) (F:=run G T fu (k+1)) (δ:=(Scw ns s n m p .no .no)) (f:=37) (f7 (i7 (f:=36) (f7 (f6 (n:=0) (d:=.scr ns) rfl) (f7 (i3 (i:=1)) i8)) rfl c1) (f7 (F1 (f6 (n:=4) (d:=.int n) rfl) (f6 (n:=5) (d:=.int m) rfl) H) i8)) rfl (by rw[show((n:Int)*(m:Int))=((n*m:Nat):Int) by push_cast;rfl];exact P);rw[q];rfl) JY (by rw[g7,J];exact i9 nm JY) (λ d hd=>by
   obtain⟨x,w,rfl⟩:=k9.mp hd;exact⟨[.val (.int x),.val (.int p)],rfl,D1 (f6 rfl) (f6 rfl) C⟩)
 rw[r3,show((λ d=>match d with | DV.int x=>DV.int (x%p) | d=>d) ∘ DV.int)=DV.int ∘ (λ x:Int=>x%p)from rfl,←r3]at cm;obtain⟨b,hb,hb1,hb2⟩:∃b:Int,(if(ns.length:Int) - 3<(n:Int)*m then(ns.length:Int) - 3 else(n:Int)*m)=b/\b<=((n*m:Nat):Int)/\b<=(ns.length:Int) - 3:=by refine⟨_,rfl,?_,?_⟩<;>split<;>push_cast<;>omega
 have R : -1000<=b:=(by rw[←hb];have:(0:Int)<=(n:Int)*m:=Int.mul_nonneg (C2 n) (C2 m);split<;>omega);obtain⟨δ1,l1,u,z,⟨K,B⟩,rfl⟩:=M8 (i:=8) (I:=λ _ v=>∃(u:on Int) (z:Sv),(u.length=n*m/\∀x∈u,0<=x/\x<=9)/\v=(Scw ns s n m p (.own (.lst (u.map DV.int))) z))
  (body:=λ O=>evSs G (run G T fu (k+1)) fu [.seti 7 (.var 8) (.bin .Mod (.ix (.var 0) (.bin .Add (.var 1) (.var 8))) (.var 6))] O) b.toNat 0
  (λ j hj v I=>by
   obtain⟨u,z,⟨K,B⟩,rfl⟩:=I;rw[show(0:Int)+(j:Int)=j by omega];have N:3+j<ns.length:=by omega
   have hv:ixD (.scr ns) (.int (3+(j:Int)))=some (.int ns[3+j]):=(by rw[show(3:Int)+(j:Int)=((3+j:Nat):Int) by push_cast;rfl];show((C9 ns.length ((3+j:Nat):Int)).bind λ j=>ns[j]?).map DV.int=_;rw[lW N,K6,n6 N];rfl);refine⟨_,i4 (pz (d:=.int (ns[3+j]%p)) (cl:=.strong) (n:=j) (cx:=.strong) (j:=j) rfl (D1 (o7 (f6 rfl) (D0 (f6 rfl) (f6 rfl)) hv) (f6 rfl) C) (f6 rfl) rfl (lW (by rw[g7,K];omega))) rfl,u.set j (ns[3+j]%p),.val (.int j),⟨by rw[C4];exact K,λ x w=>by
    rcases List.mem_or_eq_of_mem_set w with q | q
    ·exact B x q
    ·rw[q];exact X _⟩,?_⟩
   rw[List.map_set];rfl) ⟨A.map λ x=>x%p,.no,⟨by rw[g7];exact J,λ x w=>by
    obtain⟨y,_,rfl⟩:=k9.mp w;exact X y⟩,rfl⟩
 have em:evE G (run G T fu (k+1)) (.bi .min [.bin .Mult (.var 4) (.var 5),.bin .Sub (.bi .len [.var 0]) (.var 1)]) (Scw ns s n m p (.own (.lst ((A.map λ x=>x%p).map DV.int))) .no)=some (.ok (.int b) .strong):=(by have e1:evE G (run G T fu (k+1)) (.bi .len [.var 0]) (Scw ns s n m p (.own (.lst ((A.map λ x=>x%p).map DV.int))) .no)=some (.ok (.int ns.length) .strong):=rfl;rw[gE (f7 (F1 (f6 (n:=4) (d:=.int n) rfl) (f6 (n:=5) (d:=.int m) rfl) H) (f7 (L5 e1 (f6 (n:=1) (d:=.int 3) rfl)) i8)),←hb];rfl);have U:=ay (F:=run G T fu (k+1)) (δ:=(Scw ns s n m p (.own (.lst (u.map DV.int))) z)) (elt:=.bi .tuple [.sl (.var 1) (.bin .Mult (.var 0) (.var 2)) (.bin .Add (.bin .Mult (.var 0) (.var 2)) (.var 2))]) (tg:=.one 0) (it:=.rng [.var 4]) (fr:=[none,some 7,some 5]) (l:=List.range n) (h:=λ (j:Nat)=>DV.int (0+(j:Int))) (f:=λ j=>.tup (iD ((u.drop (j*m)).take m))) (cl:=.fresh)
  (Q3 (f6 rfl) JX) JY (by rw[u8];omega) (λ j hd=>by
   have hj:=o4.mp hd;rw[show(0:Int)+(j:Int)=j by omega];have E:E8 (j:Int) (m:Int)=true:=by unfold E8;simp;omega
   refine⟨[.val (.int j),.own (.lst (iD u)),.val (.int m)],.strong,rfl,?_,rfl⟩;rw[←Hi K hj];exact ao (c:=.fresh) (Hh (cQ rfl) (F1 (f6 rfl) (f6 rfl) E) (D0 (F1 (f6 rfl) (f6 rfl) E) (f6 rfl))))
 rw[show((List.range n).map λ j=>DV.tup (iD ((u.drop (j*m)).take m)))=(dN n m u).map λ r=>.tup (iD r) by unfold dN;rw[r3];rfl]at U;refine⟨n,m,dN n m u,by omega,W,by omega,Y,Hg K,λ r hr x w=>?_,?_⟩
 ·obtain⟨j,_,rfl⟩:=k9.mp hr;exact B x (List.mem_of_mem_drop (List.mem_of_mem_take w))
 rw[o8 (fd:=lT) rfl rfl];unfold lT;have M:∀{i:Nat} {a:Int} {n:Nat} {v:on Sv} (_:∀{F:Nat->on DV->JF Ou} {v:on Sv} {e:ME},evE G F e v=some (.ok (.lst (s.map DV.int)) .strong)->evE G F (.ix e (.int (i:Int))) v=some (.ok (.int a) .strong)) (_:1+a%4=(n:Int)) (_:v[3]? = some (.val (.lst (s.map DV.int)))) (_:v[2]? = some (JZ 4)),evE G (run G T fu (k+1)) (.bin .Add (.int 1) (.bin .Mod (.ix (.var 3) (.int (i:Int))) (.var 2))) v=some (.ok (.int (n:Int)) .strong):=λ {i a n v} h q d3 d2=>by rw[←q];exact D0 i3 (D1 (h (f6 d3)) (f6 d2) JY)
 exact o9 (i4 (n5 (d:=.lst (s.map DV.int)) (cl:=.fresh) (i7 (fr:=true) (l:=[(.int S,.strong),(.int ((8:Nat):Int),.strong)]) (f7 (i7 (fr:=false) (f7 (f6 (d:=.scr ns) rfl) (f7 (i3 (i:=((0:Nat):Int))) i8)) rfl c0) (f7 i3 i8)) rfl Q) rfl)
  (i4 (n5 (M (i:=0) h0 hn rfl rfl) rfl) (i4 (n5 (M (i:=1) h1 hm rfl rfl) rfl)
  (i4 (n5 (d:=.int p) (cl:=.strong) (o7 (cx:=.fresh) (x:=.lst [.int 2,.int 3,.int 10,.int 2]) rfl (D1 (N (f6 rfl)) i3 JY) L) rfl)
  (i4 (Z2 cm) (B6 (Hf em JX R) (.inr rfl) l1 (n9 (p6 (cl:=.strong) (ao U)))))))))
end k63
end
noncomputable section
namespace k63
open PySem L2
def IW(h:evE G F e δ=some (.ok (.tup ds) .strong)):evE G F (.bi .list [e]) δ=some (.ok (.lst ds) .fresh):=by
 show Rs.thn _ _=_;rw[f7 h i8];rfl
theorem wu(t:Sv):∀(rows:on (on Int)) (a:on Int) (c:Sv),(∀r∈rows,r.length=m)->a.length+rows.length*m<=1000->∃e,q0 (.one 2) (λ b=>evSs G F fu [.set 1 false (.bin .Add (.var 1) (.bi .list [.var 2]))] b) (rows.map λ r=>.tup (iD r)) [t,.val (.lst (iD a)),c]=some (.nx [t,.val (.lst (iD (a++rows.flatten))),e])
 | [],a,c,_,_=>⟨c,by rw[List.flatten_nil,C8];rfl⟩
 | r::rows,a,c,h,j=>by
  have i:=h r (k8 ..);rw[p9,U2,Y7]at j;obtain⟨e,g⟩:=wu t rows (a++r) _ (λ f d=>h f (k5 _ d)) (by rw[t7,i];omega);refine⟨e,?_⟩;rw[O6,←O7,←g,o5];refine bA rfl (i4 (n5 (mq (f6 rfl) (IW (f6 rfl)) ?_) rfl) ?_)
  ·unfold iD;rw[g7,g7];omega
  ·unfold iD;rw[A9];rfl
def IX(R:Rect n m rows)(hn:0<n)(hm:0<m)(b:n<=8)(c:m<=8):rows.flatten.length=n*m/\run G T fu (k+1) 39 [tT rows]=some (.v (.lst (rows.flatten.map DV.int)) false):=by
 have nm:=Y3 b c;obtain⟨c',e⟩:=wu _ rows [] .no R.2 (by rw[R.1,Y1];omega);refine⟨?_,?_⟩
 ·have g:∀{l:on (on Int)},(∀r∈l,r.length=m)->l.flatten.length=l.length*m:=λ {l} h=>by
   induction l with
   | nil=>simp
   | cons a l d=>rw[O6,t7,d λ r f=>h r (k5 _ f),h a (k8 ..),p9,U2];omega
  rw[g R.2,R.1]
 ·rw[o8 rfl rfl];unfold tO;exact o9 (i4 (n5 rfl rfl) (B6 rfl (.inl rfl) e (n9 (p6 (f6 rfl)))))
def IY(y:Int):∃s:Bool,ixD (.lst [.str "row",.str "column"]) (.int (y%2))=some (side s):=by
 have:y%2=0\/y%2=1:=by omega
 rcases this with h | h<;>rw[h]
 ·exact⟨true,rfl⟩
 ·exact⟨false,rfl⟩
def V8(y:Int):∃c:Nat,1+y%255=(c:Int):=⟨(1+y%255).toNat,by omega⟩
def or2b(c:evE G F a δ=some (.ok (.bl x) .strong))(d:evE G F b δ=some (.ok (.bl y) .strong)):tstD (evE G F (.or [a,b]) δ)=some (.ok (x||y)):=by
 cases x with
 | true=>exact r6 (Aa c)
 | false=>exact r6 (fN c d)
def wx(h:evE G F e δ=some (.ok (.int v) .strong)):evE G F (.tup [.str "end",e]) δ=some (.ok (dv (.fin v)) .strong):=
 F7 (f7 Q0 (f7 h i8)) (show 2<=m9 by decide) rfl
def mJ{c:Nat}(g:evE G F a δ=some (.ok (side s) .strong))(f:evE G F b δ=some (.ok (.int (c:Int)) .strong))(e:evE G F x δ=some (.ok (dv p) .strong))(d:evE G F y δ=some (.ok (dv q) .strong)):evE G F (.tup [.str "ask",a,b,x,y]) δ=some (.ok (dv (.ask s c p q)) .strong):=
 F7 (f7 Q0 (f7 g (f7 f (f7 e (f7 d i8))))) (show 5<=m9 by decide) rfl
def m2(x:Int):E8 2 x=true:=by unfold E8;simp
def wy{ws:on Int}(h:0<ws.length)(i:Int):∃v,ixD (.lst (ws.map DV.int)) (.int (i%((ws.map DV.int).length:Int)))=some (.int v):=by
 rw[g7];exact fP (iT i JX) (iz i JX)
theorem mK{xs:on Int}(h:0<xs.length):∀(K:Nat) (d:Nat) (a:Int),d<K->∃p,ht p<=d/\run G T fu K 40 [.lst (xs.map DV.int),.int a,.int (d:Int)]=some (.v (dv p) false)
 | 0,_,_,h=>absurd h (eT _)
 | K+1,d,a,hK=>by
  obtain⟨v,hv⟩:=wy h a;rw[o8 rfl rfl];unfold tP;have s1:=n5 (fu:=fu) (i:=3) (o7 (G:=G) (F:=run G T fu K) (δ:=p7 6 [.lst (xs.map DV.int),.int a,.int (d:Int)]) (a:=.var 0) (b:=.bin .Mod (.var 1) (.bi .len [.var 0])) (f6 rfl) (D1 (f6 rfl) (dM (c:=.strong) (f6 rfl)) (by rw[g7];omega)) hv) rfl;have e:=or2b (F:=run G T fu K) (δ:=[.val (.lst (xs.map DV.int)),.val (.int a),.val (.int (d:Int)),.val (.int v),.no,.no]) (a:=.cmp .Eq (.var 2) (.int 0)) (b:=.cmp .Eq (.bin .Mod (.var 3) (.int 4)) (.int 0)) (b_eq (i:=(d:Int)) (j:=0) (f6 rfl) i3) (b_eq (i:=v%4) (j:=0) (D1 (f6 rfl) i3 JY) i3);cases q:((d:Int)==0||v%4==0)with
  | true=>
   rw[q]at e;refine⟨.fin (v/4%10),F3 _,o9 (i4 s1 (Z1 e (n9 (p6 (wx (D1 (aZ (f6 rfl) i3 JY) i3 JY))))))⟩
  | false=>
   rw[q]at e;have r0:0<d:=by
    rcases eJ d with z | z
    ·rw[z]at q;simp at q
    ·exact z
   obtain⟨g,l,n⟩:=mK h K (d - 1) (2*a+1) JX;obtain⟨f,k,m⟩:=mK h K (d - 1) (2*a+2) JX;rw[show((d - 1:Nat):Int)=(d:Int) - 1 by omega]at n m;obtain⟨s,o⟩:=IY (v/4);obtain⟨c,r⟩:=V8 (v/8);refine⟨.ask s c g f,by show 1+max g.deep f.deep<=d;have:g.deep<=d - 1:=l;have:f.deep<=d - 1:=k;omega,o9 (i4 s1 (D8 e (i4 (n5 (i7 (fr:=false) (f7 (f6 rfl) (f7 (D0 (F1 i3 (f6 rfl) (m2 _)) i3) (f7 (L5 (f6 rfl) i3) i8))) rfl n) rfl) (i4 (n5 (i7 (fr:=false) (f7 (f6 rfl) (f7 (D0 (F1 i3 (f6 rfl) (m2 _)) i3) (f7 (L5 (f6 rfl) i3) i8))) rfl m) rfl) (n9 (p6 (cl:=.strong) (mJ ?_ ?_ (f6 rfl) (f6 rfl))))))))⟩
   ·exact o7 (cx:=.fresh) rfl (D1 (aZ (f6 rfl) i3 JY) i3 JY) o
   ·rw[←r];exact D0 i3 (D1 (aZ (f6 rfl) i3 JY) i3 JY)
def IZ:cmpD .Eq (.str "end") (.str "end")=some true:=by decide +kernel
def Ja:cmpD .Eq (.str "ask") (.str "end")=some false:=by decide +kernel
theorem mL{ws:on Int}(h:0<ws.length):∀(p:Pn) (K:Nat),ht p<K->∃q,ht q<=ht p/\run G T fu K 41 [dv p,.lst (ws.map DV.int)]=some (.v (dv q) false)
 | _,0,h=>absurd h (eT _)
 | .fin x,K+1,_=>by obtain⟨v,hv⟩:=wy h x;rw[o8 rfl rfl];unfold lU;exact⟨.fin v,i6 _,o9 (Z1 (r6 (G5 (o7 (cx:=.strong) (f6 rfl) i3 rfl) Q0 IZ)) (n9 (p6 (wx (o7 (f6 rfl) (D1 (o7 (f6 rfl) i3 rfl) (dM (f6 rfl)) (by rw[g7];omega)) hv)))))⟩
 | .ask s c a b,K+1,j=>by
  have i:1+max a.deep b.deep<K+1:=j;obtain⟨e,g,m⟩:=mL h a K (by show a.deep<K;omega);obtain⟨d,f,k⟩:=mL h b K (by show b.deep<K;omega);rw[o8 rfl rfl];unfold lU;exact⟨.ask s c e d,(by show 1+max e.deep d.deep<=1+max a.deep b.deep;have:e.deep<=a.deep:=g;have:d.deep<=b.deep:=f;omega),o9 (D8 (r6 (cl:=.strong) (G5 (o7 (cx:=.strong) (f6 rfl) i3 rfl) Q0 Ja)) (n9 (p6 (cl:=.strong) (mJ (o7 (cx:=.strong) (f6 rfl) i3 rfl) (o7 (cx:=.strong) (f6 rfl) i3 rfl)
   (i7 (fr:=false) (l:=[(dv a,.strong),(.lst (ws.map DV.int),.strong)]) rfl rfl m) (i7 (fr:=false) (l:=[(dv b,.strong),(.lst (ws.map DV.int),.strong)]) rfl rfl k)))))⟩
def gX(h:evE G F e δ=some (.ok (.lst (iD r)) c)):evE G F (.bi .sum [e]) δ=some (.ok (.int r.sum) .strong):=by
 show Rs.thn _ _=_;rw[f7 h i8];show(ints? (iD r)).map _=_;rw[dO];rfl
def wz(r:on Int):DV.nolams (iD r)=true:=by
 induction r with
 | nil=>rfl
 | cons a r b=>exact b
def bM(rows:on (on Int)):(tT rows).nolam=true:=by
 show DV.nolams _=true
 induction rows with
 | nil=>rfl
 | cons a r b=>
  show(DV.nolams (iD a)&&DV.nolams _)=true;rw[wz,b];rfl
theorem W6:∀p:Pn,p.D.nolam=true
 | .fin w=>rfl
 | .ask s c n y=>by show((sd s).nolam&&(n.D.nolam&&(y.D.nolam&&true)))=true;rw[W6 n,W6 y];cases s<;>rfl
theorem mM{F:Nat->on DV->JF Ou}{m:DV}{α:Type}{h:α->DV}{g:α->Int}:∀{l:on α},(∀a∈l,F F0 [m,h a]=some (.v (.int (g a)) false))->P9 F m (l.map h)=some (l.map g)
 | [],_=>rfl
 | a::l,q=>by
  show(match F F0 [m,h a]with
   | some (.v (.int k) false)=>(P9 F m (l.map h)).map (k :: ·)
   | _=>none)=_
  rw[q a (k8 ..),mM λ b hb=>q b (k5 _ hb)];rfl
def wA{fu k:Nat}{m:LamD}{cs args:on DV}{d:DV}(h1:args.length=m.np/\args.length+cs.length=m.N.length/\DV.nolams args=true/\DV.nolams cs=true)(h:evE G (run G T fu k) m.body ((args++cs).map Sv.val)=some (.ok d .strong))(hd:d.nolam=true):run G T fu (k+1) F0 (.lam m cs::args)=some (.v d false):=by
 have e1:run G T fu (k+1) F0 (.lam m cs::args)=lamR (evE G (run G T fu k)) (.lam m cs::args):=rfl;rw[e1];show(if args.length=m.np/\args.length+cs.length=m.N.length/\DV.nolams args=true/\DV.nolams cs=true then(match evE G (run G T fu k) m.body ((args++cs).map Sv.val)with
  | some (.ok d .strong)=>if d.nolam then some (Ou.v d false)else none
  | _=>none)else none)=_
 rw[f8 h1,h];exact f8 hd
def J0{δ:on Sv}{ds:on DV}{i:Nat}{r:on Nat}{d:DV}(h:δ[i]? = some (.val d))(hd:d.nolam=true)(hr:capD δ r=some ds):capD δ (i::r)=some (d::ds):=by
 show(match δ[i]?,capD δ r with
  | some (.val d),some ds=>if d.nolam then some (d::ds)else none
  | _,_=>none)=_
 rw[h,hr];exact f8 hd
theorem wE:∀(r:on Int) (m:Int),(maxI m r=m\/maxI m r∈r)/\m<=maxI m r/\∀x∈r,x<=maxI m r
 | [],m=>⟨.inl rfl,E3 _,λ _ h=>nomatch h⟩
 | x::r,m=>by
  show(maxI _ r=m\/_)/\_;obtain⟨c,b,a⟩:=wE r (if m<x then x else m);by_cases q:m<x
  ·rw[f8 q]at c b a ⊢;refine⟨.inr ?_,by show m<=maxI _ r;rw[f8 q];omega,λ y d=>?_⟩
   ·show maxI _ r∈_;rw[f8 q];rcases c with h | h
    ·rw[h];exact k8
    ·exact k5 _ h
   ·show y<=maxI _ r;rw[f8 q];rcases i5.mp d with e | e
    ·rw[e];exact b
    ·exact a y e
  ·rw[g8 q]at c b a ⊢;refine⟨?_,by show m<=maxI _ r;rw[g8 q];exact b,λ y d=>?_⟩
   ·rcases c with h | h
    ·exact .inl h
    ·right;show maxI _ r∈_;rw[g8 q];exact k5 _ h
   ·show y<=maxI _ r;rw[g8 q];rcases i5.mp d with e | e
    ·rw[e];omega
    ·exact a y e
end k63
end
noncomputable section
namespace k63
open PySem L2
variable {fu k:Nat} {F:Nat->on DV->JF Ou} {δ:on Sv} {ds:on DV} {cl:Cl} {n m R C:Nat} {rows wr:on (on Int)}
def wF{cs:on DV}{ks:on Int}(h:evE G F a δ=some (.ok (.lst ds) .fresh))(g:capD δ fr=some cs)(e:P9 F (.lam ⟨N,b,c,G.fnl,G.bll,G.cll⟩ cs) ds=some ks)(f:M6 ks=some i)(hd:ds[i]? = some d):evE G F (.maxk a N b c fr) δ=some (.ok d .strong):=by
 show fI G F _ N b c _=_;rw[g,h];show((P9 F _ ds).bind λ ks=>(M6 ks).bind λ i=>ds[i]?.map λ d=>Re.ok d .strong)=_;rw[e];show((M6 ks).bind λ i=>ds[i]?.map λ d=>Re.ok d .strong)=_;rw[f];show(ds[i]?.map λ d=>Re.ok d .strong)=_;rw[hd];rfl
def wG{ks:on Int}(h:ks≠[]):∃i,M6 ks=some i/\i<ks.length/\∀x∈ks,x<=ks.getD i 0:=by
 cases g:ks with
 | nil=>exact absurd g h
 | cons m r=>
  obtain⟨u,s,p⟩:=wE r m;have n:=u.elim (λ e=>by rw[e];exact k8 ..) λ e=>k5 _ e
  have c:=λ x l=>(i5.mp l).elim (λ e=>by rw[e];exact s) (p x);rw[←g]at n c ⊢;generalize maxI m r=z at n c;have d:=ei n;have f:∀j _,ks.getD j 0=ks[j]:=λ j b=>by rw[r9,n6 b];rfl
  have ok:((List.range ks.length).all λ j=>decide (ks.getD j 0<=ks.getD (ks.idxOf z) 0)&&(decide (ks.idxOf z<=j)||decide (ks.getD j 0<ks.getD (ks.idxOf z) 0)))=true:=by
   rw[E6];intro j b;have b:=o4.mp b;rw[g6,B5,A5,A5,A5,((f _ d).trans (iy d)),f j b];have a:=c _ (T7 b);refine⟨a,?_⟩;rcases U1 j (ks.idxOf z)with q | q
   ·refine .inr (Int.lt_iff_le_and_ne.mpr ⟨a,λ e=>?_⟩);have:=List.not_of_lt_findIdx q;rw[e,T5]at this;cases this
   ·exact .inl q
  cases k:M6 ks with
  | none=>
   unfold M6 at k;have:=List.find?_eq_none.mp k _ (o4.mpr d);exact absurd ok this
  | some i=>
   unfold M6 at k;have o:=iR k;rw[E6]at o;refine⟨i,rfl,(o4.mp (hY k)),λ x l=>?_⟩;obtain⟨j,b,rfl⟩:=List.mem_iff_getElem.mp l;have:=o j (o4.mpr b);rw[g6,A5,f j b]at this;exact this.1
theorem wH{f:Nat->Int}:∀l:on Nat,((l.filter p).map f).sum=(l.map λ j=>if p j then f j else 0).sum
 | []=>rfl
 | a::l=>by
  rw[M1,o5,A6,←wH l];cases p a
  ·simp
  ·simp
abbrev yS(rows wr:on (on Int))(R C:Nat)(w t:Int)(z:Sv):on Sv:=[.val (tT rows),.val (rL wr),.val (.int (R:Int)),.val (.int (C:Int)),.val (.int w),.val (.int t),z]
noncomputable def yB:on MS:=[.aug 5 (.bi .sum [.compi (.ix (.ix (.var 1) (.var 2)) (.var 0)) (.one 0) (.call 7 [.var 3]) (.cmp .Eq (.ix (.ix (.var 3) (.var 2)) (.var 0)) (.var 4)) [none,some 1,some 6,some 0,some 4]])]
def c64(h:c<2^n)(hn:n<=5):c<2^64:=t6 h (K2 JY JX)
theorem wI(p:Rect n m rows)(W:Rect n m wr)(r:n<=5)(o:m<=5)(q:0<C)(d:C<2^m)(w:Int):∀(l:on Nat) (t:Int) (z:Sv),(∀i∈l,i<n)->∃g,q0 (.one 6) (λ f=>evSs G (run G T fu (k+1)) fu yB f) (nD l) (yS rows wr R C w t z)=some (.nx (yS rows wr R C w (t+(l.map λ i=>((cs C).map λ j=>if mf rows i j=w then mf wr i j else 0).sum).sum) g))
 | [],t,z,_=>⟨z,by rw[fh,List.sum_nil,fj];rfl⟩
 | i::l,t,z,h=>by
  have b:=h i (k8 ..);obtain⟨g,e⟩:=wI p W r o q d w l _ (JZ (i:Int)) λ i b=>h i (k5 _ b);refine⟨g,?_⟩;rw[o5,A6,←iY,←e];have u:=vZ (F:=run G T fu (k+1)) (δ:=yS rows wr R C w t (JZ (i:Int))) (l:=cs C) (elt:=.ix (.ix (.var 1) (.var 2)) (.var 0)) (tg:=.one 0) (it:=.call 7 [.var 3]) (cd:=.cmp .Eq (.ix (.ix (.var 3) (.var 2)) (.var 0)) (.var 4)) (fr:=[none,some 1,some 6,some 0,some 4]) (cl:=.fresh)
   (by rw[i7 (G:=G) (fr:=true) rfl rfl (gJ C q (c64 d o))];rfl) JY (i9 (cs5 C (t6 d (p32 o))) JY) λ j s=>by have a:=N3 d s;exact⟨[.val (.int (j:Int)),.val (rL wr),.val (.int (i:Int)),.val (tT rows),.val (.int w)],.strong,rfl,r6 (b_eq (vQ p (f6 rfl) (f6 rfl) (f6 rfl) b a) (f6 rfl)),mF W (f6 rfl) (f6 rfl) (f6 rfl) b a,rfl⟩
  have sm:=gX (c:=.fresh) (by rw[u];unfold iD;rw[r3];rfl);rw[wH,show(λ j=>if(mf rows i j==w)=true then mf wr i j else 0)=λ j=>if mf rows i j=w then mf wr i j else 0 from funext λ j=>by simp only[g9]]at sm;exact bA rfl (i4 (vL rfl sm) rfl)
def wJ(c:Rect n m rows)(W:Rect n m wr)(a:n<=5)(d:m<=5)(g:0<R)(b:R<2^n)(j:0<C)(h:C<2^m)(w:Int):run G T fu (k+2) 29 [tT rows,rL wr,.int (R:Int),.int (C:Int),.int w]=some (.v (.int (ww (mf rows) (mf wr) R C w)) false):=by
 rw[o8 rfl rfl];obtain⟨z',e⟩:=wI c W a d j h w (cs R) 0 .no λ i f=>N3 b f
 rw[jh]at e;exact o9 (i4 (n5 rfl rfl) (B6 (by rw[i7 rfl rfl (gJ R g (c64 b a))];rfl) (.inr rfl) e (n9 (p6 (f6 rfl)))))
def bN(rows:on (on Int)):(rL rows).nolam=true:=by
 show DV.nolams _=true
 induction rows with
 | nil=>rfl
 | cons r l a=>
  show(DV.nolams (iD r)&&_)=true;rw[wz,a];rfl
def Jb(rows:on (on Int))(I J:on Nat):Rect I.length J.length (sub rows I J):=⟨by unfold sub;rw[g7],λ r a=>by
 obtain⟨i,_,rfl⟩:=k9.mp a;rw[g7]⟩
def Jc(c:Rect n m rows)(d:W9 rows)(e:0<n)(h:n<=5)(l:m<=5)(v:0<R)(a:R<2^n)(w:0<C)(b:C<2^m)(u:δ[0]? = some (.val (tT rows)))(s:δ[2]? = some (JZ (R:Int)))(q:δ[3]? = some (JZ (C:Int))):evE G (run G T fu (k+3)) (.call 14 [.call 4 [.var 0,.var 2,.var 3]]) δ=some (.ok (.lst (nD ((List.range 10).filter (wp (mf rows) R C)))) .fresh):=by
 have r5:=cs5 R (t6 a (p32 h));have c5:=cs5 C (t6 b (p32 l));rw[←uT];refine i7 (f7 (i7 (f7 (f6 u) (f7 (f6 s) (f7 (f6 q) i8))) rfl (uE rows n m R C c e JX JX v a w b)) i8) rfl (ux _ _ _ (Jb ..) JX JX λ r g x f=>?_);obtain⟨i,p,rfl⟩:=k9.mp g;obtain⟨j,o,rfl⟩:=k9.mp f;exact bD c d (N3 a p) (N3 b o)
def bW_0(h:∀i j,0<=g i j){w:Nat}(hw:w<10)(H:∀v,v<10->wp f R C v=true->ww f g R C (v:Int)<=ww f g R C (w:Int)):ww f g R C (w:Int)=bW f g 0 R C:=by
 have a:∀v:Int,0<=ww f g R C v:=λ v=>vE λ i _ j _=>by
  show 0<=if f i j=v then g i j else 0
  split
  ·exact h i j
  ·exact E3 _
 refine cj (bI.2 _ (k9.mpr ⟨w,o4.mpr hw,rfl⟩)) (gP (a _) λ y b=>?_);obtain⟨v,hv,rfl⟩:=k9.mp b;by_cases q:wp f R C v=true
 ·exact H v (o4.mp hv) q
 ·refine w4 (M3 ?_) (a _);refine cj ?_ (a _);rw[←my R C];refine bH λ i d j c=>?_;show(if f i j=(v:Int)then g i j else 0)<=0;rw[g8 λ e=>q (Q5.mpr ⟨i,j,d,c,e⟩)];exact E3 _
def wK(c:Rect n m rows)(W:Rect n m wr)(u:W9 rows)(A:∀i j,0<=mf wr i j)(x:0<n)(f:n<=5)(h:m<=5)(p:0<R)(o:R<2^n)(s:0<C)(r:C<2^m):∃w:Nat,ww (mf rows) (mf wr) R C (w:Int)=bW (mf rows) (mf wr) 0 R C/\run G T fu (k+4) 28 [tT rows,rL wr,.int (R:Int),.int (C:Int)]=some (.v (.int (w:Int)) false):=by
 have ks:=mM (F:=run G T fu (k+3)) (m:=.lam ⟨["word","table","weights","rows","columns"],1,.call 29 [.var 1,.var 2,.var 3,.var 4,.var 0],G.fnl,G.bll,G.cll⟩ [tT rows,rL wr,.int (R:Int),.int (C:Int)]) (l:=(List.range 10).filter (wp (mf rows) R C)) λ w _=>by refine wA ⟨rfl,rfl,rfl,?_⟩ (i7 (fr:=false) rfl rfl (wJ c W f h p o s r w)) rfl;show((tT rows).nolam&&((rL wr).nolam&&_))=true;rw[bM,bN];rfl
 have ne:(List.range 10).filter (wp (mf rows) R C)≠[]:=λ z=>by have:=uU c u f h p o s r;unfold wn at this;rw[z]at this;exact absurd this JY
 obtain⟨i,y,b,g⟩:=wG (ks:=((List.range 10).filter (wp (mf rows) R C)).map λ (w:Nat)=>ww (mf rows) (mf wr) R C (w:Int)) (λ z=>ne (bU.mp z));rw[g7]at b;obtain⟨w,e⟩:∃w,_[i]? = some w:=⟨_,n6 b⟩;have d:=A2.mp (K1 e);refine⟨w,bW_0 A (o4.mp d.1) λ v hv q=>?_,?_⟩
 ·have:=g _ (k9.mpr ⟨v,A2.mpr ⟨o4.mpr hv,q⟩,rfl⟩);rw[r9,p5,e]at this;exact this
 ·rw[o8 rfl rfl];exact o9 (n9 (p6 (wF (Jc c u x f h p o s r rfl rfl rfl) (J0 rfl (bM _) (J0 rfl (bN _) (J0 rfl rfl (J0 rfl rfl rfl)))) ks y (by unfold nD;rw[p5,e];rfl))))
end k63
end
noncomputable section
namespace k63
open PySem L2
variable {fu k:Nat} {F:Nat->on DV->JF Ou} {δ:on Sv} {ds:on DV} {cl:Cl} {n m R C B b j:Nat} {rows wr:on (on Int)}
abbrev Ky:=Nat×Nat×Nat
def k3(p:Ky):on Int:=[(p.1:Int),(p.2.1:Int),(p.2.2:Int)]
def W7(p q:Ky)(h:k3 p=k3 q):p=q:=by
 obtain⟨a,b,c⟩:=p;obtain⟨d,e,f⟩:=q;unfold k3 at h;simp only[List.cons.injEq,and_true]at h;rw[Y5 h.1,Y5 h.2.1,Y5 h.2.2]
abbrev T3:=on (Ky×Int)
theorem bO{b c:Type}[BEq b][LawfulBEq b]{V:b->c}{q:b}:∀l:on b,(q∈l->(l.map λ p=>(p,V p)).lookup q=some (V q))/\(q∉l->(l.map λ p=>(p,V p)).lookup q=none)
 | []=>⟨λ h=>(nomatch h),λ _=>rfl⟩
 | a::l=>by
  rw[o5,E2];by_cases h:q=a
  ·subst h;rw[T5];exact⟨λ _=>rfl,λ z=>absurd (k8 ..) z⟩
  ·rw[A1.mpr h];exact⟨λ z=>(bO l).1 ((i5.mp z).resolve_left h),λ z=>(bO l).2 λ y=>z (k5 _ y)⟩
def kys(B b R C j:Nat):on Ky:=(ps b R C).flatMap (λ p=>(List.range (B+1)).map λ l=>(p.1,p.2,l))++(List.range j).map λ l=>(R,C,l)
def gY:q∈kys B b R C j↔((q.1,q.2.1)∈ps b R C/\q.2.2<=B)\/(q.1=R/\q.2.1=C/\q.2.2<j):=by
 unfold kys;obtain⟨x,y,z⟩:=q;rw[C7,eP,k9];constructor
 ·rintro(⟨p,hp,h⟩ | ⟨l,a,h⟩)
  ·obtain⟨l,a,e⟩:=k9.mp h;cases e;exact .inl ⟨hp,by have:=o4.mp a;dsimp only;omega⟩
  ·cases h;exact .inr ⟨rfl,rfl,o4.mp a⟩
 ·rintro(⟨h1,h2⟩ | ⟨h1,h2,h3⟩)
  ·exact .inl ⟨_,h1,k9.mpr ⟨z,o4.mpr (by dsimp only at h2;omega),rfl⟩⟩
  ·dsimp only at h1 h2 h3;subst h1 h2;exact .inr ⟨z,o4.mpr h3,rfl⟩
def wL:kys B b R C (j+1)=kys B b R C j++[(R,C,j)]:=by
 unfold kys;rw[O7]
 congr 1
 rw[aM,A9];rfl
def Jd(h:0<C):kys B b R C (B+1)=kys B b R (C+1) 0:=by
 unfold kys;rw[ve h,iu,List.flatMap_cons,List.flatMap_nil,C8,List.range_zero,fh,C8]
def Je(h:0<R):kys B b R (2^b) 0=kys B b (R+1) 1 0:=by
 unfold kys;rw[gL h];rfl
def tb3(f g:Mx)(K:on Ky):T3:=K.map λ q=>(q,bW f g q.2.2 q.1 q.2.1)
def wM(f g:Mx)(K:on Ky)(q:Ky):tb3 f g (K++[q])=tb3 f g K++[(q,bW f g q.2.2 q.1 q.2.1)]:=by
 unfold tb3;rw[A9];rfl
def wN(d:b<=5)(h:0<R)(f:R<=32)(g:C<=32)(hB:B<=4)(hj:j<=5):(kys B b R C j).length<100000:=by
 unfold kys;have:=mx d h f g;rw[t7,g7,u8,List.length_flatMap];have e:((ps b R C).map λ p=>((List.range (B+1)).map λ l=>(p.1,p.2,l)).length).sum=(ps b R C).length*(B+1):=by
  have:∀l:on (Nat×Nat),(l.map λ p=>((List.range (B+1)).map λ l=>(p.1,p.2,l)).length).sum=l.length*(B+1):=λ l=>by
   induction l with
   | nil=>simp
   | cons a l c=>rw[o5,A6,c,g7,u8,p9,U2];omega
  exact this _
 rw[e];have:(ps b R C).length*(B+1)<=1000*5:=Y3 JX JX;omega
def dZ(d:evE G F a δ=some (.ok (.tup [.int (r:Int),.int (s:Int)]) .strong))(b:evE G F c δ=some (.ok (.int l) .strong)):evE G F (.bin .Add a (.tup [c])) δ=some (.ok (.tup [.int (r:Int),.int (s:Int),.int l]) .strong):=
 E4 d (F7 (f7 b i8) (show 1<=m9 by decide) rfl) (wq (by intro z;cases z) (show 3<=1000 by decide))
def wO{b:Int}(e:asDc X=some (ksG k3 L,vsG id L))(g:L.lookup (w.2.2.1.1,w.2.2.1.2,l)=some b)(f:L.lookup (w.2.2.2.1,w.2.2.2.2,l)=some a):run G T fu (k+1) 27 [X,wD w,.int (l:Int)]=some (.v (.int (b+a)) false):=by
 rw[o8 rfl rfl];have c:∀F,evE G F (.var 1) (p7 3 [X,wD w,.int (l:Int)])=some _:=λ F=>f6 rfl
 have d:∀F,evE G F (.var 0) (p7 3 [X,wD w,.int (l:Int)])=some _:=λ F=>f6 rfl;exact o9 (n9 (p6 (D0 (aw W7 e (d _) (dZ (o7 (cx:=.strong) (c _) i3 rfl) (f6 rfl)) g) (aw W7 e (d _) (dZ (o7 (cx:=.strong) (c _) i3 rfl) (f6 rfl)) f))))
theorem wP:∀(r:on Int) (m:Int),maxI m r=mxl m r
 | [],_=>rfl
 | x::r,m=>by
  show maxI _ r=mxl _ r;rw[wP r]
  congr 1
  split<;>omega
def Jf(h:evE G F e δ=some (.ok (.lst (iD (a::r))) c)):evE G F (.bi .max [e]) δ=some (.ok (.int (mxl a r)) .strong):=by
 show Rs.thn _ _=_;rw[f7 h i8];show(match ints? ((a::r).map DV.int)with | some (n::r)=>some _ | _=>none)=_;rw[mj,←wP]
abbrev zS(rows wr:on (on Int))(B:Nat)(L:T3)(r c w l y:Sv):on Sv:=[.val (tT rows),.val (rL wr),.val (.int (B:Int)),.od (lG k3 id L),r,c,w,l,y]
noncomputable def zBb:on MS:=[.set 8 false (.comp (.call 27 [.var 1,.var 0,.bin .Sub (.var 2) (.int 1)]) (.one 0) (.call 20 [.var 4,.var 5]) [none,some 3,some 7]),.dpp 3 [.var 4,.var 5,.var 7] (.bi .max [.bin .Add (.lst [.dix (.var 3) (.tup [.var 4,.var 5,.bin .Sub (.var 7) (.int 1)])]) (.var 8)])]
def Jg(m:R<32)(o:C<32)(K:b<=5)(u:0<R)(Q:0<C)(P:C<2^b)(M:B<=4)(hj:j<B)(w y:Sv):∃v,evSs G (run G T fu (k+3)) fu zBb (zS rows wr B (tb3 (mf rows) (mf wr) (kys B b R C (j+1))) (JZ (R:Int)) (JZ (C:Int)) w (JZ (1+(j:Int))) y)=some (.nx (zS rows wr B (tb3 (mf rows) (mf wr) (kys B b R C (j+2))) (JZ (R:Int)) (JZ (C:Int)) w (JZ (1+(j:Int))) v)):=by
 let L:=tb3 (mf rows) (mf wr) (kys B b R C (j+1))
 have f:∀{r c l:Nat},((r,c)∈ps b R C/\l<=B)\/(r=R/\c=C/\l<j+1)->L.lookup (r,c,l)=some (bW (mf rows) (mf wr) l r c):=λ h=>(bO (V:=λ q:Ky=>bW (mf rows) (mf wr) q.2.2 q.1 q.2.1) (kys B b R C (j+1))).1 (gY.mpr h);have x:L.lookup (R,C,j+1)=none:=(bO (V:=λ q:Ky=>bW (mf rows) (mf wr) q.2.2 q.1 q.2.1) (kys B b R C (j+1))).2 λ z=>by
  rcases gY.mp z with⟨q,_⟩ | ⟨_,_,q⟩
  ·rcases W5.mp q with q | q
   ·have:=q.2.1;dsimp only at this;omega
   ·have:=q.2.2;dsimp only at this;omega
  ·dsimp only at q;omega
 have O:=Q4 (F:=run G T fu (k+3)) (δ:=zS rows wr B L (JZ (R:Int)) (JZ (C:Int)) w (JZ (1+(j:Int))) y) (l:=wl R C) (h:=wD) (elt:=.call 27 [.var 1,.var 0,.bin .Sub (.var 2) (.int 1)]) (tg:=.one 0) (it:=.call 20 [.var 4,.var 5]) (fr:=[none,some 3,some 7]) (cl:=.fresh)
  (by rw[i7 (G:=G) (fr:=true) (l:=[(.int (R:Int),.strong),(.int (C:Int),.strong)]) rfl rfl (mi (k:=k+1) m o)];rfl) JY (by unfold wl;rw[t7,g7,g7];exact i9 (fb (Q6 m) (Q6 o)) JY) λ w J=>by
   obtain⟨I,H⟩:=vk Q P u J;have e:evE G (run G T fu (k+3)) (.bin .Sub (.var 2) (.int 1)) [.val (wD w),.od (lG k3 id L),.val (.int (1+(j:Int)))]=some (.ok (.int (j:Int)) .strong):=by have:=L5 (G:=G) (F:=run G T fu (k+3)) (δ:=[.val (wD w),.od (lG k3 id L),.val (.int (1+(j:Int)))]) (a:=.var 2) (b:=.int 1) (f6 rfl) i3;rw[show(1+(j:Int)) - 1=j by omega]at this;exact this
   exact⟨[.val (wD w),.od (lG k3 id L),.val (.int (1+(j:Int)))],.weak,rfl,pv (fr:=false) (f7 (mn rfl) (f7 (f6 rfl) (f7 e i8))) rfl (wO (L:=L) rfl (f (.inl ⟨I,by omega⟩)) (f (.inl ⟨H,by omega⟩))) rfl,rfl⟩
 generalize g:(wl R C).map _=ys
 let D:=zS rows wr B L (JZ (R:Int)) (JZ (C:Int)) w (JZ (1+(j:Int))) (.val (.lst (iD ys)))
 have e:evE G (run G T fu (k+3)) (.bin .Sub (.var 7) (.int 1)) D=some (.ok (.int (j:Int)) .strong):=(by have:=L5 (G:=G) (F:=run G T fu (k+3)) (δ:=D) (a:=.var 7) (b:=.int 1) (f6 rfl) i3;rw[show(1+(j:Int)) - 1=j by omega]at this;exact this);have E:evE G (run G T fu (k+3)) (.tup [.var 4,.var 5,.bin .Sub (.var 7) (.int 1)]) D=some (.ok (.tup ((k3 (R,C,j)).map .int)) .strong):=F7 (f7 (f6 rfl) (f7 (f6 rfl) (f7 e i8))) (show 3<=m9 by decide) rfl;have N:=aw (κ:=k3) (ν:=id) (L:=L) (q:=(R,C,j)) (X:=lG k3 id L) W7 rfl (mn (i:=3) rfl) E (f (.inr ⟨rfl,rfl,by omega⟩));have p:ys.length<=62:=by rw[←g,g7];unfold wl;rw[t7,g7,g7];exact fb (Q6 m) (Q6 o)
 have s:=Jf (a:=bW (mf rows) (mf wr) j R C) (r:=ys) (mq (lst1 N rfl) (f6 (n:=8) (d:=.lst (iD ys)) rfl) (by rw[g7];show 1+_<=_;omega));rw[←g,show mxl (bW (mf rows) (mf wr) j R C) _=bW (mf rows) (mf wr) (j+1) R C from rfl]at s;have A:L.length<100000:=by show(tb3 _ _ _).length<_;unfold tb3;rw[g7];exact wN K u JX JX M JX
 rw[show kys B b R C (j+2)=kys B b R C (j+1)++[(R,C,j+1)]from wL,wM];exact⟨_,i4 (n5 ((by rw[O,←g];unfold iD;rw[r3];rfl)) rfl) (i4 (mo (κ:=k3) (ν:=id) (L:=L) (q:=(R,C,j+1)) (z:=bW (mf rows) (mf wr) (j+1) R C) W7 rfl s (f7 (f6 rfl) (f7 (f6 rfl) (f7 (f6 rfl) i8))) (by show[DV.int (R:Int),.int (C:Int),.int (1+(j:Int))]=[.int (R:Int),.int (C:Int),.int ((j+1:Nat):Int)];rw[show(1+(j:Int))=((j+1:Nat):Int) by omega]) (show 3<=3 by decide) x A) rfl)⟩
def oB:on MS:=[.set 6 false (.call 28 [.var 0,.var 1,.var 4,.var 5]),.dpp 3 [.var 4,.var 5,.int 0] (.call 29 [.var 0,.var 1,.var 4,.var 5,.var 6]),.fo (.one 7) (.rng [.int 1,.bin .Add (.var 2) (.int 1)]) zBb]
def Jh(o:Rect n m rows)(W:Rect n m wr)(x:W9 rows)(M:∀i j,0<=mf wr i j)(H:0<n)(hn:n<=4)(hm:m<=4)(c:0<R)(u:R<2^n)(d:0<C)(g:C<2^m)(r:B<=4)(w l y:Sv):∃A f a,evSs G (run G T fu (k+4)) fu oB (zS rows wr B (tb3 (mf rows) (mf wr) (kys B m R C 0)) (JZ (R:Int)) (JZ (C:Int)) w l y)=some (.nx (zS rows wr B (tb3 (mf rows) (mf wr) (kys B m R (C+1) 0)) (JZ (R:Int)) (JZ (C:Int)) A f a)):=by
 have pn:=p32 (n:=n) JX;have pm:=p32 (n:=m) JX;obtain⟨wd,O,N⟩:=wK (k:=k) o W x M H JX JX c u d g;have s:=wJ (fu:=fu) (k:=k+2) o W JX JX c u d g (wd:Int);rw[O]at s;have F:(tb3 (mf rows) (mf wr) (kys B m R C 0)).lookup (R,C,0)=none:=(bO (V:=λ q:Ky=>bW (mf rows) (mf wr) q.2.2 q.1 q.2.1) (kys B m R C 0)).2 λ z=>by
  rcases gY.mp z with⟨q,_⟩ | ⟨_,_,q⟩
  ·rcases W5.mp q with q | q
   ·have:=q.2.1;dsimp only at this;omega
   ·have:=q.2.2;dsimp only at this;omega
  ·exact absurd q (by simp)
 have K:(tb3 (mf rows) (mf wr) (kys B m R C 0)).length<100000:=by unfold tb3;rw[g7];exact wN JX c JX JX r JX
 have P:∀l y,evS G (run G T fu (k+4)) fu (.dpp 3 [.var 4,.var 5,.int 0] (.call 29 [.var 0,.var 1,.var 4,.var 5,.var 6])) (zS rows wr B (tb3 (mf rows) (mf wr) (kys B m R C 0)) (JZ (R:Int)) (JZ (C:Int)) (JZ (wd:Int)) l y)=some (.nx (zS rows wr B (tb3 (mf rows) (mf wr) (kys B m R C 1)) (JZ (R:Int)) (JZ (C:Int)) (JZ (wd:Int)) l y)):=λ l y=>by rw[show kys B m R C 1=kys B m R C 0++[(R,C,0)]from wL,wM];exact mo W7 rfl (i7 (fr:=false) (l:=[(tT rows,.strong),(rL wr,.strong),(.int (R:Int),.strong),(.int (C:Int),.strong),(.int (wd:Int),.strong)]) rfl rfl s) (f7 (f6 rfl) (f7 (f6 rfl) (f7 i3 i8))) rfl (show 3<=3 by decide) F K
 have J:=M8 (i:=7) (I:=λ j h=>∃l y,h=zS rows wr B (tb3 (mf rows) (mf wr) (kys B m R C (j+1))) (JZ (R:Int)) (JZ (C:Int)) (JZ (wd:Int)) l y) B 1
  (λ j L h I=>by
   obtain⟨l,y,rfl⟩:=I;obtain⟨a,e⟩:=Jg (fu:=fu) (k:=k+1) (wr:=wr) (b:=m) (R:=R) (C:=C) (B:=B) (j:=j) JX JX JX c d g r L _ y;exact⟨_,e,_,_,rfl⟩) ⟨l,y,rfl⟩
 obtain⟨v,p,f,a,rfl⟩:=J;rw[Jd d]at p;have E:q9 (evE G (run G T fu (k+4)) (.rng [.int 1,.bin .Add (.var 2) (.int 1)]) (zS rows wr B (tb3 (mf rows) (mf wr) (kys B m R C 1)) (JZ (R:Int)) (JZ (C:Int)) (JZ (wd:Int)) l y))=some (.ok (upTo 1 B) .fresh):=bC (n:=B+1) (cx:=.strong) (D0 (i:=(B:Int)) (j:=1) (cx:=.strong) (cy:=.strong) (f6 rfl) i3) JX;exact⟨_,f,a,i4 (n5 (i7 (fr:=false) (l:=[(tT rows,.strong),(rL wr,.strong),(.int (R:Int),.strong),(.int (C:Int),.strong)]) rfl rfl N) rfl) (i4 (P l y) (B6 E (.inr rfl) p rfl))⟩
def oF:MS:=.fo (.one 5) (.rng [.int 1,.bin .LShift (.int 1) (.bi .len [.ix (.var 0) (.int 0)])]) oB
def Ji(h:Rect n m rows)(W:Rect n m wr)(v:W9 rows)(H:∀i j,0<=mf wr i j)(p:0<n)(A:n<=4)(E:m<=4)(q:0<R)(J:R<2^n)(F:B<=4)(c w l y:Sv):∃f b d a,evS G (run G T fu (k+4)) fu oF (zS rows wr B (tb3 (mf rows) (mf wr) (kys B m R 1 0)) (JZ (R:Int)) c w l y)=some (.nx (zS rows wr B (tb3 (mf rows) (mf wr) (kys B m (R+1) 1 0)) (JZ (R:Int)) f b d a)):=by
 have pm:=p32 (n:=m) JX;have m1:1<=2^m:=X6;have z:=M8 (i:=5) (I:=λ j g=>∃c w l y,g=zS rows wr B (tb3 (mf rows) (mf wr) (kys B m R (j+1) 0)) (JZ (R:Int)) c w l y) (2^m - 1) 1
  (λ j hj g I=>by
   obtain⟨c,w,l,y,rfl⟩:=I;rw[show(1:Int)+_=((j+1:Nat):Int) by omega];obtain⟨b,d,a,e⟩:=Jh (fu:=fu) (k:=k) (C:=j+1) h W v H p A E q J JX JX F w l y;exact⟨_,e,_,_,_,_,rfl⟩) ⟨c,w,l,y,rfl⟩
 obtain⟨u,o,f,b,d,a,rfl⟩:=z;rw[show 2^m - 1+1=2^m by omega,Je q]at o;have x:q9 (evE G (run G T fu (k+4)) (.rng [.int 1,.bin .LShift (.int 1) (.bi .len [.ix (.var 0) (.int 0)])]) (zS rows wr B (tb3 (mf rows) (mf wr) (kys B m R 1 0)) (JZ (R:Int)) c w l y))=some (.ok (upTo 1 (2^m - 1)) .fresh):=bC (dQ (W4 h p (f6 rfl)) JX) JX;refine⟨f,b,d,a,?_⟩;have:=B6 x (.inr rfl) o (r:=[]) rfl;unfold evSs at this;split at this
 ·rename_i s e;rw[show oF=.fo _ _ oB from rfl,e];exact this
 ·exact this
abbrev fw(B n m:Nat)(rows wr:on (on Int)):T3:=tb3 (mf rows) (mf wr) (kys B m (2^n) 1 0)
def Jj(b:Rect n m rows)(W:Rect n m wr)(q:W9 rows)(C:∀i j,0<=mf wr i j)(o:0<n)(x:n<=4)(z:m<=4)(A:B<=4):run G T fu (k+5) 26 [tT rows,rL wr,.int (B:Int)]=some (.v (dG k3 id (fw B n m rows wr)) false):=by
 have pn:=p32 (n:=n) JX;have n1:1<=2^n:=X6;rw[o8 rfl rfl];have u:=M8 (i:=4) (I:=λ j d=>∃r c w l y,d=zS rows wr B (tb3 (mf rows) (mf wr) (kys B m (j+1) 1 0)) r c w l y) (body:=λ a=>evSs G (run G T fu (k+4)) fu [oF] a) (2^n - 1) 1 (δ:=zS rows wr B [] .no .no .no .no .no)
  (λ j hj d I=>by
   obtain⟨r,c,w,l,y,rfl⟩:=I;rw[show(1:Int)+(j:Int)=((j+1:Nat):Int) by omega];obtain⟨E,s,v,p,e⟩:=Ji (k:=k) (R:=j+1) b W q C o x z JX JX A c w l y;exact⟨_,i4 e rfl,_,_,_,_,_,rfl⟩) ⟨_,_,_,_,_,rfl⟩
 obtain⟨a,h,r',E,s,v,p,rfl⟩:=u;rw[show 2^n - 1+1=2^n by omega]at h;have g:evE G (run G T fu (k+4)) (.cmp .Gt (.bi .len [.var 0]) (.glb "MOST_WEIGHED")) (p7 9 [tT rows,rL wr,.int (B:Int)])=some (.ok (.bl (decide ((4:Int)<(n:Int)))) .strong):=b_gt (lenT b (f6 rfl)) rfl;have f:evE G (run G T fu (k+4)) (.cmp .Gt (.bi .len [.ix (.var 0) (.int 0)]) (.glb "MOST_WEIGHED")) (p7 9 [tT rows,rL wr,.int (B:Int)])=some (.ok (.bl (decide ((4:Int)<(m:Int)))) .strong):=b_gt (W4 b o (f6 rfl)) rfl;rw[A7 JX]at g f;exact o9 (D8 (r6 (fN g f)) (i4 (uV rfl) (B6 (bC (dQ (lenT b (f6 rfl)) JX) JX) (.inr rfl) h (n9 (uW rfl)))))
end k63
end
noncomputable section
namespace k63
open PySem L2
variable {fu k:Nat} {F:Nat->on DV->JF Ou} {δ:on Sv} {ds:on DV} {cl:Cl} {n m R C B:Nat} {rows wr:on (on Int)}
abbrev cps(B n m:Nat)(rows wr:on (on Int)):on DV:=[tT rows,rL wr,dG k3 id (fw B n m rows wr)]
def bP(L:on (c×b)):(dG κ ν L).nolam=true:=by
 show DV.nolams _=true
 induction L with
 | nil=>rfl
 | cons a l d=>exact d
def Jk(d:DV)(l:Int)(hd:d.nolam=true):DV.nolams (d :: .int l::cps B n m rows wr)=true:=by
 show(d.nolam&&(true&&((tT rows).nolam&&((rL wr).nolam&&((dG k3 id _).nolam&&true)))))=true;rw[hd,bM,bN,bP];rfl
def clB:on MS:=match clo with | some C=>C.body | none=>[]
abbrev pt(R C:Nat):DV:=.tup [.int (R:Int),.int (C:Int)]
def mN(h:evSs G (run G T fu k) fu clB (p7 6 (pt R C :: .int l::cps B n m rows wr))=some (.rt d false))(hd:d.nolam=true):run G T fu (k+1) D7 (pt R C :: .int l::cps B n m rows wr)=some (.v d false):=by
 show(if 5=2+3/\DV.nolams _=true then(match evSs G _ fu clB (p7 6 _)with
  | some (.rt d false)=>if d.nolam then some (Ou.v d false)else none
  | _=>none)else none)=_
 rw[f8 ⟨rfl,Jk _ _ rfl⟩,h];exact f8 hd
def mO{cs:on DV}(c:capD δ [2,3,4]=some cs)(e:evEs G F es δ=some (.ok l))(a:(l.all λ p=>p.2 == .strong||p.2 == .fresh)=true)(b:l.length=2)(h:F D7 (l.map (·.1)++cs)=some (.v d false))(hd:d.nolam=true):evE G F (.self 2 3 es) δ=some (.ok d .strong):=by
 show(if 2=2/\3=3 then(capD δ [2,3,4]).bind λ cs=>Rs.thn _ λ l=>M7 F 2 cs l else none)=_;rw[f8 ⟨rfl,rfl⟩,c,e];show M7 F 2 cs l=_;unfold M7;rw[f8 ⟨a,b⟩,h];exact f8 hd
def fr_P(p:Pn):frD p.D .strong=false:=by cases p<;>rfl
def ee(a:0<r)(r1:r<2^n)(c0:0<c)(d:c<2^m)(b:l<=B):(fw B n m rows wr).lookup (r,c,l)=some (bW (mf rows) (mf wr) l r c):=(bO _).1 (gY.mpr (.inl ⟨W5.mpr (.inl ⟨a,r1,c0,d⟩),b⟩))
theorem gZ(rc:Rect n m rows)(W:Rect n m wr)(w9:W9 rows)(g0:∀i j,0<=mf wr i j)(n0:0<n)(hn:n<=4)(hm:m<=4):∀(l R C:Nat),l<=B->0<R->R<2^n->0<C->C<2^m->∃p:Pn,run G T fu (k+l+5) D7 (pt R C :: .int (l:Int)::cps B n m rows wr)=some (.v p.D false)
 | 0,R,C,_,R0,R1,C0,C1=>by
  obtain⟨w,_,e⟩:=wK (fu:=fu) (k:=k) rc W w9 g0 n0 JX JX R0 R1 C0 C1;have c0:evE G (run G T fu (k+4)) (.cmp .Eq (.var 1) (.int 0)) (p7 6 (pt R C :: .int ((0:Nat):Int)::cps B n m rows wr))=some (.ok (.bl true) .strong):=b_eq (i:=0) (j:=0) (cx:=.strong) (f6 rfl) i3;have ix:∀y d,ixD (pt R C) (.int y)=some d->evE G (run G T fu (k+4)) (.ix (.var 0) (.int y)) (p7 6 (pt R C :: .int ((0:Nat):Int)::cps B n m rows wr))=some (.ok d .strong):=λ y d h=>o7 (cx:=.strong) (f6 rfl) i3 h
  exact⟨.fin (w:Int),mN (k:=k+4) (Z1 (r6 c0) (n9 (p6 (cl:=.strong) (F7 (f7 Q0 (f7 (i7 (fr:=false) (l:=[(tT rows,.strong),(rL wr,.strong),(.int (R:Int),.strong),(.int (C:Int),.strong)]) (f7 (f6 rfl) (f7 (f6 rfl) (f7 (ix 0 _ rfl) (f7 (ix 1 _ rfl) i8)))) rfl e) i8)) (show 2<=m9 by decide) rfl)))) rfl⟩
 | l+1,R,C,hl,R0,R1,C0,C1=>by
  have pn:=p32 (n:=n) JX;have pm:=p32 (n:=m) JX
  let L:=fw B n m rows wr
  let D:on Sv:=p7 6 (pt R C :: .int ((l+1:Nat):Int)::cps B n m rows wr)
  let F:=run G T fu (k+l+5)
  have v0:∀{D':on Sv},D'[0]? = D[0]? -> evE G F (.var 0) D'=some (.ok (pt R C) .strong):=λ h=>f6 (by rw[h];rfl);have v1:∀{D':on Sv},D'[1]? = D[1]? -> evE G F (.var 1) D'=some (.ok (.int ((l+1:Nat):Int)) .strong):=λ h=>f6 (by rw[h];rfl);have sb:∀{D':on Sv},D'[1]? = D[1]? -> evE G F (.bin .Sub (.var 1) (.int 1)) D'=some (.ok (.int (l:Int)) .strong):=λ {D'} h=>by have:=L5 (G:=G) (F:=F) (v1 h) (i3 (i:=1));rw[show((l+1:Nat):Int) - 1=(l:Int) by omega]at this;exact this
  have c0:evE G F (.cmp .Eq (.var 1) (.int 0)) D=some (.ok (.bl false) .strong):=(by have:=b_eq (v1 (D':=D) rfl) (i3 (i:=0));rw[show(((l+1:Nat):Int)==0)=false from A1.mpr JX]at this;exact this);have d1:=aw (κ:=k3) (ν:=id) (L:=L) (q:=(R,C,l+1)) (X:=dG k3 id L) W7 rfl (f6 (G:=G) (F:=F) (δ:=D) (n:=4) rfl) (dZ (v0 rfl) (v1 rfl)) (ee R0 R1 C0 C1 hl);have d2:=aw (κ:=k3) (ν:=id) (L:=L) (q:=(R,C,l)) (X:=dG k3 id L) W7 rfl (f6 (G:=G) (F:=F) (δ:=D) (n:=4) rfl) (dZ (v0 rfl) (sb rfl)) (ee R0 R1 C0 C1 JX);have c1:=b_eq d1 d2;by_cases q:bW (mf rows) (mf wr) (l+1) R C=bW (mf rows) (mf wr) l R C
  ·rw[show(id (bW (mf rows) (mf wr) (l+1) R C)==id (bW (mf rows) (mf wr) l R C))=true from g9.mpr q]at c1;obtain⟨p,e⟩:=gZ rc W w9 g0 n0 hn hm l R C JX R0 R1 C0 C1;have sf:=mO (F:=F) (δ:=D) (J0 rfl (bM _) (J0 rfl (bN _) (J0 rfl (bP _) rfl))) (f7 (v0 rfl) (f7 (sb rfl) i8)) rfl rfl e (W6 p);refine⟨p,mN (k:=k+l+5) (D8 (r6 c0) (Z1 (r6 c1) (n9 ?_))) (W6 p)⟩;have:=p6 (fu:=fu) sf;rw[fr_P]at this;exact this
  ·rw[show(id (bW (mf rows) (mf wr) (l+1) R C)==id (bW (mf rows) (mf wr) l R C))=false from A1.mpr q]at c1;have ne:wl R C≠[]:=λ z=>q (by
    show mxl (bW (mf rows) (mf wr) l R C) ((wl R C).map _)=_;rw[z];rfl)
   have parts:∀{w:Wy},w∈wl R C->(0<w.2.2.1.1/\w.2.2.1.1<2^n/\0<w.2.2.1.2/\w.2.2.1.2<2^m)/\0<w.2.2.2.1/\w.2.2.2.1<2^n/\0<w.2.2.2.2/\w.2.2.2.2<2^m:=λ h=>by rcases dU h with⟨g,s,rfl⟩ | ⟨g,s,rfl⟩<;>(have:=s.1;have:=s.2.1;dsimp only;omega)
   have sp:evE G F (.call 20 [.ix (.var 0) (.int 0),.ix (.var 0) (.int 1)]) D=some (.ok (.lst ((wl R C).map wD)) .fresh):=i7 (fr:=true) (l:=[(.int (R:Int),.strong),(.int (C:Int),.strong)]) (f7 (o7 (cx:=.strong) (v0 rfl) i3 rfl) (f7 (o7 (cx:=.strong) (v0 rfl) i3 rfl) i8)) rfl (mi (k:=k+l+3) JX JX);have hk:=mM (F:=F) (m:=.lam ⟨["way","numbers","left"],1,.call 27 [.var 1,.var 0,.bin .Sub (.var 2) (.int 1)],G.fnl,G.bll,G.cll⟩ [dG k3 id L,.int ((l+1:Nat):Int)]) (h:=wD) (g:=λ w=>bW (mf rows) (mf wr) l w.2.2.1.1 w.2.2.1.2+bW (mf rows) (mf wr) l w.2.2.2.1 w.2.2.2.2) (l:=wl R C) (λ w hw=>by
    obtain⟨⟨a1,a2,a3,a4⟩,b1,b2,b3,b4⟩:=parts hw;have nl:(wD w).nolam=true:=by rcases dU hw with⟨g,s,rfl⟩ | ⟨g,s,rfl⟩<;>rfl
    have s2:evE G (run G T fu (k+l+4)) (.bin .Sub (.var 2) (.int 1)) (([wD w]++[dG k3 id L,.int ((l+1:Nat):Int)]).map Sv.val)=some (.ok (.int (l:Int)) .strong):=(by have:=L5 (G:=G) (F:=run G T fu (k+l+4)) (δ:=([wD w]++[dG k3 id L,.int ((l+1:Nat):Int)]).map Sv.val) (a:=.var 2) (b:=.int 1) (f6 (d:=.int ((l+1:Nat):Int)) rfl) i3;rw[show((l+1:Nat):Int) - 1=(l:Int) by omega]at this;exact this);refine wA (k:=k+l+4) ⟨rfl,rfl,?_,?_⟩ (i7 (fr:=false) (l:=[(dG k3 id L,.strong),(wD w,.strong),(.int (l:Int),.strong)]) (f7 (f6 rfl) (f7 (f6 rfl) (f7 s2 i8))) rfl (wO (k:=k+l+3) (L:=L) rfl (ee a1 a2 a3 a4 JX) (ee b1 b2 b3 b4 JX))) rfl
    ·show((wD w).nolam&&true)=true;rw[nl];rfl
    ·show((dG k3 id L).nolam&&true)=true;rw[bP];rfl)
   obtain⟨i,hi,hil,hmx⟩:=wG (ks:=(wl R C).map λ w=>bW (mf rows) (mf wr) l w.2.2.1.1 w.2.2.1.2+bW (mf rows) (mf wr) l w.2.2.2.1 w.2.2.2.2) (λ z=>ne (bU.mp z));rw[g7]at hil;obtain⟨w,hw⟩:∃w,(wl R C)[i]? = some w:=⟨_,n6 hil⟩;have hwm:=K1 hw;obtain⟨⟨a1,a2,a3,a4⟩,b1,b2,b3,b4⟩:=parts hwm;have mk:=wF sp (J0 (i:=4) (r:=[1]) rfl (bP _) (J0 (i:=1) (r:=[]) rfl rfl rfl)) hk hi (by rw[p5,hw];rfl);obtain⟨p1,e1⟩:=gZ rc W w9 g0 n0 hn hm l w.2.2.1.1 w.2.2.1.2 JX a1 a2 a3 a4;obtain⟨p2,e2⟩:=gZ rc W w9 g0 n0 hn hm l w.2.2.2.1 w.2.2.2.2 JX b1 b2 b3 b4
   let D2:on Sv:=D.set 5 (.val (wD w))
   have w5:∀{y:Int} {d:DV},ixD (wD w) (.int y)=some d->evE G F (.ix (.var 5) (.int y)) D2=some (.ok d .strong):=λ h=>o7 (cx:=.strong) (f6 rfl) i3 h;have cp:capD D2 [2,3,4]=some (cps B n m rows wr):=J0 rfl (bM _) (J0 rfl (bN _) (J0 rfl (bP _) rfl));have f1:=mO (F:=F) cp (f7 (w5 (y:=2) rfl) (f7 (sb (D':=D2) rfl) i8)) rfl rfl e1 (W6 p1);have f2:=mO (F:=F) cp (f7 (w5 (y:=3) rfl) (f7 (sb (D':=D2) rfl) i8)) rfl rfl e2 (W6 p2);have fin:∀s:Bool,w.1=sd s->∃p:Pn,run G T fu (k+(l+1)+5) D7 (pt R C :: .int ((l+1:Nat):Int)::cps B n m rows wr)=some (.v p.D false):=λ s hs=>by refine⟨.ask s w.2.1 p1 p2,mN (k:=k+l+5) (D8 (r6 c0) (D8 (r6 c1) (i4 (n5 mk (by rcases dU hwm with⟨g,s,rfl⟩ | ⟨g,s,rfl⟩<;>rfl)) (n9 (p6 (cl:=.strong) (mJ ?_ (w5 rfl) f1 f2)))))) (W6 _)⟩;rw[show side s=w.1 from hs.symm];exact w5 (y:=0) rfl
   rcases dU hwm with⟨g,s,rfl⟩ | ⟨g,s,rfl⟩
   ·exact fin true rfl
   ·exact fin false rfl
def wQ(b:Rect n m rows)(W:Rect n m wr)(g:W9 rows)(v:∀i j,0<=mf wr i j)(a:0<n)(s:n<=4)(q:0<m)(u:m<=4)(w:B<=4):∃p:Pn,run G T fu (k+10) 25 [tT rows,rL wr,.int (B:Int)]=some (.v (.tup [.int (bW (mf rows) (mf wr) B (2^n - 1) (2^m - 1)),p.D]) false):=by
 have pn:2<=2^n:=K2 (n:=2) JY a;have pm:2<=2^m:=K2 (n:=2) JY q;obtain⟨p,e⟩:=gZ (fu:=fu) (k:=k+4 - B) (B:=B) b W g v a s u B (2^n - 1) (2^m - 1) (i6 _) JX JX JX JX;rw[show k+4 - B+B+5=k+9 by omega]at e;have C:=Jj (fu:=fu) (k:=k+4) b W g v a s u w;refine⟨p,?_⟩;rw[o8 rfl rfl]
 let F:=run G T fu (k+9)
 let c:on Sv:=[.val (tT rows),.val (rL wr),.val (.int (B:Int)),.val (dG k3 id (fw B n m rows wr)),.val (pt (2^n - 1) (2^m - 1)),.no]
 have o:∀{e:ME} {x:Nat} {f:on Sv},x<=8->0<x->evE G F e f=some (.ok (.int (x:Int)) .strong)->evE G F (.bin .Sub (.bin .LShift (.int 1) e) (.int 1)) f=some (.ok (.int ((2^x - 1:Nat):Int)) .strong):=λ {e x f} h8 x0 h=>by have:=L5 (dQ h JX) (i3 (G:=G) (F:=F) (i:=1));have p1:1<=2^x:=X6;rw[show((2^x:Nat):Int) - 1=((2^x - 1:Nat):Int) by omega]at this;exact this
 have z:capD c [0,1,3]=some (cps B n m rows wr):=J0 rfl (bM _) (J0 rfl (bN _) (J0 rfl (bP _) rfl));have y:evS G F fu (.dfr 5 [0,1,3] (.dix (.var 3) (.bin .Add (.var 4) (.tup [.var 2]))) [.var 4,.var 2]) c=some (.rt (.tup [.int (bW (mf rows) (mf wr) B (2^n - 1) (2^m - 1)),p.D]) false):=by
  show dfrS G F [0,1,3] _ _ (capD c [0,1,3]) c[5]? = _;rw[(aw W7 rfl (f6 rfl) (dZ (f6 rfl) (f6 rfl)) (ee JX JX JX JX (i6 _))),(f7 (f6 rfl) (f7 (f6 rfl) i8)),z];have A:M7 F 2 (cps B n m rows wr) [(pt (2^n - 1) (2^m - 1),.strong),(.int (B:Int),.strong)]=some (.ok p.D .strong):=by unfold M7;rw[f8 ⟨rfl,rfl⟩];show(match F D7 (pt (2^n - 1) (2^m - 1) :: .int (B:Int)::cps B n m rows wr)with | some (.v d false)=>if d.nolam then some (Re.ok d .strong)else none | _=>none)=_;rw[show F D7 _=_ from e];exact f8 (W6 p)
  show(((M7 F 2 (cps B n m rows wr) [(pt (2^n - 1) (2^m - 1),.strong),(.int (B:Int),.strong)]).bind λ r=>(match r with
   | .ok d _=>some (Re.ok (.tup [.int (id (bW (mf rows) (mf wr) B (2^n - 1) (2^m - 1))),d]) .strong))).bind λ r=>(match r with
   | .ok d _=>some (Out.rt d false)))=_
  rw[A];rfl
 exact o9 (i4 (n5 (i7 (fr:=false) (l:=[(tT rows,.strong),(rL wr,.strong),(.int (B:Int),.strong)]) rfl rfl C) rfl) (i4 (n5 (F7 (f7 (o JX a (lenT b (f6 rfl))) (f7 (o JX q (W4 b a (f6 rfl))) i8)) (show 2<=m9 by decide) rfl) rfl) (n9 y)))
def hE:∀n,n<=5->cs (2^n - 1)=List.range n:=by decide +kernel
def wR(a:n<=5)(b:m<=5):sm2 (2^n - 1) (2^m - 1) f=sum2 n m f:=by
 unfold sm2 sum2;rw[hE n a,hE m b]
def Jl(h:a<=b):bW f g a R C<=bW f g b R C:=by
 induction h with
 | refl=>exact E3 _
 | step _ c=>exact w4 c (bJ ..)
def Pn.lft(a b:Nat->Nat):Pn->Pn
 | .fin w=>.fin w
 | .ask s c n y=>.ask s (bs 8 λ i=>c.testBit (if s then a i else b i)) (n.lft a b) (y.lft a b)
theorem mP(a b:Nat->Nat):∀p:Pn,(p.lft a b).deep=p.deep
 | .fin _=>rfl
 | .ask _ _ n y=>by show 1+max (n.lft a b).deep (y.lft a b).deep=1+max n.deep y.deep;rw[mP a b n,mP a b y]
theorem mQ(e:i<8)(d:j<8):∀p:Pn,(p.lft a b).rch i j=p.rch (a i) (b j)
 | .fin _=>rfl
 | .ask s c n y=>by
  show(if(bs 8 λ i=>c.testBit _).testBit (if s then i else j)then(y.lft a b).rch i j else(n.lft a b).rch i j)=if c.testBit (if s then a i else b j)then y.rch (a i) (b j)else n.rch (a i) (b j)
  rw[vw,mQ e d n,mQ e d y];cases s<;>simp[e,d]
def mR(b:Rect n m rows)(a:W9 rows)(f:∀i j,0<=mf wr i j)(hn:n<=4)(hm:m<=4)(c:p.deep<=B):rw2 n m rows wr p<=bW (mf rows) (mf wr) B (2^n - 1) (2^m - 1):=by
 have pn:=p32 (n:=n) JX;have pm:=p32 (n:=m) JX;have n1:1<=2^n:=X6;have m1:1<=2^m:=X6;unfold rw2;rw[←wR JX JX];exact IA f (λ i e j d=>bD b a (N3 JX e) (N3 JX d)) p B c _ _ JX JX (λ _ h=>h) (λ _ h=>h)
def wT(a:∀i j,0<=mf wr i j)(hn:n<=4)(hm:m<=4):bW (mf rows) (mf wr) B (2^n - 1) (2^m - 1)<=sum2 n m (mf wr):=by
 have pn:=p32 (n:=n) JX;have pm:=p32 (n:=m) JX;have n1:1<=2^n:=X6;have m1:1<=2^m:=X6;rw[←wR JX JX];exact bL a B JX JX
def Jm(a:Rect n m rows)(g:W9 rows)(l:∀i j,0<=mf wr i j)(q:0<n)(d:n<=4)(r:0<m)(e:m<=4)(h:V jB (mf (rst m rows)) (2^(FI rows).length - 1) (2^(FI (flip m rows)).length - 1)<=B):bW (mf rows) (mf wr) B (2^n - 1) (2^m - 1)=sum2 n m (mf wr):=by
 have f:=aq a;have a1:=i9 (bB rows) (by rw[a.1];exact d);have b1:=i9 (bB _) (by rw[f.1];exact e);have pa:=p32 (n:=(FI rows).length) JX;have pb:=p32 (n:=(FI (flip m rows)).length) JX;have qa:=K2 (n:=2) JY (W1 (by rw[a.1];exact q));have qb:=K2 (n:=2) JY (W1 (by rw[f.1];exact r));obtain⟨p,o,k⟩:=V_ex _ (2^(FI rows).length - 1) (2^(FI (flip m rows)).length - 1) (i6 _) JX JX JX JX λ i c j b=>bD vo (vp a g) (N3 JX c) (N3 JX b);rw[hE _ JX,hE _ JX]at k;refine cj (wT l d e) (w4 (M3 ?_) (mR (p:=p.lft (kx rows) (kx (flip m rows))) a g l d e (by rw[mP,o];exact h)));refine dY λ i c j b=>?_;rw[mQ JX JX,k _ (o4.mpr (gM (by rw[a.1];exact c))) _ (o4.mpr (gM (by rw[f.1];exact b))),Ir a c b,f8 rfl]
def Jn:∀(l:on (on Int)) (m:Nat),(∀r∈l,r.length=m)->(l.map List.sum).sum=sum2 l.length m (mf l):=by
 have one:∀r:on Int,r.sum=((List.range r.length).map λ j=>r.getD j 0).sum:=λ r=>by
  congr 1
  refine List.ext_getElem (by rw[g7,u8]) λ i a c=>?_;rw[ce,List.getElem_range,r9,n6 a];rfl
 intro l m h;unfold sum2
 congr 1
 refine List.ext_getElem (by rw[g7,g7,u8]) λ i a c=>?_;rw[ce,ce,List.getElem_range];have b:i<l.length:=by rw[g7]at a;exact a
 have e:l.getD i []=l[i]:=by rw[r9,n6 b];rfl
 rw[one,(h l[i] (T7 b))];unfold mf;rw[e]
def wU(W:Rect n m wr)(n8:n<=8)(h:δ[i]? = some (.val (rL wr))):evE G F (.bi .sum [.comp (.bi .sum [.var 0]) (.one 0) (.var i) [none]]) δ=some (.ok (.int (sum2 n m (mf wr))) .strong):=by
 have a:=ay (F:=F) (elt:=.bi .sum [.var 0]) (tg:=.one 0) (fr:=[none]) (by rw[f6 h];rfl) JY (by rw[W.1];omega) λ r hr=>⟨[.val _],.strong,rfl,gX (f6 rfl),rfl⟩;have:=gX (by rw[a];unfold iD;rw[r3];rfl);rw[Jn wr m W.2,W.1]at this;exact this
def b_ge(d:Ka a cx (.int i))(c:Ka b cy (.int j)):evE G F (.cmp .GtE a b) δ=some (.ok (.bl (decide (j<=i))) .strong):=G5 d c rfl
def Jo(d:Rect n m rows)(W:Rect n m wr)(s:W9 rows)(y:∀i j,0<=mf wr i j)(u:0<n)(o:n<=4)(w:0<m)(r:m<=4)(Y:B<=4):run G T fu (k+11) 44 [tT rows,rL wr,.int (B:Int)]=some (.v (.int (bW (mf rows) (mf wr) B (2^n - 1) (2^m - 1))) false):=by
 have Z:=aq d;have a1:=i9 (bB rows) (by rw[d.1];exact o);have b1:=i9 (bB _) (by rw[Z.1];exact r);obtain⟨e,J,I,H⟩:∃e:Nat,e<=4/\B<=e/\(if((B:Int)+1)<4 then(B:Int)+1 else 4)=(e:Int):=⟨min 4 (B+1),by omega,by omega,by split<;>omega⟩;obtain⟨p,Q⟩:=wQ (fu:=fu) (k:=k) d W s y u o w r Y;obtain⟨U,P⟩:=wQ (fu:=fu) (k:=k) d W s y u o w r J;have O:=Iq (fu:=fu) (k:=k+1) rows n m d s u JX w JX JX JX;have E:=Jm (B:=B) d s y u o w r;have h:=Jl (f:=mf rows) (g:=mf wr) (R:=2^n - 1) (C:=2^m - 1) I;have A:=wT (rows:=rows) (B:=e) y o r;generalize hb:bW (mf rows) (mf wr) B (2^n - 1) (2^m - 1)=b at Q E h;generalize bW (mf rows) (mf wr) e (2^n - 1) (2^m - 1)=b' at P h A;generalize V jB (mf (rst m rows)) _ _=v at O E;rw[o8 rfl rfl]
 let F:=run G T fu (k+10)
 let D:on Sv:=[.val (tT rows),.val (rL wr),.val (.int (B:Int)),.val (.tup [.int b,p.D]),.val (.tup [.int b',U.D]),.val (.int (sum2 n m (mf wr)))]
 have z:evE G F (.ix (.var 3) (.int 0)) D=some (.ok (.int b) .strong):=o7 (cx:=.strong) (f6 rfl) i3 rfl;have K:evE G F (.ix (.var 4) (.int 0)) D=some (.ok (.int b') .strong):=o7 (cx:=.strong) (f6 rfl) i3 rfl;have M:=b_gt z K;have L:=b_gt K (f6 (G:=G) (F:=F) (δ:=D) (n:=5) rfl);rw[A7 JX]at M L;have x:=b_ge (f6 (G:=G) (F:=F) (δ:=D) (n:=2) rfl) (i7 (G:=G) (F:=F) (δ:=D) (fr:=false) (f:=34) (es:=[.var 0]) (l:=[(tT rows,.strong)]) rfl rfl O);have N:=b_ne z (f6 (G:=G) (F:=F) (δ:=D) (n:=5) rfl);have S:tstD (evE G F (.and [.cmp .GtE (.var 2) (.call 34 [.var 0]),.cmp .NotEq (.ix (.var 3) (.int 0)) (.var 5)]) D)=some (.ok false):=by
  by_cases q:((v:Nat):Int)<=(B:Int)
  ·rw[B1 q]at x;rw[E JX,bne_self_eq_false]at N;exact r6 (zY x N)
  ·rw[A7 q]at x;exact r6 (ma x)
 exact o9 (i4 (n5 (i7 (fr:=false) (l:=[(tT rows,.strong),(rL wr,.strong),(.int (B:Int),.strong)]) rfl rfl Q) rfl) (i4 (n5 (i7 (fr:=false) (f7 (f6 rfl) (f7 (f6 rfl) (f7 ((by rw[gE (f7 i3 (f7 (D0 (f6 rfl) i3) i8)),←H];rfl)) i8))) rfl P) rfl) (i4 (n5 (wU (i:=1) W JX rfl) rfl) (D8 (r6 (fN M L)) (D8 S (n9 (p6 (cl:=.strong) z)))))))
def Jp(x:Int):∃a:Int,0<a/\a<=100/\ixD (.lst [.int 2,.int 100,.int 100,.int 7]) (.int (x%4))=some (.int a):=by
 have:x%4=0\/x%4=1\/x%4=2\/x%4=3:=by omega
 rcases this with h | h | h | h<;>rw[h]
 ·exact⟨2,by decide,by decide,rfl⟩
 ·exact⟨100,by decide,by decide,rfl⟩
 ·exact⟨100,by decide,by decide,rfl⟩
 ·exact⟨7,by decide,by decide,rfl⟩
def Jq(u:Rect n m rows)(A:0<n)(hn:n<=4)(hm:m<=4)(c:Int):∃wr:on (on Int),Rect n m wr/\(∀i j,0<=mf wr i j/\mf wr i j<100)/\run G T fu (k+2) 43 [tT rows,.int c]=some (.v (rL wr) true):=by
 obtain⟨g,E,z⟩:=bF (fu:=fu) (k:=k) c 17 JY;obtain⟨a,J⟩:=dR (xs:=g) (i:=16) JX (by rw[E];omega);obtain⟨b,h,x,ht⟩:=Jp a
 let wr:on (on Int):=(List.range n).map λ i=>(List.range m).map λ j=>g.getD (4*i+j) 0%b
 have C:∀y:Int,0<=y%b/\y%b<100:=λ y=>⟨iT y JX,by have:=iz y h;omega⟩;refine⟨wr,⟨by rw[g7,u8],λ r H=>by
  obtain⟨i,_,rfl⟩:=k9.mp H;rw[g7,u8]⟩,λ i j=>?_,?_⟩
 ·show 0<=(wr.getD i []).getD j 0/\(wr.getD i []).getD j 0<100;by_cases o:i<n
  ·have e:wr.getD i []=(List.range m).map λ j=>g.getD (4*i+j) 0%b:=by rw[r9,p5,aE o];rfl
   rw[e];by_cases s:j<m
   ·rw[r9,p5,aE s];exact C _
   ·rw[r9,p5,Q9 (by rw[u8];omega)];exact(show(0:Int)<=0/\(0:Int)<100 by decide)
  ·rw[r9 (l:=wr),p5,Q9 (by rw[u8];omega)];show 0<=([]:on Int).getD j 0/\_;simp
 ·rw[o8 (fd:=tQ) rfl rfl]
  let D:on Sv:=[.val (tT rows),.val (.int c),.val (.lst (g.map DV.int)),.val (.int b)]
  have p:∀i,i<n->evE G (run G T fu (k+1)) (.comp (.bin .Mod (.ix (.var 1) (.bin .Add (.bin .Mult (.int 4) (.var 2)) (.var 0))) (.var 3)) (.one 0) (.rng [.bi .len [.ix (.var 1) (.int 0)]]) [none,some 2,some 0,some 3]) [.val (.int (i:Int)),.val (tT rows),.val (.lst (g.map DV.int)),.val (.int b)]=some (.ok (.lst (iD ((List.range m).map λ j=>g.getD (4*i+j) 0%b))) .fresh):=λ i o=>by
   have q:=ay (F:=run G T fu (k+1)) (δ:=[.val (.int (i:Int)),.val (tT rows),.val (.lst (g.map DV.int)),.val (.int b)]) (l:=List.range m) (f:=λ (j:Nat)=>.int (g.getD (4*i+j) 0%b)) (elt:=.bin .Mod (.ix (.var 1) (.bin .Add (.bin .Mult (.int 4) (.var 2)) (.var 0))) (.var 3)) (tg:=.one 0) (it:=.rng [.bi .len [.ix (.var 1) (.int 0)]]) (fr:=[none,some 2,some 0,some 3]) (cl:=.fresh) (Q3 (W4 u A (f6 rfl)) JX) JY (by rw[u8];omega) λ j s=>by
    have I:=o4.mp s;rw[show(0:Int)+(j:Int)=(j:Int) by omega];have v:4*i+j<g.length:=by omega
    have B:E8 4 (i:Int)=true:=by unfold E8;simp
    refine⟨[.val (.int (j:Int)),.val (.lst (g.map DV.int)),.val (.int (i:Int)),.val (.int b)],.strong,rfl,D1 (o7 (cx:=.strong) (f6 rfl) (D0 (F1 i3 (f6 rfl) B) (f6 rfl)) ?_) (f6 rfl) h,rfl⟩;rw[show(4:Int)*(i:Int)+(j:Int)=((4*i+j:Nat):Int) by push_cast;rfl,pC v,r9,n6 v];rfl
   rw[q];unfold iD;rw[r3];rfl
  have w:=ay (F:=run G T fu (k+1)) (δ:=D) (l:=List.range n) (tg:=.one 0) (it:=.rng [.bi .len [.var 0]]) (fr:=[none,some 0,some 2,some 3]) (cl:=.fresh) (Q3 (lenT u (f6 rfl)) JX) JY (by rw[u8];omega) λ i o=>by rw[show(0:Int)+(i:Int)=(i:Int) by omega];exact⟨_,.fresh,rfl,p i (o4.mp o),rfl⟩
  rw[show((List.range n).map λ (i:Nat)=>DV.lst (iD ((List.range m).map λ j=>g.getD (4*i+j) 0%b)))=wr.map λ r=>.lst (iD r) by rw[r3];rfl]at w;exact o9 (i4 (n5 (cl:=.fresh) (i7 (fr:=true) (l:=[(.int c,.strong),(.int ((17:Nat):Int),.strong)]) rfl rfl z) rfl) (i4 (n5 (d:=.int b) (cl:=.strong) (o7 (cx:=.fresh) rfl (D1 (J (f6 rfl)) i3 JY) ht) rfl) (n9 (p6 w))))
def Jr{ws:on Int}(hw:0<ws.length)(c:Int)(hB:B<=4):∃p:Pn,p.deep<=B/\run G T fu (k+6) 42 [.int c,.int (B:Int),.lst (ws.map DV.int)]=some (.v p.D false):=by
 obtain⟨b,u,m⟩:=bF c 61 JY;obtain⟨a,v⟩:=dR (i:=60) JX (by rw[u];omega);obtain⟨p,d,s⟩:=mK (xs:=b) JX (k+5) B 0 JX;have d:p.deep<=B:=d;obtain⟨q,f,o⟩:=mL hw p (k+5) (by show p.deep<_;omega);have f:q.deep<=p.deep:=f;have t:=b_eq (D1 (v (f6 (G:=G) (F:=run G T fu (k+5)) (δ:=[.val (.int c),.val (.int (B:Int)),.val (.lst (ws.map DV.int)),.val (.lst (b.map DV.int)),.val p.D]) (n:=3) rfl)) (i3 (i:=5)) JY) (i3 (i:=0));have g:∀r:Pn,evSs G (run G T fu (k+5)) fu [.iff (.cmp .Eq (.bin .Mod (.ix (.var 3) (.int 60)) (.int 5)) (.int 0)) [.ret (.var 4)] [],.ret (.call 41 [.var 4,.var 2])] [.val (.int c),.val (.int (B:Int)),.val (.lst (ws.map DV.int)),.val (.lst (b.map DV.int)),.val p.D]=some (.rt r.D false)->run G T fu (k+6) 42 [.int c,.int (B:Int),.lst (ws.map DV.int)]=some (.v r.D false):=λ r h=>by rw[o8 rfl rfl];exact o9 (i4 (n5 (cl:=.fresh) (i7 (fr:=true) (l:=[(.int c,.strong),(.int ((61:Nat):Int),.strong)]) rfl rfl m) rfl) (i4 (n5 (i7 (fr:=false) (l:=[(.lst (b.map DV.int),.strong),(.int 0,.strong),(.int (B:Int),.strong)]) rfl rfl s) rfl) h))
 have j:∀{e:ME} {r:Pn} {δ:on Sv},evE G (run G T fu (k+5)) e δ=some (.ok r.D .strong)->evS G (run G T fu (k+5)) fu (.ret e) δ=some (.rt r.D false):=λ h=>by have:=p6 (fu:=fu) h;rw[fr_P]at this;exact this
 cases z:a%5==0 with
 | true=>
  rw[z]at t;exact⟨p,d,g p (Z1 (r6 t) (n9 (j (f6 rfl))))⟩
 | false=>
  rw[z]at t;exact⟨q,by omega,g q (D8 (r6 t) (n9 (j (i7 (fr:=false) (l:=[(p.D,.strong),(.lst (ws.map DV.int),.strong)]) rfl rfl o))))⟩
end k63
end
noncomputable section
namespace k63
open PySem L2
variable {fu k:Nat} {F:Nat->on DV->JF Ou} {δ:on Sv} {ds:on DV} {cl:Cl} {n m R C B:Nat} {rows wr:on (on Int)} {M:Mz}
def Okm(B:Nat)(M:Mz):Prop:=∀p∈M,p.2.deep<=B/\1<=p.1/\p.1<=6
def hL(p:Nat×Pn)(M:Mz):tot (p::M)=p.1+tot M:=by unfold tot;rw[o5,A6]
theorem az:∀{M:Mz},Okm B M->M.length<=tot M/\tot M<=6*M.length
 | [],_=>⟨i6 _,i6 _⟩
 | p::M,h=>by have h1:=h p (k8 ..);have h2:=az λ q a=>h q (k5 _ a);rw[hL,p9];omega
def wV(h:Okm B M)(hB:B<=4)(h0:0<M.length)(hl:M.length<=20):Mix fu M where
 len:=by omega
 low:=λ p a=>by have:=(h p a).1;show p.2.deep<=100;omega
 pos:=by have:=az h;omega
 top:=M0 (show tot M<=120 by have:=az h;omega) JY
theorem mT(i j:Nat):∀M:Mz,(rf rows M i j:Int)=(M.map λ p=>if(p.2.rch i j==mf rows i j)=true then(p.1:Int)else 0).sum
 | []=>rfl
 | p::M=>by
  rw[o5,A6,←mT i j M];unfold rf rgt;rw[M1];split
  ·rw[hL];push_cast;rfl
  ·rw[jh]
def Js(wr:on (on Int))(M:Mz):sum2 n m (λ i j=>mf wr i j*(rf rows M i j:Int))=(M.map λ p=>(p.1:Int)*rw2 n m rows wr p.2).sum:=by
 rw[show(λ i j=>mf wr i j*_)=λ i j=>mf wr i j*(M.map λ p=>if(p.2.rch i j==mf rows i j)=true then(p.1:Int)else 0).sum from funext λ i=>funext λ j=>by rw[mT],(exch (λ p:Nat×Pn=>(p.1:Int)) (λ p i j=>p.2.rch i j==mf rows i j) M)]
 congr 1
 refine K4 λ p _=>?_;unfold rw2
 congr 1
 refine dY λ i _ j _=>?_;simp only[g9]
def Ju(h:evE G F e δ=some (.ok (.tup [x,y]) .strong)):evS G F fu (.sett [i,j] e) δ=some (.nx ((δ.set i (.val x)).set j (.val y))):=by
 show Re.thnS δ _ _=_;rw[h];rfl
abbrev mS(rows wr:on (on Int))(M:Mz)(t:Int)(a b x y:Sv):on Sv:=[.val (tT rows),.val (rL wr),.val (mxD M),.val (.int (tot M:Int)),.val (.int t),a,b,x,y]
noncomputable def mB:on MS:=[.sett [7,8] (.call 30 [.var 0,.var 2,.var 5,.var 6]),.set 4 false (.bin .Add (.var 4) (.bin .Mult (.bin .Mult (.ix (.ix (.var 1) (.var 5)) (.var 6)) (.var 7)) (.bin .FloorDiv (.var 3) (.var 8))))]
def mU{j:Nat}(h:j<=120):E8 i (j:Int)=true:=bE JX JX
def Jv(q:Rect n m rows)(W:Rect n m wr)(r:∀i j,0<=mf wr i j/\mf wr i j<100)(f:Mix fu M)(ht:tot M<=120)(s:400<=fu)(d:i<n)(c:j<m)(t:Int)(x y:Sv):∃o h,evSs G (run G T fu (k+4)) fu mB (mS rows wr M t (JZ (i:Int)) (JZ (j:Int)) x y)=some (.nx (mS rows wr M (t+mf wr i j*(rf rows M i j:Int)) (JZ (i:Int)) (JZ (j:Int)) o h)):=by
 have e:=IK (k:=k) q d c f s;have p:rf rows M i j<=tot M:=ax _ M;have b:=f.pos;have v:0<Nat.gcd (rf rows M i j) (tot M):=ic _ b;have u:=iM (rf rows M i j) (tot M);have g:=iG (rf rows M i j) (tot M);have a:rf rows M i j/Nat.gcd (rf rows M i j) (tot M)<=rf rows M i j:=cn ..;have w:mf wr i j*((rf rows M i j/Nat.gcd (rf rows M i j) (tot M):Nat):Int)*((tot M/(tot M/Nat.gcd (rf rows M i j) (tot M)):Nat):Int)=mf wr i j*(rf rows M i j:Int):=(by rw[Nat.div_div_self g JX,cA,←Int.natCast_mul,bY u]);have hh:=r i j;rw[←w];exact⟨_,_,i4 (Ju (i7 (fr:=false) (l:=[(tT rows,.strong),(mxD M,.strong),(.int (i:Int),.strong),(.int (j:Int),.strong)]) rfl rfl e)) (i4 (n5 (D0 (f6 rfl) (F1 (F1 (mF W (f6 rfl) (f6 rfl) (f6 rfl) d c) (f6 rfl) (mU (i9 a (i9 p ht)))) (vR (f6 rfl) (f6 rfl) (Nat.div_pos (Nat.le_of_dvd b g) v) (M0 (i9 (cn ..) ht) JY)) (mU (i9 (cn ..) ht)))) rfl) rfl)⟩
def Jw(g:Rect n m rows)(W:Rect n m wr)(J:∀i j,0<=mf wr i j/\mf wr i j<100)(z:0<n)(hn:n<=4)(hm:m<=4)(ok:Okm B M)(N:B<=4)(O:0<M.length)(E:M.length<=20)(K:400<=fu):run G T fu (k+5) 45 [tT rows,rL wr,mxD M,.int (tot M:Int)]=some (.v (.bl true) false):=by
 have L:Mix fu M:=wV ok N O E;have ht:tot M<=120:=by have:=az ok;omega
 rw[o8 (fd:=tR) rfl rfl];have u:∀i,i<n->∀t b x y,∃f,q0 (.one 6) (λ f=>evSs G (run G T fu (k+4)) fu mB f) (upTo 0 m) (mS rows wr M t (JZ (i:Int)) b x y)=some (.nx f)/\∃b x y,f=mS rows wr M (t+su (λ j=>mf wr i j*(rf rows M i j:Int)) m) (JZ (i:Int)) b x y:=λ i v t b x y=>by refine M8 (i:=6) (I:=λ j f=>∃b x y,f=mS rows wr M (t+su (λ j=>mf wr i j*(rf rows M i j:Int)) j) (JZ (i:Int)) b x y) m 0 (λ j H w I=>?_) ⟨b,x,y,by rw[show su _ 0=0 from rfl,fj]⟩;obtain⟨b,x,y,rfl⟩:=I;rw[show(0:Int)+(j:Int)=j by omega];obtain⟨s,r,e⟩:=Jv (fu:=fu) (k:=k) g W J L ht K v H _ x y;exact⟨_,e,_,s,r,by rw[gW,iY]⟩
 have A:=M8 (i:=5) (I:=λ i f=>∃a b x y,f=mS rows wr M (su (λ i=>su (λ j=>mf wr i j*(rf rows M i j:Int)) m) i) a b x y) (body:=λ f=>evSs G (run G T fu (k+4)) fu [.fo (.one 6) (.rng [.bi .len [.ix (.var 0) (.int 0)]]) mB] f) n 0
  (λ i v w I=>by
   obtain⟨a,b,x,y,rfl⟩:=I;rw[show(0:Int)+(i:Int)=i by omega];obtain⟨f,e,Q,s,r,rfl⟩:=u i v _ b x y;exact⟨_,B6 (Q3 (n:=m) (W4 g z (f6 rfl)) JX) (.inr rfl) e rfl,_,Q,s,r,by rw[gW]⟩) ⟨.no,.no,.no,.no,rfl⟩
 obtain⟨f,e,a,b,x,y,rfl⟩:=A;have P:=ay (F:=run G T fu (k+4)) (δ:=mS rows wr M (su (λ i=>su (λ j=>mf wr i j*(rf rows M i j:Int)) m) n) a b x y) (l:=M) (h:=pr) (elt:=.bin .Mult (.var 0) (.call 24 [.var 2,.var 3,.var 1])) (tg:=.many [0,1]) (it:=.var 2) (fr:=[none,none,some 0,some 1]) (cl:=.strong) rfl JY JX λ p C=>by
  have h1:=ok p C;have o:E8 (p.1:Int) (rw2 n m rows wr p.2)=true:=by unfold E8;simp;omega
  exact⟨[.val (.int (p.1:Int)),.val p.2.D,.val (tT rows),.val (rL wr)],.strong,rfl,F1 (f6 rfl) (i7 (fr:=false) rfl rfl (mG (k:=k+1) g W JX JX JX JX)) o,rfl⟩
 have sm:=gX (c:=.fresh) (by rw[P];unfold iD;rw[r3];rfl);rw[←Js]at sm;have q:=b_eq (f6 (G:=G) (F:=run G T fu (k+4)) (δ:=mS rows wr M (su (λ i=>su (λ j=>mf wr i j*(rf rows M i j:Int)) m) n) a b x y) (n:=4) rfl) sm;rw[show(su (λ i=>su (λ j=>mf wr i j*(rf rows M i j:Int)) m) n==sum2 n m λ i j=>mf wr i j*(rf rows M i j:Int))=true from g9.mpr rfl]at q;exact o9 (i4 (n5 (d:=.int 0) (cl:=.strong) rfl rfl) (B6 (Q3 (n:=n) (lenT g (f6 rfl)) JX) (.inr rfl) e (n9 (p6 (cl:=.strong) q))))
theorem mV:∀(l:on Tr) (p:Tr),(E9 p l).1<=p.1/\∀q∈l,(E9 p l).1<=q.1
 | [],p=>⟨E3 _,λ q h=>(nomatch h)⟩
 | x::l,p=>by
  have a:=mV l (if ltT x p then x else p);have h:(if ltT x p then x else p).1<=p.1/\(if ltT x p then x else p).1<=x.1:=by
   cases q:ltT x p with
   | true=>
    rw[f8 rfl];unfold ltT at q;simp only[B5,g6,A5,g9]at q;exact⟨by omega,E3 _⟩
   | false=>
    rw[g8 z7];unfold ltT at q;simp only[N5,ig]at q;exact⟨E3 _,by omega⟩
  show(E9 _ l).1<=p.1/\∀q∈x::l,(E9 _ l).1<=q.1;refine⟨w4 a.1 h.1,λ q b=>?_⟩;rcases i5.mp b with rfl | b
  ·exact w4 a.1 h.2
  ·exact a.2 q b
def wW(e:lst3 (tall f m n)=((f i j:Int),(i:Int),(j:Int)))(g:b<n)(d:a<m):f i j<=f b a:=by
 have c:_∈tall f m n:=eP.mpr ⟨b,o4.mpr g,k9.mpr ⟨a,o4.mpr d,rfl⟩⟩;have:(lst3 (tall f m n)).1<=(f b a:Int):=by
  cases h:tall f m n with
  | nil=>rw[h]at c;cases c
  | cons p r=>
   rw[h]at c;show(E9 p r).1<=_;rcases i5.mp c with q | q
   ·rw[←q];exact(mV r _).1
   ·exact(mV r p).2 _ q
 rw[e]at this;exact jk.mp this
theorem wX:∀{M:Mz},(∀p∈M,1<=p.1)->(tot (M.filter q)=tot M↔∀p∈M,q p=true)
 | [],_=>⟨λ _ p h=>(nomatch h),λ _=>rfl⟩
 | p::M,h=>by
  have h1:=h p (k8 ..);have b:=wX (q:=q) λ p c=>h p (k5 _ c);have le:=ax q M;rw[M1,hL];cases e:q p with
  | true=>
   rw[f8 rfl,hL];refine⟨λ z x a=>?_,λ z=>by rw[b.mpr λ x a=>z x (k5 _ a)]⟩;rcases i5.mp a with rfl | a
   ·exact e
   ·exact b.mp JX x a
  | false=>
   rw[g8 z7];exact⟨λ z=>by omega,λ z=>by have:=z p (k8 ..);rw[e]at this;cases this⟩
def Jx(b0:0<b):((t/Nat.gcd t b:Nat):Int)=((b/Nat.gcd t b:Nat):Int)↔t=b:=by
 constructor
 ·intro h;rw[←(bY (iM t b)),Y5 h,(bY (iG t b))]
 ·intro h;subst h;rfl
abbrev ones(n m:Nat):on (on Int):=List.replicate n (List.replicate m 1)
def Jy:Rect n m (ones n m):=⟨aC,λ r a=>by rw[List.eq_of_mem_replicate a];exact aC⟩
def Jz(b:i<n)(a:j<m):mf (ones n m) i j=1:=by
 unfold mf;rw[r9 (l:=ones n m),X3,f8 b];show(List.replicate m _).getD j 0=1;rw[r9,X3,f8 a];rfl
def wY(l:on Nat):(l.map λ _=>(1:Int)).sum=(l.length:Nat):=by
 induction l with
 | nil=>rfl
 | cons a l b=>rw[o5,A6,b,p9];omega
def wZ(p:Pn):rw2 n m rows (ones n m) p=((n*m:Nat):Int)↔∀i,i<n->∀j,j<m->p.rch i j=mf rows i j:=by
 have e:rw2 n m rows (ones n m) p=sum2 n m λ i j=>if p.rch i j=mf rows i j then 1 else 0:=dY λ i o j k=>by rw[Jz o k]
 have s:sum2 n m (λ _ _=>1)=((n*m:Nat):Int):=by
  unfold sum2;rw[show(λ i:Nat=>((List.range m).map λ _=>(1:Int)).sum)=λ _=>_*1 from funext λ _=>by rw[wY,u8,Int.mul_one],gU,wY,u8,aP]
  push_cast;rfl
 rw[e];constructor
 ·intro h i o j k;by_cases q:p.rch i j=mf rows i j
  ·exact q
  ·exfalso;have:sum2 n m (λ g d=>(if p.rch g d=mf rows g d then 1 else 0)+if g=i/\d=j then 1 else 0)<=sum2 n m λ _ _=>1:=gV λ g _ d _=>by
    by_cases z:g=i/\d=j
    ·obtain⟨rfl,rfl⟩:=z;rw[g8 q,f8 ⟨rfl,rfl⟩];decide
    ·rw[g8 z];split<;>decide
   rw[vH,h,s]at this;have u:0<sum2 n m (λ g d=>if g=i/\d=j then 1 else 0):=by
    refine Int.lt_of_lt_of_le (show(0:Int)<1 by decide) ?_;have one:∀{N a:Nat} {f:Nat->Int},a<N->(∀x,0<=f x)->f a<=((List.range N).map f).sum:=λ {N a f} A B=>by
     have r:∀l:on Nat,0<=(l.map f).sum:=λ l=>by
      induction l with
      | nil=>exact E3 _
      | cons b l y=>rw[o5,A6];have:=B b;omega
     obtain⟨w,v,e⟩:=List.append_of_mem (o4.mpr A);rw[e,A9,eV,o5,A6];have:=r w;have:=r v;omega
    refine w4 ?_ (one o λ x=>?_)
    ·refine w4 ?_ (one (f:=λ d=>if i=i/\d=j then(1:Int)else 0) k λ x=>by split<;>decide);simp
    ·have:∀l:on Nat,0<=(l.map λ d=>if x=i/\d=j then(1:Int)else 0).sum:=λ l=>by
      induction l with
      | nil=>exact E3 _
      | cons b l y=>rw[o5,A6];split<;>omega
     exact this _
   omega
 ·intro h;rw[←s];exact dY λ i o j k=>f8 (h i o j k)
abbrev lS(ns:on Int)(rows:on (on Int))(B:Nat)(ws:on Int)(M a b c d e f g h:Sv):on Sv:=[.val (.scr ns),.val (tT rows),.val (.int (B:Int)),.val (.lst (iD ws)),M,a,b,c,d,e,f,g,h]
noncomputable def xB:on MS:=[.app 4 (.tup [.bin .Add (.int 1) (.bin .Mod (.ix (.call 37 [.var 5,.int 3]) (.int 2)) (.int 6)),.call 42 [.var 5,.var 2,.var 3]])]
theorem xa(hw:0<ws.length)(r:B<=4):∀(d:on Int) (M:Mz) (z:Sv),Okm B M->M.length+d.length<=20->∃f j,Okm B f/\f.length=M.length+d.length/\q0 (.one 5) (λ g=>evSs G (run G T fu (k+6)) fu xB g) (iD d) (lS ns rows B ws (.own (mxD M)) z .no .no .no .no .no .no .no)=some (.nx (lS ns rows B ws (.own (mxD f)) j .no .no .no .no .no .no .no))
 | [],M,z,h,_=>⟨M,z,h,rfl,rfl⟩
 | c::d,M,z,h,H=>by
  rw[p9]at H;obtain⟨xs,E,u⟩:=bF c 3 JY;obtain⟨a,I⟩:=fP (i:=2) JX (by rw[E];decide);obtain⟨p,C,A⟩:=Jr hw c r;obtain⟨s,o,n,m⟩:∃s:Nat,1<=s/\s<=6/\1+a%6=(s:Int):=⟨(1+a%6).toNat,by omega,by omega,by omega⟩;obtain⟨f,j,y,x,v⟩:=xa hw r d (M++[(s,p)]) _ (λ q F=>by
   rcases C7.mp F with w | w
   ·exact h q w
   ·rw[u7.mp w];exact⟨C,o,n⟩) (by rw[t7];show M.length+1+d.length<=20;omega)
  refine⟨f,j,y,(by rw[x,t7,p9];show M.length+1+d.length=M.length+(d.length+1);omega),?_⟩;rw[←v];have J:evE G (run G T fu (k+6)) (.bin .Add (.int 1) (.bin .Mod (.ix (.call 37 [.var 5,.int 3]) (.int 2)) (.int 6))) (lS ns rows B ws (.own (mxD M)) (JZ c) .no .no .no .no .no .no .no)=some (.ok (.int (s:Int)) .strong):=by rw[←m];exact D0 i3 (D1 (o7 (cx:=.fresh) (i7 (fr:=true) (l:=[(.int c,.strong),(.int ((3:Nat):Int),.strong)]) rfl rfl u) i3 I) i3 JY)
  refine bA rfl (i4 (jL rfl (F7 (f7 J (f7 (i7 (fr:=false) (l:=[(.int c,.strong),(.int (B:Int),.strong),(.lst (ws.map DV.int),.strong)]) rfl rfl A) i8)) (show 2<=m9 by decide) rfl) rfl (by rw[g7];exact M0 (show M.length<=20 by omega) JY)) ?_);show some _=_;unfold mxD;rw[A9];rfl
def JA(ns:on Int):∃a:on Int,a.length<=19/\cutD (ns.map DV.int) (some 3) (some 22)=iD a:=by
 refine⟨(ns.drop (slIx ns.length 0 (some 3))).take (slIx ns.length ns.length (some 22) - slIx ns.length 0 (some 3)),?_,?_⟩
 ·refine i9 (List.length_take_le ..) ?_;show min 22 ns.length - min 3 ns.length<=19;omega
 ·unfold cutD iD;rw[g7,List.map_take,List.map_drop]
theorem xb{a:Type}(x:a):∀k,(List.replicate k [x]).flatten=List.replicate k x
 | 0=>rfl
 | k+1=>by rw[O5,O5,O6,xb x k];rfl
def JB(b:Rect n m rows)(c:0<n)(g:n<=4)(k:m<=4)(h:δ[1]? = some (.val (tT rows))):evE G F (.bin .Mult (.lst [.bin .Mult (.lst [.int 1]) (.bi .len [.ix (.var 1) (.int 0)])]) (.bi .len [.var 1])) δ=some (.ok (rL (ones n m)) .fresh):=by
 have a:∀{e f:ME} {x:DV} {j:Nat},j<=4->evE G F e δ=some (.ok (.lst [x]) .fresh)->evE G F f δ=some (.ok (.int (j:Int)) .strong)->evE G F (.bin .Mult e f) δ=some _:=λ {e f x j} hj p l=>by refine E4 p l ?_;show(if[x].length*((j:Int)).toNat<=m9 /\ -(2^63)<=_/\_<2^63 then some (Re.ok _ .fresh)else none)=_;rw[f8 ⟨by rw[B2];exact i9 (show 1*j<=4 by omega) JY,by omega,by omega⟩,B2,xb]
 have d:=a k (lst1 (i3 (i:=1)) rfl) (W4 b c (f6 h));have o:=a g (lst1 d rfl) (lenT b (f6 h));rw[o];unfold rL ones iD;rw[List.map_replicate,List.map_replicate]
noncomputable def cB:on MS:=[.set 8 false (.bin .Add (.var 8) (.bi .int [.cmp .Eq (.call 24 [.var 1,.bin .Mult (.lst [.bin .Mult (.lst [.int 1]) (.bi .len [.ix (.var 1) (.int 0)])]) (.bi .len [.var 1]),.var 10]) (.bi .len [.var 3])]))]
def wRt(n m:Nat)(rows:on (on Int))(p:Nat×Pn):Bool:=rw2 n m rows (ones n m) p.2==((n*m:Nat):Int)
theorem xc(o:Rect n m rows)(s:0<n)(u:n<=4)(v:m<=4)(d:ws.length=n*m)(A:400<=fu):∀(M:Mz) (t:Nat) (x y:Sv),(∀p∈M,p.2.deep<=4)->∃j i,q0 (.many [9,10]) (λ g=>evSs G (run G T fu (k+3)) fu cB g) (M.map pr) (lS ns rows B ws mm a b c (JZ (t:Int)) x y .no .no)=some (.nx (lS ns rows B ws mm a b c (JZ ((t+(M.filter (wRt n m rows)).length:Nat):Int)) j i .no .no))
 | [],t,x,y,_=>⟨x,y,rfl⟩
 | p::M,t,x,y,h=>by
  have hp:=h p (k8 ..);have e:=mG (k:=k) o Jy JX JX (show p.2.deep<fu by omega) JX;have r:=b_eq (i7 (G:=G) (F:=run G T fu (k+3)) (δ:=lS ns rows B ws mm a b c (JZ (t:Int)) (JZ (p.1:Int)) (.val p.2.D) .no .no) (fr:=false) (f:=24) (es:=[.var 1,.bin .Mult (.lst [.bin .Mult (.lst [.int 1]) (.bi .len [.ix (.var 1) (.int 0)])]) (.bi .len [.var 1]),.var 10]) (l:=[(tT rows,.strong),(rL (ones n m),.fresh),(p.2.D,.strong)]) (f7 (f6 rfl) (f7 (JB o s u v rfl) (f7 (f6 rfl) i8))) rfl e) (dM (e:=.var 3) (ds:=iD ws) (c:=.strong) (f6 rfl));rw[show((iD ws).length:Int)=_ by unfold iD;rw[g7,d]]at r;obtain⟨j,i,w⟩:=xc (mm:=mm) (a:=a) (b:=b) (c:=c) o s u v d A M _ _ _ λ q z=>h q (k5 _ z);refine⟨j,i,?_⟩;rw[M1];have C:(t+(if wRt n m rows p=true then p::M.filter (wRt n m rows)else M.filter (wRt n m rows)).length)=(t+if wRt n m rows p then 1 else 0)+(M.filter (wRt n m rows)).length:=by
   split
   ·rw[p9];omega
   ·omega
  rw[C,←w];refine bA (δ1:=lS ns rows B ws mm a b c (JZ (t:Int)) (JZ (p.1:Int)) (.val p.2.D) .no .no) rfl (i4 (n5 (D0 (f6 rfl) ((by show Rs.thn (evEs G _ [_] _) (λ l=>intD l)=_;rw[f7 r i8];rfl))) rfl) ?_);show some (Out.nx (lS ns rows B ws mm a b c (JZ ((t:Int)+if wRt n m rows p then 1 else 0)) (JZ (p.1:Int)) (.val p.2.D) .no .no))=_
  congr 5
  cases wRt n m rows p<;>simp
def xf(M:Mz):(M.filter q).length=M.length↔∀p∈M,q p=true:=List.length_filter_eq_length_iff
def JC(ok:Okm B M)(hM:0<M.length)(l:i<n)(k:j<m)(e:lst3 (tall (rf rows M) m n)=((rf rows M i j:Int),(i:Int),(j:Int))):(((rf rows M i j/Nat.gcd (rf rows M i j) (tot M):Nat):Int)==((tot M/Nat.gcd (rf rows M i j) (tot M):Nat):Int))=(((M.filter (wRt n m rows)).length:Int)==(M.length:Int)):=by
 have g:0<tot M:=by have:=az ok;omega
 rw[eS,g9,g9,Jx g];have r:∀b a,rf rows M b a=tot M↔∀p∈M,_=true:=λ b a=>wX (λ p c=>(ok p c).2.1)
 constructor
 ·intro h;refine congrArg _ ((xf M).mpr λ p c=>g9.mpr ((wZ p.2).mpr λ b f a d=>?_));have:=wW e f d;have le:rf rows M b a<=tot M:=ax _ M;exact g9.mp ((r b a).mp JX p c)
 ·intro h;refine(r i j).mpr λ p c=>g9.mpr ?_
  have:=(xf M).mp (Y5 h) p c;exact(wZ p.2).mp (g9.mp this) i l j k
def JD(v:Rect n m rows)(r:W9 rows)(q:∀i j,0<=mf wr i j)(y:n<=4)(z:m<=4)(ok:Okm B M)(hM:0<M.length)(e:lst3 (tall (rf rows M) m n)=((rf rows M i j:Int),(i:Int),(j:Int))):((rf rows M i j/Nat.gcd (rf rows M i j) (tot M):Nat):Int)*sum2 n m (mf wr)<=bW (mf rows) (mf wr) B (2^n - 1) (2^m - 1)*((tot M/Nat.gcd (rf rows M i j) (tot M):Nat):Int):=by
 have w:0<tot M:=by have:=az ok;omega
 have d:=IC (ok:=λ p i j=>p.2.rch i j==mf rows i j) (l:=M) q (λ p _=>C2 _) (λ p x=>by
  have:=mR v r q y z (ok p x).1;unfold rw2 at this;simp only[g9];exact this) λ i' h j' f=>by rw[←mT];exact jk.mpr (wW e h f)
 have u:(M.map λ p=>(p.1:Int)).sum=(tot M:Int):=(by unfold tot;rw[←mH,r3];rfl);rw[u]at d;have o:=bY (iM (rf rows M i j) (tot M));have k:=bY (iG (rf rows M i j) (tot M));have A:0<Nat.gcd (rf rows M i j) (tot M):=ic _ w;generalize Nat.gcd _ _=g at o k A;generalize rf rows M i j/g=a at o;generalize tot M/g=c at k;generalize bW _ _ B _ _=b at d;generalize sum2 n m _=s at d;rw[←o,←k]at d
 push_cast at d
 refine Int.le_of_mul_le_mul_right (a:=(g:Int)) ?_ JX;rw[show(a:Int)*s*g=(a:Int)*g*s by rw[cA,aP s,←cA],show b*(c:Int)*g=(c:Int)*g*b by rw[aP b,cA,cA,aP b]];exact d
end k63
end
noncomputable section
namespace k63
open PySem L2
noncomputable def vB:on MS:=[.iff (.cmp .Gt (.call 24 [.var 1,.var 11,.var 10]) (.var 12)) [.ret (.bl false)] []]
def uB:on MS:=[.set 11 false (.call 43 [.var 1,.var 5]),.set 12 false (.call 44 [.var 1,.var 11,.var 2]),.iff (.or [.cmp .Is (.var 12) (.non),.not (.call 45 [.var 1,.var 11,.var 4,.var 6])]) [.ret (.bl false)] [],.iff (.cmp .Gt (.bin .Mult (.ix (.var 7) (.int 0)) (.bi .sum [.comp (.bi .sum [.var 0]) (.one 0) (.var 11) [none]])) (.bin .Mult (.var 12) (.ix (.var 7) (.int 1)))) [.ret (.bl false)] [],.frz 4,.fo (.many [9,10]) (.var 4) vB]
def xg(r:Rect n m rows)(E:W9 rows)(H:0<n)(v:n<=4)(Z:0<m)(w:m<=4)(ok:Okm B M)(P:B<=4)(Q:0<M.length)(hl:M.length<=20)(hf:400<=fu)(hi:i<n)(hj:j<m)(e:lst3 (tall (rf rows M) m n)=((rf rows M i j:Int),(i:Int),(j:Int)))(c:Int)(s x y g h:Sv) :
  ∃C A g' h',evSs G (run G T fu (k+11)) fu uB (lS ns rows B ws (.val (mxD M)) (JZ c) (JZ (tot M:Int)) (.val (wrst (rf rows M i j) (tot M) i j)) s x y g h)=some (.nx (lS ns rows B ws (.val (mxD M)) (JZ c) (JZ (tot M:Int)) (.val (wrst (rf rows M i j) (tot M) i j)) s C A g' h')):=by
 obtain⟨o,W,O,e1⟩:=Jq (fu:=fu) (k:=k+9) r H v w c;have J:=λ i j=>(O i j).1
 have R:=Jo (fu:=fu) (k:=k) r W E J H v Z w P;have e3:=Jw (fu:=fu) (k:=k+6) r W O H v w ok P Q hl hf;have wl:=JD (wr:=o) r E J v w ok Q e;have S:rf rows M i j<=tot M:=ax _ M;have ht:tot M<=120:=by have:=az ok;omega
 have Y:(tot M/Nat.gcd (rf rows M i j) (tot M))<=120:=i9 (cn ..) ht;have N:=λ p z=>mR r E J v w (ok p z).1;generalize bW (mf rows) (mf o) B (2^n - 1) (2^m - 1)=b at R wl N
 let F:=run G T fu (k+11)
 let D:Sv->Sv->on Sv:=λ x y=>lS ns rows B ws (.val (mxD M)) (JZ c) (JZ (tot M:Int)) (.val (wrst (rf rows M i j) (tot M) i j)) s x y (.val (rL o)) (JZ b)
 have U:tstD (evE G F (.or [.cmp .Is (.var 12) (.non),.not (.call 45 [.var 1,.var 11,.var 4,.var 6])]) (D x y))=some (.ok false):=r6 (fN (cx:=.strong) (G5 (t:=false) (f6 (d:=.int b) rfl) (cy:=.strong) rfl rfl) (fM (i7 (fr:=false) (l:=[(tT rows,.strong),(rL o,.strong),(mxD M,.strong),(.int (tot M:Int),.strong)]) rfl rfl e3)));have L:=b_gt (F1 (o7 (G:=G) (F:=F) (δ:=D x y) (cx:=.strong) (a:=.var 7) (b:=.int 0) (f6 rfl) i3 rfl) (wU (i:=11) W JX rfl) (by unfold E8;simp only[B5,g6,A5];exact .inl (.inl ⟨Int.lt_of_lt_of_le JY (C2 _),eK (jk.mpr (i9 (cn ..) (i9 S ht))) JY⟩))) (F1 (f6 (n:=12) rfl) (o7 (cx:=.strong) (a:=.var 7) (b:=.int 1) (f6 rfl) i3 rfl) (mU Y));rw[A7 JX]at L;have lp:=pi (I:=λ K=>∃x y,K=D x y) (tg:=.many [9,10]) (body:=λ u=>evSs G F fu vB u) (ds:=M.map pr) (δ:=D x y) (λ d hd K I=>by
  obtain⟨x,y,rfl⟩:=I;obtain⟨p,z,rfl⟩:=k9.mp hd;have dp:=(ok p z).1;have q:=b_gt (i7 (G:=G) (F:=F) (δ:=D (JZ (p.1:Int)) (.val p.2.D)) (fr:=false) (f:=24) (es:=[.var 1,.var 11,.var 10]) rfl rfl (mG (k:=k+8) r W JX JX JX JX)) (f6 (n:=12) rfl);rw[A7 (by have:=N p z;omega)]at q;exact⟨_,_,rfl,D8 (r6 q) rfl,_,_,rfl⟩) ⟨x,y,rfl⟩
 obtain⟨u,X,C,A,rfl⟩:=lp;refine⟨C,A,.val (rL o),.val (.int b),i4 (n5 (cl:=.fresh) (i7 (fr:=true) (l:=[(tT rows,.strong),(.int c,.strong)]) rfl rfl e1) rfl) (i4 (n5 (i7 (fr:=false) (l:=[(tT rows,.strong),(rL o,.strong),(.int (B:Int),.strong)]) rfl rfl R) rfl) (D8 U (D8 (r6 L) (i4 (δ':=D x y) ?_ (B6 (cl:=.strong) rfl (.inl rfl) X rfl)))))⟩;rfl
def JE(ns:on Int)(O:ns.length<=63):run G T 500 60 46 [.scr ns]=some (.v (.bl true) false):=by
 obtain⟨n,m,o,w,P,E,Q,C,w9,et⟩:=IV (k:=57) ns O;obtain⟨A,c2⟩:=gD (k:=58) ns 2;obtain⟨v1,c1⟩:=gD (k:=58) ns 1;obtain⟨bx,hb,st⟩:=bF (k:=58) A 1 JY;obtain⟨b0,X⟩:=fP (l:=bx) (i:=0) JX (by rw[hb];decide);obtain⟨B,u,Y⟩:∃B:Nat,B<=4/\b0%5=(B:Int):=⟨(b0%5).toNat,by omega,by omega⟩;obtain⟨v,ew⟩:=IX (fu:=500) (k:=58) C w E JX JX;have H:0<o.flatten.length:=by rw[v];exact Nat.mul_pos w E
 obtain⟨K,hz,J⟩:=JA ns;generalize o.flatten=ws at v ew H;obtain⟨M,x,ok,I,lp⟩:=xa (fu:=500) (k:=53) (ns:=ns) H u (A::K) [] .no (λ p N=>nomatch N) (by rw[Y1,p9];omega);rw[Y1,p9]at I;have L:0<M.length:=by omega
 have R:M.length<=20:=by omega
 obtain⟨i,j,W,U,e,Z⟩:=IT (fu:=500) (k:=55) C w E JX JX (wV ok u L R) JX;obtain⟨z,y,cl⟩:=xc (fu:=500) (k:=56) (ns:=ns) (B:=B) (a:=x) C w P Q v JX M 0 .no .no λ p N=>i9 (ok p N).1 u
 rw[aO]at cl;have wa:=JC (n:=n) (m:=m) ok L W U e
 let F:=run G T 500 59
 rw[o8 rfl rfl]
 let S:=λ (M a b c d e f g h:Sv)=>lS ns o B ws M a b c d e f g h
 have it:q9 (evE G F (.bin .Add (.lst [.call 36 [.var 0,.int 2]]) (.sl (.var 0) (.int 3) (.int 22))) (S (.own (.lst [])) .no .no .no .no .no .no .no .no))=some (.ok (iD (A::K)) .fresh):=(by have a:=lst1 (i7 (G:=G) (F:=F) (δ:=S (.own (.lst [])) .no .no .no .no .no .no .no .no) (fr:=false) (f:=36) (es:=[.var 0,.int 2]) (l:=[(.scr ns,.strong),(.int ((2:Nat):Int),.strong)]) rfl rfl c2) rfl;have b:evE G F (.sl (.var 0) (.int 3) (.int 22)) (S (.own (.lst [])) .no .no .no .no .no .no .no .no)=some (.ok (.lst (iD K)) .fresh):=(by rw[←J];rfl);rw[mq a b (by show 1+(K.map DV.int).length<=1000;rw[g7];omega)];rfl);have t1:tstD (evE G F (.cmp .NotEq (.cmp .Eq (.ix (.var 7) (.int 0)) (.ix (.var 7) (.int 1))) (.cmp .Eq (.var 8) (.bi .len [.var 4]))) (S (.val (mxD M)) x (JZ (tot M:Int)) (.val (wrst (rf o M i j) (tot M) i j)) (JZ ((M.filter (wRt n m o)).length:Int)) z y .no .no))=some (.ok false):=(by have a:=b_eq (o7 (G:=G) (F:=F) (δ:=S (.val (mxD M)) x (JZ (tot M:Int)) (.val (wrst (rf o M i j) (tot M) i j)) (JZ ((M.filter (wRt n m o)).length:Int)) z y .no .no) (cx:=.strong) (a:=.var 7) (b:=.int 0) (f6 rfl) i3 rfl) (o7 (cx:=.strong) (a:=.var 7) (b:=.int 1) (f6 rfl) i3 rfl);have b:=b_eq (f6 (G:=G) (F:=F) (δ:=S (.val (mxD M)) x (JZ (tot M:Int)) (.val (wrst (rf o M i j) (tot M) i j)) (JZ ((M.filter (wRt n m o)).length:Int)) z y .no .no) (n:=8) rfl) (dM (e:=.var 4) (ds:=M.map pr) (c:=.strong) (f6 rfl));rw[g7,←wa]at b;generalize (((rf o M i j/Nat.gcd (rf o M i j) (tot M):Nat):Int)==((tot M/Nat.gcd (rf o M i j) (tot M):Nat):Int))=q at a b;exact r6 (G5 a b (by cases q<;>rfl)));obtain⟨x',y',g',h',q1⟩:=xg (fu:=500) (k:=48) (ns:=ns) (ws:=ws) C w9 w P E Q ok u L R JX W U e v1 _ z y .no .no;obtain⟨x2,y2,g2,h2,q2⟩:=xg (fu:=500) (k:=48) (ns:=ns) (ws:=ws) C w9 w P E Q ok u L R JX W U e A _ x' y' g' h';have w2:q9 (evE G F (.lst [.call 36 [.var 0,.int 1],.call 36 [.var 0,.int 2]]) (S (.val (mxD M)) x (JZ (tot M:Int)) (.val (wrst (rf o M i j) (tot M) i j)) (JZ ((M.filter (wRt n m o)).length:Int)) z y .no .no))=some (.ok [.int v1,.int A] .fresh):=by rw[lX (f7 (i7 (fr:=false) (l:=[(.scr ns,.strong),(.int ((1:Nat):Int),.strong)]) rfl rfl c1) (f7 (i7 (fr:=false) (l:=[(.scr ns,.strong),(.int ((2:Nat):Int),.strong)]) rfl rfl c2) i8)) (show 2<=m9 by decide) rfl];rfl
 exact o9 (i4 (n5 (i7 (fr:=false) (l:=[(.scr ns,.strong),(.int 3,.strong),(.int 4,.strong)]) rfl rfl et) rfl) (i4 (n5 ((by rw[←Y];exact D1 (o7 (i7 (f7 (i7 rfl rfl c2) (f7 i3 i8)) rfl st) i3 X) i3 JY)) rfl) (i4 (n5 (i7 (fr:=false) (l:=[(tT o,.strong)]) rfl rfl ew) rfl) (i4 (Z2 rfl) (B6 it (.inr rfl) lp (i4 (n5 (wb JX rfl JY) rfl) (i4 (n5 (pv rfl rfl Z rfl) rfl) (i4 (n5 (d:=.int ((0:Nat):Int)) (cl:=.strong) rfl rfl) (vM rfl (B6 rfl (.inl rfl) cl (D8 t1 (B6 w2 (.inr rfl) (bA rfl q1 |>.trans (jN rfl q2)) (n9 rfl)))))))))))))
open PySem.W PySem.Spec PyProof.Rows
def lnS(h:b.length=n+1):∃a r,b=a::r/\r.length=n:=by cases b with | nil=>cases h | cons a r=>exact⟨a,r,rfl,Nat.succ.inj h⟩
def ln0(h:a.length=0):a=[]:=X4.mp h
def ln1{α:Type}{us:on α}(h:us.length=1):∃a0,us=[a0]:=by obtain⟨_,_,rfl,h0⟩:=lnS h;obtain rfl:=ln0 h0;exact⟨_,rfl⟩
def ln2{α:Type}{us:on α}(h:us.length=2):∃a0 a1,us=[a0,a1]:=by obtain⟨_,_,rfl,h0⟩:=lnS h;obtain⟨_,_,rfl,h1⟩:=lnS h0;obtain rfl:=ln0 h1;exact⟨_,_,rfl⟩
def ln3{α:Type}{us:on α}(h:us.length=3):∃a0 a1 a2,us=[a0,a1,a2]:=by obtain⟨_,_,rfl,h0⟩:=lnS h;obtain⟨_,_,rfl,h1⟩:=lnS h0;obtain⟨_,_,rfl,h2⟩:=lnS h1;obtain rfl:=ln0 h2;exact⟨_,_,_,rfl⟩
def ln4{α:Type}{us:on α}(h:us.length=4):∃a0 a1 a2 a3,us=[a0,a1,a2,a3]:=by obtain⟨_,_,rfl,h0⟩:=lnS h;obtain⟨_,_,rfl,h1⟩:=lnS h0;obtain⟨_,_,rfl,h2⟩:=lnS h1;obtain⟨_,_,rfl,h3⟩:=lnS h2;obtain rfl:=ln0 h3;exact⟨_,_,_,_,rfl⟩
def ln5{α:Type}{us:on α}(h:us.length=5):∃a0 a1 a2 a3 a4,us=[a0,a1,a2,a3,a4]:=by obtain⟨_,_,rfl,h0⟩:=lnS h;obtain⟨_,_,rfl,h1⟩:=lnS h0;obtain⟨_,_,rfl,h2⟩:=lnS h1;obtain⟨_,_,rfl,h3⟩:=lnS h2;obtain⟨_,_,rfl,h4⟩:=lnS h3;obtain rfl:=ln0 h4;exact⟨_,_,_,_,_,rfl⟩
def fn:on Str:=fnl
def bl:on Str:=bll
def cl:on Str:=cll
def ok18:okD fn bl cl lP ["no","yes"] ["no","yes"] (top 26)=true:=by decide +kernel
def ok46:okD fn bl cl tS ["_law_script","_law_table","_law_bits","_law_words_here","_law_mix","_law_cell","_law_bottom","_law_worst","_law_right","_law_share","_law_plan_here","_law_weights_here","_law_best_here"] ["_law_script"] (top 60)=true:=by decide +kernel
abbrev ck(P:Params)(x:Str)(f:JI)(i:Nat)(dV pm:JG)(cd:JI):Prop:=(nsIn (kK P) mainGlobals x,(kK P).lookup f,codeIn (kK P) (.ref cd) x,keepIn (kK P) (.ref f))=(some (some (.ref f)),some (fo x i dV pm cd),true,true)
def ck4{P:Params}{x:Str}{f:JI}{i:Nat}{dV pm:JG}{cd:JI}(q:ck P x f i dV pm cd):nsIn (kK P) mainGlobals x=some (some (.ref f))/\(kK P).lookup f=some (fo x i dV pm cd)/\codeIn (kK P) (.ref cd) x=true/\keepIn (kK P) (.ref f)=true:=by
 obtain⟨a,b⟩:=Prod.mk.inj q;obtain⟨b,c⟩:=Prod.mk.inj b;exact⟨a,b,Prod.mk.inj c⟩
def kN(P:Params):((kK P).map (·.1)).Nodup:=by rw[show(kK P).map (·.1)=zA by kernel_rfl];decide +kernel
def kM(P:Params):((x9 (kK P)).map (·.1)).Nodup:=by rw[show(x9 (kK P)).map (·.1)=kT.map (·.1) by kernel_rfl];decide +kernel
def zz(P:Params):bl.map (nsIn (kK P) mainGlobals)=bl.map λ _=>some none:=by kernel_rfl
abbrev zd(j:Nat):Rw:=zD.getD j ⟨"",0,0,0,0,false,0,0,0⟩
def sk{w:JM}{h:JJ}{mg:Str->JF JG}(j:Nat){d:FD}(N:on Str)(X:(kK w.params).In h)(Ns:h.Ns mainGlobals mg)(ok:okD fn bl cl d N (N.take d.np) (top (zd j).i)=true:=by decide +kernel)(q:ck w.params (zd j).n ((zd j).c+1) (zd j).i .none (zP (zd j).m) (zd j).c:=by kernel_rfl)(hb:∀(kV doc pm:JG) (an:JF JI) (cdv ct:JG) (us:on JG),us.length=(N.take d.np).length->bindArgs (fnOf (zd j).n (zd j).n (Y8 (top (zd j).i)) (M4 (top (zd j).i)) (w6 (top (zd j).i)) .none kV doc pm an cdv ct) ⟨us,[]⟩=pure ((N.take d.np).zip us):=by(intro _ _ _ _ _ _ us hl;first | (obtain⟨_,rfl⟩:=ln1 hl;rfl) | (obtain⟨_,_,rfl⟩:=ln2 hl;rfl) | (obtain⟨_,_,_,rfl⟩:=ln3 hl;rfl) | (obtain⟨_,_,_,_,rfl⟩:=ln4 hl;rfl) | (obtain⟨_,_,_,_,_,rfl⟩:=ln5 hl;rfl)))(dq:dqB (zd j).n (w6 (top (zd j).i)).names=true:=by decide +kernel):Stands (kK w.params) mg fn bl cl d (zd j).n ((zd j).c+1) (fnOf (zd j).n (zd j).n (Y8 (top (zd j).i)) (M4 (top (zd j).i)) (w6 (top (zd j).i)) .none .none .none (zP (zd j).m) none (.ref (zd j).c) .none) (N.take d.np):=by
 obtain⟨a,l,c,k⟩:=ck4 q;exact lN X Ns (bz ok).1 (bz ok).2 a l c k hb dq
open PySem.W
def all_mk{l:OpenLaw}{w:JM}{h:JJ}{mg:Str->JF JG}{fa:JI}(X:(kK w.params).In h)(Ns:h.Ns mainGlobals mg)(hfa:mg "law" = some (.ref fa)):∃fd:FuncData,(∀(s:JH) (v:JG),BindsTo s fd ⟨[v],[]⟩ [("_law_script",v)])/\∀base:JJ,(kK w.params).In base->base.Ns mainGlobals mg->FnOk l.prog w (kK w.params) mg base CX0 60 fa fd ["_law_script"] (spS (kK w.params)):=by
 obtain⟨a18,l18,c18,k18⟩:=ck4 (P:=w.params) (x:="joined_bits") (f:=172) (i:=26) (dV:=.none) (pm:=(.str "talkleast.parts" 358)) (cd:=171) (by kernel_rfl);have S18:=lN X Ns (bz ok18).1 (bz ok18).2 a18 l18 c18 k18 λ _ _ _ _ _ _ us hl=>by obtain⟨_,_,rfl⟩:=ln2 hl;rfl
 obtain⟨a46,l46,c46,k46⟩:=ck4 (P:=w.params) (x:="law") (f:=342) (i:=60) (dV:=.none) (pm:=(.str "law_talkleast_k63_whole_coins_and_weights" 536)) (cd:=341) (by kernel_rfl);have S46:=lN X Ns (bz ok46).1 (bz ok46).2 a46 l46 c46 k46 λ _ _ _ _ _ _ us hl=>by obtain⟨_,rfl⟩:=ln1 hl;rfl
 have e:=hfa.symm.trans (mg_of X Ns a46);cases e;have HC:∀x d,G.con.lookup x=some d->∃u v,mg x=some u/\RelV v u/\∀H,Rep ⟨kK w.params,mg⟩ H d v:=by
  intro x d h;have g0:nsIn (kK w.params) mainGlobals "SMALL_LINES" = some (some (.int 5 269)):=by kernel_rfl
  have g1:nsIn (kK w.params) mainGlobals "MOST_WEIGHED" = some (some (.int 4 432)):=by kernel_rfl
  exact lO ⟨_,.int _,mg_of X Ns g0,⟨_,rfl⟩,λ H=>u6.mpr rfl⟩ (lO ⟨_,.int _,mg_of X Ns g1,⟨_,rfl⟩,λ H=>u6.mpr rfl⟩ (lO ⟨_,.ref _,S18.mg,rfl,λ H=>kB.mpr ⟨_,rfl,S18.mg⟩⟩ (GM))) x d h
 have HSS:HS (kK w.params) mg fn bl cl T fn:=(p0 (sk 0 ["thing","least","most"] X Ns) (p0 (sk 1 ["numbers","divisor","number"] X Ns) (p0 (sk 2 ["one","other","greater","lesser","rest"] X Ns) (p0 (sk 3 ["table"] X Ns) (p0 (sk 4 ["table","rows","columns"] X Ns) (p0 (sk 5 ["cards","size"] X Ns) (p0 (sk 6 ["card","size"] X Ns) (p0 (sk 7 ["cards"] X Ns) (p0 (sk 8 ["table","rows","columns"] X Ns) (p0 (sk 9 ["table"] X Ns) (p0 (sk 10 ["table"] X Ns) (p0 (sk 11 ["table"] X Ns) (p0 (sk 12 ["table","rest"] X Ns) (p0 (sk 13 ["table"] X Ns) (p0 (sk 14 ["table","words","row"] X Ns) (p0 (sk 15 ["table"] X Ns) (p0 (sk 16 ["numbers"] X Ns) (p0 (sk 17 ["table"] X Ns) (p0 S18 (p0 (sk 19 ["table","ground","joined","rest","numbers","rows","columns","ways"] X Ns) (p0 (sk 20 ["rows","columns","by_rows","by_columns"] X Ns) (p0 (sk 21 ["cards"] X Ns) (p0 (sk 22 ["plan","row","column","bits","place","card","bit"] X Ns) (p0 (sk 23 ["plan","row","column"] X Ns) (p0 (sk 24 ["table","weights","plan","total","row","words","column","word"] X Ns) (p0 (sk 25 ["table","weights","bits","numbers","whole","plan_of"] X Ns) (p0 (sk 26 ["table","weights","bits","numbers","rows","columns","word","left","ways"] X Ns) (p0 (sk 27 ["numbers","way","left"] X Ns) (p0 (sk 28 ["table","weights","rows","columns"] X Ns) (p0 (sk 29 ["table","weights","rows","columns","word","total","row"] X Ns) (p0 (sk 30 ["table","mix","row","column"] X Ns) (p0 (sk 31 ["table","mix","sums","row","worst"] X Ns) (p0 (sk 32 ["table","mix","row","column"] X Ns) (p0 (sk 33 ["mix","top"] X Ns) (p0 (sk 34 ["table"] X Ns) (p0 (sk 0 ["thing","least","most"] X Ns) (p0 (sk 35 ["_law_script","_law_k"] X Ns) (p0 (sk 36 ["_law_cell","_law_many","_law_found","_law_rest","_law_k","_law_number","_law_mixed"] X Ns) (p0 (sk 37 ["_law_script","_law_start","_law_most","_law_xs","_law_many","_law_wide","_law_top","_law_words_here","_law_k"] X Ns) (p0 (sk 38 ["_law_table","_law_words_here","_law_row"] X Ns) (p0 (sk 39 ["_law_xs","_law_at","_law_room","_law_number","_law_no","_law_yes"] X Ns) (p0 (sk 40 ["_law_plan_here","_law_words_here"] X Ns) (p0 (sk 41 ["_law_cell","_law_bits","_law_words_here","_law_xs","_law_plan_here"] X Ns) (p0 (sk 42 ["_law_table","_law_cell","_law_xs","_law_top"] X Ns) (p0 (sk 43 ["_law_table","_law_weights_here","_law_bits","_law_found","_law_more","_law_every"] X Ns) (p0 (sk 44 ["_law_table","_law_weights_here","_law_mix","_law_bottom","_law_summed","_law_r","_law_c","_law_top","_law_low"] X Ns) (p0 S46 GK)))))))))))))))))))))))))))))))))))))))))))))));refine⟨_,λ s v=>.of_eq rfl,λ base _ _=>GN (T:=T) (G:=G) (fu:=500) rfl HSS (λ x hx=>mg_none_of X Ns (List.map_inj_left.mp (zz _) x hx)) HC (i:=46) rfl rfl S46 (λ _=>⟨⟨rfl,rfl,rfl⟩,by decide,λ i d x qual st fa fd _ _ _ F=>GP (K:=kK w.params) (by kernel_rfl) F⟩) (by unfold T;repeat' (first | (refine List.forall_mem_cons.mpr ⟨?_,?_⟩) | exact Or.inl rfl | exact Or.inr rfl | exact λ _ h=>nomatch h)) JE⟩
end k63
open PySem PySem.W PyProof.Rows
set_option maxRecDepth 100000 in
set_option maxHeartbeats 0 in
theorem PySem.Challenge.cw_talkleast_k63_whole_coins_and_weights_holds : PySem.Challenge.rw_talkleast_k63_whole_coins_and_weights.Holds := by
 refine holds_law (by kernel_rfl) λ said => ?_
 refine holds_open (q := k63.kQ) (loose := k63.kL) (Xt := λ s => xlAt k63.kQ [] s && recOk (RowW.records (OpenRow.toRowW (OpenLaw.row PySem.Challenge.rw_talkleast_k63_whole_coins_and_weights))) s) (XP := XL k63.kQ []) (Yf := (kHook k63.kAll k63.zB k63.kE).obs) (Ya := (kHook k63.kAll k63.zB k63.kE).val) (YP := (kHook k63.kAll k63.zB k63.kE).says) (N := 4294) k63.kLeft (kHook k63.kAll k63.zB k63.kE).of (kHook k63.kAll k63.zB k63.kE).keeps (λ s e => xl_of s (J1.mp e).1) XL.keeps (by rfl) (by rfl) (by rfl) (λ s e => recFacts_of (J1.mp e).2) (by rfl) said (by decide +kernel) ⟨rfl, rfl, rfl, rfl, rfl, by decide +kernel⟩ ?hw ?hc
 case hw => w_witness2
 exact L2.walkE (l := PySem.Challenge.rw_talkleast_k63_whole_coins_and_weights) (k := 60) (p := "_law_script") rfl rfl ⟨rfl, by decide, by decide⟩ (λ w h Y => (L2.in_app (kIn_of Y) (by kernel_rfl)).1) (λ w h Y => ⟨L2.htb_of (T := k63.kT) (L2.in_app (kIn_of Y) (by kernel_rfl)).1 (L2.in_app (kIn_of Y) (by kernel_rfl)).2 (k63.kN _) (by kernel_rfl), k63.kM _⟩) λ w mg fa h KX G hmg => k63.all_mk KX G hmg
end

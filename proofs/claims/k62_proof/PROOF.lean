import PyProof.Rows.All
import Wide.All
import OpenK.AllK
import PySem.Challenge.RW_talkleast_k62_weight_papers
set_option compiler.extract_closed false
set_option genSizeOf false
set_option genInjectivity false
set_option bootstrap.genMatcherCode false
set_option Elab.async false
set_option linter.all false
set_option maxRecDepth 100000
set_option maxHeartbeats 4000000
set_option hygiene false
local macro_rules|`(JC)=>`((by omega))|`(JD)=>`((by decide))|`(JG)=>`((model X.prog X.w))|`(JH)=>`((model prog w))|`(JK)=>`((by simp))|`(JL)=>`((by intro z;cases z))|`(JN)=>`((dE X.D δ q))|`(JQ)=>`(((s.heap.update a (Obj.mapSeq λ _=>(#[]:Jq Jl))).push (seqObj "tuple" vs.toArray 0)))|`(JT)=>`((mf rows))|`(JU)=>`((cxX P w K mg base N qual scope f cd A outer s H E))
local macro_rules|`(JE $a)=>`((.val (.int $a)))|`(JF $a $b $c)=>`(evE G F $a δ=some (.ok $c $b))|`(JI $a)=>`(Inv X $a σ H s)|`(JJ $a)=>`((run G T fu $a))|`(JM $a $b)=>`((.ix (.var $a) (.int $b)))|`(JO $a)=>`((evE G F $a δ))|`(JP $a)=>`((.int $a))|`(JR $a)=>`((.ok $a .strong))|`(JS $a)=>`((List.range $a))|`(JV $a)=>`((.int $a,.strong))
set_option hygiene true
section
open PySem PySem.Spec PyProof.Rows
abbrev on:=@List
abbrev Jk:=@Option
abbrev Jl:=@Value
abbrev Jm:=@Shared
abbrev Jn:=@Addr
abbrev Jo:=@Heap
abbrev Jp:=@Expr
abbrev Jq:=@Array
abbrev Jr:=@World
abbrev Js:=@Program
abbrev Ju:=@Around
abbrev Jv:=@Stmt
abbrev Jw:=@PySem.W.Frag
abbrev Jx:=@Scope
abbrev Jy:=@Arguments
abbrev Jz:=@SetTable
abbrev JA:=@NameKind
abbrev JB:=@String
abbrev f0:=@wpAny_bind
abbrev f9:=@Bool.and_eq_true
abbrev i0:=@List.length_map
abbrev k9:=@Heap.get?_push_of_some
abbrev g7:=@wpAny_pure
abbrev p8:=@List.getElem?_eq_getElem
abbrev i5:=@beq_iff_eq
abbrev o4:=@List.mem_cons_of_mem
abbrev j0:=@List.mem_cons
abbrev r3:=@Option.bind_eq_some_iff
abbrev o6:=@List.mem_cons_self
abbrev i8:=@Nat.le_refl
abbrev f8:=@if_pos
abbrev p9:=@Nat.lt_of_lt_of_le
abbrev k6:=@Nat.le_trans
abbrev k8:=@Heap.lt_size
abbrev w6:=@List.getElem?_eq_some_iff
abbrev q5:=@Heap.get?_push_size
abbrev m9:=@List.mem_map
abbrev g9:=@if_neg
abbrev q9:=@List.getElem?_map
abbrev v6:=@List.getElem?_set_ne
abbrev x9:=@List.mem_append_right
abbrev t7:=@List.size_toArray
abbrev u5:=@Bool.not_eq_true'
abbrev y9:=@beq_eq_false_iff_ne
abbrev o9:=@Nat.ne_of_lt
abbrev x4:=@List.length_append
abbrev D1:=@List.getD_eq_getElem?_getD
abbrev B3:=@Option.map_eq_some_iff
abbrev A4:=@PySem.mem_of_lookup
abbrev z7:=@List.length_cons
abbrev C6:=@List.mem_append_left
abbrev A8:=@List.length_range
abbrev B7:=@Bool.false_ne_true
abbrev x5:=@List.mem_range
abbrev C2:=@List.mem_singleton
abbrev v7:=@List.map_map
abbrev B4:=@decide_eq_false
abbrev A0:=@List.map_cons
abbrev B5:=@Bool.or_eq_true
abbrev B8:=@Option.some.inj
abbrev D3:=@Int.toNat_natCast
abbrev C3:=@List.map_append
abbrev C7:=@List.mem_append
abbrev C8:=@List.append_nil
abbrev E8:=@Int.natCast_nonneg
abbrev E3:=@wpAny_newObj_type
abbrev J8:=@List.getElem?_set_self
abbrev D4:=@List.length_set
abbrev D5:=@decide_eq_true
abbrev F3:=@decide_eq_true_eq
abbrev G6:=@Array.length_toList
abbrev E4:=@List.mem_filter
abbrev J9:=@Bool.and_eq_true_iff
abbrev L9:=@Array.getElem?_toList
abbrev M0:=@List.getElem?_eq_none
abbrev F9:=@List.lookup_cons
abbrev A9:=@wpAny_mono
abbrev M1:=@List.mem_of_getElem?
abbrev G7:=@wpAny_call_entry
abbrev G8:=@List.all_eq_true
abbrev K9:=@List.pairwise_cons
abbrev N5:=@List.contains_iff_mem
abbrev M2:=@Heap.SameBut.update
abbrev N6:=@Bool.or_eq_false_iff
abbrev G0:=@Heap.size_push
abbrev F4:=@wpAny_holding
abbrev Q6:=@wpAny_callSpecial?_slot
abbrev T7:=@Array.getElem?_eq_getElem
abbrev G1:=@List.any_cons
abbrev E5:=@Nat.zero_le
abbrev N7:=@List.append_assoc
abbrev Q7:=@Nat.pow_le_pow_right
abbrev T8:=@Array.getElem?_eq_none
abbrev P1:=@decide_eq_true_iff
abbrev P2:=@wpAny_setField_rec
abbrev V7:=@Option.isSome_iff_exists
abbrev N8:=@beq_self_eq_true
abbrev N9:=@Option.bind_some
abbrev Q8:=@List.map_congr_left
abbrev G2:=@wpAny_field
abbrev P3:=@Nat.lt_succ_of_lt
abbrev L0:=@Nat.lt_irrefl
abbrev O0:=@Option.map_some
abbrev P4:=@Nat.le_add_right
abbrev P5:=@List.not_mem_nil
abbrev Z6:=@List.getElem?_append_left
abbrev Q9:=@wpAny_truthy_bool
abbrev aK:=@Array.getD_eq_getD_getElem?
abbrev T9:=@Nat.lt_of_le_of_lt
abbrev Z7:=@List.length_eq_zero_iff
abbrev V8:=@Around.under_plainId
abbrev M3:=@Nat.le_of_lt
abbrev M4:=@Nat.ne_of_gt
abbrev aL:=@List.getElem?_append_right
abbrev Z8:=@PySem.F.plain_max_loop
abbrev U0:=@List.flatten_cons
abbrev V9:=@List.replicate_succ
abbrev R4:=@List.nodup_cons
abbrev R5:=@codeAny_builtin
abbrev Z9:=@Heap.get?_update_self
abbrev aM:=@List.getElem?_take_of_lt
abbrev U1:=@List.getElem_mem
abbrev W0:=@Bool.false_eq_true
abbrev U2:=@List.any_eq_true
abbrev W1:=@List.length_take
abbrev P6:=@sizeLine_eq
abbrev aN:=@Heap.get?_none_of_le
abbrev R6:=@codeAny_mono
abbrev R7:=@Nat.lt_trans
abbrev R8:=@Int.le_trans
abbrev R9:=@Int.zero_add
abbrev aa:=@bne_self_eq_false
abbrev U3:=@plainId_quiet
abbrev U4:=@wpAny_attempt
abbrev U5:=@List.sum_cons
abbrev cg:=@List.getElem?_replicate
abbrev aO:=@List.getElem?_range
abbrev W3:=@wpAny_setField
abbrev eD:=@PyProof.Rows.callWith_type1
abbrev aP:=@List.mem_filterMap
abbrev aQ:=@wpAny_Call_Name_kw
abbrev aR:=@Obj.data_mapFields
abbrev aT:=@List.getElem?_drop
abbrev U6:=@Int.add_zero
abbrev ae:=@wpAny_passesOwn
abbrev cj:=@List.length_replicate
abbrev af:=@PySem.W.kia_one
abbrev eE:=@F.slot_tuple_iterator_next
abbrev aU:=@wpAny_setState_of
abbrev aV:=@Heap.get?_push_ne
abbrev U7:=@Int.le_refl
abbrev ag:=@wpAny_seqItems
abbrev aW:=@wpAny_askSetting
abbrev cn:=@wpAny_setEntries_of
abbrev cq:=@Array.toList_append
abbrev M5:=@Iff.rfl
abbrev aX:=@List.find?_cons
abbrev im:=@wpAny_typeNameOfWhole_itemiter
abbrev eF:=@PySem.W.cellsFrom_some
abbrev eG:=@Heap.get?_update_other
abbrev P7:=@or_false
abbrev ah:=@Nat.lt_or_ge
abbrev eH:=@List.mem_iff_getElem?
abbrev eJ:=@F.slot_enumerate_next
abbrev aY:=@wpAny_tryCatch
abbrev eK:=@List.length_filter_le
abbrev cr:=@wpAny_eqBool_int
abbrev cu:=@Nat.lt_succ_self
abbrev cw:=@wpAny_isInstance
abbrev cA:=@Heap.size_update
abbrev ai:=@Nat.le_succ
abbrev aj:=@Nat.add_mul
abbrev eL:=@List.filterMap_cons
abbrev cB:=@wpAny_execs_nil
abbrev cC:=@pushCells_keeps
abbrev cD:=@List.range_succ
abbrev cE:=@wpAny_updateSeq
abbrev io:=@List.mem_of_find?_eq_some
abbrev ip:=@List.getElem?_zip_eq_some
abbrev eM:=@wpAny_loadPart'
abbrev iq:=@Nat.ge_two_pow_of_testBit
abbrev eN:=@wpAny_pyIter_tuple
abbrev eO:=@tupleKind_room_in1
abbrev eP:=@Int.emod_lt_of_pos
abbrev eQ:=@Nat.one_le_two_pow
abbrev cF:=@Bool.false_and
abbrev cG:=@wpAny_fieldsOf
abbrev ak:=@bne_iff_ne
abbrev cH:=@Nat.mul_le_mul
abbrev ir:=@F.plain_set_update_loop
abbrev iu:=@PySem.F.plainAttrs_list
abbrev eR:=@List.ext_getElem?
abbrev iw:=@Calls.callWith_builtin
abbrev aZ:=@wpAny_of_eq
abbrev ba:=@wpAny_letGo
abbrev iy:=@PySem.F.entry_max_loop
abbrev iz:=@wpAny_isOneOf_itemiter
abbrev bc:=@Nat.one_mul
abbrev cI:=@Bool.or_false
abbrev cJ:=@Bool.true_and
abbrev eT:=@List.length_drop
abbrev eU:=@Option.getD_some
abbrev iA:=@List.length_singleton
abbrev iB:=@Obj.isFreed_of_fields
abbrev mU:=@PyProof.Rows.slot_tuple_getitem
abbrev eV:=@List.of_mem_zip
abbrev iC:=@Around.frames_deeper
abbrev iE:=@codeAny_call_builtin
abbrev cK:=@Nat.zero_add
abbrev eW:=@List.length_nil
abbrev be:=@size_push'
abbrev eX:=@Int.emod_nonneg
abbrev eY:=@Int.le_antisymm
abbrev mV:=@F.slot_dict_itemiterator_next
abbrev mW:=@List.exists_mem_of_length_pos
abbrev iF:=@PySem.W.hideAll_get
abbrev iG:=@wpAny_loadName_cell
abbrev mX:=@F.args_tuple_iterator_next_1
abbrev eZ:=@isSubtype_stop
abbrev fb:=@List.nodup_nil
abbrev fe:=@Nat.add_le_add
abbrev mY:=@F.entry_tuple_iterator_next
abbrev iH:=@Nat.eq_zero_or_pos
abbrev iI:=@Int.lt_of_le_of_lt
abbrev ff:=@Paired.length
abbrev mZ:=@Calls.Name_function_global
abbrev fg:=@wpAny_standAt
abbrev ng:=@Int.fdiv_eq_ediv_of_nonneg
abbrev fh:=@wpAny_newList
abbrev fi:=@listUpdate_at
abbrev fj:=@Bool.false_or
abbrev fk:=@List.all_cons
abbrev iJ:=@wpAny_pyIter_list
abbrev iK:=@List.take_sublist
abbrev iL:=@slot_list_getitem
abbrev iM:=@Obj.cls_mapFields
abbrev iN:=@fits_of_scanBound
abbrev iO:=@wpAny_pyIter_slot
abbrev iP:=@of_decide_eq_true
abbrev iQ:=@Bool.eq_false_iff
abbrev cL:=@wpAny_Name
abbrev cM:=@wpAny_call
abbrev cN:=@wpAny_rule
abbrev nh:=@List.pairwise_iff_getElem
abbrev ni:=@Calls.call_function_entry
abbrev nj:=@List.drop_eq_getElem_cons
abbrev nk:=@Option.isNone_iff_eq_none
abbrev nr:=@PySem.F.args_tuple_add_2
abbrev fq:=@wpAny_typeOf
abbrev nu:=@wpAny_getItem_list_slice
abbrev ft:=@Nat.succ_mul
abbrev fv:=@List.map_nil
abbrev iS:=@Nat.le_of_not_lt
abbrev nv:=@wpAny_comprehension_free
abbrev iT:=@List.isEmpty_nil
abbrev fx:=@Int.add_comm
abbrev nw:=@PySem.F.entry_tuple_add
abbrev ny:=@wpAny_Call_method0_late
abbrev nz:=@List.filter_cons_of_neg
abbrev nA:=@List.filter_cons_of_pos
abbrev nB:=@Int.eq_ofNat_of_zero_le
abbrev nC:=@F.entry_set_update_loop
abbrev nE:=@F.args_enumerate_next_1
abbrev nF:=@PySem.F.slot_dict_items
abbrev nG:=@Nat.add_sub_cancel_left
abbrev iU:=@List.foldl_cons
abbrev iV:=@List.nil_append
abbrev iW:=@List.forIn_cons
abbrev iX:=@wpAny_ite_split
abbrev iY:=@Bool.eq_iff_iff
abbrev iZ:=@List.find?_some
abbrev ja:=@List.sum_append
abbrev nH:=@PySem.F.slot_tuple_add
abbrev nK:=@subscriptTail_builtinR
abbrev nL:=@List.range_succ_eq_map
abbrev nM:=@List.pairwise_lt_range
abbrev fy:=@Prod.mk.inj
abbrev fz:=@Nat.log2_lt
abbrev nN:=@F.entry_enumerate_next
abbrev nO:=@F.slot_dict_items_iter
abbrev nP:=@wpAny_storeName_local
abbrev nQ:=@wpAny_isTrue_Compare1
abbrev nR:=@codeAny_call_function
abbrev nT:=@builtinLookup_eq_fast
abbrev jb:=@isSubtype_type
abbrev jc:=@Bool.and_false
abbrev jd:=@wpAny_newTuple
abbrev fA:=@call_meets
abbrev fB:=@Walks.list
abbrev je:=@evalPart_none
abbrev jf:=@wpAny_handled
abbrev jg:=@List.map_take
abbrev jh:=@Int.add_assoc
abbrev ji:=@Int.ofNat.inj
abbrev jj:=@name_of_addr
abbrev jk:=@seqIndex_neg
abbrev jl:=@Nat.add_comm
abbrev jm:=@cellsFrom_ok
abbrev jo:=@Bool.or_true
abbrev jp:=@Bool.true_or
abbrev jq:=@listItems_at
abbrev jr:=@wpAny_lt_int
abbrev js:=@wpAny_mkText
abbrev jt:=@List.any_map
abbrev ju:=@Int.le_of_eq
end
noncomputable section
noncomputable section
namespace L2
open PySem
noncomputable def al(s:Jv):Jy:=match s with
 | .FunctionDef _ a _ _ _ _ _ _ _ _=>a
 | _=>{posonlyargs:=[],args:=[],vararg:=none,kwonlyargs:=[],kw_defaults:=[],kwarg:=none,defaults:=[]}
noncomputable def G9(s:Jv):on Jv:=match s with
 | .FunctionDef _ _ b _ _ _ _ _ _ _=>b
 | _=>[]
noncomputable def t8(s:Jv):Jx:=match s with
 | .FunctionDef _ _ _ _ _ _ sc _ _ _=>sc
 | _=>{kind:=.function,names:=[],isGenerator:=false,isCoroutine:=false}
end L2
namespace k62
open PySem PySem.W L2 PySem.Spec PyProof.Rows
noncomputable def top(i:Nat):Jv:=PySem.Challenge.pw_talkleast_k62_weight_papers.main.body.getD i (.Pass ⟨0,0,0,0⟩)
def fo(n:Str)(i:Nat)(dV pm:Jl)(cd:Jn):Obj:=⟨.type "function",none,.func (fnOf n n (al (top i)) (G9 (top i)) (t8 (top i)) dV .none .none pm none (.ref cd) .none),#[]⟩
noncomputable def en(P:Params)(s:Str)(t:Nat)(v:Jl):DictEntry:=⟨PyData.keyHash P s,.str s t,v⟩
structure Rw where
 n:Str
 c:Nat
 t:Nat
 l:Int
 a:Int
 k:Bool
 q:Nat
 i:Nat
 m:Nat
noncomputable def zD:on Rw:=⟨"is_int",69,257,11,3,true,263,6,0⟩::⟨"cut",76,268,14,3,true,274,8,1⟩::⟨"check_cards",83,277,18,2,true,282,9,1⟩::⟨"cards_in",88,285,21,1,false,288,10,1⟩::⟨"crossing",93,291,23,3,false,294,11,1⟩::⟨"words_in",100,297,25,1,true,303,12,1⟩::⟨"splits",105,308,31,2,false,311,14,2⟩::⟨"halves",110,314,35,1,false,317,15,2⟩::⟨"way",117,322,38,3,true,332,17,3⟩::⟨"reached",124,335,47,3,true,341,18,3⟩::⟨"right_weight",131,348,51,3,true,359,21,4⟩::⟨"best_right",138,362,58,3,true,373,22,4⟩::⟨"weight_paper",143,376,70,3,false,379,23,4⟩::⟨"best_weights",148,382,72,3,false,385,24,4⟩::⟨"split_weight",155,388,84,3,true,394,25,4⟩::⟨"best_word",162,397,86,4,true,408,26,4⟩::⟨"word_weight",167,411,88,5,false,414,27,4⟩::⟨"_law_int",174,419,94,1,true,423,29,5⟩::⟨"_law_cell_at",181,426,96,2,true,431,30,5⟩::⟨"_law_stream",188,434,100,2,true,442,31,5⟩::⟨"_law_full_table",193,445,107,3,false,448,32,5⟩::⟨"_law_words",200,451,116,1,true,457,33,5⟩::⟨"_law_drawn_plan",207,460,121,3,true,469,34,5⟩::⟨"_law_few_words",214,472,128,2,true,477,35,5⟩::⟨"_law_reached",221,480,132,3,true,487,36,5⟩::⟨"_law_is_plan",228,490,139,2,true,495,37,5⟩::⟨"_law_power",256,522,163,1,true,528,41,5⟩::⟨"_law_halves",261,531,168,1,false,534,42,5⟩::⟨"_law_splits",266,537,170,2,false,540,43,5⟩::⟨"_law_weights",273,543,173,2,true,555,44,5⟩::⟨"_law_end",280,558,184,4,true,568,45,5⟩::⟨"_law_due",287,571,191,4,true,582,46,5⟩::⟨"_law_obeys",292,585,197,4,false,588,47,5⟩::⟨"_law_added",299,591,220,3,true,600,48,5⟩::⟨"_law_refused",306,603,227,4,true,612,49,5⟩::⟨"_law_great_asked",311,615,239,3,false,618,50,5⟩::⟨"law",316,621,249,1,false,624,51,5⟩::[]
noncomputable def zP(j:Nat):Jl:=[.str "talkleast.checks" 255,.str "talkleast.tables" 266,.str "talkleast.parts" 306,.str "talkleast.runs" 320,.str "talkleast.weights" 344,.str "law_talkleast_k62_weight_papers" 417].getD j .none
def zO(r:Rw):Frag:=[(r.c,⟨.type "code",none,.fields #[.str r.n r.t,.str r.n (r.t+1),.str "/claim/cut.py" (r.t+2),.int r.l 0,.int r.a 0,.int 0 0,.int 0 0,.int 3 0,.ref (r.c - if r.k then 5 else 3),.bool true,.int 181 0,.ref (r.c - if r.k then 4 else 2),.none,if r.k then .ref (r.c - 3)else .none,if r.k then .ref (r.c - 2)else .none,.ref (r.c - 1),.int r.q 0,.int r.l 0,.str "/claim/cut.py" (r.q+1)],#[]⟩),(r.c+1,fo r.n r.i .none (zP r.m) r.c)]
def kK(P:Params):Frag:=let ge (r:Rw):=en P r.n (r.q+2) (.ref (r.c+1));[(2,⟨.none,none,.dict #[] 0,#[]⟩),(3,⟨.type "dict",none,.dict ([en P "__name__" 165 (.str "law_talkleast_k62_weight_papers" 417),en P "__doc__" 166 .none,en P "__package__" 167 .none,en P "__loader__" 168 (.builtin "__main__.__loader__#opaque"),en P "__spec__" 169 .none,en P "__annotations__" 170 (.ref 6),en P "__builtins__" 171 (.ref 4),en P "__file__" 173 (.str "/claim/cut.py" 172),en P "__cached__" 174 .none,en P "TalkError" 206 (.ref 24),en P "NoTable" 222 (.ref 37),en P "NoCard" 238 (.ref 49),en P "TooGreat" 254 (.ref 61)]++((zD.drop 0).take 10).map ge++[en P "MOST_WEIGHED" 347 (.int 4 346)]++((zD.drop 10).take 16).map ge++[en P "_law_deep" 504 (.ref 236),en P "_law_ends" 511 (.ref 243),en P "_law_settles" 521 (.ref 250)]++((zD.drop 26).take 11).map ge).toArray 54,#[]⟩),(23,⟨.type "dict",none,.dict #[en P "__module__" 196 (.str "talkleast.errors" 187),en P "__firstlineno__" 200 (.int 2 199),en P "__static_attributes__" 201 (.ref 22),en P "__weakref__" 203 (.ref 25),en P "__doc__" 204 .none] 3,#[]⟩),(24,⟨.type "type",none,.cls ⟨"TalkError",[.type "ValueError"],[.ref 24,.type "ValueError",.type "Exception",.type "BaseException",.type "object"],23,"TalkError",true,[],[.ref 37,.ref 49,.ref 61],false,none,false⟩,#[some (.ref 15),none,some (.str "TalkError" 189),some (.str "TalkError" 197),some (.builtin "ValueError.__new__"),some (.bool true)]⟩),(25,⟨.type "getset_descriptor",none,.fields #[.str "__weakref__" 202,.ref 24,.builtin "ExceptionGroup.__weakref__",.none],#[]⟩),(36,⟨.type "dict",none,.dict #[en P "__module__" 214 (.str "talkleast.errors" 187),en P "__firstlineno__" 218 (.int 4 217),en P "__static_attributes__" 219 (.ref 35),en P "__doc__" 220 .none] 2,#[]⟩),(37,⟨.type "type",none,.cls ⟨"NoTable",[.ref 24],[.ref 37,.ref 24,.type "ValueError",.type "Exception",.type "BaseException",.type "object"],36,"NoTable",true,[],[],false,none,false⟩,#[some (.ref 28),none,some (.str "NoTable" 207),some (.str "NoTable" 215),some (.builtin "ValueError.__new__"),some (.bool true)]⟩),(48,⟨.type "dict",none,.dict #[en P "__module__" 230 (.str "talkleast.errors" 187),en P "__firstlineno__" 234 (.int 6 233),en P "__static_attributes__" 235 (.ref 47),en P "__doc__" 236 .none] 2,#[]⟩),(49,⟨.type "type",none,.cls ⟨"NoCard",[.ref 24],[.ref 49,.ref 24,.type "ValueError",.type "Exception",.type "BaseException",.type "object"],48,"NoCard",true,[],[],false,none,false⟩,#[some (.ref 40),none,some (.str "NoCard" 223),some (.str "NoCard" 231),some (.builtin "ValueError.__new__"),some (.bool true)]⟩),(60,⟨.type "dict",none,.dict #[en P "__module__" 246 (.str "talkleast.errors" 187),en P "__firstlineno__" 250 (.int 8 249),en P "__static_attributes__" 251 (.ref 59),en P "__doc__" 252 .none] 2,#[]⟩),(61,⟨.type "type",none,.cls ⟨"TooGreat",[.ref 24],[.ref 61,.ref 24,.type "ValueError",.type "Exception",.type "BaseException",.type "object"],60,"TooGreat",true,[],[],false,none,false⟩,#[some (.ref 52),none,some (.str "TooGreat" 239),some (.str "TooGreat" 247),some (.builtin "ValueError.__new__"),some (.bool true)]⟩)]++zD.flatMap zO
noncomputable def zA:on Jn:=[2,3,23,24,25,36,37,48,49,60,61]++zD.flatMap λ r=>[r.c,r.c+1]
noncomputable def kT:Frag:=zD.map λ r=>(r.c - if r.k then 4 else 2,⟨.none,none,.fields #[],#[]⟩)
def kAll(P:Params):Frag:=kT++kK P
def zB:on Jn:=kT.map (·.1)++zA
def kE:∀P,zB=(kAll P).map (·.1):=λ _=>by kernel_rfl
noncomputable def kQ:Js:=view PySem.Challenge.pw_talkleast_k62_weight_papers [1,2,3,4,6,8,9,10,11,12,14,15,17,18,20,21,22,23,24,25,26,27,29,30,31,32,33,34,35,36,37,38,39,40,41,42,43,44,45,46,47,48,49,50,51]
def kL:on Str:=[]
set_option maxHeartbeats 0 in
def kLeft:LeftO PySem.Challenge.pw_talkleast_k62_weight_papers kQ kL (λ s=>xlAt kQ [] s&&recOk (RowW.records (OpenRow.toRowW (OpenLaw.row PySem.Challenge.rw_talkleast_k62_weight_papers))) s) (kHook kAll zB kE).obs (kHook kAll zB kE).val 4344:=by
 intro w
 kernel_rfl
end k62
end
noncomputable section
namespace L2
open PySem PySem.Spec PyProof.Rows
abbrev Key:=Sum Int Str
noncomputable def bf:Key->Jl->Bool
 | .inl k,v=>Value.isInt k v
 | .inr x,v=>Value.isStrOf x v
noncomputable def keyH(w:Jr):Key->Int
 | .inl k=>hashInt k
 | .inr x=>hashStr w x
def U8:∀{k:Key} {v:Jl},bf k v=true->(∃i t,k=Sum.inl i/\v=Value.int i t)\/(∃x t,k=Sum.inr x/\v=Value.str x t)
 | .inl i,v,h=>by obtain⟨t,e⟩:=Value.isInt_shape h;exact .inl ⟨i,t,rfl,e⟩
 | .inr x,v,h=>by obtain⟨t,e⟩:=Value.isStrOf_shape h;exact .inr ⟨x,t,rfl,e⟩
def wu(i:Int)(t:Tok):bf (.inl i) (.int i t)=true:=by simp[bf,Value.isInt]
def wv(x:Str)(t:Tok):bf (.inr x) (.str x t)=true:=by simp[bf,Value.isStrOf]
def wx(a b:Int):decide ((Sum.inl a:Key)=Sum.inl b)=(a==b):=by
 by_cases e:a=b
 ·subst e;simp
 ·have h:¬(Sum.inl a:Key)=Sum.inl b:=λ q=>e (Sum.inl.inj q);rw[B4 h];exact(y9.mpr e).symm
def wy(a b:Str):decide ((Sum.inr a:Key)=Sum.inr b)=decide (a=b):=by
 by_cases e:a=b
 ·subst e;simp
 ·have h:¬(Sum.inr a:Key)=Sum.inr b:=λ q=>e (Sum.inr.inj q);rw[B4 h,B4 e]
def wz(a:Int)(b:Str):decide ((Sum.inl a:Key)=Sum.inr b)=false:=B4 (λ q=>nomatch q)
def wA(a:Str)(b:Int):decide ((Sum.inr a:Key)=Sum.inl b)=false:=B4 (λ q=>nomatch q)
def H9(prog:Js)(w:Jr):PySem.KeyKind prog w Key where
 is:=bf
 hash:=keyH w
 inj:=λ v a b ha hb=>by
  rcases U8 ha with⟨i,t,rfl,rfl⟩ | ⟨x,t,rfl,rfl⟩
  ·rcases U8 hb with⟨j,u,rfl,e⟩ | ⟨y,u,rfl,e⟩
   ·injection e with e1 _;rw[e1]
   ·exact nomatch e
  ·rcases U8 hb with⟨j,u,rfl,e⟩ | ⟨y,u,rfl,e⟩
   ·exact nomatch e
   ·injection e with e1 _;rw[e1]
 byValue:=λ k v h=>by rcases U8 h with⟨i,t,rfl,rfl⟩ | ⟨x,t,rfl,rfl⟩<;>rfl
 pyHash:=λ hv h=>by
  rcases U8 hv with⟨i,t,rfl,rfl⟩ | ⟨x,t,rfl,rfl⟩
  ·exact wpAny_pyHash_int h
  ·exact wpAny_pyHash_str h
 eqBool:=λ hu hv h=>by
  rcases U8 hu with⟨i,t,rfl,rfl⟩ | ⟨x,t,rfl,rfl⟩
  ·rcases U8 hv with⟨j,u,rfl,rfl⟩ | ⟨y,u,rfl,rfl⟩
   ·rw[wx]at h;exact cr h
   ·rw[wz]at h;exact SeqAt.EqAt.int_str i t y u _ _ _ _ h
  ·rcases U8 hv with⟨j,u,rfl,rfl⟩ | ⟨y,u,rfl,rfl⟩
   ·rw[wA]at h;exact SeqAt.EqAt.str_int x t j u _ _ _ _ h
   ·rw[wy]at h;exact wpAny_eqBool_str h
 «strs»:=λ k x t v h=>by
  rcases U8 h with⟨i,u,rfl,e⟩ | ⟨y,u,rfl,e⟩
  ·exact nomatch e
  ·injection e with e1 _
   subst e1;cases v<;>rfl
def wE(prog:Js)(w:Jr)(i:Int)(t:Tok):(H9 prog w).is (.inl i) (.int i t)=true:=wu i t
def wF(prog:Js)(w:Jr)(x:Str)(t:Tok):(H9 prog w).is (.inr x) (.str x t)=true:=wv x t
end L2
namespace L2
open PySem PySem.Spec PyProof.Rows
inductive V where
 | non | bl (b:Bool) | int (i:Int) | str (x:Str) | byt (b:Array UInt8) | flt (b:UInt64) | ref (a:Addr) | ty (n:String)
 deriving DecidableEq
noncomputable def RelV:V->Jl->Prop
 | .non,u=>u=Value.none
 | .bl b,u=>u=Value.bool b
 | .int i,u=>∃t,u=Value.int i t
 | .str x,u=>∃t,u=Value.str x t
 | .byt b,u=>∃t,u=Value.bytes b t
 | .flt b,u=>∃t,u=Value.float b t
 | .ref a,u=>u=Value.ref a
 | .ty n,u=>u=Value.type n
abbrev Vals:on V->on Jl->Prop:=Paired RelV
theorem Vals.length(r:Vals xs a):xs.length=a.length:=ff r
theorem Vals.get:∀{xs:on V} {us:on Jl} {i:Nat} {x:V},Vals xs us->xs[i]? = some x->∃u,us[i]? = some u/\RelV x u
 | _,_,_,_,.nil,e=>by simp at e
 | _,_,0,_,.cons r _,e=>by simp at e;subst e;exact⟨_,rfl,r⟩
 | _,_,i+1,x,.cons _ t,e=>by obtain⟨u,b,a⟩:=Vals.get t (by simpa using e);exact⟨u,by simpa using b,a⟩
theorem Vals.set(r:RelV x u):∀{xs:on V} {us:on Jl} (i:Nat),Vals xs us->Vals (xs.set i x) (us.set i u)
 | _,_,_,.nil=>.nil
 | _,_,0,.cons _ t=>.cons r t
 | _,_,i+1,.cons q t=>.cons q (Vals.set r i t)
theorem Vals.append:∀{xs a:on V} {us ws:on Jl},Vals xs us->Vals a ws->Vals (xs++a) (us++ws)
 | _,_,_,_,.nil,s=>s
 | _,_,_,_,.cons r t,s=>.cons r (Vals.append t s)
theorem Vals.take:∀{xs:on V} {us:on Jl} (n:Nat),Vals xs us->Vals (xs.take n) (us.take n)
 | _,_,0,_=>.nil
 | _,_,_+1,.nil=>.nil
 | _,_,n+1,.cons r t=>.cons r (Vals.take n t)
theorem Vals.drop:∀{xs:on V} {us:on Jl} (n:Nat),Vals xs us->Vals (xs.drop n) (us.drop n)
 | _,_,0,r=>r
 | _,_,_+1,.nil=>.nil
 | _,_,n+1,.cons _ t=>Vals.drop n t
def RelO:Jk V->Jk Jl->Prop
 | some v,some u=>RelV v u
 | none,none=>True
 | _,_=>False
def KV{κ:Type}:on (κ×V)->on (κ×Jl)->Prop:=Paired λ (p:κ×V) (q:κ×Jl)=>p.1=q.1/\RelV p.2 q.2
def kV:Key->V
 | .inl i=>.int i
 | .inr x=>.str x
inductive HO where
 | lst (xs:List V)
 | tup (xs:List V)
 | dK (kvs:List (Key×V)) | dT (kvs:List (List Key×V))
 | set (S:Int->Bool) (n:Nat)
 | ins (C dx:Addr) (fs:List (Str×V))
 | own (x:Addr)
 | xd (fs:List (Str×V))
 | met (f x:Addr)
 | rng (lo hi:Int)
 | frz (o:Obj) (u:HO)
 | tbl (q:Str)
 | ext (φ:Heap->Prop)
abbrev Hp:=Jn->Jk HO
noncomputable def upd(H:Hp)(a:Jn)(o:HO):Hp:=λ b=>if b=a then some o else H b
def z8:upd H a o a=some o:=by unfold upd;rw[f8 rfl]
def m7(h:b≠a):upd H a o b=H b:=by unfold upd;rw[g9 h]
def wG{H:Hp}(h:H a=some o)(h':H b=some u)(d:o≠u):a≠b:=by
 intro e;subst e;rw[h]at h';exact d (B8 h')
def B1{H:Hp}(h:H a=some o)(h':H b=none):a≠b:=by
 intro e;subst e;rw[h]at h';cases h'
def S0(h:Jo)(a:Jn)(items:Jq Jl):Prop:=∃o,h.get? a=some o/\(o.cls=.type "tuple" /\ o.dict=none)/\∃n,o.data=.seq items n
def S0.tup(x:S0 h a items):IsTup h a items:=let ⟨o,ho,hc,r⟩:=x;⟨o,ho,hc.1,r⟩
def S0.lt(x:S0 h a items):a<h.objs.size:=let ⟨_,ho,_⟩:=x;k8 ho
def S0.new(h:Jo)(items:Jq Jl):S0 (h.push {cls:=.type "tuple",data:=.seq items}) h.objs.size items:=⟨_,q5 _ rfl,⟨rfl,rfl⟩,_,rfl⟩
section
variable (P:Js) (w:Jr)
noncomputable def M6(q:Str):Bool:=q == "plan_by.<locals>.plan_of" || q == "best_right.<locals>.plan_of"
def u9(H:Hp)(h:Jo)(a:Jn):HO->Prop
 | .lst xs=>xs.length<=sizeLine/\∃(its:on Jl) (n:Nat),Vals xs its/\h.get? a=some {cls:=.type "list",data:=.seq its.toArray n}
 | .tup xs=>xs.length<=sizeLine/\∃its:on Jl,Vals xs its/\S0 h a its.toArray
 | .dK kvs=>kvs.length<=sizeLine/\(a==sysModules)=false/\∃vs,KV kvs vs/\h.DictOf (H9 P w) a vs
 | .dT kvs=>kvs.length<=sizeLine/\(a==sysModules)=false/\∃xs:on (on Key×Jn×Jl),
   Paired (λ (p:on Key×V) (q:on Key×Jn×Jl)=>p.1=q.1/\H q.2.1=some (.tup (p.1.map kV))/\RelV p.2 q.2.2) kvs xs /\
   ∃o es ep,h.get? a=some o/\o.ExactDict/\o.data=.dict es ep/\es.toList=xs.map (entryOfKey (tupleKind (H9 P w)))/\(xs.map (·.1)).Nodup
 | .set S n=>h.SetOf (intKind P w) a S n
 | .ins C dx fs=>H dx=some (.own a)/\fs.length<=1000/\dx≠a/\h.get? a=some (PySem.W.instObj C dx) /\
   ∃mA,h.Ns1 dx mA/\(∀f,RelO (fs.lookup f) (mA f))/\PySem.Within mA (fs.map (·.1))
 | .own _=>∃o,h.get? a=some o
 | .xd fs=>∃mA,h.Ns1 a mA/\∀f,RelO (fs.lookup f) (mA f)
 | .rng lo hi=>∃t u v,h.get? a=some {cls:=.type "range",data:=.fields #[.int lo t,.int hi u,.int 1 v]}
 | .frz o u=>h.get? a=some o/\u9 H h a u
 | .tbl q=>∃ps:Jq Jl,h.get? a=some {cls:=.none,data:=.fields ps} /\ TriplesOk ps.toList/\∀pos cv,codeAmong pos ps.toList=some cv->∃c oc u vs t,cv=.ref c/\H c=some (.frz oc u)/\oc.data=.fields vs/\vs[1]? = some (.str q t)/\(M6 q=true->oc.cls=.type "code" /\ ∃(T:Jn) (file:Str) (tf:Tok) (flags:Int) (tg:Tok) (inF:Bool) (text:Int) (tt:Tok),vs[11]? = some (.ref T)/\vs.getD 11 .none=.ref T/\vs.getD 18 .none=.str file tf/\vs.getD 7 .none=.int flags tg/\vs.getD 9 .none=.bool inF/\vs.getD 10 .none=.int text tt/\c≠T/\H T=some (.tbl (q ++ ".<locals>." ++ "<lambda>")))
 | .met f x=>h.get? a=some (PySem.W.methodObj (.ref f) (.ref x))
 | .ext φ=>φ h/\(∃o,h.get? a=some o)/\∀h1 h2:Jo,φ h1->(∀o,h1.get? a=some o->h2.get? a=some o)->φ h2
def HOk(H:Hp)(h:Jo):Prop:=∀a o,H a=some o->u9 P w H h a o
end
theorem u9.lt(x:u9 P w H h a o):a<h.objs.size:=by
 cases o with
 | lst c=>obtain⟨_,_,_,_,e⟩:=x;exact k8 e
 | tup c=>obtain⟨_,_,_,p⟩:=x;exact p.lt
 | dK b=>obtain⟨_,_,_,_,o,_,_,e,_⟩:=x;exact k8 e
 | dT b=>obtain⟨_,_,_,_,o,_,_,e,_⟩:=x;exact k8 e
 | set S n=>obtain⟨o,_,_,_,e,_⟩:=x;exact k8 e
 | ins C dx fs=>obtain⟨_,_,_,e,_⟩:=x;exact k8 e
 | own y=>obtain⟨_,e⟩:=x;exact k8 e
 | xd fs=>obtain⟨_,⟨_,_,_,e,_⟩,_⟩:=x;exact k8 e
 | rng lo hi=>obtain⟨_,_,_,e⟩:=x;exact k8 e
 | frz ob u=>obtain⟨e,_⟩:=x;exact k8 e
 | tbl q=>obtain⟨_,e,_⟩:=x;exact k8 e
 | met f y=>exact k8 (x)
 | ext φ=>obtain⟨_,⟨_,e⟩,_⟩:=x;exact k8 e
theorem Paired.mapP:∀{c:on e} {l₂:on d},Paired F c l₂->(∀a b,F a b->G a b)->Paired G c l₂
 | _,_,.nil,_=>.nil
 | _,_,.cons r t,f=>.cons (f _ _ r) (Paired.mapP t f)
def u9.stay(x:u9 P w H h a o)(k:∀b u,(b=a\/H b=some (.own a))->h.get? b=some u->h'.get? b=some u)
  (ho:∀b,H b=some (.own a)->E b=some (.own a)) (ht:∀b xs,H b=some (.tup xs)->E b=some (.tup xs)) (hy:∀b q,H b=some (.tbl q)->E b=some (.tbl q)) (hz:∀b o u vs,o.data=.fields vs->H b=some (.frz o u)->E b=some (.frz o u)):u9 P w E h' a o:=by
 induction o with
 | lst xs=>obtain⟨z,l,n,r,e⟩:=x;exact⟨z,l,n,r,k _ _ (.inl rfl) e⟩
 | tup xs=>obtain⟨z,l,r,g,e,c⟩:=x;exact⟨z,l,r,g,k _ _ (.inl rfl) e,c⟩
 | dK K=>obtain⟨z,y,vs,r,g,i,j,e,c⟩:=x;exact⟨z,y,vs,r,g,i,j,k _ _ (.inl rfl) e,c⟩
 | dT K=>
  obtain⟨z,y,xs,r,g,i,j,e,c⟩:=x;exact⟨z,y,xs,Paired.mapP r λ p q z=>⟨z.1,ht _ _ z.2.1,z.2.2⟩,g,i,j,k _ _ (.inl rfl) e,c⟩
 | set S n=>obtain⟨g,i,j,t,e,c⟩:=x;exact⟨g,i,j,t,k _ _ (.inl rfl) e,c⟩
 | ins C dx fs=>
  obtain⟨d,z,ne,e,J,⟨I,i,j,M,c⟩,r⟩:=x;exact⟨ho _ d,z,ne,k _ _ (.inl rfl) e,J,⟨I,i,j,k _ _ (.inr d) M,c⟩,r⟩
 | own y=>obtain⟨g,e⟩:=x;exact⟨g,k _ _ (.inl rfl) e⟩
 | xd fs=>obtain⟨J,⟨I,i,j,e,c⟩,r⟩:=x;exact⟨J,⟨I,i,j,k _ _ (.inl rfl) e,c⟩,r⟩
 | rng lo hi=>obtain⟨t,u,v,e⟩:=x;exact⟨t,u,v,k _ _ (.inl rfl) e⟩
 | frz g u ih=>obtain⟨e,q⟩:=x;exact⟨k _ _ (.inl rfl) e,ih q⟩
 | tbl q=>
  obtain⟨ps,e,t,f⟩:=x;refine⟨ps,k a _ (.inl rfl) e,t,λ F cv z=>?_⟩;obtain⟨c,oc,u,vs,t',e1,M,O,e4,e5⟩:=f F cv z;refine⟨c,oc,u,vs,t',e1,hz _ _ _ _ O M,O,e4,λ y=>?_⟩;obtain⟨y0,T,B,tf,m,tg,L,A,tt,y1,Z,Y,X,W,U,R,Q⟩:=e5 y;exact⟨y0,T,B,tf,m,tg,L,A,tt,y1,Z,Y,X,W,U,R,hy _ _ Q⟩
 | met f y=>
  have e:=x;show h'.get? a=some _;exact k a _ (.inl rfl) e
 | ext φ=>obtain⟨p,⟨o,e⟩,N⟩:=x;exact⟨N _ _ p λ o q=>k _ _ (.inl rfl) q,⟨o,k _ _ (.inl rfl) e⟩,N⟩
theorem HOk.lt(x:HOk P w H h)(e:H a=some o):a<h.objs.size:=(x a o e).lt
def HOk.fresh(x:HOk P w H h)(e:h.objs.size<=a):H a=none:=by
 cases q:H a with
 | none=>rfl
 | some u=>exact absurd (p9 (x.lt q) e) (L0 _)
def HOk.kept(x:HOk P w H h)(k:∀b u,h.get? b=some u->h'.get? b=some u):HOk P w H h':=λ a o e=>
 (x a o e).stay (λ b u _ q=>k b u q) (λ _ q=>q) (λ _ _ q=>q) (λ _ _ q=>q) λ _ _ _ _ _ q=>q
def HOk.laid(x:HOk P w H h)(k:∀b u,h.get? b=some u->h'.get? b=some u)(i:h.objs.size<=a)(new:u9 P w (upd H a o) h' a o):HOk P w (upd H a o) h':=λ b u e=>by
 have d:=x.fresh i;by_cases f:b=a
 ·subst f;rw[z8]at e;cases e;exact new
 ·rw[m7 f]at e;exact(x b u e).stay (λ c v _ q=>k c v q) (λ c q=>by rw[m7 (B1 q d)];exact q) (λ c g q=>by rw[m7 (B1 q d)];exact q) (λ c g q=>by rw[m7 (B1 q d)];exact q) λ c _ _ _ _ q=>by rw[m7 (B1 q d)];exact q
def Rd(H:Hp)(a:Jn)(u:HO):Prop:=H a=some u\/∃o,H a=some (.frz o u)
def Rd.ok(r:Rd H a u)(x:HOk P w H h):u9 P w H h a u:=by
 rcases r with r | ⟨o,r⟩
 ·exact x a u r
 ·obtain⟨_,q⟩:=x a _ r;exact q
noncomputable def Mut:Jk HO->Prop
 | some (.lst _)=>True
 | some (.dK _)=>True
 | some (.dT _)=>True
 | some (.set _ _)=>True
 | some (.ins _ _ _)=>True
 | some (.ext _)=>True
 | _=>False
def HOk.write(ok:HOk P w H h)(f:Mut (H x))(p:e=x\/H e=some (.own x))(k:∀b u,b≠e->h.get? b=some u->h'.get? b=some u)(m:∃u,h'.get? e=some u)
  (new:u9 P w (upd H x l) h' x l):HOk P w (upd H x l) h':=λ b u q=>by
 have d:∀c y,H c=some (.own y)->c≠x:=λ c y r z=>by subst z;rw[r]at f;exact f
 have ntup:∀c g,H c=some (.tup g)->c≠x:=λ c g r z=>by subst z;rw[r]at f;exact f
 by_cases j:b=x
 ·subst j;rw[z8]at q;cases q;exact new
 ·rw[m7 j]at q;by_cases a:b=e
  ·have n:H b=some (.own x):=by
    rcases p with z | z
    ·exact absurd (a.trans z) j
    ·rw[a];exact z
   rw[q]at n;cases n;obtain⟨v,hv⟩:=m;exact⟨v,by rw[a];exact hv⟩
  ·refine(ok b u q).stay (λ c v i r=>k c v ?_ r) (λ c r=>by rw[m7 (d c b r)];exact r) (λ c g r=>by rw[m7 (ntup c g r)];exact r) (λ c g r=>by rw[m7 λ z=>by subst z;rw[r]at f;exact f];exact r) λ c o v _ _ r=>by rw[m7 λ z=>by subst z;rw[r]at f;exact f];exact r
   rcases i with rfl | i
   ·exact a
   ·rintro rfl
    rcases p with z | z
    ·exact d c b i z
    ·rw[i]at z;cases z;exact j rfl
structure Un(fs ex:List Addr)(H H':Hp)(h h':Heap):Prop where
 keep:∀b o,h.get? b=some o->H b=none->b∉fs->b∉ex->h'.get? b=some o
 slot:∀b o,h.get? b=some o->H b=none->b∈fs->b∉ex->∃sl,h'.get? b=some {o with slots:=sl}
 free:∀b o,h.get? b=some o->H b=none->b∉ex->H' b=none
 there:∀b o,h.get? b=some o->b∉ex->∃o',h'.get? b=some o'
 tups:∀b xs,H b=some (.tup xs)->H' b=some (.tup xs)
 frzs:∀b o u,H b=some (.frz o u)->H' b=some (.frz o u)
 tbls:∀b q,H b=some (.tbl q)->H' b=some (.tbl q)
def Un.any(u:Un fs ex H f h e)(q:h.get? b=some a)(n:H b=none)(c:b∉ex):∃sl,e.get? b=some {a with slots:=sl}:=by
 by_cases d:b∈fs
 ·exact u.slot b a q n d c
 ·exact⟨a.slots,u.keep b a q n d c⟩
def Un.kept(k:∀b u,h.get? b=some u->h'.get? b=some u):Un fs ex H H h h':=
 ⟨λ b a q _ _ _=>k b a q,λ b a q _ _ _=>⟨a.slots,k b a q⟩,λ _ _ _ n _=>n,λ b a q _=>⟨a,k b a q⟩,λ _ _ q=>q,λ _ _ _ q=>q,λ _ _ q=>q⟩
def Un.refl:Un fs ex H H h h:=Un.kept λ _ _ q=>q
def Un.laid(k:∀b u,h.get? b=some u->h'.get? b=some u)(e:h.objs.size<=a)(c:H a=none):Un fs ex H (upd H a o) h h' where
 keep:=λ b u q _ _ _=>k b u q
 slot:=λ b u q _ _ _=>⟨u.slots,k b u q⟩
 free:=λ b u q n _=>by rw[m7 (o9 (p9 (k8 q) e))];exact n
 there:=λ b u q _=>⟨u,k b u q⟩
 tups:=λ b d q=>by rw[m7 (B1 q c)];exact q
 frzs:=λ b u d q=>by rw[m7 (B1 q c)];exact q
 tbls:=λ b ps q=>by rw[m7 (B1 q c)];exact q
def Un.write(c:Mut (H x))(m:e=x\/H e=some (.own x))(k:∀b u,b≠e->h.get? b=some u->h'.get? b=some u)(f:∃u,h'.get? e=some u):Un fs ex H (upd H x o) h h':=by
 have g:∀b,H b=none->b≠x:=λ b n z=>by subst z;rw[n]at c;exact c
 have i:∀b,H b=none->b≠e:=λ b n z=>by
  subst z;rcases m with r | r
  ·exact g b n r
  ·rw[n]at r;cases r
 have d:∀b u,H b=some u->¬Mut (some u)->b≠x:=λ b u q l z=>by subst z;rw[q]at c;exact l c
 refine⟨λ b u q n _ _=>k b u (i b n) q,λ b u q n _ _=>⟨u.slots,k b u (i b n) q⟩,λ b u q n _=>by rw[m7 (g b n)];exact n,λ b u q _=>?_,
  λ b j q=>by rw[m7 (d b _ q λ z=>z)];exact q,λ b u j q=>by rw[m7 (d b _ q λ z=>z)];exact q,λ b ps q=>by rw[m7 (d b _ q λ z=>z)];exact q⟩
 by_cases a:b=e
 ·subst a;exact f
 ·exact⟨u,k b u a q⟩
noncomputable def trk(h:Jo)(H:Hp):on Jn:=(JS h.objs.size).filter λ a=>(H a).isSome
def hidT(h:Jo)(H:Hp):Jo:=PySem.W.hideAll h (trk h H)
def wH(h:Jo)(H:Hp):(hidT h H).objs.size=h.objs.size:=PySem.W.hideAll_size _ _
def wI(e:h.get? b=some o)(n:H b=none):(hidT h H).get? b=some o:=
 iF _ e λ a=>by have q:=(E4.mp a).2;rw[n]at q;simp at q
def wJ(e:(hidT h H).get? b=some o):h.get? b=some o/\H b=none:=by
 have a:=PySem.W.of_hideAll _ e;refine⟨a,?_⟩;cases q:H b with
 | none=>rfl
 | some x=>
  have z:(hidT h H).get? b=none:=PySem.W.hideAll_none _ (E4.mpr ⟨x5.mpr (k8 a),by simp[q]⟩);rw[z]at e;cases e
noncomputable def wK(g h:Jo)(L:Jn):on (Jn×Obj):=(JS h.objs.size).filterMap λ a=>if a=L\/(g.get? a).isSome=true then none else(h.get? a).map λ o=>(a,o)
def rest(g h:Jo)(L d:Jn):on (Jn×Obj):=(wK g h L).filter λ p=>decide (p.1≠d)
end L2
namespace L2
open PySem PySem.Spec PyProof.Rows
structure Mod(K:PySem.W.Frag)(mg:Str->Option Value)(base:Heap):Prop where
 kin:K.In base
 glob:base.Ns mainGlobals mg
 blt:∃mb,base.Ns builtinsNs mb/\∀x:Str,x ≠ "__name__" -> mb x=bootBuiltins x
 nolimit:base.NoLimit
 bmod:∃bm ob,mg "__builtins__" = some (.ref bm)/\bm≠builtinsNs/\base.get? bm=some ob/\ob.cls=.type "module" /\ ob.dict=some builtinsNs/\ob.data=.plain
set_option genInjectivity true in
structure Cx where
 prog:Program
 w:World
 K:PySem.W.Frag
 mg:Str->Option Value
 base:Heap
 A:Around
 N:List Str
 s₀:Shared
 H₀:Hp
 env:Env
 outer:List Env
 stack:List Env
 ex:List Addr
 fn:Str->Bool
 calm:Bool
 pn:List (Addr×Obj)
 xe:Value->Shared->Prop
def tagQ(q:Str):Str:=if M6 (q ++ ".<locals>." ++ "plan_of")then q ++ ".<locals>." ++ "plan_of" else q ++ ".<locals>." ++ "<lambda>"
def A5(K:Jw):on (Jn×Str):=K.filterMap λ p=>match p.2.cls,p.2.data with
 | .type "code",.fields vs=>(match(vs[11]?:Jk Jl),(vs[1]?:Jk Jl)with
  | some (.ref P),some (.str q _)=>if(K.lookup P).isNone then some (P,tagQ q)else none
  | _,_=>none)
 | _,_=>none
def cO(K:Jw)(H:Hp):Prop:=∀p∈A5 K,H p.1=some (.tbl p.2)
def frs(l:on Env):on Jn:=l.filterMap (·.frame)
abbrev Cx.fs(X:Cx):on Jn:=frs X.outer
def Vis(sc:Jx)(x:Str):Prop:=sc.names.lookup x=some .local\/sc.names.lookup x=some .cell\/sc.names.lookup x=some .free
def Loc(sc:Jx)(x:Str):Prop:=sc.names.lookup x=some .local\/sc.names.lookup x=some .cell
def Look(env:Env)(h:Jo)(m:Str->Jk Jl)(x:Str)(u:Jl):Prop:=
 (env.kindOf x=some .local/\m x=some u)\/((env.kindOf x=some .cell\/env.kindOf x=some .free)/\∃c,env.cells.lookup x=some c/\h.IsCell c (some u))
structure Cx.Ok(X:Cx):Prop where
 mod:Mod X.K X.mg X.base
 kind:X.env.scope.kind=.function
 glob:X.env.globals=mainGlobals
 blt:X.env.builtins=builtinsNs
 above:X.s₀.heap.objs.size<=X.env.locals
 inj:∀x y c,X.env.cells.lookup x=some c->X.env.cells.lookup y=some c->x=y
 has:∀x,(X.env.kindOf x=some .cell\/X.env.kindOf x=some .free)->∃c,X.env.cells.lookup x=some c
 cab:∀x c,X.fn x=true->X.env.cells.lookup x=some c->X.s₀.heap.objs.size<=c
 hd:X.calm=true->X.A.handled=none
 frames:X.A.frames=some X.stack
 stk:X.stack=X.outer\/(X.stack=X.env::X.outer/\X.env.frame=some X.env.locals)
 exf:∀b∈X.ex,b≠X.env.locals/\∀x c,X.env.cells.lookup x=some c->c≠b
 bs:∀b o,X.base.get? b=some o->X.s₀.heap.get? b=some o/\X.H₀ b=none
 bsz:X.base.objs.size<=X.s₀.heap.objs.size
 noex:∀b o,X.base.get? b=some o->b∉X.ex
 exfs:∀b∈X.ex,b∉X.fs
 funs:X.s₀.heap.FunFrames X.base X.outer
 frf:(∀b∈X.fs,X.H₀ b=none)/\cO X.K X.H₀
structure Inv(X:Cx)(pins:List (Addr×Obj))(σ:List (Option V))(H:Hp)(s:Shared):Prop where
 ok:X.Ok
 os:s.os=X.s₀.os
 bare:AllBare s.gens
 base:Un X.fs X.ex X.H₀ H X.s₀.heap s.heap
 loc:∃m,s.heap.Ns X.env.locals m/\∀(i:Nat) (x:Str) (v:V),X.N[i]? = some x->σ[i]? = some (some v)->Vis X.env.scope x->∃u,RelV v u/\Look X.env s.heap m x u
 cell:∀x c,X.env.cells.lookup x=some c->∃v,s.heap.IsCell c v
 free:H X.env.locals=none
 freeC:∀x c,X.env.cells.lookup x=some c->H c=none
 pin:∀p∈X.pn++pins,s.heap.get? p.1=some p.2/\H p.1=none/\p.1≠X.env.locals/\p.1∉X.fs/\∀v,p.2.data ≠ .cell v
 hok:HOk X.prog X.w H s.heap
 len:σ.length=X.N.length
def Cx.Ok.nofr{X:Cx}(ok:X.Ok)(e:X.base.get? b=some o):b∉X.fs:=λ a=>by
 have:=(ok.funs.mem a).1;rw[e]at this;cases this
theorem Inv.bs(I:JI a):∀b o,X.base.get? b=some o->s.heap.get? b=some o/\H b=none:=λ b o e=>
 ⟨I.base.keep b o (I.ok.bs b o e).1 (I.ok.bs b o e).2 (I.ok.nofr e) (I.ok.noex b o e),I.base.free b o (I.ok.bs b o e).1 (I.ok.bs b o e).2 (I.ok.noex b o e)⟩
def Inv.bk(I:JI a):∀b o,X.base.get? b=some o->s.heap.get? b=some o:=λ b o e=>(I.bs b o e).1
theorem Inv.mod(I:JI a):Mod X.K X.mg X.base:=I.ok.mod
def Inv.tabs(I:JI a):cO X.K H:=λ p b=>I.base.tbls p.1 p.2 (I.ok.frf.2 p b)
def Inv.kIn(I:JI a):X.K.In s.heap:=I.ok.mod.kin.keeps I.bk
theorem Inv.lt(I:JI a):X.env.locals<s.heap.objs.size:=let ⟨_,hn,_⟩:=I.loc;hn.lt
def Inv.sz(I:JI a):X.s₀.heap.objs.size<=s.heap.objs.size:=k6 I.ok.above (M3 I.lt)
def Inv.nofs(I:JI b)(h:s.heap.objs.size<=a):a∉X.fs:=λ d=>by
 obtain⟨_,o,c,_⟩:=I.ok.funs.mem d
 exact absurd (p9 (k8 c) (k6 I.sz h)) (L0 _)
def Inv.cne(I:JI a):∀x c,X.env.cells.lookup x=some c->c≠X.env.locals:=λ x c e z=>by
 obtain⟨v,o,f,hd⟩:=I.cell x c e;obtain⟨m,⟨o',es,ep,b,d,_⟩,_⟩:=I.loc;rw[z,b]at f;cases f;rw[d]at hd;cases hd
theorem Inv.funs(I:JI a):s.heap.FunFrames X.base X.outer:=by
 have all:∀(l:on Env),(∀b∈frs l,b∈X.fs)->X.s₀.heap.FunFrames X.base l->s.heap.FunFrames X.base l:=by
  intro l
  induction l with
  | nil=>intro _ _;trivial
  | cons p r h=>
   intro g m;obtain⟨n,⟨L,o,c,k,j,hd⟩,i⟩:=m;have f:=g L (by unfold frs;rw[eL,c];exact o6);obtain⟨sl,e⟩:=I.base.slot L o j (I.ok.frf.1 L f) f λ z=>I.ok.exfs L z f
   exact⟨n,⟨L,_,c,k,e,hd⟩,h (λ b d=>g b (by unfold frs;rw[eL,c];exact o4 _ d)) i⟩
 exact all X.outer (λ _ d=>d) I.ok.funs
theorem Inv.stack(I:JI a):s.heap.FunFrames X.base X.stack:=by
 rcases I.ok.stk with e | ⟨e,hf⟩
 ·rw[e];exact I.funs
 ·rw[e];obtain⟨m,b,_⟩:=I.loc;refine .cons (by rw[I.ok.kind];decide) hf b ?_ I.funs
  exact aN (k6 I.ok.bsz I.ok.above)
def Inv.stkSub(I:JI c):∀b∈frs X.stack,b∈X.env.locals::X.fs:=λ b a=>by
 rcases I.ok.stk with e | ⟨e,hf⟩
 ·rw[e]at a;exact o4 _ a
 ·rw[e]at a;unfold frs at a;rw[eL,hf]at a;exact a
def Inv.stkFree(I:JI a):∀b∈frs X.stack,H b=none:=λ b c=>by
 rcases j0.mp (I.stkSub b c)with e | c
 ·rw[e];exact I.free
 ·obtain⟨_,o,d,_⟩:=I.ok.funs.mem c
  exact I.base.free b o d (I.ok.frf.1 b c) λ z=>I.ok.exfs b z c
def Inv.step{ch:on Jn}(I:JI f)
  (h:∀b∈ch,(b∈X.ex\/X.s₀.heap.objs.size<=b)/\b≠X.env.locals/\(∀x c,X.env.cells.lookup x=some c->c≠b)/\∀p∈X.pn++f,p.1≠b)
  (keep:∀b o,b≠X.env.locals->b∉X.fs->b∉ch->s.heap.get? b=some o->H b=none->h'.get? b=some o)
  (slot:∀b o,b≠X.env.locals->b∈X.fs->b∉ch->s.heap.get? b=some o->H b=none->∃sl,h'.get? b=some {o with slots:=sl}) (free:∀b o,b∉ch->s.heap.get? b=some o->H b=none->C b=none)
  (there:∀b o,b∉ch->s.heap.get? b=some o->∃F,h'.get? b=some F)
  (tups:∀b xs,H b=some (.tup xs)->C b=some (.tup xs)) (K:∀b o u,H b=some (.frz o u)->C b=some (.frz o u)) (E:∀b q,H b=some (.tbl q)->C b=some (.tbl q))
  (ns:∀m,s.heap.Ns X.env.locals m->h'.Ns X.env.locals m) (M:HOk X.prog X.w C h') (W:AllBare R) :
  Inv X f σ C {s with heap:=h',gens:=R,drawn:=Z,toks:=t'}:=by
 have J:∀b o,X.s₀.heap.get? b=some o->b≠X.env.locals:=λ b o e=>o9 (p9 (k8 e) I.ok.above);have w:∀b o,X.s₀.heap.get? b=some o->b∉X.ex->b∉ch:=λ b o e a y=>by
  rcases(h b y).1 with z | z
  ·exact a z
  ·exact absurd (p9 (k8 e) z) (L0 _)
 have j:∀x c,X.env.cells.lookup x=some c->∀v,s.heap.IsCell c v->h'.IsCell c v:=λ x c e v ⟨o,B,hd⟩=>by
  have g:c∉ch:=λ z=>(h c z).2.2.1 x c e rfl;by_cases Q:c∈X.fs
  ·obtain⟨sl,q⟩:=slot c o (I.cne x c e) Q g B (I.freeC x c e);exact⟨_,q,hd⟩
  ·exact⟨o,keep c o (I.cne x c e) Q g B (I.freeC x c e),hd⟩
 refine⟨I.ok,I.os,W,⟨λ b o e n y a=>?_,λ b o e n y a=>?_,λ b o e n a=>?_,λ b o e a=>?_,λ b xs e=>tups b xs (I.base.tups b xs e),λ b o xs e=>K b o xs (I.base.frzs b o xs e),λ b ps e=>?_⟩,?_,λ x c e=>?_,?_,λ x c e=>?_,λ p P=>?_,M,I.len⟩
 ·exact keep b o (J b o e) y (w b o e a) (I.base.keep b o e n y a) (I.base.free b o e n a)
 ·obtain⟨sl,A⟩:=I.base.slot b o e n y a;obtain⟨L,N⟩:=slot b _ (J b o e) y (w b o e a) A (I.base.free b o e n a);exact⟨L,N⟩
 ·obtain⟨F,A⟩:=I.base.there b o e a;exact free b F (w b o e a) A (I.base.free b o e n a)
 ·obtain⟨F,A⟩:=I.base.there b o e a;exact there b F (w b o e a) A
 ·exact E b ps (I.base.tbls b ps e)
 ·obtain⟨m,S,U⟩:=I.loc;refine⟨m,ns m S,λ i x v A N Y=>?_⟩;obtain⟨u,r,l⟩:=U i x v A N Y;refine⟨u,r,?_⟩;rcases l with l | ⟨k,c,e,z⟩
  ·exact .inl l
  ·exact .inr ⟨k,c,e,j x c e _ z⟩
 ·obtain⟨v,z⟩:=I.cell x c e;exact⟨v,j x c e v z⟩
 ·obtain⟨m,⟨o,_,_,B,_⟩,_⟩:=I.loc;exact free _ o (λ z=>(h _ z).2.1 rfl) B I.free
 ·obtain⟨v,o,B,hd⟩:=I.cell x c e;exact free c o (λ z=>(h c z).2.2.1 x c e rfl) B (I.freeC x c e)
 ·obtain⟨e,n,ne,O,d⟩:=I.pin p P;have g:p.1∉ch:=λ z=>(h p.1 z).2.2.2 p P rfl
  exact⟨keep p.1 p.2 ne O g e n,free p.1 p.2 g e n,ne,O,d⟩
def Inv.un(I:JI a)(u:Un X.fs [] H i s.heap h')(d:HOk X.prog X.w i h'):Inv X a σ i {s with heap:=h',toks:=t'}:=by
 obtain⟨m,⟨o,es,ep,j,r⟩,_⟩:=id I.loc;obtain⟨sl,p⟩:=u.any j I.free JK;exact I.step (ch:=[]) (λ _ z=>nomatch z) (λ b o _ f _ e n=>u.keep b o e n f JK) (λ b o _ f _ e n=>u.slot b o e n f JK) (λ b o _ e n=>u.free b o e n JK) (λ b o _ e=>u.there b o e JK) u.tups u.frzs u.tbls (λ m' l=>by
  obtain⟨o',g,h,c,k⟩:=l;rw[j]at c;cases c;exact⟨_,g,h,p,k⟩) d I.bare
def Inv.call(I:JI a)(u:Un (frs X.stack) ch H l s.heap h')(h:HOk X.prog X.w l h')(A:AllBare v)
  (g:∀b∈ch,(b∈X.ex\/X.s₀.heap.objs.size<=b)/\b≠X.env.locals/\(∀x c,X.env.cells.lookup x=some c->c≠b)/\∀p∈X.pn++a,p.1≠b) :
  Inv X a σ l {s with heap:=h',gens:=v,drawn:=C,toks:=t'}:=by
 obtain⟨m,⟨o,es,ep,q,r⟩,_⟩:=id I.loc;obtain⟨sl,i⟩:=u.any q I.free λ z=>(g _ z).2.1 rfl
 exact I.step g (λ b o i B d e n=>u.keep b o e n (λ z=>(j0.mp (I.stkSub b z)).elim i B) d) (λ b o _ _ d e n=>u.any e n d) (λ b o d e n=>u.free b o e n d) (λ b o d e=>u.there b o e d) u.tups u.frzs u.tbls (λ m' y=>by
  obtain⟨o',j,k,f,w⟩:=y;rw[q]at f;cases f;exact⟨_,j,k,i,w⟩) h A
def Inv.turned(I:JI a)(k:∀b o,b≠it->s.heap.get? b=some o->h'.get? b=some o)(i:H it=none)(g:it≠X.env.locals)
  (A:it∈X.ex\/X.s₀.heap.objs.size<=it) (y:∀x c,X.env.cells.lookup x=some c->c≠it) (w:∀p∈X.pn++a,p.1≠it):Inv X a σ H {s with heap:=h',toks:=t'}:=by
 have f:∀b u,H b=some u->b≠it:=λ b u e z=>by rw[z,i]at e;cases e
 refine I.step (ch:=[it]) (λ b l=>?_) (λ b o _ _ d e _=>k b o (λ z=>d (by simp[z])) e) (λ b o _ _ d e _=>⟨o.slots,k b o (λ z=>d (by simp[z])) e⟩) (λ _ _ _ _ n=>n)
  (λ b o d e=>⟨o,k b o (λ z=>d (by simp[z])) e⟩) (λ _ _ e=>e) (λ _ _ _ e=>e) (λ _ _ e=>e) (λ m j=>?_) (λ b u e=>?_) I.bare
 ·have e:b=it:=by simpa using l
  subst e;exact⟨A,g,y,w⟩
 ·obtain⟨o,B,C,h,r⟩:=j;exact⟨o,B,C,k _ o (Ne.symm g) h,r⟩
 ·refine(I.hok b u e).stay (λ c v d q=>k c v ?_ q) (λ _ q=>q) (λ _ _ q=>q) (λ _ _ q=>q) λ _ _ _ _ _ q=>q;rcases d with z | z
  ·rw[z];exact f b u e
  ·exact f c _ z
def Inv.tok(I:JI a)(t:Nat):Inv X a σ H {s with toks:=t}:=I.un Un.refl I.hok
theorem Inv.kept(I:JI a)(k:∀b u,s.heap.get? b=some u->h'.get? b=some u):Inv X a σ H {s with heap:=h',toks:=t'}:=I.un (Un.kept k) (I.hok.kept k)
theorem Inv.laid(I:JI c)(k:∀b u,s.heap.get? b=some u->h'.get? b=some u)(d:s.heap.objs.size<=a)(new:u9 X.prog X.w (upd H a o) h' a o) :
  Inv X c σ (upd H a o) {s with heap:=h',toks:=t'}:=I.un (Un.laid k d (I.hok.fresh d)) (I.hok.laid k d new)
theorem Inv.write(I:JI a)(d:Mut (H x))(f:e=x\/H e=some (.own x))(k:∀b u,b≠e->s.heap.get? b=some u->h'.get? b=some u)(c:∃u,h'.get? e=some u)
  (new:u9 X.prog X.w (upd H x o) h' x o):Inv X a σ (upd H x o) {s with heap:=h',toks:=t'}:=I.un (Un.write d f k c) (I.hok.write d f k c new)
def Inv.pins_of(I:JI a)(h:∀p∈pins',s.heap.get? p.1=some p.2/\H p.1=none/\p.1≠X.env.locals/\p.1∉X.fs/\∀v,p.2.data ≠ .cell v):Inv X pins' σ H s:=
 ⟨I.ok,I.os,I.bare,I.base,I.loc,I.cell,I.free,I.freeC,λ p b=>(C7.mp b).elim (λ z=>I.pin p (C6 _ z)) (h p),I.hok,I.len⟩
def fC{N:on Str}(c:N.Nodup){j:Nat}(a:N[i]? = some x)(b:N[j]? = some x):i=j:=by
 obtain⟨h1,e⟩:=w6.mp a;obtain⟨h2,d⟩:=w6.mp b;exact(List.getElem_inj c).mp (e.trans d.symm)
def nU(I:JI J)(hN:X.N.Nodup)(W:X.N[i]? = some x)(B:Loc X.env.scope x)(r:RelV v u)
  (h:∀s',Inv X J (σ.set i (some v)) H s'->(∃a,Heap.SameBut a s.heap s'.heap/\(a=X.env.locals\/X.env.cells.lookup x=some a))->Q () s') (hf:X.fn x=true\/X.env.scope.names.lookup x=some .local:=by first | exact .inl rfl | exact .inr rfl | assumption):wpAny M A (storeName X.env x u) Q E s:=by
 obtain⟨m,hn,hl⟩:=id I.loc;have Y:(X.env.scope.kind == .class||(X.env.scope.kind == .module&&X.env.locals != X.env.globals))=false:=by rw[I.ok.kind];rfl
 have L:i<σ.length:=by rw[I.len];exact(w6.mp W).1
 have cne:=I.cne;have g:∀{a:Jn} {R:Jo},(∃o,s.heap.get? a=some o/\H a=none)->Heap.SameBut a s.heap R->HOk X.prog X.w H R:=λ {a R} ha f b ob e=>by
  obtain⟨_,_,C⟩:=ha;refine(I.hok b ob e).stay (λ c w' w q=>(f.2 c ?_).trans q) (λ _ q=>q) (λ _ _ q=>q) (λ _ _ q=>q) λ _ _ _ _ _ q=>q
  rintro rfl
  rcases w with rfl | w
  ·rw[C]at e;cases e
  ·rw[C]at w;cases w
 rcases B with K | K
 ·refine nP K hn (λ R a2 f=>?_) Y;obtain⟨oL,_,_,a1,_⟩:=id hn;refine h _ ⟨I.ok,I.os,I.bare,⟨λ b o e n P B=>?_,λ b o e n P B=>?_,I.base.free,λ b o e B=>?_,I.base.tups,I.base.frzs,I.base.tbls⟩,⟨_,a2,λ j y v' l F e3=>?_⟩,λ y c e=>?_,I.free,I.freeC,λ p hp=>?_,g ⟨oL,a1,I.free⟩ f,by simpa using I.len⟩ ⟨_,f,.inl rfl⟩
  ·exact(f.2 b (o9 (p9 (k8 e) I.ok.above))).trans (I.base.keep b o e n P B)
  ·obtain⟨sl,l⟩:=I.base.slot b o e n P B;exact⟨sl,(f.2 b (o9 (p9 (k8 e) I.ok.above))).trans l⟩
  ·obtain⟨o',l⟩:=I.base.there b o e B;exact⟨o',(f.2 b (o9 (p9 (k8 e) I.ok.above))).trans l⟩
  ·by_cases N:j=i
   ·subst N;rw[W]at l;cases l;rw[J8 L]at F;cases F;exact⟨u,r,.inl ⟨K,by simp⟩⟩
   ·rw[v6 (Ne.symm N)]at F;obtain⟨u',r',q⟩:=hl j y v' l F e3;refine⟨u',r',?_⟩;rcases q with⟨k,e⟩ | ⟨k,c,e,z⟩
    ·refine .inl ⟨k,?_⟩;have:y≠x:=λ e=>N (fC hN l (e▸W));simp[this,e]
    ·exact .inr ⟨k,c,e,z.sameBut f (cne y c e)⟩
  ·obtain⟨w',z⟩:=I.cell y c e;exact⟨w',z.sameBut f (cne y c e)⟩
  ·obtain⟨e,n,ne,nf,d⟩:=I.pin p hp;exact⟨(f.2 p.1 ne).trans e,n,ne,nf,d⟩
 ·have O:X.fn x=true:=by
   rcases hf with z | z
   ·exact z
   ·rw[z]at K;cases K
  obtain⟨c,w⟩:=I.ok.has x (.inl K);obtain⟨w',z⟩:=I.cell x c w;refine wpAny_storeName_cell I.ok.kind K w z (λ R a0 f=>?_);obtain⟨oc,U,S⟩:=id z;refine h {s with heap:=R} ⟨I.ok,I.os,I.bare,⟨λ b o e n P B=>?_,λ b o e n P B=>?_,I.base.free,λ b o e B=>?_,I.base.tups,I.base.frzs,I.base.tbls⟩,⟨m,hn.sameBut f (Ne.symm (cne x c w)),λ j y v' l F e3=>?_⟩,λ y c' e=>?_,I.free,I.freeC,λ p hp=>?_,g ⟨oc,U,I.freeC x c w⟩ f,by simpa using I.len⟩ ⟨c,f,.inr w⟩
  ·exact(f.2 b (o9 (p9 (k8 e) (I.ok.cab x c O w)))).trans (I.base.keep b o e n P B)
  ·obtain⟨sl,l⟩:=I.base.slot b o e n P B;exact⟨sl,(f.2 b (o9 (p9 (k8 e) (I.ok.cab x c O w)))).trans l⟩
  ·obtain⟨o',l⟩:=I.base.there b o e B;exact⟨o',(f.2 b (o9 (p9 (k8 e) (I.ok.cab x c O w)))).trans l⟩
  ·by_cases N:j=i
   ·subst N;rw[W]at l;cases l;rw[J8 L]at F;cases F;exact⟨u,r,.inr ⟨.inl K,c,w,a0⟩⟩
   ·rw[v6 (Ne.symm N)]at F;obtain⟨u',r',q⟩:=hl j y v' l F e3;refine⟨u',r',?_⟩;rcases q with q | ⟨k,c',e,z'⟩
    ·exact .inl q
    ·refine .inr ⟨k,c',e,z'.sameBut f ?_⟩
     rintro rfl
     exact N (fC hN l (I.ok.inj _ _ _ e w▸W))
  ·by_cases Z:c'=c
   ·subst Z;exact⟨_,a0⟩
   ·obtain⟨w2,z2⟩:=I.cell y c' e;exact⟨w2,z2.sameBut f Z⟩
  ·obtain⟨e,n,ne,nf,d⟩:=I.pin p hp;refine⟨(f.2 p.1 ?_).trans e,n,ne,nf,d⟩;intro q;rw[q,U]at e;exact d w' (by rw[←(B8 e)];exact S)
def cP(I:JI a)(f:X.N.Nodup)(d:X.N[i]? = some x)(c:Loc X.env.scope x)(r:RelV v u)
  (h:∀b,Inv X a (σ.set i (some v)) H b->Q () b) (e:X.fn x=true\/X.env.scope.names.lookup x=some .local:=by first | exact .inl rfl | exact .inr rfl | assumption):wpAny M A (storeName X.env x u) Q E s:=
 nU I f d c r (λ b g _=>h b g) e
def Inv.call'(I:JI a)(i:d.os=s.os)(u:Un (frs X.stack) ch H h s.heap d.heap)(f:HOk X.prog X.w h d.heap)(j:AllBare d.gens)
  (g:∀b∈ch,(b∈X.ex\/X.s₀.heap.objs.size<=b)/\b≠X.env.locals/\(∀x c,X.env.cells.lookup x=some c->c≠b)/\∀p∈X.pn++a,p.1≠b):Inv X a σ h d:=by
 obtain⟨h',g',d',t',o'⟩:=d;have e:=i;subst e;exact I.call u f j g
abbrev XK:=Jl->Jk Jn->Hp->Prop
abbrev St:=on (Jk V)
abbrev VK:=V->Hp->Prop
abbrev TE:=St->Hp->VK->Prop
abbrev TT:=St->Hp->(Bool->Hp->Prop)->Prop
abbrev TA:=St->Hp->(on V->Hp->Prop)->Prop
structure Ends where
 nx:St->Hp->Prop
 rt:VK
 bk:St->Hp->Prop:=λ _ _=>False
 ct:St->Hp->Prop:=λ _ _=>False
abbrev TS:=Ends->St->Hp->Prop
def EP(X:Cx)(pins:on (Jn×Obj))(σ:St)(Q:VK)(u:Jl)(s':Jm):Prop:=∃v H',Inv X pins σ H' s'/\RelV v u/\Q v H'
def TP(X:Cx)(pins:on (Jn×Obj))(σ:St)(Q:Bool->Hp->Prop)(b:Bool)(s':Jm):Prop:=∃H',Inv X pins σ H' s'/\Q b H'
def AP(X:Cx)(pins:on (Jn×Obj))(σ:St)(Q:on V->Hp->Prop)(us:on Jl)(s':Jm):Prop:=∃vs H',Inv X pins σ H' s'/\Vals vs us/\Q vs H'
def SP(X:Cx)(pins:on (Jn×Obj))(D:Ends)(f:Flow)(s':Jm):Prop:=
 match f with
 | .next=>∃σ' H',Inv X pins σ' H' s'/\D.nx σ' H'
 | .brk=>∃σ' H',Inv X pins σ' H' s'/\D.bk σ' H'
 | .cont=>∃σ' H',Inv X pins σ' H' s'/\D.ct σ' H'
 | .ret u=>∃v σ' H',Inv X pins σ' H' s'/\RelV v u/\D.rt v H'
def PE(X:Cx)(e:Jp)(t:TE):Prop:=
 ∀(pins:on (Jn×Obj)) (s:Jm) (σ:St) (H:Hp) (Q:VK),Inv X pins σ H s->t σ H Q->wpAny JG X.A (eval e X.env) (EP X pins σ Q) X.xe s
def PT(X:Cx)(e:Jp)(t:TT):Prop:=
 ∀(pins:on (Jn×Obj)) (s:Jm) (σ:St) (H:Hp) (Q:Bool->Hp->Prop),Inv X pins σ H s->t σ H Q->wpAny JG X.A (isTrue e X.env (eval e X.env)) (TP X pins σ Q) X.xe s
def PW(X:Cx)(e:Jp)(t:TT):Prop:=
 ∀(whole:Sem Jl) (pins:on (Jn×Obj)) (s:Jm) (σ:St) (H:Hp) (Q:Bool->Hp->Prop),Inv X pins σ H s->t σ H Q->wpAny JG X.A (isTrue e X.env whole) (TP X pins σ Q) X.xe s
def PW.pt(h:PW X e t):PT X e t:=h _
def PA(X:Cx)(es:on Jp)(t:TA):Prop:=
 ∀(pos:Pos) (pins:on (Jn×Obj)) (s:Jm) (σ:St) (H:Hp) (Q:on V->Hp->Prop),Inv X pins σ H s->t σ H Q->wpAny JG X.A (spliced (backTo pos (starEach es X.env))) (AP X pins σ Q) X.xe s
def PS(X:Cx)(st:Jv)(t:TS):Prop:=
 ∀(pins:on (Jn×Obj)) (s:Jm) (σ:St) (H:Hp) (D:Ends),Inv X pins σ H s->t D σ H->wpAny JG X.A (exec st X.env) (SP X pins D) X.xe s
def PSs(X:Cx)(st:on Jv)(t:TS):Prop:=
 ∀(pins:on (Jn×Obj)) (s:Jm) (σ:St) (H:Hp) (D:Ends),Inv X pins σ H s->t D σ H->wpAny JG X.A (execs st X.env) (SP X pins D) X.xe s
def thn(h:wpAny M A t Q E s)(c:∀a s,Q a s->Q' a s):wpAny M A t Q' E s:=A9 h c λ _ _ x=>x
end L2
namespace L2
open PySem PySem.Spec PyProof.Rows
section
variable {X:Cx}
def bin(r:PE X a l)(q:PE X b tb){R:V->V->Hp->Prop}(I:JI c)(h:l σ H λ x j=>tb σ j λ y d=>R x y d)
     {Q:k->Jm->Prop} {f:Jl->Jl->Sem k}
    (p:∀v u i x y d,Inv X c σ d i->RelV x v->RelV y u->R x y d->wpAny JG X.A (f v u) Q X.xe i) :
    wpAny JG X.A (eval a X.env) (λ v g=>wpAny JG X.A (eval b X.env) (λ u e=>wpAny JG X.A (f v u) Q X.xe e) X.xe g) X.xe s:=by
  refine thn (r c s σ H _ I h) λ v s1 t0=>?_;obtain⟨x,j,z,r1,o⟩:=t0;refine thn (q c s1 σ j _ z o) λ u i t0=>?_;obtain⟨y,d,w,m,n⟩:=t0;exact p v u i x y d w r1 m n
noncomputable def tVar(i:Nat):TE:=λ σ H Q=>∃v,σ[i]? = some (some v)/\Q v H
def tC(v:V):TE:=λ _ H Q=>Q v H
def O1(o:X.N[i]? = some x)(hv:Vis X.env.scope x)(hd:(x==("__debug__" : Str))=false:=by decide)(f:(x==("__classdict__" : Str))=false:=by decide):PE X (.Name x pos) (tVar i):=by
 intro d s g H Q I h;obtain⟨v,e,h⟩:=h;obtain⟨m,j,n⟩:=I.loc;obtain⟨u,r,l⟩:=n i x v o e hv;have b:EP X d g Q u s:=⟨v,H,I,r,h⟩;rcases l with⟨a,k⟩ | ⟨a,c,hc,hcell⟩
 ·exact cL (wpAny_loadName_local I.ok.kind a j k b) hd
 ·rcases a with a | a
  ·exact cL (iG I.ok.kind a hc hcell b) hd
  ·exact cL (wpAny_loadName_free I.ok.kind a hc hcell b f) hd
def jv:PE X (.Constant (.int i) j pos) (tC (.int i)):=λ _ _ _ H _ I h=>wpAny_Constant_int ⟨.int i,H,I.tok _,⟨_,rfl⟩,h⟩
def nV:PE X (.Constant (.bool b) j pos) (tC (.bl b)):=λ _ _ _ H _ I h=>Constant_bool ⟨.bl b,H,I,rfl,h⟩
def nW:PE X (.Constant .none j pos) (tC .non):=λ _ _ _ H _ I h=>Constant_none ⟨.non,H,I,rfl,h⟩
def wL:PE X (.Constant (.str x) j pos) (tC (.str x)):=λ _ _ _ H _ I h=>Calls.Constant_str ⟨.str x,H,I.tok _,⟨_,rfl⟩,h⟩
def Gl(X:Cx)(x:Str):Prop:=X.env.kindOf x=some .globalImplicit
def cQ(I:JI a)(c:Gl X x)(b:X.mg x=some u)(h:Q u s)
  (hd:(x==("__debug__" : Str))=false:=by decide):wpAny JG X.A (eval (.Name x pos) X.env) Q E s:=
 mZ I.ok.kind c (Calls.loadGlobal_global (by rw[I.ok.glob];exact I.mod.glob.keeps I.bk) b h) hd
def am(I:JI a)(d:Gl X x)(c:X.mg x=none)(hv:bootBuiltins x=some u)(h:Q u s)
  (b:x ≠ "__name__":=by decide) (hd:(x==("__debug__" : Str))=false:=by decide):wpAny JG X.A (eval (.Name x pos) X.env) Q E s:=by
 obtain⟨mb,f,e⟩:=I.mod.blt;exact mZ I.ok.kind d (Calls.loadGlobal_builtin (by rw[I.ok.glob];exact I.mod.glob.keeps I.bk) c (by rw[I.ok.blt];exact f.keeps I.bk) ((e x b).trans hv) h) hd
def nX(b:Gl X x)(a:X.mg x=some u)(r:RelV v u)(hd:(x==("__debug__" : Str))=false:=by decide):PE X (.Name x pos) (tC v):=
 λ _ _ _ H _ I h=>cQ I b a ⟨v,H,I,r,h⟩ hd
def nY(c:Gl X x)(b:X.mg x=none)(hv:bootBuiltins x=some u)(r:RelV v u)(a:x ≠ "__name__":=by decide)(hd:(x==("__debug__" : Str))=false:=by decide):PE X (.Name x pos) (tC v):=
 λ _ _ _ H _ I h=>am I c b hv ⟨v,H,I,r,h⟩ a hd
variable {a b:Jp} {ta tb:TE} {pos:Pos}
def PC(X:Cx)(op:CmpOp)(a b:Jp)(t:TE):Prop:=
 ∀(pins:on (Jn×Obj)) (s:Jm) (σ:St) (H:Hp) (Q:VK),Inv X pins σ H s->t σ H Q ->
  wpAny JG X.A (eval a X.env) (λ v s₁=>wpAny JG X.A (eval b X.env) (λ u s₂=>wpAny JG X.A (compareOp op v u) (EP X pins σ Q) X.xe s₂) X.xe s₁) X.xe s
def wM(b:Jp){a:CmpOp}(h:a ≠ .In)(c:a ≠ .NotIn):behindInMarks a b=false:=by
 have e:(a==CmpOp.In)=false:=by cases a<;>first | rfl | exact absurd rfl h
 have d:(a==CmpOp.NotIn)=false:=by cases a<;>first | rfl | exact absurd rfl c
 cases b<;>simp[behindInMarks,e,d]
noncomputable def tIsN(ta:TE):TE:=λ σ H Q=>ta σ H λ x H1=>Q (.bl (decide (x=.non))) H1
def RelV.none_iff(r:RelV x v):(v==Value.none)=decide (x=.non):=by
 cases x with
 | non=>cases r;rfl
 | bl _=>cases r;rfl
 | int _=>obtain⟨t,rfl⟩:=r;rfl
 | str _=>obtain⟨t,rfl⟩:=r;rfl
 | byt _=>obtain⟨t,rfl⟩:=r;rfl
 | flt _=>obtain⟨t,rfl⟩:=r;rfl
 | ref _=>cases r;rfl
 | ty _=>cases r;rfl
def wN(e:PE X a ta):PC X .Is a (.Constant .none j pos') (tIsN ta):=by
 intro b s c H Q I h;refine thn (e b s c H _ I h) λ v s1 t0=>?_;obtain⟨x,g,f,r1,d⟩:=t0
 exact Constant_none (is_none_gen ⟨.bl _,g,f,by rw[r1.none_iff];rfl,d⟩)
noncomputable def tB(t:TE):TT:=λ σ H Q=>t σ H λ x H1=>∃c,x=.bl c/\Q c H1
def wO(h:PC X f a b t)(g:behindInMarks f b=false:=by first | exact wM _ (by decide) JD | rfl):PT X (.Compare a [f] [b] pos) (tB t):=by
 intro e s i H Q I k;refine nQ (thn (h e s i H _ I k) λ v s1 g=>thn g λ u s2 l=>thn l λ c s3 ⟨x,n,m,r1,j⟩=>?_) g;obtain⟨d,rfl,q⟩:=j;cases r1;exact Q9 ⟨n,m,q⟩
def nZ(h:PE X e t)(i:∀a,isTrue e X.env a=(do let v ←a;standAt e.pos;holding [v] (truthy v)):=by intro _;rfl):PT X e (tB t):=by
 intro b s c H Q I g;refine isTrue_plain (thn (h b s c H _ I g) λ v s1 ⟨x,k,j,r1,f⟩=>?_) (i _);obtain⟨d,rfl,q⟩:=f;cases r1;exact Q9 ⟨k,j,q⟩
noncomputable def tAnd(t u:TT):TT:=λ σ H Q=>t σ H λ c H1=>if c=true then u σ H1 Q else Q false H1
noncomputable def tOr(t u:TT):TT:=λ σ H Q=>t σ H λ c H1=>if c=true then Q true H1 else u σ H1 Q
def tNot(t:TT):TT:=λ σ H Q=>t σ H λ c H1=>Q (!c) H1
def wP(g:PT X a d):PW X (.BoolOp .And [a] pos) d:=by
 intro wh b s f H Q I h;refine isTrue_and (thn (g b s f H Q I h) λ c s1 e=>?_);cases c with
 | true=>exact isTrue_and_nil e
 | false=>exact e
def og(g:PT X a d):PW X (.BoolOp .Or [a] pos) d:=by
 intro wh b s f H Q I h;refine isTrue_or (thn (g b s f H Q I h) λ c s1 e=>?_);cases c with
 | false=>exact isTrue_or_nil e
 | true=>exact e
def oh{rest:on Jp}(n:PT X a g)(m:PW X (.BoolOp .And (b::rest) pos) e):PW X (.BoolOp .And (a::b::rest) pos) (tAnd g e):=by
 intro l d s f H Q I h;refine isTrue_and (thn (n d s f H _ I h) λ c s1 t0=>?_);obtain⟨k,j,i⟩:=t0;cases c with
 | true=>exact m l d s1 f k Q j i
 | false=>exact⟨k,j,i⟩
def fD{rest:on Jp}(n:PT X a g)(m:PW X (.BoolOp .Or (b::rest) pos) e):PW X (.BoolOp .Or (a::b::rest) pos) (tOr g e):=by
 intro l d s f H Q I h;refine isTrue_or (thn (n d s f H _ I h) λ c s1 t0=>?_);obtain⟨k,j,i⟩:=t0;cases c with
 | true=>exact⟨k,j,i⟩
 | false=>exact m l d s1 f k Q j i
def jw(e:PT X a c):PT X (.UnaryOp .Not a pos) (tNot c):=by
 intro b s d H Q I h;exact isTrue_not (e b s d H _ I h)
noncomputable def wQ(ta tb:TE):TE:=λ σ H Q=>ta σ H λ x H1=>∃c,x=.bl c/\if c=true then tb σ H1 Q else Q (.bl false) H1
noncomputable def wR(ta:TE):TE:=λ σ H Q=>ta σ H λ x H1=>∃c,x=.bl c/\Q (.bl (!c)) H1
def jx(h:PE X a t):PE X (.BoolOp op [a] pos) t:=λ b s c H Q I d=>BoolOp_one (h b s c H Q I d)
def wT{rest:on Jp}(k:PE X a ta)(j:PE X (.BoolOp .And (b::rest) pos) tb):PE X (.BoolOp .And (a::b::rest) pos) (wQ ta tb):=by
 intro d s f H Q I h;refine BoolOp_and (thn (k d s f H _ I h) λ v s1 t0=>?_);obtain⟨x,i,g,r1,e⟩:=t0;obtain⟨c,rfl,e⟩:=e;cases r1;refine Q9 ?_;cases c with
 | true=>exact j d s1 f i Q g e
 | false=>exact⟨.bl false,i,g,rfl,e⟩
def oj(f:PE X a ta):PE X (.UnaryOp .Not a pos) (wR ta):=by
 intro b s e H Q I h;refine UnaryOp_ (thn (f b s e H _ I h) λ v s1 t0=>?_);obtain⟨x,i,g,r1,d⟩:=t0;obtain⟨c,rfl,d⟩:=d;cases r1;exact not_of (Q9 ⟨.bl (!c),i,g,rfl,d⟩)
noncomputable def tIf(t:TT)(ta tb:TE):TE:=λ σ H Q=>t σ H λ c H1=>if c=true then ta σ H1 Q else tb σ H1 Q
def ol(l:PT X c g)(n:PE X a ta)(m:PE X b tb):PE X (.IfExp c a b pos) (tIf g ta tb):=by
 intro e s f H Q I h;refine wpAny_IfExp (thn (l e s f H _ I h) λ d s1 t0=>?_);obtain⟨k,j,i⟩:=t0;cases d with
 | true=>exact n e s1 f k Q j i
 | false=>exact m e s1 f k Q j i
end
end L2
namespace L2
open PySem PySem.Spec PyProof.Rows
def SqL(K:Jw)(H:Hp)(a:Jn)(xs:on V):Prop:=
 Rd H a (.lst xs) \/
  ∃(o:Obj) (its:Jq Jl) (n:Nat),K.lookup a=some o/\o.cls=.type "list" /\ o.dict=none/\o.data=.seq its n/\its.size<=sizeLine/\Vals xs its.toList
def SqT(K:Jw)(H:Hp)(a:Jn)(xs:on V):Prop:=
 Rd H a (.tup xs) \/
  ∃(o:Obj) (its:Jq Jl) (n:Nat),K.lookup a=some o/\(o.cls=.type "tuple" /\ o.dict=none)/\o.data=.seq its n/\its.size<=sizeLine/\Vals xs its.toList
noncomputable def absV:Jl->Jk V
 | .none=>some .non
 | .bool b=>some (.bl b)
 | .int i _=>some (.int i)
 | .str x _=>some (.str x)
 | .bytes b _=>some (.byt b)
 | .float b _=>some (.flt b)
 | .ref a=>some (.ref a)
 | .type n=>some (.ty n)
 | _=>none
def RelV.abs(r:RelV x u):absV u=some x:=by
 cases x with
 | non=>cases r;rfl
 | bl _=>cases r;rfl
 | int _=>obtain⟨t,rfl⟩:=r;rfl
 | str _=>obtain⟨t,rfl⟩:=r;rfl
 | byt _=>obtain⟨t,rfl⟩:=r;rfl
 | flt _=>obtain⟨t,rfl⟩:=r;rfl
 | ref _=>cases r;rfl
 | ty _=>cases r;rfl
def RelV.inj(r:RelV x u)(q:RelV y u):x=y:=B8 (r.abs.symm.trans q.abs)
theorem Vals.inj(h:Vals xs b):Vals a b->xs=a:=by
 induction h generalizing a with
 | nil=>intro t;cases t;rfl
 | cons r _ e=>intro t;cases t with | cons d c=>rw[r.inj d,e c]
def SqL.of{K:Jw}(h:H a=some (.lst xs)):SqL K H a xs:=.inl (.inl h)
def SqT.of{K:Jw}(h:H a=some (.tup xs)):SqT K H a xs:=.inl (.inl h)
def Inv.list(I:JI c)(h:SqL X.K H a xs):∃b:on Jl,Vals xs b/\PlainL s.heap a b.toArray/\xs.length<=sizeLine:=by
 rcases h with h | ⟨o,b,n,hk,hc,hd,hs,hz,r⟩
 ·obtain⟨z,b,n,r,e⟩:=h.ok I.hok;exact⟨b,r,⟨_,n,e,rfl,rfl,rfl⟩,z⟩
 ·refine⟨b.toList,r,⟨o,n,I.kIn a o hk,hc,hd,by simpa using hs⟩,?_⟩;have e:=r.length;simp only[G6]at e;omega
def Inv.tuple(I:JI c)(h:SqT X.K H a xs):∃b:on Jl,Vals xs b/\IsTup s.heap a b.toArray/\xs.length<=sizeLine:=by
 rcases h with h | ⟨o,b,n,hk,hc,hs,hz,r⟩
 ·obtain⟨z,b,r,p⟩:=h.ok I.hok;exact⟨b,r,p.tup,z⟩
 ·refine⟨b.toList,r,⟨o,I.kIn a o hk,hc.1,n,by simpa using hs⟩,?_⟩;have e:=r.length;simp only[G6]at e;omega
def Inv.list_inj(I:JI b)(h:SqL X.K H a xs)(h':SqL X.K H a g):xs=g:=by
 obtain⟨f,r,⟨o,n,e,_,_,d⟩,_⟩:=I.list h;obtain⟨c,k,⟨o',n',i,_,_,j⟩,_⟩:=I.list h';rw[e]at i;cases i;rw[d]at j;injection j with d1 _
 have:f=c:=by simpa using congrArg Array.toList d1
 subst this;exact r.inj k
def Inv.tuple_inj(I:JI b)(h:SqT X.K H a xs)(h':SqT X.K H a g):xs=g:=by
 obtain⟨f,r,⟨o,e,_,n,d⟩,_⟩:=I.tuple h;obtain⟨c,k,⟨o',i,_,n',j⟩,_⟩:=I.tuple h';rw[e]at i;cases i;rw[d]at j;injection j with d1 _
 have:f=c:=by simpa using congrArg Array.toList d1
 subst this;exact r.inj k
section
variable {X:Cx} {st:Jv} {rest:on Jv} {t u:TS} {e:Jp} {te:TE} {pos:Pos}
def wU:TS:=λ D σ H=>D.nx σ H
def tSeq(t u:TS):TS:=λ D σ H=>t {D with nx:=u D} σ H
def ow:PSs X [] wU:=λ _ _ a H _ I h=>cB ⟨a,H,I,h⟩
def U9(e:PS X st t)(d:PSs X rest u):PSs X (st::rest) (tSeq t u):=by
 intro a s c H D I h;refine wpAny_execs_cons (thn (e a s c H {D with nx:=u D} I h) λ f s1 q=>?_);cases f with
 | next=>
  obtain⟨b,i,g,q⟩:=q;exact d a s1 b i D g q
 | ret v=>exact q
 | brk=>exact q
 | cont=>exact q
def jy(c:PS X st t):PSs X [st] t:=by
 intro a s b H D I h;refine wpAny_execs_cons (thn (c a s b H D I h) λ f s1 q=>?_);cases f with
 | next=>exact cB q
 | ret v=>exact q
 | brk=>exact q
 | cont=>exact q
def Inv.quiet(I:JI a):interactive X.env=false:=by simp[interactive,I.ok.kind]
noncomputable def wV(te:TE):TS:=λ D σ H=>te σ H λ _ H1=>D.nx σ H1
def cR(f:PE X e te)(d:swapsWith e none pos.line X.env=pure false:=by rfl):PS X (.Expr e pos) (wV te):=by
 intro a s b H D I h;exact wpAny_Expr_any (thn (f a s b H _ I h) λ v s1 ⟨x,i,g,r1,c⟩=>⟨b,i,g,c⟩) I.quiet d
def tRet(te:TE):TS:=λ D σ H=>te σ H D.rt
def bg(d:PE X e te):PS X (.Return (some e) pos) (tRet te):=by
 intro a s b H D I h;exact wpAny_Return_some (thn (d a s b H _ I h) λ v s1 ⟨x,g,f,r1,c⟩=>⟨x,b,g,f,r1,c⟩)
noncomputable def tIfS(c:TT)(t u:TS):TS:=λ D σ H=>c σ H λ b H1=>if b=true then t D σ H1 else u D σ H1
def cS(l:PT X c g)(n:PSs X a t)(m:PSs X b u):PS X (.If c a b pos) (tIfS g t u):=by
 intro e s f H D I h;refine wpAny_If (thn (l e s f H _ I h) λ d s1 t0=>?_);obtain⟨k,j,i⟩:=t0;cases d with
 | true=>exact n e s1 f k D j i
 | false=>exact m e s1 f k D j i
def wW:TS:=λ _ _ _=>False
def fE:PSs X a wW:=λ _ _ _ _ _ _ h=>h.elim
end
abbrev TG:=V->St->Hp->(St->Hp->Prop)->Prop
abbrev TGs:=on V->St->Hp->(St->Hp->Prop)->Prop
def PG(X:Cx)(target:Jp)(t:TG):Prop:=
 ∀(pins:on (Jn×Obj)) (s:Jm) (σ:St) (H:Hp) (v:V) (u:Jl) (Q:St->Hp->Prop),Inv X pins σ H s->RelV v u->t v σ H Q ->
  wpAny JG X.A (assign target X.env u) (λ _ s'=>∃σ' H',Inv X pins σ' H' s'/\Q σ' H') X.xe s
def PGs(X:Cx)(ts:on Jp)(t:TGs):Prop:=
 ∀(pins:on (Jn×Obj)) (s:Jm) (σ:St) (H:Hp) (vs:on V) (us:on Jl) (Q:St->Hp->Prop),Inv X pins σ H s->Vals vs us->t vs σ H Q ->
  wpAny JG X.A (assignInOrder ((assignEach ts X.env).map (·.2)) us) (λ _ s'=>∃σ' H',Inv X pins σ' H' s'/\Q σ' H') X.xe s
abbrev TSet:=V->V->V->Hp->(Hp->Prop)->Prop
def PSet(X:Cx)(t:TSet):Prop:=
 ∀(pins:on (Jn×Obj)) (s:Jm) (σ:St) (H:Hp) (o i v:V) (ov iv u:Jl) (Q:Hp->Prop),Inv X pins σ H s->RelV o ov->RelV i iv->RelV v u->t o i v H Q ->
  wpAny JG X.A (setItem ov iv u) (λ _ s'=>∃H',Inv X pins σ H' s'/\Q H') X.xe s
abbrev TIp:=V->V->Hp->VK->Prop
def PIp(X:Cx)(op:Operator)(t:TIp):Prop:=
 ∀(pins:on (Jn×Obj)) (s:Jm) (σ:St) (H:Hp) (x y:V) (v u:Jl) (Q:VK),Inv X pins σ H s->RelV x v->RelV y u->t x y H Q ->
  wpAny JG X.A (inplaceOp op v u) (EP X pins σ Q) X.xe s
section
variable {X:Cx} {pos:Pos}
def cT(i:Nat):TG:=λ v σ H Q=>Q (σ.set i (some v)) H
def ox(e:X.N.Nodup)(c:X.N[i]? = some x)(b:Loc X.env.scope x)(d:X.fn x=true\/X.env.scope.names.lookup x=some .local:=by first | exact .inl rfl | exact .inr rfl | assumption):PG X (.Name x pos) (cT i):=by
 intro a s σ H v u Q I r h;exact wpAny_assign_Name (cP I e c b r (λ s' f=>⟨_,H,f,h⟩) d)
def gNil:TGs:=λ vs σ H Q=>vs=[]/\Q σ H
noncomputable def oy(t:TG)(u:TGs):TGs:=λ vs σ H Q=>∃v r,vs=v::r/\t v σ H λ σ' H'=>u r σ' H' Q
def wX:PGs X [] gNil:=by
 intro a s b H vs us Q I r h;obtain⟨e,h⟩:=h;subst e;cases r;exact assignInOrder_nil ⟨b,H,I,h⟩
def wY(j:PG X e t)(i:PGs X es u)
  (g:(assignEach (e::es) X.env).map (·.2)=assign e X.env::(assignEach es X.env).map (·.2):=by rfl):PGs X (e::es) (oy t u):=by
 intro a s c H vs us Q I r h;obtain⟨v,vr,k,h⟩:=h;subst k;cases r with
 | cons r d=>
  rw[g];refine assignInOrder_cons (thn (j a s c H _ _ _ I r h) λ _ s1 t0=>?_);obtain⟨b,m,l,f⟩:=t0;exact i a s1 b m _ _ Q l d f
noncomputable def gTup(K:Jw)(n:Nat)(t:TGs):TG:=λ v σ H Q=>∃a xs,v=.ref a/\SqT K H a xs/\xs.length=n/\t xs σ H Q
def wZ(x:X.calm=true)(h:PGs X es t)
  (q:(assignEach es X.env).length=n:=by rfl) (f:(assignEach es X.env).findIdx? (·.1)=none:=by rfl):PG X (.Tuple es k pos) (gTup X.K n t):=by
 intro c s i H v u Q I r d;obtain⟨a,j,y,p,w,d⟩:=d;subst y;cases r;obtain⟨l,g,ht,hz⟩:=I.tuple p;refine assign_Tuple_tuple (I.ok.hd x) ht (by simp[q,←w,g.length]) f λ h' m=>?_
 exact h c _ i H j _ Q (I.kept λ b o e=>m b o (o9 (k8 e)) e) (by simpa using g) d
noncomputable def gSub(to ti:TE)(t:TSet):TG:=λ v σ H Q=>to σ H λ o H1=>ti σ H1 λ i H2=>t o i v H2 λ H3=>Q σ H3
def xb(n:PE X o d)(p:PE X i e)(m:PSet X t)
  (q:∀v,assign (.Subscript o i pos) X.env v=(do
   let ov ←holding [v] (eval o X.env)
   let b ←holding [v,ov] (eval i X.env)
   standAt pos
   holding [v,ov,b] (setItem ov b v)
   release [v,ov,b] []):=by intro _;rfl):PG X (.Subscript o i pos) (gSub d e t):=by
 intro a s c H v u Q I r h;rw[q];refine f0 (F4 (thn (n a s c H _ I h) λ ov s1 t0=>?_));obtain⟨x,E,A,r1,l⟩:=t0;refine f0 (F4 (thn (p a s1 c E _ A l) λ b f t0=>?_));obtain⟨y,C,z,g,k⟩:=t0;refine f0 (fg (f0 (F4 (thn (m a f c C x y v ov b u _ z r1 g r k) λ _ s3 t0=>?_))));obtain⟨B,w,j⟩:=t0;exact wpAny_release ⟨c,B,w,j⟩
noncomputable def tAsg(te:TE)(g:TG):TS:=λ D σ H=>te σ H λ x H1=>g x σ H1 D.nx
def xc(j:PE X e c)(i:PG X tg g)(f:swapsWithSole [tg] e pos.line X.env=pure false:=by rfl)(hw:swappedStores [tg] e X.env=pure none:=by rfl)
  (k:(assignEach [tg] X.env).map (·.2)=[assign tg X.env]:=by rfl):PS X (.Assign [tg] e pos) (tAsg c g):=by
 intro a s b H D I h;refine wpAny_Assign_stores (thn (j a s b H _ I h) λ v s1 ⟨x,m,l,r1,d⟩=>?_) f hw;rw[k];exact thn (i a s1 b m x v _ l r1 d) λ _ s2 q=>q
def cU(m:X.N.Nodup)(j:X.N[i]? = some x)(f:Loc X.env.scope x)(l:PE X e b)(g:swapsWith e (some (.Name x pos')) pos.line X.env=pure false:=by rfl)(k:X.fn x=true\/X.env.scope.names.lookup x=some .local:=by first | exact .inl rfl | exact .inr rfl | assumption) :
  PS X (.Assign [.Name x pos'] e pos) (tAsg b (cT i)):=by
 intro a s c H D I h;refine wpAny_Assign_Name (thn (l a s c H _ I h) λ v s1 ⟨y,p,o,r1,d⟩=>?_) g;exact cP o m j f r1 (λ s2 n=>⟨_,p,n,d⟩) k
noncomputable def tAug(i:Nat)(te:TE)(ti:TIp):TS:=λ D σ H=>∃x,σ[i]? = some (some x)/\te σ H λ y H1=>ti x y H1 λ z H2=>D.nx (σ.set i (some z)) H2
def xg(P:X.N.Nodup)(A:X.N[i]? = some x)(n:Loc X.env.scope x)(O:PE X e q)(J:PIp X j p)(N:X.fn x=true\/X.env.scope.names.lookup x=some .local:=by first | exact .inl rfl | exact .inr rfl | assumption) :
  PS X (.AugAssign (.Name x pos') j e pos) (tAug i q p):=by
 intro a s o H D I h;obtain⟨v,Q,h⟩:=h;obtain⟨m,K,M⟩:=I.loc;have g:Vis X.env.scope x:=by rcases n with k | k;exact .inl k;exact .inr (.inl k)
 obtain⟨u,r,l⟩:=M i x v A Q g;refine wpAny_AugAssign_Name ?_;have B:wpAny JG X.A (eval e X.env) (λ w f=>wpAny JG X.A (inplaceOp j u w) (λ r d=>wpAny JG X.A (storeName X.env x r) (λ _=>SP X a D .next) X.xe d) X.xe f) X.xe s:=by refine thn (O a s o H _ I h) λ w s1 t0=>?_;obtain⟨y,Y,U,r1,F⟩:=t0;refine thn (J a s1 o Y v y u w _ U r r1 F) λ z s2 t0=>?_;obtain⟨zv,W,S,C,E⟩:=t0;exact cP S P A n C (λ s3 R=>⟨_,W,R,E⟩) N
 rcases l with⟨b,L⟩ | ⟨b,c,hc,hcell⟩
 ·exact wpAny_loadName_local I.ok.kind b K L B
 ·rcases b with b | b
  ·exact iG I.ok.kind b hc hcell B
  ·rcases n with k | k
   ·have:X.env.scope.names.lookup x=some .free:=b;rw[k]at this;cases this
   ·have:X.env.scope.names.lookup x=some .free:=b;rw[k]at this;cases this
noncomputable def xh(to ti te:TE)(tget:V->V->Hp->VK->Prop)(tip:TIp)(tset:TSet):TS:=λ D σ H=>to σ H λ o H1=>ti σ H1 λ i H2=>tget o i H2 λ x H3=>te σ H3 λ y H4=>tip x y H4 λ z H5=>tset o i z H5 λ H6=>D.nx σ H6
def PGet(X:Cx)(t:V->V->Hp->VK->Prop):Prop:=
 ∀(pins:on (Jn×Obj)) (s:Jm) (σ:St) (H:Hp) (o i:V) (ov iv:Jl) (Q:VK),Inv X pins σ H s->RelV o ov->RelV i iv->t o i H Q ->
  wpAny JG X.A (getItem ov iv) (EP X pins σ Q) X.xe s
def xi(R:PE X o n)(S:PE X i p)(U:PGet X c)(W:PE X e q)(Q:PIp X u j)(P:PSet X b)
  (Y:∀ov f new,augStore i ov f new=(do holding [new,ov,f] (setItem ov f new);release [new,ov,f] [];pure .next):=by intros;rfl):PS X (.AugAssign (.Subscript o i g) u e pos) (xh n p q c j b):=by
 intro a s d H D I h;refine wpAny_AugAssign_SubscriptAny (thn (R a s d H _ I h) λ ov s1 ⟨m,H1,I1,r1,O⟩=>?_) Y;refine thn (S a s1 d H1 _ I1 O) λ f C t0=>?_;obtain⟨l,H2,I2,r,N⟩:=t0
 refine thn (U a C d H2 m l ov f _ I2 r1 r N) λ k B t0=>?_;obtain⟨y,H3,I3,J,M⟩:=t0;refine thn (W a B d H3 _ I3 M) λ v A t0=>?_;obtain⟨x,H4,I4,F,q4⟩:=t0;refine thn (Q a A d H4 y x k v _ I4 J F q4) λ new z t0=>?_;obtain⟨w,H5,I5,E,L⟩:=t0;exact thn (P a z d H5 m l w ov f new _ I5 r1 r E L) λ _ s6 ⟨H6,Z,K⟩=>⟨d,H6,Z,K⟩
noncomputable def ipI(f:Int->Int->Int):TIp:=λ x y H Q=>∃i j,x=.int i/\y=.int j/\Q (JP (f i j)) H
def oz:PIp X .Add (ipI λ i j=>i+j):=by
 intro a s σ H x y v u Q I r1 b h;obtain⟨i,j,d,c,q⟩:=h;subst d;subst c;obtain⟨t,rfl⟩:=r1;obtain⟨t',rfl⟩:=b;exact iadd_int ⟨.int _,H,I.tok _,⟨_,rfl⟩,q⟩
end
noncomputable def xj(c:TT)(tb:TS):TS:=λ D σ H=>∃W:Nat->St->Hp->Prop,(∃m,W m σ H)/\∀m σ H,W m σ H ->
 c σ H λ b H1=>if b=true then ∃N:St->Hp->Prop,(∀σ' H',N σ' H'->∃m',m'<m/\W m' σ' H')/\tb {D with nx:=N,ct:=N,bk:=D.nx} σ H1 else D.nx σ H1
def xk(u:PassesOwn JG X.A X.env X.xe)(J:PT X c r)(K:PSs X body tb):PS X (.While c body [] pos) (xj r tb):=by
 intro d s A H D I h;obtain⟨W,⟨F,B⟩,g⟩:=h;refine wpAny_While (codeAny_whileLoop (λ n E=>∃e z,Inv X d e z E/\W n e z) ?_ F ⟨A,H,I,B⟩)
 rintro n s1 ⟨σ1,H1,I1,w1⟩
 refine ae u (thn (J d s1 σ1 H1 _ I1 (g n σ1 H1 w1)) λ b C t0=>?_);obtain⟨y,x,k⟩:=t0;cases b with
 | true=>
  obtain⟨N,w,k⟩:=k;rw[f8 rfl];refine ae u (thn (K d C σ1 y _ x k) λ f s3 j=>?_);cases f with
  | next=>
   obtain⟨a,i,q,m⟩:=j;obtain⟨o,p,l⟩:=w a i m;exact⟨o,p,a,i,q,l⟩
  | cont=>
   obtain⟨a,i,q,m⟩:=j;obtain⟨o,p,l⟩:=w a i m;exact⟨o,p,a,i,q,l⟩
  | brk=>exact j
  | ret v=>exact j
 | false=>
  rw[g9 B7];exact cB ⟨σ1,y,x,k⟩
structure It where
 go:Nat->Hp->Prop
 yld:Nat->Hp->V->Hp->Prop
 stop:Nat->Hp->Prop
def FpOk(X:Cx)(pins:on (Jn×Obj))(H:Hp)(b:Jn):Prop:=
 H b=none/\b≠X.env.locals/\b∉X.fs/\(b∈X.ex\/X.s₀.heap.objs.size<=b)/\(∀x c,X.env.cells.lookup x=some c->c≠b)/\∀p∈X.pn++pins,p.1≠b
def Inv.fpOk(I:JI a)(d:s.heap.objs.size<=b)(h:f b=none):FpOk X a f b:=by
 refine⟨h,M4 (p9 I.lt d),I.nofs d,.inr (k6 I.sz d),λ x c e z=>?_,λ p g z=>?_⟩
 ·obtain⟨v,q⟩:=I.cell x c e;exact absurd (p9 q.lt (by rw[z];exact d)) (L0 _)
 ·exact absurd (p9 (k8 (I.pin p g).1) (by rw[z];exact d)) (L0 _)
structure Turn(P:Program)(w:World)(K:PySem.W.Frag)(tg:Expr)(J:It)(fp:List Addr)(it:Addr)(tn:Nat->Heap->Prop):Prop where
 mem:it∈fp
 obj:∀i h,tn i h->∀b∈fp,∃o,h.get? b=some o/\∀v,o.data ≠ .cell v
 keep:∀i h h',tn i h->(∀b∈fp,∀o,h.get? b=some o->h'.get? b=some o)->tn i h'
 item:∀(X:Cx),X.prog=P->X.w=w->X.K=K->X.calm=true->∀(i:Nat) (pins:List (Addr×Obj)) (s:Shared) (σ:St) (H:Hp) (E:Value->Shared->Prop),Inv X pins σ H s->(∀b∈fp,FpOk X pins H b)->tn i s.heap->J.go i H ->
  wpAny (model P w) X.A (pyNext (.ref it)) (λ r s1=>∃u,r=some u /\
   wpAny (model P w) X.A (letOwnedTupleGo tg (.ref it) u) (λ _ s2=>∃x H',Inv X pins σ H' s2/\RelV x u/\J.yld i H x H'/\tn (i+1) s2.heap/\∀b∈fp,H' b=none) E s1) E s
 done:∀(X:Cx),X.prog=P->X.w=w->X.K=K->X.calm=true->∀(i:Nat) (pins:List (Addr×Obj)) (s:Shared) (σ:St) (H:Hp) (E:Value->Shared->Prop),Inv X pins σ H s->(∀b∈fp,FpOk X pins H b)->tn i s.heap->J.stop i H ->
  wpAny (model P w) X.A (pyNext (.ref it)) (λ r s1=>r=none/\Inv X pins σ H s1) E s
 self:∀(A:Around) (i:Nat) (s:Shared) (Q:Value->Shared->Prop) (E:Value->Shared->Prop),tn i s.heap->Q (.ref it) s->wpAny (model P w) A (pyIter (.ref it)) Q E s
abbrev TI:=St->Hp->(It->Hp->Prop)->Prop
def PIE(X:Cx)(pins:on (Jn×Obj))(σ:St)(tg:Jp)(R:It->Hp->Prop)(itv:Jl)(s2:Jm):Prop:=
 ∃(it:Jn) (fp:on Jn) (tn:Nat->Jo->Prop) (J:It) (H':Hp),itv=.ref it/\Inv X pins σ H' s2/\Turn X.prog X.w X.K tg J fp it tn/\tn 0 s2.heap/\(∀b∈fp,FpOk X pins H' b)/\R J H'
def PI(X:Cx)(tg iter:Jp)(wi:TI):Prop:=
 ∀(pins:on (Jn×Obj)) (s:Jm) (σ:St) (H:Hp) (R:It->Hp->Prop),Inv X pins σ H s->wi σ H R ->
  wpAny JG X.A (eval iter X.env) (λ v s1=>wpAny JG X.A (pyIter v) (PIE X pins σ tg R) X.xe s1) X.xe s
def jz(b:s.heap.get? it=some o)(d:o.cls=.type n)(hd:o.data=.fields vs)
    (c : ["enumerate","zip","dict_itemiterator","dict_reverseitemiterator","odict_iterator","itertools.zip_longest","itertools.pairwise"].contains n=false) (a:Q () s):wpAny M A (letOwnedTupleGo tg (.ref it) u) Q E s:=by
  unfold letOwnedTupleGo;cases tg<;>first
    | exact g7 a
    | (cases u<;>first
        | exact g7 a
        | (refine f0 (wpAny_load b ?_)
           rw[d,hd];show wpAny M A (if(["enumerate","zip","dict_itemiterator","dict_reverseitemiterator","odict_iterator","itertools.zip_longest","itertools.pairwise"].contains n&&vs[0]? == some _)=true then _ else _) Q E s;rw[g9 (by intro h;rw[c,cF]at h;cases h)];exact g7 a))
noncomputable def Itl(K:Jw)(a:Jn):It:=
 ⟨λ i H=>∃xs x,SqL K H a xs/\xs[i]? = some x,λ i H x H'=>H'=H/\∀xs,SqL K H a xs->xs[i]? = some x,λ i H=>∃xs,SqL K H a xs/\xs.length<=i⟩
noncomputable def Itt(K:Jw)(a:Jn):It:=
 ⟨λ i H=>∃xs x,SqT K H a xs/\xs[i]? = some x,λ i H x H'=>H'=H/\∀xs,SqT K H a xs->xs[i]? = some x,λ i H=>∃xs,SqT K H a xs/\xs.length<=i⟩
noncomputable def Itr(lo:Int)(n:Nat):It:=⟨λ i _=>i<n,λ i H x H'=>H'=H/\x=.int (lo+i),λ i _=>n<=i⟩
def xl{K:Jw}(a it:Jn):Turn P w K tg (Itl K a) [it] it (λ i h=>h.IsListIter it a i) where
 mem:=by simp
 obj:=λ i h f b g=>by
  have e:b=it:=by simpa using g
  subst e;obtain⟨o,e,c,d⟩:=f;exact⟨o,e,λ v z=>by rw[d]at z;cases z⟩
 keep:=λ i h R f k=>f.at λ o e=>k it JK o e
 item:=by
  intro X C A F Q i l s S H E I n f B;subst C A F;obtain⟨U,x,m,y⟩:=B;obtain⟨r,q,p,Z⟩:=I.list m;obtain⟨u,hu,Y⟩:=q.get y;obtain⟨O,N,f2,M,L,J⟩:=n it JK;refine wpAny_pyNext_list_item f p.isList (by simpa using hu) λ R j W=>?_
  obtain⟨o,e,c,d⟩:=id j;exact⟨u,rfl,jz e c d JD ⟨x,H,(I.turned (λ b o g e=>(W.2 b g).trans e) O N M L J),Y,⟨rfl,λ ys hy=>by rw[I.list_inj hy m];exact y⟩,j,λ b g=>(n b g).1⟩⟩
 done:=by
  intro X C A F Q i l s S H E I n f B;subst C A F;obtain⟨U,m,y⟩:=B;obtain⟨r,q,p,Z⟩:=I.list m;obtain⟨O,N,f2,M,L,J⟩:=n it JK;have hl:=q.length;exact wpAny_pyNext_list_end (I.ok.hd Q) f p.isList (by simp;omega) λ R eb=>⟨rfl,I.turned (λ b o g e=>eb b o g e) O N M L J⟩
 self:=λ _ _ _ _ _ f h=>wpAny_pyIter_listiter f h
def xm{K:Jw}(a it:Jn):Turn P w K tg (Itt K a) [it] it (λ i h=>h.IsTupleIter it a i) where
 mem:=by simp
 obj:=λ i h f b g=>by
  have e:b=it:=by simpa using g
  subst e;obtain⟨o,e,c,d⟩:=f;exact⟨o,e,λ v z=>by rw[d]at z;cases z⟩
 keep:=λ i h R f k=>f.at λ o e=>k it JK o e
 item:=by
  intro X C A F Q i l s S H E I n f B;subst C A F;obtain⟨U,x,m,y⟩:=B;obtain⟨r,q,p,Z⟩:=I.tuple m;obtain⟨u,hu,Y⟩:=q.get y;obtain⟨O,N,f2,M,L,J⟩:=n it JK;refine wpAny_pyNext_tuple_item f (p) (by simpa using hu) λ R j W=>?_
  obtain⟨o,e,c,d⟩:=id j;exact⟨u,rfl,jz e c d JD ⟨x,H,(I.turned (λ b o g e=>(W.2 b g).trans e) O N M L J),Y,⟨rfl,λ ys hy=>by rw[I.tuple_inj hy m];exact y⟩,j,λ b g=>(n b g).1⟩⟩
 done:=by
  intro X C A F Q i l s S H E I n f B;subst C A F;obtain⟨U,m,y⟩:=B;obtain⟨r,q,p,Z⟩:=I.tuple m;obtain⟨O,N,f2,M,L,J⟩:=n it JK;have hl:=q.length;exact wpAny_pyNext_tuple_end (I.ok.hd Q) f (p) (by simp;omega) λ R eb=>⟨rfl,I.turned (λ b o g e=>eb b o g e) O N M L J⟩
 self:=λ _ _ _ _ _ f h=>wpAny_pyIter_tupleiter f h
def xn{K:Jw}(it:Jn)(g:Int)(n:Nat):Turn P w K tg (Itr g n) [it] it (λ i h=>IsRangeIter h it (g+(i:Nat)*1) ((n:Int) - (i:Nat)) 1) where
 mem:=by simp
 obj:=λ i h a b c=>by
  have e:b=it:=by simpa using c
  subst e;exact⟨_,a,λ v z=>by
   have J:=z;cases J⟩
 keep:=λ i h C a k=>k it JK _ a
 item:=by
  intro X q l r p i f s F H E I j a m;subst q l r;obtain⟨B,A,M,y,x,u⟩:=j it JK;refine (Walks.range (I.ok.hd p) it g 1 n).item i s _ _ m a λ v C tk hv d L=>?_
  obtain⟨t,rfl⟩:=hv;refine⟨_,rfl,jz d rfl rfl JD ⟨.int (g+i),H,(I.turned (λ b o c e=>L b o (by simpa using c) e) B A y x u),⟨t,?_⟩,⟨rfl,rfl⟩,d,λ b c=>(j b c).1⟩⟩;rw[Int.mul_one]
 done:=by
  intro X q l r p i f s F H E I j a m;subst q l r;obtain⟨B,A,M,y,x,u⟩:=j it JK;exact wpAny_pyNext_range_end (I.ok.hd p) a (by have:n<=i:=m;omega) λ C N=>⟨rfl,I.turned (λ b o c e=>N b o c e) B A y x u⟩
 self:=λ _ _ _ _ _ a h=>wpAny_pyIter_rangeiter a h
end L2
namespace L2
open PySem PySem.Spec PyProof.Rows
def xo(K:Jw)(tl:TE):TI:=λ σ H R=>tl σ H λ x H1=>∃a,x=.ref a/\(∃xs,SqL K H1 a xs)/\R (Itl K a) H1
def iTup(K:Jw)(tl:TE):TI:=λ σ H R=>tl σ H λ x H1=>∃a,x=.ref a/\(∃xs,SqT K H1 a xs)/\R (Itt K a) H1
def oA(m:PE X l f):PI X tg l (xo X.K f):=by
 intro c s g H R I h;refine thn (m c s g H _ I h) λ v s1 t0=>?_;obtain⟨x,r,d,r1,i⟩:=t0
 obtain⟨a,e,⟨xs,k⟩,q⟩:=i;subst e;cases r1;obtain⟨j,rv,p,hz⟩:=d.list k;refine iJ p.isList ?_;refine⟨s1.heap.objs.size,[s1.heap.objs.size],_,_,r,rfl,d.kept λ b o e=>k9 _ e,xl a _,⟨_,q5 _ rfl,rfl,rfl⟩,λ b n=>?_,q⟩;have e:b=s1.heap.objs.size:=by simpa using n
 subst e;exact d.fpOk (i8 _) (d.hok.fresh (i8 _))
def xp(m:PE X l f):PI X tg l (iTup X.K f):=by
 intro c s g H R I h;refine thn (m c s g H _ I h) λ v s1 t0=>?_;obtain⟨x,r,d,r1,i⟩:=t0
 obtain⟨a,e,⟨xs,k⟩,q⟩:=i;subst e;cases r1;obtain⟨j,rv,p,hz⟩:=d.tuple k;refine eN (p) ?_;refine⟨s1.heap.objs.size,[s1.heap.objs.size],_,_,r,rfl,d.kept λ b o e=>k9 _ e,xm a _,⟨_,q5 _ rfl,rfl,rfl⟩,λ b n=>?_,q⟩;have e:b=s1.heap.objs.size:=by simpa using n
 subst e;exact d.fpOk (i8 _) (d.hok.fresh (i8 _))
def oE(I:JI c)(k : -(2^62)<=a)(j:a<2^62)(i : -(2^62)<=d)(h:d<2^62)
  (q:R (Itr a (d - a).toNat) H):wpAny JG X.A (pyIter (.ref s.heap.objs.size)) (PIE X c σ tg R) E {s with heap:=s.heap.push {cls:=.type "range",data:=.fields #[.int a t,.int d u,.int 1 v]},toks:=tk}:=by
 refine wpAny_pyIter_range (IsRange.new ..) (small_one k j i h) ?_;have f:Inv X c σ H {s with heap:=s.heap.push {cls:=.type "range",data:=.fields #[.int a t,.int d u,.int 1 v]},toks:=tk}:=I.kept λ b o e=>k9 _ e;refine⟨(s.heap.push {cls:=.type "range",data:=.fields #[.int a t,.int d u,.int 1 v]}).objs.size,[(s.heap.push {cls:=.type "range",data:=.fields #[.int a t,.int d u,.int 1 v]}).objs.size],_,_,H,rfl,
  f.kept λ b o e=>k9 _ e,xn _ a (d - a).toNat,?_,λ b g=>?_,q⟩
 ·have m:a+((0:Nat):Int)*1=a:=by simp
  have l:(((d - a).toNat:Nat):Int) - ((0:Nat):Int)=Builtin.Range.rangeSize a d 1:=by rw[rangeSize_one];split<;>omega
  show IsRangeIter _ _ _ _ 1;rw[m,l];exact q5 _ rfl
 ·have e:b=(s.heap.push {cls:=.type "range",data:=.fields #[.int a t,.int d u,.int 1 v]}).objs.size:=by simpa using g
  subst e;exact f.fpOk (i8 _) (f.hok.fresh (i8 _))
def xq(ta:TA):TI:=λ σ H R=>ta σ H λ vs H1=>∃j:Int,vs=[.int j] /\ -(2^62)<=j/\j<2^62/\R (Itr 0 j.toNat) H1
def xr(ta:TA):TI:=λ σ H R=>ta σ H λ vs H1=>∃i j:Int,vs=[.int i,.int j]/\(-(2^62)<=i/\i<2^62 /\ -(2^62)<=j/\j<2^62)/\R (Itr i (j - i).toNat) H1
def xt(m:Gl X "range")(l:X.mg "range" = none)(n:PA X [a] d)(k:starEach [a] X.env=[(false,eval a X.env)]:=by rfl):PI X tg (.Call (.Name "range" p) [a] [] pos) (xq d):=by
 intro b s f H R I h;refine Call_ (am I m l boot_range (eD (thn (n pos b s f H _ I h) λ us s1 ⟨vs,H1,o,r1,c⟩=>?_) k rfl));obtain⟨j,e,c,i,q⟩:=c;subst e;cases r1 with
 | cons r g=>
  cases g;obtain⟨t,rfl⟩:=r;exact call_range_1 (oE o JC JC c i (by simpa using q))
def xu(w:Gl X "range")(v:X.mg "range" = none)(x:PA X [a,b] k)(u:starEach [a,b] X.env=[(false,eval a X.env),(false,eval b X.env)]:=by rfl)(d:starEach [b] X.env=[(false,eval b X.env)]:=by rfl) :
  PI X tg (.Call (.Name "range" p) [a,b] [] pos) (xr k):=by
 intro c s l H R I h;refine Call_ (am I w v boot_range (eD (thn (x pos c s l H _ I h) λ us s1 ⟨vs,H1,y,r1,g⟩=>?_) (by rw[u,d]) (by rw[d];rfl)));obtain⟨i,j,e,⟨g,o,n,q4⟩,q⟩:=g;subst e;cases r1 with
 | cons r f=>
  cases f with
  | cons m f=>
   cases f;obtain⟨t,rfl⟩:=r;obtain⟨t',rfl⟩:=m;exact call_range_2 (oE y g o n q4 q)
noncomputable def tFor(wi:TI)(g:TG)(tb:TS):TS:=λ D σ H=>wi σ H λ J H1=>∃W:Nat->Nat->St->Hp->Prop,(∃m,W 0 m σ H1)/\∀i m σ H,W i m σ H ->
 (J.stop i H/\D.nx σ H)\/(J.go i H/\∃N:St->Hp->Prop,(∀σ' H',N σ' H'->∃m',m'<m/\W (i+1) m' σ' H')/\∀x H',J.yld i H x H'->g x σ H' λ σ2 H2=>tb {D with nx:=N,ct:=N,bk:=D.nx} σ2 H2)
noncomputable def fF(fp:on Jn)(h:Jo):on (Jn×Obj):=fp.filterMap λ b=>(h.get? b).map λ o=>(b,o)
def W4(a:b∈fp)(e:h.get? b=some o):(b,o)∈fF fp h:=aP.mpr ⟨b,a,by rw[e];rfl⟩
def xv(a:p∈fF fp h):p.1∈fp/\h.get? p.1=some p.2:=by
 obtain⟨b,c,e⟩:=aP.mp a;cases q:h.get? b with
 | none=>rw[q]at e;cases e
 | some o=>
  rw[q]at e;have d:=B8 e;subst d;exact⟨c,q⟩
def Inv.pinned(I:JI a)(i:∀b∈fp,FpOk X a H b)(h:∀b∈fp,∃o,s.heap.get? b=some o/\∀v,o.data ≠ .cell v):Inv X (a++fF fp s.heap) σ H s:=
 I.pins_of λ p g=>(C7.mp g).elim (λ z=>I.pin p (x9 _ z)) λ z=>by obtain⟨c,e⟩:=xv z;obtain⟨l,k,j,_⟩:=i p.1 c;obtain⟨o,f,d⟩:=h p.1 c;rw[e]at f;cases f;exact⟨e,l,k,j,d⟩
def Inv.unpinned(I:JI (a++b)):Inv X a σ H s:=I.pins_of λ p c=>I.pin p (x9 _ (C6 _ c))
def xw(K:PassesOwn JG X.A X.env X.xe)(hc:X.calm=true)(hi:PI X tg l Y)(hg:PG X tg g)(p:PSs X body tb)
  (hs:∀x,foldedSetIterable l X.env x=pure x:=by intro _;rfl):PS X (.For tg l body [] pos) (tFor Y g tb):=by
 intro c s U H D I h;refine wpAny_For (thn (hi c s U H _ I h) λ v s1 h1=>thn h1 λ itv s2 h2=>?_) hs;obtain⟨it,L,Z,J,H2,e,I2,T,O,f2,W,⟨m0,w0⟩,C⟩:=h2;subst e;have k:∀{z:Hp},(∀b∈L,z b=none)->∀b∈L,FpOk X c z b:=λ hn b p=>⟨hn b p,(f2 b p).2⟩
 refine codeAny_forLoop_any (λ n s'=>∃i j z,Inv X c j z s'/\Z i s'.heap/\(∀b∈L,z b=none)/\W i n j z) ?_ m0 ⟨0,U,H2,I2,O,λ b p=>(f2 b p).1,w0⟩
 rintro n s3 ⟨i,σ3,H3,I3,st3,fr3,w3⟩
 rcases C i n σ3 H3 w3 with⟨E,qn⟩ | ⟨go,N,hN,step⟩
 ·refine ae K (thn (T.done X rfl rfl rfl hc i c s3 σ3 H3 X.xe I3 (k fr3) st3 E) λ r s4 t0=>?_);obtain⟨Q,I4⟩:=t0;subst Q;exact cB ⟨σ3,H3,I4,qn⟩
 ·refine ae K (thn (T.item X rfl rfl rfl hc i c s3 σ3 H3 X.xe I3 (k fr3) st3 go) λ r s4 t0=>?_);obtain⟨u,Q,h4⟩:=t0;subst Q;refine ae K (thn h4 λ _ s5 t0=>?_);obtain⟨x,H5,I5,r5,y5,B,R⟩:=t0;have S:=I5.pinned (k R) (T.obj _ _ B);refine ae K (thn (hg _ s5 σ3 H5 x u _ S r5 (step x H5 y5)) λ _ s6 t0=>?_);obtain⟨M,H6,I6,q6⟩:=t0;refine ae K (thn (p _ s6 M H6 _ I6 q6) λ f P A=>?_);have q:∀{a:St} {y:Hp},Inv X _ a y P->N a y->∃m,m<n/\∃i j z,Inv X c j z P/\Z i P.heap/\(∀b∈L,z b=none)/\W i m j z:=λ {a y} w F=>by obtain⟨m',hm,w7⟩:=hN a y F;refine⟨m',hm,i+1,a,y,w.unpinned,T.keep _ _ _ B λ b p o e=>(w.pin (b,o) (x9 _ (x9 _ (W4 p e)))).1,λ b p=>?_,w7⟩;obtain⟨o,e,d⟩:=T.obj _ _ B b p;exact(w.pin (b,o) (x9 _ (x9 _ (W4 p e)))).2.1
  cases f with
  | next=>obtain⟨a,y,w,F⟩:=A;exact q w F
  | cont=>obtain⟨a,y,w,F⟩:=A;exact q w F
  | brk=>obtain⟨a,y,w,A⟩:=A;exact⟨a,y,w.unpinned,A⟩
  | ret v=>obtain⟨x7,a,y,w,r7,A⟩:=A;exact⟨x7,a,y,w.unpinned,r7,A⟩
end L2
namespace L2
open PySem PySem.Spec PyProof.Rows
abbrev R2:=V->V->Hp->VK->Prop
def OpR(X:Cx)(f:Jl->Jl->Sem Jl)(r:R2):Prop:=
 ∀(pins:on (Jn×Obj)) (s:Jm) (σ:St) (H:Hp) (x y:V) (v u:Jl) (Q:VK),Inv X pins σ H s->RelV x v->RelV y u->r x y H Q ->
  wpAny JG X.A (f v u) (EP X pins σ Q) X.xe s
def UnR(X:Cx)(f:Jl->Sem Jl)(r:V->Hp->VK->Prop):Prop:=
 ∀(pins:on (Jn×Obj)) (s:Jm) (σ:St) (H:Hp) (x:V) (v:Jl) (Q:VK),Inv X pins σ H s->RelV x v->r x H Q ->
  wpAny JG X.A (f v) (EP X pins σ Q) X.xe s
def C9(X:Cx)(f:Jl)(r:on V->Hp->VK->Prop):Prop:=
 ∀(pins:on (Jn×Obj)) (s:Jm) (σ:St) (H:Hp) (xs:on V) (us:on Jl) (Q:VK),Inv X pins σ H s->Vals xs us->r xs H Q ->
  wpAny JG X.A (call f us) (EP X pins σ Q) X.xe s
def TruR(X:Cx)(r:V->Hp->(Bool->Hp->Prop)->Prop):Prop:=
 ∀(pins:on (Jn×Obj)) (s:Jm) (σ:St) (H:Hp) (x:V) (v:Jl) (Q:Bool->Hp->Prop),Inv X pins σ H s->RelV x v->r x H Q ->
  wpAny JG X.A (truthy v) (TP X pins σ Q) X.xe s
noncomputable def tOp(r:R2)(ta tb:TE):TE:=λ σ H Q=>ta σ H λ x H1=>tb σ H1 λ y H2=>r x y H2 Q
noncomputable def tUn(r:V->Hp->VK->Prop)(ta:TE):TE:=λ σ H Q=>ta σ H λ x H1=>r x H1 Q
noncomputable def rI(C:Int->Int->Prop)(g:Int->Int->V):R2:=λ x y H Q=>∃i j,x=.int i/\y=.int j/\C i j/\Q (g i j) H
noncomputable def rI0(g:Int->Int->V):R2:=λ x y H Q=>∃i j,x=.int i/\y=.int j/\Q (g i j) H
noncomputable def rU(g:Int->V):V->Hp->VK->Prop:=λ x H Q=>∃i,x=.int i/\Q (g i) H
def binT(q:PE X a k)(p:PE X b tb){R:V->V->Hp->Prop}(I:JI c)
  (h:k σ H λ x j=>tb σ j λ y d=>R x y d)  {f:Jl->Jl->Sem Jl}
  (o:∀v u i x y d,Inv X c σ d i->RelV x v->RelV y u->R x y d->wpAny JG X.A (f v u) Q X.xe i) :
  wpAny JG X.A (eval a X.env) (λ v g=>wpAny JG X.A (eval b X.env) (λ u e=>wpAny JG X.A (f v u) Q X.xe e) X.xe g) X.xe s:=by
 refine thn (q c s σ H _ I h) λ v s1 t0=>?_;obtain⟨x,j,w,r1,n⟩:=t0;refine thn (p c s1 σ j _ w n) λ u i t0=>?_;obtain⟨y,d,r,l,m⟩:=t0;exact o v u i x y d r r1 l m
def xx(k:OpR X (binaryOp e) r)(m:PE X a d)(l:PE X b tb):PE X (.BinOp a e b pos) (tOp r d tb):=by
 intro c s f H Q I h;exact wpAny_BinOp (binT m l I h λ v u g x y o n j i q=>k c g f o x y v u Q n j i q)
def xy(g:UnR X (unaryOp e) r)(i:PE X a d):PE X (.UnaryOp e a pos) (tUn r d):=by
 intro b s c H Q I h;exact UnaryOp_ (thn (i b s c H _ I h) λ v s1 ⟨x,k,j,r1,f⟩=>g b s1 c k x v Q j r1 f)
def opI{g:Int->Int->Int}
  (a:∀(i j:Int) (t u:Tok) (s:Jm) (Q:Jl->Jm->Prop) (E:Jl->Jm->Prop),C i j->Q (.int (g i j) s.toks) {s with toks:=s.toks+1} -> wpAny JG X.A (f (.int i t) (.int j u)) Q E s) :
  OpR X f (rI C λ i j=>.int (g i j)):=by
 intro b s σ H x y v u Q I e d h;obtain⟨i,j,rfl,rfl,k,q⟩:=h;obtain⟨t,rfl⟩:=e;obtain⟨c,rfl⟩:=d;exact a i j t c s _ _ k ⟨.int _,H,I.tok _,⟨_,rfl⟩,q⟩
def opI0{g:Int->Int->Int}
  (a:∀(i j:Int) (t u:Tok) (s:Jm) (Q:Jl->Jm->Prop) (E:Jl->Jm->Prop),Q (.int (g i j) s.toks) {s with toks:=s.toks+1} -> wpAny JG X.A (f (.int i t) (.int j u)) Q E s) :
  OpR X f (rI0 λ i j=>.int (g i j)):=by
 intro b s σ H x y v u Q I e d h;obtain⟨i,j,rfl,rfl,q⟩:=h;obtain⟨t,rfl⟩:=e;obtain⟨c,rfl⟩:=d;exact a i j t c s _ _ ⟨.int _,H,I.tok _,⟨_,rfl⟩,q⟩
def opB0{g:Int->Int->Bool}
  (a:∀(i j:Int) (t u:Tok) (s:Jm) (Q:Jl->Jm->Prop) (E:Jl->Jm->Prop),Q (.bool (g i j)) s->wpAny JG X.A (f (.int i t) (.int j u)) Q E s) :
  OpR X f (rI0 λ i j=>.bl (g i j)):=by
 intro b s σ H x y v u Q I e d h;obtain⟨i,j,rfl,rfl,q⟩:=h;obtain⟨t,rfl⟩:=e;obtain⟨c,rfl⟩:=d;exact a i j t c s _ _ ⟨.bl _,H,I,rfl,q⟩
def CPow(i j:Int):Prop:=0<=j/\j<=1000000/\i.natAbs<2^64
def CMul(i j:Int):Prop:=(-(2^64)<i/\i<2^64)\/(-(2^64)<j/\j<2^64)
def CMul.ok(h:CMul i j):IntMulOk i j:=by
 rcases h with⟨b,a⟩ | ⟨b,a⟩
 ·exact .of_left (intBits_le_64 b a)
 ·exact .of_right (intBits_le_64 b a)
def xz(k:Nat):(0:Int)<=2^k:=by
 rw[two_pow_cast];exact E8 _
def xA:OpR X (binaryOp .Add) (rI0 λ i j=>.int (i+j)):=opI0 λ _ _ _ _ _ _ _ q=>add_int q
def xB:OpR X (binaryOp .Sub) (rI0 λ i j=>.int (i - j)):=opI0 λ _ _ _ _ _ _ _ q=>sub_int q
def xC:OpR X (binaryOp .Mod) (rI (λ _ j=>0<j) λ i j=>.int (i%j)):=opI λ i j _ _ _ _ _ a q=>by
 have h1:=a;exact mod_int' JC (by rw[Int.fmod_eq_emod_of_nonneg i JC];exact q)
def xD:OpR X (binaryOp .LShift) (rI CPow λ i j=>.int (i*2^j.toNat)):=opI λ _ _ _ _ _ _ _ a q=>lshift_int_small a.1 a.2.1 a.2.2 q
def xE:OpR X (binaryOp .RShift) (rI (λ _ j=>0<=j) λ i j=>.int (i/2^j.toNat)):=opI λ i j _ _ _ _ _ a q=>
 rshift_int a (by rw[ng i (xz _)];exact q)
def xF:OpR X (binaryOp .BitAnd) (rI0 λ i j=>.int (Builtin.bitAnd i j)):=opI0 λ _ _ _ _ _ _ _ q=>and_int q
def unI{g:Int->Int}
  (a:∀(i:Int) (t:Tok) (s:Jm) (Q:Jl->Jm->Prop) (E:Jl->Jm->Prop),Q (.int (g i) s.toks) {s with toks:=s.toks+1} -> wpAny JG X.A (f (.int i t)) Q E s) :
  UnR X f (rU λ i=>.int (g i)):=by
 intro b s σ H x v Q I c h;obtain⟨i,rfl,q⟩:=h;obtain⟨t,rfl⟩:=c;exact a i t s _ _ ⟨.int (g i),H,I.tok _,⟨_,rfl⟩,q⟩
def xG:UnR X (unaryOp .USub) (rU λ i=>.int (-i)):=unI λ _ _ _ _ _ q=>neg_int q
section
variable {X:Cx} {a b c:Jp} {ta tb tc:TE} {pos:Pos}
def xH{a:on (Jn×Obj)}{b:Bool}(I:JI a)(q:Q (.bl k) H)(e:k=b):EP X a σ Q (.bool b) s:=by
 subst e;exact⟨.bl k,H,I,rfl,q⟩
def xI:OpR X (compareOp .Lt) (rI0 λ i j=>.bl (decide (i<j))):=opB0 λ _ _ _ _ _ _ _ q=>lt_int q
def xJ:OpR X (compareOp .LtE) (rI0 λ i j=>.bl (decide (i<=j))):=opB0 λ _ _ _ _ _ _ _ q=>le_int q
def xK:OpR X (compareOp .Gt) (rI0 λ i j=>.bl (decide (j<i))):=opB0 λ _ _ _ _ _ _ _ q=>gt_int q
def xL:OpR X (compareOp .Is) (λ x y H Q=>y=.non/\Q (.bl (decide (x=.non))) H):=by
 intro b s σ H x y v u Q I a c h;obtain⟨rfl,q⟩:=h;cases c;refine is_none_gen (xH I q ?_);cases x<;>first
  | (cases a;rfl)
  | (obtain⟨t,rfl⟩:=a;rfl)
def OpR.or(h:OpR X f r)(h':OpR X f e):OpR X f (λ x y H Q=>r x y H Q\/e x y H Q):=by
 intro a s b H x y v u Q I d c q;rcases q with q | q
 ·exact h a s b H x y v u Q I d c q
 ·exact h' a s b H x y v u Q I d c q
def xM(j:OpR X (compareOp d) r)(m:PE X a ta)(l:PE X b tb)(k:behindInMarks d b=false):PE X (.Compare a [d] [b] pos) (tOp r ta tb):=by
 intro c s e H Q I h;exact wpAny_Compare1 (binT m l I h λ v u f x y o n i g q=>j c f e o x y v u Q n i g q) k
noncomputable def oG(t:TE):TT:=λ σ H Q=>t σ H λ x H'=>∃k,x=.bl k/\Q k H'
def xN(p:OpR X (compareOp g) r)(A:PE X a ta)(w:PE X b tb)(q:behindInMarks g b=false):PT X (.Compare a [g] [b] pos) (oG (tOp r ta tb)):=by
 intro d s f H Q I h;refine nQ (thn (A d s f H _ I h) λ v s1 ⟨x,K,E,r1,o⟩=>thn (w d s1 f K _ E o) λ u i ⟨y,J,C,l,n⟩=>
  thn (p d i f J x y v u _ C r1 l n) λ c s3 ⟨z,F,B,j,k,e,m⟩=>?_) q
 subst e;cases j;exact Q9 ⟨F,B,m⟩
noncomputable def jA(r r':R2)(ta tb tc:TE):TE:=λ σ H Q=>ta σ H λ x H1=>tb σ H1 λ y H2=>r x y H2 λ z H3=>∃k,z=.bl k /\
 (if k=true then tc σ H3 λ w' H4=>r' y w' H4 Q else Q (.bl false) H3)
def xO(M:OpR X (compareOp j) r)(l:OpR X (compareOp g) n)(R:PE X a ta)(P:PE X b tb)(O:PE X c tc)
  (N:lastMarks [j,g] [b,c]=false:=by with_unfolding_all rfl):PE X (.Compare a [j,g] [b,c] pos) (jA r n ta tb tc):=by
 intro f s i H Q I h;refine Compare_chain (thn (R f s i H _ I h) λ v s1 ⟨x,H1,W,r1,L⟩=>chain_link (thn (P f s1 i H1 _ W L) λ u E ⟨y,Z,U,m,K⟩=>
  thn (M f E i Z x y v u _ U r1 m K) λ d C ⟨z,q,p,J,k,e,o⟩=>?_)) N
 subst e;cases J;refine Q9 ?_;cases k with
 | false=>exact ite_ff ⟨.bl false,q,p,rfl,o⟩
 | true=>exact ite_tt (chain_last (thn (O f C i q _ p o) λ A B ⟨w,Y,S,F,q4⟩=>l f B i Y y w u A Q S m F q4))
def xP(P:OpR X (compareOp j) r)(l:OpR X (compareOp g) n)(W:PE X a ta)(U:PE X b tb)(S:PE X c tc)
  (R:lastMarks [j,g] [b,c]=false:=by with_unfolding_all rfl):PT X (.Compare a [j,g] [b,c] pos) (oG (jA r n ta tb tc)):=by
 intro f s i H Q I h;refine isTrue_chain (thn (W f s i H _ I h) λ v s1 ⟨x,H1,I1,r1,N⟩=>test_link (thn (U f s1 i H1 _ I1 N) λ u E ⟨y,H2,I2,m,M⟩=>
  thn (P f E i H2 x y v u _ I2 r1 m M) λ d C ⟨z,q,p,K,k,e,o⟩=>?_)) R
 subst e;cases K;refine Q9 ?_;cases k with
 | false=>
  obtain⟨k',Z,O⟩:=o;cases Z;exact ite_ff ⟨q,p,O⟩
 | true=>
  refine ite_tt (test_last (thn (S f C i q _ p o) λ A B ⟨w,H4,I4,J,q4⟩=>thn (l f B i H4 y w u A _ I4 m J q4) λ d' s5 t0=>?_));obtain⟨z2,H5,I5,F,k2,Y,L⟩:=t0;subst Y;cases F;exact Q9 ⟨H5,I5,L⟩
def TruV(K:Jw)(x:V)(H:Hp)(k:Bool):Prop:=
 match x with
 | .non=>k=false
 | .bl b=>k=b
 | .int i=>k=(i != 0)
 | .str y=>y.length<=sizeLine/\k=((y.length:Int) != 0)
 | .byt y=>y.size<=sizeLine/\k=((y.size:Int) != 0)
 | .ref p=>(∃xs,SqL K H p xs/\k = !xs.isEmpty)\/(∃xs,SqT K H p xs/\k = !xs.isEmpty)\/∃kvs,H p=some (.dK kvs)/\k = !kvs.isEmpty
 | _=>False
def xQ{a:on (κ×V)}{vs:on (κ×Jl)}(r:KV a vs):(!vs.isEmpty) = !a.isEmpty:=by
 cases r<;>rfl
def oH{a:on Jl}(r:Vals xs a):(!a.toArray.isEmpty) = !xs.isEmpty:=by
 cases r<;>simp
def ao:(sizeLine:Nat)<2^63:=by rw[P6];decide
def fG:TruR X (λ x H Q=>∃k,TruV X.K x H k/\Q k H):=by
 intro A s σ H x v Q I j h;obtain⟨k,e,q⟩:=h;have hl:=ao;have hs:=P6;cases x with
 | non=>
  cases j;have c:=e;subst c;exact truthy_none ⟨H,I,q⟩
 | bl b=>
  cases j;have c:=e;subst c;exact Q9 ⟨H,I,q⟩
 | int i=>
  obtain⟨t,rfl⟩:=j;have c:=e;subst c;exact PySem.P.truthy_int ⟨H,I,q⟩
 | str y=>
  obtain⟨t,rfl⟩:=j;obtain⟨E,c⟩:y.length<=sizeLine/\k=_:=e;subst c;exact PySem.P.truthy_str JC ⟨H,I.tok _,q⟩
 | byt y=>
  obtain⟨t,rfl⟩:=j;obtain⟨E,c⟩:y.size<=sizeLine/\k=_:=e;subst c;exact PySem.W.truthy_bytes JC ⟨H,I.tok _,q⟩
 | ref p=>
  cases j;have c:=e;rcases c with⟨C,n,c⟩ | ⟨C,n,c⟩ | ⟨l,n,c⟩
  ·subst c;obtain⟨z,r,w,B⟩:=I.list n;have g:=r.length;exact wpAny_truthy_list w.isList (by simp only[t7];omega) ⟨H,I.tok _,by rw[oH r];exact q⟩
  ·subst c;obtain⟨z,r,w,B⟩:=I.tuple n;have g:=r.length;exact truthy_tuple w (by simp only[t7];omega) ⟨H,I.tok _,by rw[oH r];exact q⟩
  ·subst c;obtain⟨B,F,u,r,m⟩:l.length<=sizeLine/\_=false/\∃u,KV l u/\s.heap.DictOf _ p u:=I.hok p _ n;have g:=ff r;exact wpAny_truthy_dict F m JC ⟨H,I.tok _,by rw[xQ r];exact q⟩
 | _=>exact(e).elim
def xR(i:PE X a ta)(g:∀b,isTrue a X.env b=(do let v ←b;standAt a.pos;holding [v] (truthy v))) :
  PT X a (λ d H Q=>ta d H λ x e=>∃k,TruV X.K x e k/\Q k e):=by
 intro c s d H Q I h;exact isTrue_plain (thn (i c s d H _ I h) λ v s1 ⟨x,l,j,r1,f⟩=>fG c s1 d l x v Q j r1 f) (g _)
def S4{a:on Jl}(r:Vals [x] a):∃u,a=[u]/\RelV x u:=by
 cases r with
 | cons r1 b=>cases b;exact⟨_,rfl,r1⟩
def ap{b:on Jl}(r:Vals [x,y] b):∃u a,b=[u,a]/\RelV x u/\RelV y a:=by
 cases r with
 | cons r1 e=>
  cases e with
  | cons d c=>cases c;exact⟨_,_,rfl,r1,d⟩
def xS(d:X.calm=true):C9 X (.builtin "max") (λ b H Q=>∃i j,b=[.int i,.int j]/\Q (JP (if j>i then j else i)) H):=by
 intro c s σ H b us Q I r h;obtain⟨i,j,rfl,q⟩:=h;obtain⟨u,w',rfl,⟨t,rfl⟩,⟨t',rfl⟩⟩:=ap r;refine max_two_ints (I.ok.hd d) λ h' tk k=>⟨_,H,I.kept k,?_,q⟩
 by_cases a:j>i
 ·rw[f8 a,f8 a];exact⟨_,rfl⟩
 ·rw[g9 a,g9 a];exact⟨_,rfl⟩
def xT(d:X.calm=true):C9 X (.builtin "min") (λ b H Q=>∃i j,b=[.int i,.int j]/\Q (JP (if j<i then j else i)) H):=by
 intro c s σ H b us Q I r h;obtain⟨i,j,rfl,q⟩:=h;obtain⟨u,w',rfl,⟨t,rfl⟩,⟨t',rfl⟩⟩:=ap r;refine min_two_ints (I.ok.hd d) λ h' tk k=>⟨_,H,I.kept k,?_,q⟩
 by_cases a:j<i
 ·rw[f8 a,f8 a];exact⟨_,rfl⟩
 ·rw[g9 a,g9 a];exact⟨_,rfl⟩
end
end L2
namespace L2
open PySem PySem.Spec PyProof.Rows
structure ObjM(h:Heap)(x dx C:Addr)(mA:Str->Option Value):Prop where
 obj:h.get? x=some (PySem.W.instObj C dx)
 ns:h.Ns1 dx mA
 ne:dx≠x
def RelO.some_of(r:RelO (some v) o):∃u,o=some u/\RelV v u:=by
 cases o with
 | none=>exact(r).elim
 | some u=>exact⟨u,rfl,r⟩
structure Cls(K:PySem.W.Frag)(C:Addr):Prop where
 pg:PySem.W.plainGet K C Str.empty=true
 hd:PySem.W.hasDictIn K C=true
 po:PySem.W.plainOver K C=true
 sa:PySem.W.findIn K (.ref C) "__setattr__" = some (some (.builtin "object.__setattr__"))
section
variable {X:Cx} {pins:on (Jn×Obj)} {σ:St} {H:Hp} {s:Jm} {A:Ju} {E:Jl->Jm->Prop} {Q:Jl->Jm->Prop} {c:Jl} {b:Bool}
inductive TyOf (K:PySem.W.Frag) (H:Hp):V->Value->Prop where
 | non:TyOf K H .non (.type "NoneType")
 | bl (x:Bool):TyOf K H (.bl x) (.type "bool")
 | int (i:Int):TyOf K H (.int i) (.type "int")
 | str (x:Str):TyOf K H (.str x) (.type "str")
 | flt (x:UInt64):TyOf K H (.flt x) (.type "float")
 | lst {a:Addr} {xs:List V} (e:H a=some (.lst xs)):TyOf K H (.ref a) (.type "list")
 | frz {a:Addr} {o:Obj} {xs:List V} (e:H a=some (.frz o (.lst xs))):TyOf K H (.ref a) (.type "list")
 | tup {a:Addr} {xs:List V} (e:H a=some (.tup xs)):TyOf K H (.ref a) (.type "tuple")
 | dK {a:Addr} {kvs:List (Key×V)} (e:H a=some (.dK kvs)):TyOf K H (.ref a) (.type "dict")
 | dT {a:Addr} {kvs:List (List Key×V)} (e:H a=some (.dT kvs)):TyOf K H (.ref a) (.type "dict")
 | ins {a C dx:Addr} {fs:List (Str×V)} (e:H a=some (.ins C dx fs)) (cl:Cls K C) (ha:PySem.W.findIn K (.ref C) "__class__" = some (some (.builtin "object.__class__")))
   (hn:PySem.W.specialIn K (.builtin "object.__class__") "__get__" = some (some (.builtin "getset_descriptor.__get__"))) (htk:PySem.W.takesIn K (.builtin "object.__class__")=some true)
   (hm:PySem.W.mroIn K C (.type "object")=some true):TyOf K H (.ref a) (.ref C)
end
end L2
namespace L2
open PySem PySem.Spec PyProof.Rows
structure Room(k:Nat)(A:Around):Prop where
 hd:A.handled=none
 dp:A.depth+3*k+5<recursionLimit
 un:A.units+16*k+200<cLine
theorem Room.deeper(r:Room (k+1) A)(env:Env):Room k (A.deeper env):=
 ⟨r.hd,by have:=r.dp;show A.depth+1+3*k+5<_;omega,by have:=r.un;show A.units+3+16*k+200<_;omega⟩
theorem Room.depth(r:Room k A):A.depth<recursionLimit:=by have:=r.dp;omega
theorem Room.units(r:Room k A):A.units+64<cLine:=by have:=r.un;omega
def tNil:TA:=λ _ H Q=>Q [] H
noncomputable def jB(ta:TE)(tr:TA):TA:=λ σ H Q=>ta σ H λ x H1=>tr σ H1 λ xs H2=>Q (x::xs) H2
section
variable {X:Cx} {e:Jp} {es:on Jp} {te:TE} {t:TA} {pos:Pos}
def S5:PA X [] tNil:=λ _ _ _ _ H Q I h=>Calls.spliced_nil ⟨[],H,I,.nil,h⟩
def M7(l:PE X e te)(k:PA X es t)(j:starEach (e::es) X.env=(false,eval e X.env)::starEach es X.env:=by rfl):PA X (e::es) (jB te t):=by
 intro b a s c H Q I h;rw[j];show wpAny _ _ _ _ _ s;refine Calls.spliced_cons (thn (l a s c H _ I h) λ u s1 t0=>?_);obtain⟨x,p,n,r1,i⟩:=t0;exact thn (k b a s1 c p _ n i) λ us s2 ⟨d,o,m,f,g⟩=>⟨x::d,o,m,.cons r1 f,g⟩
def tTup(t:TA):TE:=λ σ H Q=>t σ H λ xs H1=>xs.length<=sizeLine/\∀p,H1 p=none->Q (.ref p) (upd H1 p (.tup xs))
def tLst(t:TA):TE:=λ σ H Q=>t σ H λ xs H1=>xs.length<=sizeLine/\∀p,H1 p=none->Q (.ref p) (upd H1 p (.lst xs))
def jC(h:PA X es t):PE X (.Tuple es x1 pos) (tTup t):=by
 intro a s d H Q I g;refine wpAny_Tuple_spliced (thn (h pos a s d H _ I g) λ f s1 ⟨xs,i,c,r,z,q⟩=>⟨by rw[←r.length];exact z,?_⟩);refine⟨.ref s1.heap.objs.size,upd i s1.heap.objs.size _,c.laid (λ b u e=>k9 _ e) (i8 _) ?_,rfl,q _ (c.hok.fresh (i8 _))⟩;exact⟨z,f,r,⟨_,q5 _ rfl,⟨rfl,rfl⟩,_,rfl⟩⟩
def xU(h:PA X es t):PE X (.List es pos) (tLst t):=by
 intro a s d H Q I g;refine wpAny_List_spliced (thn (h pos a s d H _ I g) λ f s1 ⟨xs,i,c,r,z,q⟩=>⟨by rw[←r.length];exact z,?_⟩);refine⟨.ref s1.heap.objs.size,upd i s1.heap.objs.size _,c.laid (λ b u e=>k9 _ e) (i8 _) ?_,rfl,q _ (c.hok.fresh (i8 _))⟩;exact⟨z,f,0,r,q5 _ rfl⟩
end
abbrev Sp:=on V->Hp->VK->XK->Prop
abbrev CXT:=on Env->Hp->Jm->XK->Jl->Jm->Prop
structure Env0(P:Program)(w:World)(K:PySem.W.Frag)(mg:Str->Option Value)(base:Heap)(A:Around)(outer:List Env)(s:Shared)(H:Hp):Prop where
 frames:A.frames=some outer
 mod:Mod K mg base
 bs:∀b o,base.get? b=some o->s.heap.get? b=some o/\H b=none
 bsz:base.objs.size<=s.heap.objs.size
 funs:s.heap.FunFrames base outer
 frf:(∀b∈frs outer,H b=none)/\cO K H
 hok:HOk P w H s.heap
 bare:AllBare s.gens
def CE(outer:on Env)(P:Js)(w:Jr)(H:Hp)(s:Jm)(Q:VK)(u:Jl)(s':Jm):Prop:=
 ∃v H',s'.os=s.os/\AllBare s'.gens/\Un (frs outer) [] H H' s.heap s'.heap/\HOk P w H' s'.heap/\RelV v u/\Q v H'
def CR(CX:CXT)(outer:on Env)(P:Js)(w:Jr)(H:Hp)(s:Jm)(Q:VK)(E:XK)(r:Result)(s':Jm):Prop:=
 match r with
 | .ok (.ret u)=>CE outer P w H s Q u s'
 | .ok _=>False
 | .error e=>CX outer H s E e s'
structure FnOk(P:Program)(w:World)(K:PySem.W.Frag)(mg:Str->Option Value)(base:Heap)(CX:CXT)(k:Nat)(f:Addr)(fd:FuncData)(ps:List Str)(sp:Sp):Prop where
 len:∀vs H Q E,sp vs H Q E->vs.length=ps.length
 run:∀(A:Around) (outer:List Env) (s:Shared) (H:Hp) (args:Args) (us:List Value) (vs:List V) (Q:VK) (E:XK),Room k A->Env0 P w K mg base A outer s H->BindsTo s fd args (ps.zip us)->Vals vs us->sp vs H Q E ->
  codeAny (model P w) A (.call (.ref f) args) (CR CX outer P w H s Q E) s
def Inv.env0(I:JI a):Env0 X.prog X.w X.K X.mg X.base X.A X.stack s H:=
 ⟨I.ok.frames,I.ok.mod,I.bs,k6 I.ok.bsz I.sz,I.stack,⟨I.stkFree,I.tabs⟩,I.hok,I.bare⟩
def Inv.after(I:JI a)(h:CE X.stack X.prog X.w H s Q u e):EP X a σ Q u e:=by
 obtain⟨v,k,j,c,un,i,r,q⟩:=h;obtain⟨hh,g,d,t,f⟩:=e;obtain rfl:f=s.os:=j;exact⟨v,k,I.call un i c (λ b z=>absurd z JK),r,q⟩
noncomputable def oK(sp:Sp)(dvs:on V)(E:XK)(t:TA):TE:=λ σ H Q=>t σ H λ vs H1=>sp (vs++dvs) H1 Q E
def P8(K:Jw)(fd:FuncData)(ps:on Str)(ds:on Jl):Prop:=
 ∀(s:Jm) (us:on Jl),K.In s.heap->(us++ds).length=ps.length->BindsTo s fd ⟨us,[]⟩ (ps.zip (us++ds))
def P8.all{K:Jw}(h:∀a:on Jl,a.length=ps.length->bindArgs fd ⟨a,[]⟩=pure (ps.zip a)):P8 K fd ps []:=λ s a _ b=>by
 rw[C8]at b ⊢;exact .of_eq (h a b)
def bh(CX:CXT)(X:Cx)(E:XK):Prop:=∀(pins:on (Jn×Obj)) (σ:St) (H:Hp) (s:Jm) (e:Jl) (s':Jm),Inv X pins σ H s->CX X.stack H s E e s'->X.xe e s'
def xV(F:FnOk X.prog X.w X.K X.mg X.base CX k f fd ps g)(m:Room k X.A)(o:P8 X.K fd ps ds)(hd:Vals d ds)(l:bh CX X E)
  (I:JI a) (r:Vals vs b) (h:g (vs++d) H Q E):wpAny JG X.A (call (.ref f) b) (EP X a σ Q) X.xe s:=by
 have i:=r.append hd;have n:(b++ds).length=ps.length:=by rw[←i.length];exact F.len _ _ _ _ h
 refine cM (R6 (F.run X.A X.stack s H ⟨b,[]⟩ _ _ Q E m I.env0 (o s b I.kIn n) i h) λ r j c=>?_);cases r with
 | error e=>exact l a σ H s e j I c
 | ok p=>
  cases p with
  | ret u=>exact I.after c
  | next=>exact False.elim c
  | brk=>exact False.elim c
  | cont=>exact False.elim c
def xW(F:FnOk X.prog X.w X.K X.mg X.base CX k f fd ps g)(m:Room k X.A)(u:Gl X x)(n:X.mg x=some (.ref f))(o:PySem.W.keepIn X.K (.ref f)=true)(w:P8 X.K fd ps ds)(hd:Vals b ds)(l:bh CX X E)
  (y:PA X (e::es) t) (d:(x==("__debug__" : Str))=false:=by decide) (v:starEach (e::es) X.env=(false,eval e X.env)::starEach es X.env:=by rfl) (c:(backTo pos (starEach es X.env)).any (·.1)=false:=by rfl) :
  PE X (.Call (.Name x p) (e::es) [] pos) (oK g b E t):=by
 intro a s j H Q I h;refine aQ (cQ I u n ?_ d);refine PySem.W.callWith_K I.ok.mod.kin o (thn (y pos a s j H _ I h) λ us s1 ⟨vs,H1,i,r,q⟩=>⟨i.kIn,?_⟩) v c;exact xV F m w hd l i r q
def PK(X:Cx)(kws:on Keyword)(t:TA):Prop:=
 ∀(pos:Pos) (pins:on (Jn×Obj)) (s:Jm) (σ:St) (H:Hp) (Q:on V->Hp->Prop),Inv X pins σ H s->t σ H Q->wpAny JG X.A (evalAll ((backToKw pos (keywordEach kws X.env)).map (·.2))) (AP X pins σ Q) X.xe s
def xX:PK X [] tNil:=λ _ _ _ _ H Q I h=>wpAny_evalAll_nil ⟨[],H,I,.nil,h⟩
def xY(m:PE X e f)(l:PK X b t):PK X (⟨nm,e,kpos⟩::b) (jB f t):=by
 intro c a s d H Q I h;show wpAny _ _ _ _ _ s;refine wpAny_evalAll_cons (f0 (thn (m a s d H _ I h) λ u s1 ⟨x,q,o,r1,k⟩=>f0 (fg (g7 ?_))));exact thn (l c a s1 d q _ o k) λ us s2 ⟨g,p,n,i,j⟩=>⟨x::g,p,n,.cons r1 i,j⟩
structure FnScope(N P:List Str)(sc:Scope):Prop where
 kind:sc.kind=.function
 co:sc.isCoroutine=false
 gen:sc.isGenerator=false
 nd:N.Nodup
 pre:N.take P.length=P
 par:∀x∈P,sc.names.lookup x=some .local\/sc.names.lookup x=some .cell
 nofree:∀y∈sc.names,y.2 ≠ .free
theorem oM:∀{a:on (Str×Jl)} {m:Str->Jk Jl},(∀v,(x,v)∉a)->bindL b a m x=m x
 | [],_,_=>rfl
 | (n,v)::r,m,h=>by
  unfold bindL;rw[oM λ w c=>h w (o4 _ c)];split
  ·have:x≠n:=by rintro rfl;exact h v o6
   simp[this]
  ·rfl
theorem oN:∀{a:on (Str×Jl)} {m:Str->Jk Jl},(∀v,(x,v)∉a)->bindC b a m x=m x
 | [],_,_=>rfl
 | (n,v)::r,m,h=>by
  unfold bindC;rw[oN λ w c=>h w (o4 _ c)];split
  ·rfl
  ·have:x≠n:=by rintro rfl;exact h v o6
   simp[this]
theorem oO:∀{P:on Str} {b:on Jl} {i:Nat} {m:Str->Jk Jl},P.Nodup->P[i]? = some x->b[i]? = some v->a x=some .local ->
  bindL a (P.zip b) m x=some v
 | [],_,_,_,_,h,_,_=>by simp at h
 | _::_,[],_,_,_,_,h,_=>by simp at h
 | p::P,w::b,0,m,e,d,c,f=>by simp at d c;subst d;subst c;show bindL a ((p,w)::P.zip b) m p=_;unfold bindL;rw[oM λ v hv=>(R4.mp e).1 (eV hv).1,f8 f];simp
 | p::P,w::b,i+1,m,e,d,c,f=>by show bindL a _ m x=_;unfold bindL;exact oO (R4.mp e).2 (by simpa using d) (by simpa using c) f
theorem oP:∀{P:on Str} {b:on Jl} {i:Nat} {m:Str->Jk Jl},P.Nodup->P[i]? = some x->b[i]? = some v->a x≠some .local ->
  bindC a (P.zip b) m x=some v
 | [],_,_,_,_,h,_,_=>by simp at h
 | _::_,[],_,_,_,_,h,_=>by simp at h
 | p::P,w::b,0,m,e,d,c,f=>by simp at d c;subst d;subst c;show bindC a ((p,w)::P.zip b) m p=_;unfold bindC;rw[oN λ v hv=>(R4.mp e).1 (eV hv).1,g9 f];simp
 | p::P,w::b,i+1,m,e,d,c,f=>by show bindC a _ m x=_;unfold bindC;exact oP (R4.mp e).2 (by simpa using d) (by simpa using c) f
noncomputable def start(N:on Str)(vs:on V):St:=vs.map some++List.replicate (N.length - vs.length) none
noncomputable def cxOf(CX:CXT)(P:Js)(w:Jr)(K:Jw)(mg:Str->Jk Jl)(base:Jo)(N:on Str)(qual:Str)(scope:Jx)(f:Jn)(cd:Jl)(A:Ju)(outer:on Env)(s:Jm)(H:Hp)(E:XK):Cx where
 prog:=P
 w:=w
 K:=K
 mg:=mg
 base:=base
 A:=A.deeper (envOfC qual scope s.heap.objs.size f cd)
 N:=N
 s₀:=s
 H₀:=H
 env:=envOfC qual scope s.heap.objs.size f cd
 outer:=outer
 stack:=envOfC qual scope s.heap.objs.size f cd::outer
 ex:=[]
 calm:=true
 fn:=λ _=>true
 pn:=[]
 xe:=λ e s'=>wpAny (model P w) (A.deeper (envOfC qual scope s.heap.objs.size f cd)) (leaving (envOfC qual scope s.heap.objs.size f cd) e) (λ _ s''=>CX outer H s E e s'') (λ e' s''=>CX outer H s E e' s'') s'
def bj{sc:Jx}(h:sc.names.lookup x=some .cell):∃c,(cellsFrom n sc.names []).lookup x=some c:=by
 exact V7.mp (eF sc.names n [] (.inl h))
def xZ{K:Jw}
  (S:FnScope N ps scope) (hd:A.handled=none) (l:Env0 P w K mg j A outer s H) (hl:vs.length=ps.length) (r:Vals vs I)
  (x:InCallC s s.heap.objs.size (bindL (envOfC d scope s.heap.objs.size f cd).kindOf (ps.zip I) λ _=>none) (cellsFrom (s.heap.objs.size+1) scope.names []) (bindC (envOfC d scope s.heap.objs.size f cd).kindOf (ps.zip I) λ _=>none) s1) :
  Inv (cxOf CX P w K mg j N d scope f cd A outer s H E) [] (start N vs) H s1:=by
 have O:ps.length<=N.length:=by have:=congrArg List.length S.pre;rw[W1]at this;omega
 obtain⟨F,tk,rfl,L⟩:=x.done;have m:∀b:Jn,b∉(cxOf CX P w K mg j N d scope f cd A outer s H E).ex:=λ b z=>absurd (show b∈([]:on Jn)from z) JK
 refine⟨⟨l.mod,S.kind,rfl,rfl,i8 _,λ y z c F g=>?_,λ y n=>?_,λ y c _ h=>?_,λ _=>hd,iC l.frames,.inr ⟨rfl,rfl⟩,λ b z=>absurd z (m b),l.bs,l.bsz,λ b _ _=>m b,λ b z=>absurd z (m b),l.funs,l.frf⟩,
  rfl,l.bare,Un.kept L,⟨_,x.toInCall.ns,λ i y v F g h3=>?_⟩,λ y c h=>⟨_,x.cell y c h⟩,l.hok.fresh (i8 _),λ y c h=>?_,λ p B=>absurd (show p∈([]:on _)from B) JK,l.hok.kept L,?_⟩
 ·exact jj x.apart (A4 F) (A4 g)
 ·have n:=n;rcases n with n | n
  ·exact bj n
  ·exact absurd rfl (S.nofree _ (A4 n))
 ·exact M3 (x.above y c (A4 h))
 ·have C:i<vs.length:=by
   unfold start at g;by_cases C:i<vs.length
   ·exact C
   ·rw[aL (by simpa using C)]at g;rw[cg]at g;split at g<;>cases g
  have Q:vs[i]? = some v:=by
   unfold start at g;rw[Z6 (by simpa using C),q9]at g;cases e:vs[i]? with
   | none=>rw[e]at g;cases g
   | some a=>rw[e]at g;cases g;rfl
  obtain⟨u,J,M⟩:=r.get Q;have B:ps[i]? = some y:=(by rw[←S.pre,aM JC];exact F);have o:ps.Nodup:=by rw[←S.pre];exact S.nd.sublist (iK _ _)
  refine⟨u,M,?_⟩;rcases S.par y (M1 B)with k | k
  ·exact .inl ⟨k,oO o B J k⟩
  ·obtain⟨c,e⟩:=bj k;refine .inr ⟨.inl k,c,e,?_⟩;have q:=x.cell y c e;rw[oP o B J (by show scope.names.lookup y≠_;rw[k];decide)]at q;exact q
 ·exact l.hok.fresh (M3 (x.above y c (A4 h)))
 ·unfold start;show _=N.length;rw[x4,i0,cj];omega
def oQ{K:Jw}{kV W:Jl}
       (lk:K.lookup f=some ⟨oc,od,.func (PySem.W.fnOf i a c body scope dV kV F pm Y d W),O⟩) (U:PySem.W.codeIn K d a=true) (S:FnScope N ps scope)
    (len:∀vs H Q E,I vs H Q E->vs.length=ps.length)
    (m:∀(A:Ju) (outer:on Env) (s:Jm) (H:Hp) (vs:on V) (Q:VK) (E:XK),Room k (A.deeper (envOfC a scope s.heap.objs.size f d))->I vs H Q E ->
      ∃t,PSs (cxOf CX P w K mg g N a scope f d A outer s H E) body t/\t {nx:=λ _ j=>Q .non j,rt:=Q} (start N vs) H) :
    FnOk P w K mg g CX (k+1) f (PySem.W.fnOf i a c body scope dV kV F pm Y d W) ps I:=by
  refine⟨len,λ A outer s H X us vs Q E R C hb r z=>?_⟩;have hl:=len _ _ _ _ z;have Z:=C.mod.kin.keeps λ b o e=>(C.bs b o e).1;have l:∀y∈ps.zip us,scope.names.lookup y.1=some .local\/(scope.names.lookup y.1=some .cell/\((cellsFrom (s.heap.objs.size+1) scope.names []).lookup y.1).isSome=true):=λ ⟨n,v⟩ hy=>by
    rcases S.par n (eV hy).1 with q | q
    · exact .inl q
    · exact .inr ⟨q,eF _ _ _ (.inl q)⟩
  refine nR R.depth (Z _ _ lk) rfl S.co S.gen rfl (PySem.W.codeRec_of Z U) (hb _ _ _ _ ?_)
  refine wpAny_newFunctionEnv_cells S.kind l λ env he s1 x=>?_;subst he;refine⟨(C.mod.nolimit.keeps λ b o e=>(C.bs b o e).1).keeps x.toInCall.keep,codeAny_func ?_⟩;obtain⟨t,ht,hq⟩:=m A outer s H vs Q E (R.deeper _) z;refine A9 (ht [] s1 _ H _ (xZ S R.hd C hl r x) hq) (λ fl L p=>?_) λ e L p=>p;have B:∀{h:St} {j:Hp} {v:V} {u:Jl},Inv (cxOf CX P w K mg g N a scope f d A outer s H E) [] h j L->RelV v u->Q v j->CE outer P w H s Q u L:=
    λ {h j v u} J M q=>⟨v,j,J.os,J.bare,J.base,J.hok,M,q⟩
  cases fl with
  | ret u=>
    obtain⟨v,h,j,J,M,q⟩:=p;exact B J M q
  | next=>
    obtain⟨h,j,J,q⟩:=p;exact B (v:=V.non) J rfl q
  | brk=>
    obtain⟨_,_,_,q⟩:=p;exact False.elim q
  | cont=>
    obtain⟨_,_,_,q⟩:=p;exact False.elim q
end L2
namespace L2
open PySem PySem.Spec PyProof.Rows
section
variable {X:Cx} {x:Str} {p pos:Pos} {e:Jp} {es:on Jp} {t:TA} {id T:JB} {r:on V->Hp->VK->Prop}
noncomputable def tCB(r:on V->Hp->VK->Prop)(t:TA):TE:=λ σ H Q=>t σ H λ vs H1=>r vs H1 Q
def fH(n:C9 X (.builtin id) r)(l:Gl X x)(k:X.mg x=none)(hv:bootBuiltins x=some (.builtin id))(o:PA X (e::es) t)(j:x ≠ "__name__":=by decide)(c:(x==("__debug__" : Str))=false:=by decide)
  (m:starEach (e::es) X.env=(false,eval e X.env)::starEach es X.env:=by rfl) (b:(backTo pos (starEach es X.env)).any (·.1)=false:=by rfl):PE X (.Call (.Name x p) (e::es) [] pos) (tCB r t):=by
 intro a s d H Q I h;refine aQ (am I l k hv ?_ j c);exact PyProof.Rows.callWith_builtin1 (thn (o pos a s d H _ I h) λ g s1 ⟨f,u,q,r1,i⟩=>n a s1 d u f g Q q r1 i) m b
def oR(n:C9 X (.type T) r)(l:Gl X x)(k:X.mg x=none)(hv:bootBuiltins x=some (.type T))(o:PA X (e::es) t)(j:x ≠ "__name__":=by decide)(c:(x==("__debug__" : Str))=false:=by decide)
  (m:starEach (e::es) X.env=(false,eval e X.env)::starEach es X.env:=by rfl) (b:(backTo pos (starEach es X.env)).any (·.1)=false:=by rfl):PE X (.Call (.Name x p) (e::es) [] pos) (tCB r t):=by
 intro a s d H Q I h;refine aQ (am I l k hv ?_ j c);exact eD (thn (o pos a s d H _ I h) λ g s1 ⟨f,u,q,r1,i⟩=>n a s1 d u f g Q q r1 i) m b
end
end L2
namespace HT
open PySem PyProof.Rows
def cat_tup(ht:IsTup s.heap t vs.toArray)(r:IsTup s.heap b ws.toArray)(hv:vs≠[])
  (v:ws=[]->Q (.ref t) s) (u:ws≠[]->Q (.ref s.heap.objs.size) {s with heap:=s.heap.push {cls:=.type "tuple",data:=.seq (vs++ws).toArray}})
  (j:vs.length+ws.length<=sizeLine):wpAny JH A (binaryOp .Add (.ref t) (.ref b)) Q E s:=by
 obtain⟨⟨x,o,p,sl⟩,i,m,n,hd⟩:=id ht;obtain⟨⟨q,g,k,c⟩,a,f,l,d⟩:=id r;simp only at m hd f d;subst m hd f d;have e:vs.toArray++ws.toArray=(vs++ws).toArray:=by simp
 by_cases h:ws=[]
 ·exact concat_meets ⟨_,i,rfl⟩ ⟨_,a,rfl⟩ noFill_tuple_add seq_tuple_add nH nw (nr _ _)
   (tuple_addW1 t b vs.toArray ws.toArray n l o g sl c (by simpa using hv) (by simp[h])) ⟨i,a,v h⟩
 ·refine concat_meets ⟨_,i,rfl⟩ ⟨_,a,rfl⟩ noFill_tuple_add seq_tuple_add nH nw (nr _ _)
   (tuple_addW2 t b vs.toArray ws.toArray n l o g sl c (by simpa using hv) (by simpa using h) (by rw[t7,t7];exact j)) ⟨i,a,?_⟩
  rw[e];exact u h
noncomputable def sIx(n d:Nat):Jk Int->Nat
 | none=>d
 | some v=>if v<0 then(v+(n:Int)).toNat else min v.toNat n
def jD(n d k:Nat):sIx n d (some (k:Int))=min k n:=by
 show(if(k:Int)<0 then((k:Int)+(n:Int)).toNat else min (k:Int).toNat n)=min k n;rw[g9 JC,D3]
def ya(n d:Nat)(hd:d<=n)(o:Jk Int):sIx n d o<=n:=by
 cases o with
 | none=>exact hd
 | some v=>
  show(if v<0 then(v+_).toNat else min v.toNat n)<=n;by_cases hv:v<0
  ·rw[f8 hv];omega
  ·rw[g9 hv];exact Nat.min_le_right _ _
def oU(v:Int)(n d:Nat):(if v<0 then max (v+(n:Int)) 0 else min v (n:Int))=((sIx n d (some v):Nat):Int):=by
 show(if v<0 then max _ 0 else min v _)=(((if v<0 then(v+_).toNat else min v.toNat n):Nat):Int);by_cases hv:v<0
 ·simp only[f8 hv];omega
 ·simp only[g9 hv];omega
def yb(a b:Jk Int)(n:Nat):Builtin.Slice.sliceAdjust a b 1 (n:Int)=(((sIx n 0 a:Nat):Int),((sIx n n b:Nat):Int)):=by
 have c:¬((1:Int)<0):=by omega
 unfold Builtin.Slice.sliceAdjust;simp only[c,if_false];refine Prod.ext ?_ ?_
 ·cases a with
  | none=>rfl
  | some v=>exact oU v n 0
 ·cases b with
  | none=>rfl
  | some v=>exact oU v n n
def yc(i j:Nat):Builtin.Slice.slicePlaces (i:Int) (j:Int) 1=j - i:=by
 unfold Builtin.Slice.slicePlaces;have a:(1:Int)>0:=by omega
 simp only[a,if_true,Int.ediv_one];split<;>omega
def oV(p:IsPart v o)(h:Q o s):wpAny JH A (Builtin.Slice.slicePartIndex v) Q E s:=by
 cases p with
 | none=>exact slicePart_none h
 | int i t=>exact slicePart_int h
def yd{n:Nat}(j:s.heap.IsSliceOf sl f e .none)(i:IsPart f a)(g:IsPart e d)
  (h:Q (((sIx n 0 a:Nat):Int),1,sIx n n d - sIx n 0 a) s):wpAny JH A (Builtin.Slice.sliceApplied (.ref sl) (pure (n:Int))) Q E s:=by
 obtain⟨os,b,k,c⟩:=id j;unfold Builtin.Slice.sliceApplied Builtin.Slice.sliceFields;refine f0 (f0 (G2 b c rfl (f0 (G2 b c rfl (f0 (G2 b c rfl (g7 ?_)))))));refine f0 (slicePart_none ?_);show wpAny _ _ _ _ _ s;rw[g9 JD];refine f0 (oV i (f0 (oV g (f0 (g7 ?_)))));show wpAny _ _ (match Builtin.Slice.sliceAdjust a d 1 (n:Int)with | (a,d)=>pure (a,_,Builtin.Slice.slicePlaces a d 1)) _ _ s;rw[yb a d n];show wpAny _ _ (pure _) _ _ s;rw[yc];exact g7 h
def ye(xs:Jq Jl)(i k:Nat):((JS k).filterMap λ (m:Nat)=>xs[((i:Int)+(m:Int)*1).toNat]?).toArray=((xs.toList.drop i).take k).toArray:=by
 have e:(λ (m:Nat)=>xs[((i:Int)+(m:Int)*1).toNat]?)=λ m=>xs[i+m]?:=by
  funext m
  have:((i:Int)+(m:Int)*1).toNat=i+m:=by omega
  rw[this]
 rw[e];have:=pick_run xs i k;rw[List.filterMap_map]at this;have a:(_ ∘ λ x=>i+x)=λ m=>xs[i+m]?:=rfl
 rw[a]at this;rw[this]
def getItem_tuple_cut(ht:IsTup s.heap t items)(j:s.heap.IsSliceOf sl i g .none)(l:IsPart i a)(k:IsPart g b)
  (hw:¬(sIx items.size 0 a=0/\sIx items.size items.size b=items.size))
  (h:Q (.ref s.heap.objs.size) {s with heap:=s.heap.push {cls:=.type "tuple",data:=.seq ((items.toList.drop (sIx items.size 0 a)).take (sIx items.size items.size b - sIx items.size 0 a)).toArray}})
  (n:items.size<=sizeLine):wpAny JH A (getItem (.ref t) (.ref sl)) Q E s:=by
 have c:=(by show((items.toList.drop (sIx items.size 0 a)).take (sIx items.size items.size b - sIx items.size 0 a)).toArray.size<=sizeLine;rw[t7,W1,eT,G6];omega);have hj:sIx items.size items.size b<=items.size:=ya _ _ (i8 _) b;obtain⟨m,d,f,o⟩:=id j;unfold getItem
 try with_reducible refine F4 ?_
 first | refine f0 (g7 ?_) | skip
 refine f0 (wpAny_sequenceKey ht.typeIs JD ?_);refine f0 (Q6 ht.typeIs mU
  (G7 mU ht.typeIs entry_tuple_getitem ?_ (args_tuple_getitem _ _)))
 show wpAny _ _ (Builtin.Tuple.tupleItemsOf _ >>= _) _ _ s;refine f0 (tupleItemsOf_ ht ?_);refine f0 (fq (⟨m,d,f⟩) ?_);rw[f8 JD];refine f0 (yd j l k ?_);have e:¬((((sIx items.size 0 a:Nat):Int)==0&&(1:Int)==1&&(sIx items.size items.size b - sIx items.size 0 a)==items.size)=true):=by intro q;rw[f9,f9]at q;have q1:=eq_of_beq q.1.1;have q2:=eq_of_beq q.2;exact hw ⟨by omega,by omega⟩
 show wpAny _ _ (if(((sIx items.size 0 a:Nat):Int)==0&&(1:Int)==1&&(sIx items.size items.size b - sIx items.size 0 a)==items.size)=true then _ else _) _ _ s;rw[g9 e,ye]
 first
  | exact f0 (E3 (g7 ⟨_,rfl,g7 h⟩) c)
  | exact f0 _
  | exact f0 _
  | exact f0 _
end HT
namespace L2
open PySem PySem.Spec PyProof.Rows
abbrev TO:=St->Hp->(Jk Int->Hp->Prop)->Prop
def PO(X:Cx)(e:Jk Jp)(t:TO):Prop:=
 ∀(pins:on (Jn×Obj)) (s:Jm) (σ:St) (H:Hp) (Q:Jk Int->Hp->Prop),Inv X pins σ H s->t σ H Q ->
  wpAny JG X.A (evalPart e X.env) (λ u s'=>∃o H',Inv X pins σ H' s'/\IsPart u o/\Q o H') X.xe s
def yf:TO:=λ _ H Q=>Q none H
noncomputable def yg(t:TE):TO:=λ σ H Q=>t σ H λ x H1=>∃i,x=.int i/\Q (some i) H1
section
variable {X:Cx} {e:Jp} {te:TE} {lo hi:Jk Jp} {tl th:TO} {pos p2:Pos}
def oW:PO X none yf:=by
 intro a s σ H Q I h;rw[je];exact g7 ⟨none,H,I,.none,h⟩
def oX(h:PE X e te):PO X (some e) (yg te):=by
 intro a s b H Q I d;rw[evalPart_some];refine thn (h a s b H _ I d) λ u s1 t0=>?_;obtain⟨x,g,f,r1,c⟩:=t0
 obtain⟨i,rfl,q⟩:=c;obtain⟨t,rfl⟩:=r1;exact⟨some i,g,f,.int i t,q⟩
def SlR(X:Cx)(r:V->Jk Int->Jk Int->Hp->VK->Prop):Prop:=
 ∀(pins:on (Jn×Obj)) (s:Jm) (σ:St) (H:Hp) (x:V) (v vl vu:Jl) (lo hi:Jk Int) (sl:Jn) (Q:VK),Inv X pins σ H s->RelV x v->s.heap.IsSliceOf sl vl vu .none->IsPart vl lo->IsPart vu hi->r x lo hi H Q ->
  ∃T id,typeLookup (.type T) "__getitem__" = pure (some (.builtin id))/\s.TypeIs v T/\wpAny JG X.A (getItem v (.ref sl)) (EP X pins σ Q) X.xe s
def SlR.or(h:SlR X r)(h':SlR X i):SlR X (λ x b c H Q=>r x b c H Q\/i x b c H Q):=by
 intro a s d H x v f e b c sl Q I g l k j q;rcases q with q | q
 ·exact h a s d H x v f e b c sl Q I g l k j q
 ·exact h' a s d H x v f e b c sl Q I g l k j q
noncomputable def tSl(r:V->Jk Int->Jk Int->Hp->VK->Prop)(te:TE)(tl th:TO):TE:=λ σ H Q=>te σ H λ x H1=>tl σ H1 λ l H2=>th σ H2 λ u H3=>r x l u H3 Q
def jE(w:SlR X r)(A:PE X e te)(y:PO X lo tl)(p:PO X hi th):PE X (.Subscript e (.Slice lo hi none p2) pos) (tSl r te tl th):=by
 intro a s d H Q I h;refine Subscript_ (thn (A a s d H _ I h) λ v s1 t0=>?_);obtain⟨x,L,F,r1,m⟩:=t0;refine wpAny_Slice (thn (y a s1 d L _ F m) λ g i ⟨l,K,E,o,k⟩=>thn (p a i d K _ E k) λ f c t0=>?_);obtain⟨u,J,C,n,j⟩:=t0;rw[je];refine g7 ?_;obtain⟨T,id,B,ht,z⟩:=w a {c with heap:=c.heap.push {cls:=.type "slice",data:=.fields #[g,f,.none]}} d J x v g f l u c.heap.objs.size Q (C.kept λ b ob q=>k9 _ q) r1 (Heap.IsSliceOf.new ..) o n j;show wpAny _ X.A _ _ X.xe {c with heap:=c.heap.push {cls:=.type "slice",data:=.fields #[g,f,.none]}};exact tail_any ht B z (by with_unfolding_all rfl)
def cutV(xs:on V)(lo hi:Jk Int):on V:=(xs.drop (HT.sIx xs.length 0 lo)).take (HT.sIx xs.length xs.length hi - HT.sIx xs.length 0 lo)
def oY(xs:on V)(a b:Jk Int):(cutV xs a b).length<=xs.length:=by
 unfold cutV;rw[W1,eT];omega
def rSlT(K:Jw):V->Jk Int->Jk Int->Hp->VK->Prop:=λ x lo hi H Q=>∃a xs,x=.ref a/\SqT K H a xs /\
 ¬(HT.sIx xs.length 0 lo=0/\HT.sIx xs.length xs.length hi=xs.length)/\∀p,H p=none->Q (.ref p) (upd H p (.tup (cutV xs lo hi)))
def oZ:SlR X (rSlT X.K):=by
 intro f s σ H x v vl vu l p sl Q I i o k j h;obtain⟨a,e,rfl,m,n,q⟩:=h;cases i;obtain⟨d,r,ht,g⟩:=I.tuple m;have c:d.toArray.size=e.length:=by rw[t7];exact r.length.symm
 refine⟨"tuple",_,PyProof.Rows.slot_tuple_getitem.lookup,ht.typeIs,?_⟩;refine HT.getItem_tuple_cut ht o k j (by rw[c];exact n) ?_ (by rw[c];exact g);rw[c];refine⟨.ref s.heap.objs.size,_,I.laid (λ b ob q=>k9 _ q) (i8 _) ?_,rfl,q _ (I.hok.fresh (i8 _))⟩;exact⟨k6 (oY e l p) g,_,(r.drop _).take _,S0.new _ _⟩
def pf(K:Jw):R2:=λ x y H Q=>∃a b xs ys,x=.ref a/\y=.ref b/\SqT K H a xs/\SqT K H b ys/\xs≠[]/\xs.length+ys.length<=sizeLine /\
 (ys=[]->Q (.ref a) H)/\(ys≠[]->∀p,H p=none->Q (.ref p) (upd H p (.tup (xs++ys))))
def Vals.nil_iff(r:Vals xs a):a=[]↔xs=[]:=by
 cases r with
 | nil=>simp
 | cons _ _=>simp
def yh:OpR X (binaryOp .Add) (pf X.K):=by
 intro d s σ H x y v u Q I i g h;obtain⟨a,b,xs,ys,rfl,rfl,r,p,o,f,k,j⟩:=h;cases i;cases g;obtain⟨n,r1,m,_⟩:=I.tuple r;obtain⟨e,c,l,_⟩:=I.tuple p;refine HT.cat_tup m l (λ z=>o (r1.nil_iff.mp z)) (λ z=>⟨.ref a,H,I,rfl,k (c.nil_iff.mp z)⟩) (λ z=>?_) (by rw[←r1.length,←c.length];exact f);refine⟨.ref s.heap.objs.size,_,I.laid (λ b ob q=>k9 _ q) (i8 _) ?_,rfl,j (λ w=>z (c.nil_iff.mpr w)) _ (I.hok.fresh (i8 _))⟩;exact⟨by rw[x4];exact f,_,r1.append c,S0.new _ _⟩
end
end L2
namespace L2
open PySem PySem.Spec PyProof.Rows
noncomputable def ixN(n:Nat)(i:Int):Jk Nat:=if 0<=i then(if i<n then some i.toNat else none)else if -(n:Int)<=i then some (i+n).toNat else none
def atI{α:Type}(xs:on α)(i:Int):Jk α:=(ixN xs.length i).bind λ j=>xs[j]?
def ph(h:ixN n i=some j):seqIndex? i n=some j/\j<n /\ -(n:Int)<=i/\i<n:=by
 unfold ixN at h;by_cases b:0<=i
 ·rw[f8 b]at h;by_cases a:i<n
  ·rw[f8 a]at h;have e:=B8 h;exact⟨by rw[seqIndex_of b a,e],by omega,by omega,a⟩
  ·rw[g9 a]at h;cases h
 ·rw[g9 b]at h;by_cases a : -(n:Int)<=i
  ·rw[f8 a]at h;have e:=B8 h;exact⟨by rw[jk JC a,e],by omega,a,by omega⟩
  ·rw[g9 a]at h;cases h
def jF(h:atI xs i=some v):∃j,seqIndex? i xs.length=some j/\xs[j]? = some v/\j<xs.length /\ -(xs.length:Int)<=i/\i<xs.length:=by
 unfold atI at h;cases e:ixN xs.length i with
 | none=>rw[e]at h;cases h
 | some j=>
  rw[e]at h;obtain⟨f,d,c,b⟩:=ph e;exact⟨j,f,h,d,c,b⟩
def yi(b:Jp):Prop:=∀o i,subscripted b false o i=operate [o,i] (getItem o i)
def IxR(X:Cx)(r:R2):Prop:=
 ∀(value slice:Jp) (pins:on (Jn×Obj)) (s:Jm) (σ:St) (H:Hp) (x y:V) (v u:Jl) (Q:VK),Inv X pins σ H s->RelV x v->RelV y u->r x y H Q ->
  subscripted slice false v u=operate [v,u] (getItem v u)->wpAny JG X.A (subscriptTail value slice v u) (EP X pins σ Q) X.xe s
def MtR(X:Cx)(id:JB)(r:V->on V->Hp->VK->Prop):Prop:=
 ∀(pins:on (Jn×Obj)) (s:Jm) (σ:St) (H:Hp) (x:V) (xs:on V) (v:Jl) (us:on Jl) (Q:VK),Inv X pins σ H s->RelV x v->Vals xs us->r x xs H Q ->
  wpAny JG X.A (call (.builtin id) (v::us)) (EP X pins σ Q) X.xe s
section
variable {X:Cx} {a b:Jp} {ta tb:TE} {pos:Pos}
def IxR.or(h:IxR X r)(h':IxR X g):IxR X (λ x y H Q=>r x y H Q\/g x y H Q):=by
 intro a b c s d H x y v u Q I f e q i;rcases q with q | q
 ·exact h a b c s d H x y v u Q I f e q i
 ·exact h' a b c s d H x y v u Q I f e q i
def yj(j:IxR X r)(l:PE X a ta)(k:PE X b tb)(i:yi b):PE X (.Subscript a b pos) (tOp r ta tb):=by
 intro c s d H Q I h;exact Subscript_ (binT l k I h λ v u e x y n m g f q=>j a b c e d n x y v u Q m g f q (i _ _))
def rIxL(K:Jw):R2:=λ x y H Q=>∃p xs i v,x=.ref p/\y=.int i/\SqL K H p xs/\atI xs i=some v/\Q v H
def rIxT(K:Jw):R2:=λ x y H Q=>∃p xs i v,x=.ref p/\y=.int i/\SqT K H p xs/\atI xs i=some v/\Q v H
def rIxS:R2:=λ x y H Q=>∃z i c,x=.str z/\y=.int i/\z.length<=sizeLine/\atI z.cps.toList i=some c/\Q (.str ⟨#[c]⟩) H
def yk:IxR X (rIxL X.K):=by
 intro d e a s A H x y v u Q I C B h m;obtain⟨p,xs,i,z,rfl,rfl,E,J,q⟩:=h;cases C;obtain⟨t,rfl⟩:=B;obtain⟨k,r,g,hz⟩:=I.list E;obtain⟨j,c,M,h3,L,K⟩:=jF J;obtain⟨w,o,f⟩:=r.get M;have F:=r.length;have hn:=ao;have b:EP X a A Q w s:=⟨z,H,I,f,q⟩;by_cases n:0<=i
 ·have l:i.toNat=j:=by
   rw[seqIndex_of n K]at c;exact B8 c
  exact item_listR g.isList n JC (by rw[l];simpa using o) b m
 ·have l:(i+(k.toArray.size:Int)).toNat=j:=by
   rw[jk JC L]at c;rw[t7,←F];exact B8 c
  exact nK g.isList.typeIs iL.lookup
   (wpAny_getItem_list_neg g.isList JC (by rw[t7]<;>omega) JC (by rw[l];simpa using o) ⟨rfl,b⟩) m
def yl:IxR X (rIxT X.K):=by
 intro a b e s σ H x y v u Q I g f h l;obtain⟨p,xs,i,z,rfl,rfl,m,n,q⟩:=h;cases g;obtain⟨t,rfl⟩:=f;obtain⟨k,r,d,hz⟩:=I.tuple m;obtain⟨j,A,o,h3,h4,h5⟩:=jF n;obtain⟨w,B,c⟩:=r.get o;have hn:=ao;exact nK d.typeIs slot_tuple_getitem.lookup
  (getItem_tuple d JC JC (by rw[t7,←r.length];exact A) (by simpa using B) ⟨rfl,(⟨z,H,I,c,q⟩)⟩) l
def ym:IxR X rIxS:=by
 intro a b d s σ H x y v u Q I g f h k;obtain⟨z,i,c,rfl,rfl,hz,m,q⟩:=h;obtain⟨t,rfl⟩:=g;obtain⟨t',rfl⟩:=f;obtain⟨j,e,p,h3,o,n⟩:=jF m;have l:z.cps.toList.length=z.length:=by simp[Str.length]
 rw[l]at e o n;have hn:=ao;exact tail_any (typeIs_str s z t) slot_str_getitem.lookup (getItem_str (by
  rw[(B4 JC),(B4 JC),cI]) (by rw[e];simpa using p) ⟨.str ⟨#[c]⟩,H,I.tok _,⟨_,rfl⟩,q⟩) k
def rIx(K:Jw):R2:=λ x y H Q=>rIxL K x y H Q\/rIxT K x y H Q\/rIxS x y H Q
def yn:IxR X (rIx X.K):=yk.or (yl.or ym)
def yp(a:on Jl)(n j:Nat)(u:Jl):Obj.mapSeq (·.setIfInBounds j u) {cls:=.type "list",data:=.seq a.toArray n} = {cls:=.type "list",data:=.seq (a.set j u).toArray n}:=by
 simp[Obj.mapSeq]
theorem Inv.lst{b:on (Jn×Obj)}(I:JI b)(h:H p=some (.lst xs)) :
  ∃(a:on Jl) (n:Nat),Vals xs a/\s.heap.get? p=some {cls:=.type "list",data:=.seq a.toArray n} /\ xs.length<=sizeLine:=by
 obtain⟨z,a,n,r,e⟩:=I.hok p _ h;exact⟨a,n,r,e,z⟩
def Inv.lstUpd{d a:on Jl}(I:JI c)(h:H p=some (.lst xs))
  (l:s.heap.get? p=some {cls:=.type "list",data:=.seq d.toArray n}) (j:f {cls:=.type "list",data:=.seq d.toArray n} = {cls:=.type "list",data:=.seq a.toArray i}) (r:Vals g a) (k:g.length<=sizeLine) (t:Nat) :
  Inv X c σ (upd H p (.lst g)) {s with heap:=s.heap.update p f,toks:=t}:=by
 have e:(s.heap.update p f).get? p=some {cls:=.type "list",data:=.seq a.toArray i}:=(by rw[Z9 f l (by rw[j]<;>rfl),j]);refine I.write (by rw[h];trivial) (.inl rfl) (λ b u m q=>(eG _ _ (Ne.symm m)).trans q) ⟨_,e⟩ ?_;exact⟨k,a,i,r,e⟩
def yq:V->V->V->Hp->(Hp->Prop)->Prop:=λ o i v H Q=>∃p xs k j,o=.ref p/\i=.int k/\H p=some (.lst xs)/\ixN xs.length k=some j/\Q (upd H p (.lst (xs.set j v)))
def pi:PSet X yq:=by
 intro f s σ H o i v ov iv u Q I z A y h;obtain⟨p,xs,k,j,rfl,rfl,g,C,q⟩:=h;cases z;obtain⟨t,rfl⟩:=A;obtain⟨a,n,r,c,B⟩:=I.lst g;obtain⟨b,h2,m,l⟩:=ph C;have d:=r.length;have hn:=ao;have x:=
  I.lstUpd g c (yp a n j u) (r.set y j) (by rw[D4];exact B) s.toks
 by_cases w:0<=k
 ·have e:k.toNat=j:=by
   rw[seqIndex_of w l]at b;exact B8 b
  exact PySem.W.ki_setAt c w JC (by rw[t7,←d];exact l) (by rw[e];exact⟨_,x,q⟩)
 ·have e:(k+(a.toArray.size:Int)).toNat=j:=by
   rw[jk JC m]at b;rw[t7,←d];exact B8 b
  exact PySem.W.ki_setBack c JC (by rw[t7,←d];exact m) JC (by rw[e];exact⟨_,x,q⟩)
def yt(a b:Jk Int)(n:Nat):(sliceBounds a b none n).1=((HT.sIx n 0 a:Nat):Int)/\(sliceBounds a b none n).2.1=((HT.sIx n n b:Nat):Int)/\(sliceBounds a b none n).2.2=1:=by
 refine⟨?_,?_,rfl⟩
 ·cases a with
  | none=>simp[sliceBounds,HT.sIx]
  | some i=>
   simp only[sliceBounds,HT.sIx,Option.getD_none,show(1:Int)>0 by decide,if_true];by_cases h:i<0
   ·simp only[h,if_true]<;>omega
   ·simp only[h,if_false]<;>omega
 ·cases b with
  | none=>simp[sliceBounds,HT.sIx]
  | some i=>
   simp only[sliceBounds,HT.sIx,Option.getD_none,show(1:Int)>0 by decide,if_true];by_cases h:i<0
   ·simp only[h,if_true]<;>omega
   ·simp only[h,if_false]<;>omega
def yu(a:on Jl)(b c:Jk Int):slicePick a.toArray b c none=((a.drop (HT.sIx a.length 0 b)).take (HT.sIx a.length a.length c - HT.sIx a.length 0 b)).toArray:=by
 obtain⟨f,e,d⟩:=yt b c a.toArray.size;unfold slicePick;rw[f,e,d];simp only[sliceRange_one,pick_run,t7]<;>rfl
def rSlL(K:Jw):V->Jk Int->Jk Int->Hp->VK->Prop:=λ x lo hi H Q=>∃a xs,x=.ref a/\SqL K H a xs/\∀p,H p=none->Q (.ref p) (upd H p (.lst (cutV xs lo hi)))
def yv:SlR X (rSlL X.K):=by
 intro d s σ H x v vl vu j o sl Q I f n i g h;obtain⟨a,e,rfl,m,q⟩:=h;cases f;obtain⟨k,r,ht,l⟩:=I.list m;have c:=r.length;refine⟨"list",_,iL.lookup,ht.isList.typeIs,?_⟩;refine nu ht.isList n i g .none JK ?_ (by rw[t7]<;>omega);rw[yu,←c];refine⟨.ref s.heap.objs.size,_,I.laid (λ b ob q=>k9 _ q) (i8 _) ?_,rfl,q _ (I.hok.fresh (i8 _))⟩;exact⟨k6 (oY e j o) l,_,0,(r.drop _).take _,q5 _ rfl⟩
def jG:C9 X (.builtin "len") (λ g H Q=>∃p b,g=[.ref p]/\(SqL X.K H p b\/SqT X.K H p b)/\Q (JP b.length) H):=by
 intro i s σ H g us Q I r h;obtain⟨p,b,rfl,c,q⟩:=h;obtain⟨u,rfl,j⟩:=S4 r;cases j;have hn:=ao;rcases c with c | c
 ·obtain⟨f,d,e,k⟩:=I.list c;have a:=d.length;exact Calls.call_len_list e.isList (by simp only[t7]<;>omega) ⟨.int b.length,H,I.tok _,⟨s.toks+1,by rw[t7,a]⟩,q⟩
 ·obtain⟨f,d,e,k⟩:=I.tuple c;have a:=d.length;exact len_tuple e (by simp only[t7]<;>omega) ⟨.int b.length,H,I.tok _,⟨s.toks+1,by rw[t7,a]⟩,q⟩
def jH:C9 X (.type "list") (λ z H Q=>∃p c,z=[.ref p]/\(SqL X.K H p c\/SqT X.K H p c)/\∀l,H l=none->Q (.ref l) (upd H l (.lst c))):=by
 intro g s A H z us Q I r h;obtain⟨p,c,rfl,k,q⟩:=h;obtain⟨u,rfl,B⟩:=S4 r;cases B;have v:∀(a:on Jl),Vals c a->c.length<=sizeLine->∀(b:Jo) (f:Nat),_ ->
   b.get? s.heap.objs.size=some {cls:=.type "list",dict:=none,data:=.seq a.toArray f,slots:=#[]} -> EP X g A Q _ {s with heap:=b}:=λ a d j b f i e=>
  ⟨.ref s.heap.objs.size,_,I.laid i (i8 _) (show u9 X.prog X.w _ b _ (.lst c)from⟨j,a,f,d,e⟩),rfl,q _ (I.hok.fresh (i8 _))⟩
 rcases k with k | k
 ·obtain⟨a,d,w,j⟩:=I.list k;have m:=d.length;obtain⟨o,x,y,n,hd⟩:=w.isList;exact call_list_seq p (.inl rfl) x y hd (λ b f i e=>v a d j b f i e) (by simp only[t7]<;>omega)
 ·obtain⟨a,d,w,j⟩:=I.tuple k;have m:=d.length;obtain⟨o,x,y,n,hd⟩:=w;exact call_list_seq p (.inr rfl) x y hd (λ b f i e=>v a d j b f i e) (by simp only[t7]<;>omega)
def pj:C9 X (.type "tuple") (λ i H Q=>∃p a,i=[.ref p]/\((SqL X.K H p a/\∀l,H l=none->Q (.ref l) (upd H l (.tup a)))\/(SqT X.K H p a/\Q (.ref p) H))):=by
 intro j s σ H i us Q I r h;obtain⟨p,a,rfl,h⟩:=h;obtain⟨u,rfl,v⟩:=S4 r;cases v;rcases h with⟨g,q⟩ | ⟨g,q⟩
 ·obtain⟨c,d,f,k⟩:=I.list g;have m:=d.length;refine call_tuple_list f.isList (λ x w=>?_) (by simp only[t7]<;>omega);have n:=I.kept (t':=s.toks) w;have y:=
   n.laid (t':=s.toks) (λ b o e=>k9 _ e) (i8 _) (show u9 X.prog X.w _ _ _ (.tup a)from⟨k,c,d,S0.new _ _⟩)
  exact⟨.ref x.objs.size,_,y,rfl,q _ (n.hok.fresh (i8 _))⟩
 ·obtain⟨c,d,f,k⟩:=I.tuple g;exact call_tuple_same f ⟨.ref p,H,I,rfl,q⟩
def tyV(K:Jw)(T:JB)(x:V)(H:Hp):Prop:=match x with
 | .str _=>T = "str"
 | .int _=>T = "int"
 | .ref p=>(T = "list" /\ ∃xs,SqL K H p xs)\/(T = "tuple" /\ ∃o,K.lookup p=some o/\o.cls=.type "tuple" /\ o.dict=none) \/
   (T = "dict" /\ ((∃kvs,H p=some (.dK kvs))\/∃kvs,H p=some (.dT kvs)))\/(T = "set" /\ ∃S n,H p=some (.set S n))
 | _=>False
def pk(I:JI d)(r:RelV x v)(ty:tyV X.K T x H) :
  s.TypeIs v T/\∀a,v=.ref a->∃j,s.heap.get? a=some j/\j.dict=none:=by
 cases x with
 | str z=>
  obtain⟨t,rfl⟩:=r;cases(ty);exact⟨typeIs_str s z t,λ _ e=>nomatch e⟩
 | int i=>
  obtain⟨t,rfl⟩:=r;cases(ty);exact⟨typeIs_int s i t,λ _ e=>nomatch e⟩
 | ref p=>
  cases r;rcases ty with⟨rfl,xs,l⟩ | ⟨rfl,o,b,hc,hd⟩ | ⟨rfl,b⟩ | ⟨rfl,S,n,b⟩
  ·obtain⟨k,_,h,_⟩:=I.list l;refine⟨h.isList.typeIs,λ a e=>?_⟩;cases e;obtain⟨o,n,e,c,hd,_⟩:=h;exact⟨o,e,hd⟩
  ·refine⟨⟨o,I.kIn p o b,hc⟩,λ a e=>?_⟩;cases e;exact⟨o,I.kIn _ o b,hd⟩
  ·have z:∃o,s.heap.get? p=some o/\o.ExactDict:=by
    rcases b with⟨f,b⟩ | ⟨f,b⟩
    ·obtain⟨_,_,_,_,o,_,_,e,ex,_⟩:=I.hok p _ b;exact⟨o,e,ex⟩
    ·obtain⟨_,_,_,_,o,_,_,e,ex,_⟩:=I.hok p _ b;exact⟨o,e,ex⟩
   obtain⟨o,e,ex⟩:=z;refine⟨⟨o,e,ex.1⟩,λ a g=>?_⟩;cases g;exact⟨o,e,ex.2.1⟩
  ·obtain⟨o,_,_,_,e,ex,_⟩:=I.hok p _ b;refine⟨⟨o,e,ex.1⟩,λ a g=>?_⟩;cases g;exact⟨o,e,ex.2.1⟩
 | _=>exact False.elim ty
noncomputable def tBM0(K:Jw)(T:JB)(r:V->on V->Hp->VK->Prop)(to:TE):TE:=λ σ H Q=>to σ H λ x H1=>tyV K T x H1/\r x [] H1 Q
noncomputable def tBM(K:Jw)(T:JB)(r:V->on V->Hp->VK->Prop)(to:TE)(t:TA):TE:=λ σ H Q=>to σ H λ x H1=>tyV K T x H1/\t σ H1 λ xs H2=>r x xs H2 Q
def pq{a:Str}(n:PlainAttrs T)(slot:Slot T a g)(i:typeOf (.builtin g)=pure (.type "method_descriptor"))(q:MtR X g r)(p:PE X o k)
  (f:attributeBase o a X.env (eval o X.env)=eval o X.env:=by rfl) (e:(d.endLine==c.line)=true:=by rfl):PE X (.Call (.Attribute o a d) [] [] c) (tBM0 X.K T r k):=by
 intro b s j H Q I h;refine ny f e (thn (p b s j H _ I h) λ v s1 t0=>?_);obtain⟨x,y,l,r1,ty,m⟩:=t0;obtain⟨w,u⟩:=pk l r1 ty;exact⟨T,g,n,slot,i,w,u,iw rfl (PySem.evalArgs_none (q b s1 j y x [] v [] Q l r1 .nil m))⟩
def pu{a:Pos}(F:PlainAttrs T)(slot:Slot T d m)(p:typeOf (.builtin m)=pure (.type "method_descriptor"))(L:MtR X m r)(K:PE X o q)(M:PA X (e::es) t)
  (j:attributeBase o d X.env (eval o X.env)=eval o X.env:=by rfl)
  (l:((backTo a (starEach (e::es) X.env)).all (λ x=>!x.1)&&(backToKw a (keywordEach [] X.env)).all (λ x=>x.1.isSome)
   && decide ((e::es).length+([]:on Keyword).length+(if([]:on Keyword).isEmpty then 0 else 1)<30))=true:=by rfl)
  (i:(g.endLine==a.line)=true:=by rfl) (J:starEach (e::es) X.env=(false,eval e X.env)::starEach es X.env:=by rfl) (f:(backTo a (starEach es X.env)).any (·.1)=false:=by rfl) :
  PE X (.Call (.Attribute o d g) (e::es) [] a) (tBM X.K T r q t):=by
 intro c s n H Q I h;refine wpAny_Call_method_late j l i rfl (thn (K c s n H _ I h) λ v s1 t0=>?_);obtain⟨x,S,w,r1,ty,E⟩:=t0;obtain⟨O,N⟩:=pk w r1 ty;refine⟨T,m,F,slot,p,O,N,?_⟩;have u:=M a c s1 n S _ w E;rw[J]at u ⊢;refine iw (by show(false||(backTo a _).any (·.1))=false;rw[f]<;>rfl) (Calls.evalArgs_plain ?_);exact thn u λ z A ⟨y,R,P,B,C⟩=>L c A n R x y v z Q P r1 B C
end
end L2
namespace L2
open PySem PySem.Spec PyProof.Rows
def MtM(X:Cx)(id:JB)(r:V->on V->Hp->VK->Prop):Prop:=
 ∀(pins:on (Jn×Obj)) (s:Jm) (σ:St) (H:Hp) (x:V) (xs:on V) (v:Jl) (us:on Jl) (Q:VK),Inv X pins σ H s->RelV x v->Vals xs us->r x xs H Q ->
  wpAny JG X.A (call (.builtin id) (v::us)) (EP X pins σ Q) X.xe s
def Vals.unc(h:Vals (x::xs) b):∃u a,b=u::a/\RelV x u/\Vals xs a:=by
 cases h with
 | cons r t=>exact⟨_,_,rfl,r,t⟩
def Vals.nl(h:Vals [] a):a=[]:=by cases h;rfl
def Vals.zero(h:Vals [] a):a=[]:=by cases h;rfl
def Vals.one{x:V}{us:on Jl}(h:Vals [x] us):∃u,us=[u]/\RelV x u:=by
 obtain⟨u,ws,rfl,r,t⟩:=h.unc;cases t.nl;exact⟨_,rfl,r⟩
def Vals.two{x y:V}{us:on Jl}(h:Vals [x,y] us):∃u v,us=[u,v]/\RelV x u/\RelV y v:=by
 obtain⟨u,ws,rfl,r,t⟩:=h.unc;obtain⟨v,rfl,q⟩:=t.one;exact⟨_,_,rfl,r,q⟩
theorem Vals.rep(h:Vals xs a):∀k:Nat,Vals (List.replicate k xs).flatten (List.replicate k a).flatten
 | 0=>.nil
 | k+1=>by rw[V9,V9,U0,U0];exact Vals.append h (Vals.rep h k)
theorem pv(a:on Jl):∀(k:Nat) (acc:on Jl),
  List.foldl (λ c b=>c++b) acc.toArray (List.replicate k a.toArray)=(acc++(List.replicate k a).flatten).toArray
 | 0,acc=>by simp
 | k+1,acc=>by
  have e:acc.toArray++a.toArray=(acc++a).toArray:=by simp
  have d:_++(List.replicate k a).flatten=acc++(List.replicate (k+1) a).flatten:=(by rw[V9,U0,N7]);rw[←d,←pv a k _,←e,V9,iU]
def Inv.lset{c:on Jl}(I:JI b)(k:H l=some (.lst xs))
  (e:s.heap.get? l=some {cls:=.type "list",data:=.seq c.toArray n}) (i:f c.toArray=a.toArray) (hv:Vals d a) (g:d.length<=sizeLine) :
  Inv X b σ (upd H l (.lst d)) {s with heap:=s.heap.update l (Obj.mapSeq f),toks:=t'}:=by
 have q:=PySem.IsL.update e f;rw[i]at q;refine I.write (by rw[k];exact trivial) (.inl rfl) (λ b' u j h=>(eG s.heap _ (Ne.symm j)).trans h) ⟨_,q⟩ ?_;exact⟨g,a,_,hv,q⟩
def Inv.lnew(I:JI a)(hv:Vals c b)(d:c.length<=sizeLine) :
  Inv X a σ (upd H s.heap.objs.size (.lst c)) {s with heap:=s.heap.push {cls:=.type "list",data:=.seq b.toArray},toks:=t'}:=
 I.laid (λ _ _ q=>k9 _ q) (i8 _) ⟨d,b,0,hv,q5 _ rfl⟩
theorem Inv.fresh(I:JI a):H s.heap.objs.size=none:=I.hok.fresh (i8 _)
def Inv.lstM(I:JI b)(c:H l=some (.lst xs)):xs.length<=sizeLine/\∃(a:on Jl) (n:Nat),Vals xs a/\xs.length=a.length/\s.heap.get? l=some {cls:=.type "list",data:=.seq a.toArray n}:=by
 obtain⟨z,a,n,r,e⟩:=I.hok l _ c;exact⟨z,a,n,r,r.length,e⟩
def pz(h:n<=sizeLine):Builtin.List.listTooLong n=false:=by
 unfold Builtin.List.listTooLong;exact B4 JC
def yw:V->on V->Hp->VK->Prop:=λ x vs H Q=>∃l xs y,x=.ref l/\vs=[y]/\H l=some (.lst xs)/\xs.length<sizeLine/\Q .non (upd H l (.lst (xs++[y])))
def yx:MtM X "list.append" yw:=by
 intro b s σ H x vs v us Q I d f h;obtain⟨l,xs,y,rfl,rfl,c,hz,q⟩:=h;cases d;obtain⟨u,rfl,g⟩:=f.one;obtain⟨z,a,n,r,hl,e⟩:=I.lstM c;refine fA F.slot_list_append ⟨_,e,rfl⟩ F.entry_list_append (F.args_list_append_2 _ _) (PySem.list_append l a.toArray n u (by rw[t7];omega)) ⟨e,?_⟩;refine⟨.non,_,I.lset c e JK (r.append (.cons g .nil)) ?_,rfl,q⟩;rw[x4,iA];omega
def yy:V->on V->Hp->VK->Prop:=λ x vs H Q=>∃l xs,x=.ref l/\vs=[]/\H l=some (.lst xs)/\Q .non (upd H l (.lst []))
def yz:MtM X "list.clear" yy:=by
 intro c s σ H x vs v us Q I f g h;obtain⟨l,xs,rfl,rfl,d,q⟩:=h;cases f;have b:=Vals.zero g;subst b;obtain⟨z,a,n,r,hl,e⟩:=I.lstM d;refine fA F.slot_list_clear ⟨_,e,rfl⟩ F.entry_list_clear (F.args_list_clear_1 _) (AutoSeq1.list_clear_list_0 l a.toArray n (by rw[t7];omega)) ⟨e,?_⟩;exact⟨.non,_,I.lset d e rfl .nil (E5 _),rfl,q⟩
def rCat:R2:=λ x y H Q=>∃l b xs zs,x=.ref l/\y=.ref b/\H l=some (.lst xs)/\H b=some (.lst zs)/\xs.length+zs.length<=sizeLine/\∀p,H p=none->Q (.ref p) (upd H p (.lst (xs++zs)))
def yA:OpR X (binaryOp .Add) rCat:=by
 intro d s σ H x y v u Q I g f h;obtain⟨l,b,xs,zs,rfl,rfl,k,m,hz,q⟩:=h;cases g;cases f;obtain⟨z,c,n,r,hl,e⟩:=I.lstM k;obtain⟨z2,a,n2,i,j,p⟩:=I.lstM m;refine PySem.P.add_list e p ?_ (by rw[t7,t7];omega);have o:c.toArray++a.toArray=(c++a).toArray:=by simp
 rw[o];exact⟨.ref _,_,I.lnew (r.append i) (by rw[x4];omega),rfl,q _ I.fresh⟩
def rRep:R2:=λ x y H Q=>∃l k xs,x=.ref l/\y=.int k/\H l=some (.lst xs) /\ -(2^63)<=k/\k<2^63/\xs.length*k.toNat<=sizeLine /\
 ∀p,H p=none->Q (.ref p) (upd H p (.lst (List.replicate k.toNat xs).flatten))
def yC(xs:on a)(k:Nat):(List.replicate k xs).flatten.length=k*xs.length:=by
 induction k with
 | zero=>simp
 | succ k b=>rw[V9,U0,x4,b,ft,jl]
def yD:OpR X (binaryOp .Mult) rRep:=by
 intro g s σ H x y v u Q I A w h;obtain⟨l,k,xs,rfl,rfl,C,J,E,i,q⟩:=h;cases A;obtain⟨t,rfl⟩:=w;obtain⟨z,b,n,r,B,e⟩:=I.lstM C;have d:b.toArray.size*k.toNat<=sizeLine:=by rw[t7,←B];exact i
 have f:¬b.toArray.size*k.toNat>(2^63 - 1)/8:=by
  have:(sizeLine:Nat)<=(2^63 - 1)/8:=by decide
  omega
 have c:List.foldl (λ o j=>o++j) #[] (List.replicate (if b.toArray.isEmpty=true then 0 else k.toNat) b.toArray)=(List.replicate k.toNat b).flatten.toArray:=by
  have K:=λ m=>by have:=pv b m [];rw[iV]at this;exact this
  rw[K];cases b with
  | nil=>simp
  | cons a r'=>rw[g9 JK]
 refine wpAny_binaryOp_repeat_ref JD ⟨_,e,rfl⟩ (λ p=>typeIs_int p k t) noFill_list_mul F.fills_int_mul F.slot_int_rmul repeat_list F.slot_int_index.lookup
  (fA F.slot_int_rmul (typeIs_int s k t) F.entry_int_rmul (F.args_int_rmul_2 _ _) (int___rmul___int_list k t l b.toArray n)
   ⟨e,rfl,⟨_,e,rfl⟩,fA F.slot_list_mul ⟨_,e,rfl⟩ F.entry_list_mul (F.args_list_mul_2 _ _) (AutoListH.list___mul___list_int_3 l b.toArray n k t ((by rw[fitsIndex_both J E];exact B7)) f ((by rw[pz d];exact B7))) ⟨e,?_⟩⟩)
 rw[c];exact⟨.ref _,_,I.lnew (r.rep k.toNat) (by rw[yC,Nat.mul_comm];exact i),rfl,q _ I.fresh⟩
end L2
namespace Att
open PySem PySem.W PySem.Calls PyProof.Rows
def yE:∀(ns:on Int) (vs:on Jl),WellAll P h vs (ns.map WData.int)->IntsAre vs ns:=by
 intro ns
 induction ns with
 | nil=>
  intro vs w;rw[fv]at w;cases w;exact .nil
 | cons n ns c=>
  intro vs w;rw[A0]at w;cases w with
  | cons a b=>
   cases a;exact .cons _ _ (c _ b)
def yF{l:OpenLaw}(v:l.most=some n)
  (e:l.row.toRowW.claim.pre b=true) (k:WellAll P h c b) :
  ∃a vs ns,c=[Value.ref a]/\b=[WData.list (ns.map WData.int)]/\h.get? a=some {cls:=.type "list",data:=.seq vs.toArray} /\ IntsAre vs ns/\ns.length<=n:=by
 have m:l.pre.holds [] {args:=b} = true:=(pre_splitW e).2;obtain⟨d,r,rfl,y,x⟩:=hasAllW_cons ((pre_splitW e).1);obtain rfl:=hasAllW_nil x;obtain⟨xs,rfl,w⟩:=hasW_list y;obtain⟨ns,rfl⟩:=items_int w;have f:ns.length<=n:=by
  unfold OpenLaw.pre at m;have j:(WTm.not (.lt (.lit (JP (n:Int))) (.len (.arg 0)))).holds [] {args:=[.list (ns.map .int)]} = true:=by have j:=(holds_andW m).1;rw[v]at j;exact j
  have i:=condW_of j (w_not (w_lt w_lit (w_len_list (w_arg rfl))));rw[i0]at i;refine iS λ q=>?_
  first
   | (rw[D5 (by omega)]at i;exact absurd i JD)
   | (simp at i;omega)
 cases k with
 | cons p o=>
  cases o;cases p with
  | list u g=>exact⟨_,_,ns,rfl,rfl,u,yE ns _ g,f⟩
def yG(l:OpenLaw)(a:on WData):l.row.toRowW.claim.post a (.bool true) a=true:=
 postW_of
  (by first | rfl | decide | simp[WShape.has,WShape.arms,WShape.armsAll])
  (show(WTm.eq .res _).value [] {args:=a,res:=some _,after:=a} = some (.bool _)from w_eq_bool (w_res rfl) w_lit) rfl
def attach_call{l:OpenLaw}
  (I:l.most=some n) (x:d.params.defaults=[])
  (call:∀(w:Jr) (c b:Jm) (mg p:Str->Jk Jl) (k:Jn) (o:Obj) (pm cd g:Jl) (a:Jn) (vs:on Jl) (ns:on Int),
   Ground q loose [] XP w c mg p b.heap->YP w b.heap ->
   b.heap.get? k=some o->o.data=.func (docDef d.name d.params d.body d.scope pm cd g)->b.heap.CodeRec cd d.name->mg d.name=some (.ref k) ->
   b.heap.get? a=some {cls:=.type "list",data:=.seq vs.toArray} -> IntsAre vs ns->ns.length<=n->b.gens = #[] ->
   codeAny (model l.prog w) callerA (.call (.ref k) ⟨[.ref a],[]⟩) (λ r m=>r=.ok (.ret (.bool true))/\OldK b.heap m.heap/\m.os=b.os/\AllBare m.gens) b) :
  WalkO q loose XP YP l.row.toRowW d [] (λ f vs=>PySem.call f vs):=by
 intro w c b mg p G Y k o pm cd g P kV H hd y B v L C z as h A E u K;obtain rfl:P=.none:=Dflts.none B x;obtain rfl:kV=.none:=Dflts.noKw B;obtain⟨a,vs,ns,rfl,rfl,i,e,j⟩:=yF I h u;refine enter_call (R6 (call w c b mg p k o pm cd g a vs ns G Y H (fd_plain hd) y v i e j L) λ r m F=>?_);obtain⟨rfl,O,N,M⟩:=F;exact⟨.inl ⟨.bool true,.bool true,[],rfl,λ _=>rfl,.bool true,yG l _,λ _=>⟨List.Pairwise.nil,λ _ J=>(nomatch J)⟩⟩,O,N,M⟩
end Att
namespace L2
open PySem PySem.Spec PyProof.Rows
theorem pA:∀{vs:on Jl} {ns:on Int},IntsAre vs ns->Vals (ns.map V.int) vs
 | _,_,.nil=>.nil
 | _,_,.cons n t h=>.cons ⟨t,rfl⟩ (pA h)
def Only(H:Hp):Prop:=∀b,H b=none\/(∃o xs,H b=some (.frz o (.lst xs)))\/∃q,H b=some (.tbl q)
theorem cV{a:Type}:∀{l:on (Jn×a)} {c:a},l.lookup x=some c->(x,c)∈l
 | (y,v)::l,c,h=>by
  rw[F9]at h;split at h
  ·rename_i e;cases h;rw[i5.mp e];exact o6
  ·exact o4 _ (cV h)
theorem pB{a:Type}:∀{l:on (Jn×a)} {c:a},l.lookup x=none->(x,c)∉l
 | (y,v)::l,c,h,m=>by
  rw[F9]at h;split at h
  ·cases h
  ·rename_i e;rcases j0.mp m with z | z
   ·cases z;simp at e
   ·exact pB h z
def yH{l:on (e×d)}(f:(l.map (·.1)).Nodup)(g:(p.1,q)∈l)(i:p∈l):q=p.2:=by
 induction l with
 | nil=>cases g
 | cons y l h=>
  rw[A0]at f;have a:=R4.mp f;rcases j0.mp g with c | c<;>rcases j0.mp i with b | b
  ·rw[b,←c]
  ·exact absurd (m9.mpr ⟨p,b,by rw[←c]⟩) a.1
  ·exact absurd (m9.mpr ⟨_,c,by rw[b]⟩) a.1
  ·exact h a.2 c b
def yI{K:Jw}
  (KX:K.In c.heap) (R:c.heap.Ns mainGlobals mg) (j:c.heap.Ns builtinsNs mb) (a5:∀x:Str,x ≠ "__name__" -> mb x=bootBuiltins x) (U:c.heap.NoLimit) (hg:c.gens = #[])
  (O:c.heap.get? a=some {cls:=.type "list",data:=.seq vs.toArray}) (hi:IntsAre vs ns) (hl:ns.length<=sizeLine) (hr:Room k callerA)
  (F:∀y:Jo,K.In y->y.Ns mainGlobals mg->FnOk P w K mg y CX k fa fd [x] sp) (N:∀(s:Jm) (u:Jl),BindsTo s fd ⟨[u],[]⟩ [(x,u)])
  (a3:∀H:Hp,Only H->SqL K H a (ns.map V.int)->sp [.ref a] H (λ v _=>v=.bl true) λ _ _ _=>False)
  (i:∀p∈A5 K,K.lookup p.1=none/\c.heap.get? p.1=some {cls:=.none,data:=.fields #[]} /\ isCodeTable c.heap p.1) (a2:((A5 K).map (·.1)).Nodup)
  (a4:∃L E,mg "__builtins__" = some (.ref L)/\L≠builtinsNs/\c.heap.get? L=some E/\E.cls=.type "module" /\ E.dict=some builtinsNs/\E.data=.plain)
  (a7:∀H e l,CX [] H c (λ _ _ _=>False) e l->False) :
  codeAny (model P w) callerA (.call (.ref fa) ⟨[.ref a],[]⟩) (λ r l=>r=.ok (.ret (.bool true))/\OldK c.heap l.heap/\l.os=c.os/\AllBare l.gens) c:=by
 have rv:=pA hi;have Q:=hi.length;have J:∀H:Hp,Only H->SqL K H a (ns.map V.int)->HOk P w H c.heap->(∀b,H b≠none->b=a\/((∃q,(b,q)∈A5 K)/\∃q,H b=some (.tbl q)))->(H a≠none->K.lookup a=none)->cO K H ->
   codeAny (model P w) callerA (.call (.ref fa) ⟨[.ref a],[]⟩) (λ r l=>r=.ok (.ret (.bool true))/\OldK c.heap l.heap/\l.os=c.os/\AllBare l.gens) c:=by
  intro H hO hS M hA hK hT;have g:∀{b:Jn} {o:Obj},c.heap.get? b=some o->H b=none->(hidT c.heap H).get? b=some o:=λ e n=>wI e n
  have a1:∀{b:Jn} {o:Obj} {es:Jq DictEntry} {ep:Nat},c.heap.get? b=some o->o.data=.dict es ep->H b=none:=λ {b o es ep} e d=>by
   cases q:H b with
   | none=>rfl
   | some u=>
    rcases hA b (by rw[q];simp)with e' | ⟨⟨qq,e'⟩,_⟩
    ·subst e';rw[O]at e;cases e;have d':=d;cases d'
    ·rw[(i _ e').2.1]at e;cases e;have d':=d;cases d'
  have A:∀{b:Jn} {m:Str->Jk Jl},c.heap.Ns b m->(hidT c.heap H).Ns b m:=λ {b m} ⟨o,es,ep,e,d,r⟩=>⟨o,es,ep,g e (a1 e d),d,r⟩;have W:=λ b o e=>g (KX b o e) (by
   cases q:H b with
   | none=>rfl
   | some u=>
    rcases hA b (by rw[q];simp)with e' | ⟨⟨qq,e'⟩,_⟩
    ·subst e';rw[hK (by rw[q];simp)]at e;cases e
    ·rw[(i _ e').1]at e;cases e)
  have hM:Mod K mg (hidT c.heap H):=by
   refine⟨W,A R,⟨mb,A j,a5⟩,let ⟨mc,X,h2⟩:=U;⟨mc,A X,h2⟩,?L⟩;obtain⟨L,E,b1,b2,b3,b4,b5,b6⟩:=a4;refine⟨L,E,b1,b2,g b3 ?_,b4,b5,b6⟩;cases q:H L with
   | none=>rfl
   | some u=>
    rcases hA L (by rw[q];simp)with e' | ⟨⟨qq,e'⟩,_⟩
    ·subst e';rw[O]at b3;cases b3;exact absurd (Value.type.inj (show Value.type "list" = Value.type "module" from b4)) JD
    ·rw[(i _ e').2.1]at b3;cases b3;cases b4
  have e0:Env0 P w K mg (hidT c.heap H) callerA [] c H:=⟨rfl,hM,λ b o e=>wJ e,Nat.le_of_eq (wH _ _),trivial,⟨λ b j=>absurd (show b∈([]:on Jn)from j) JK,hT⟩,M,.of_eq hg⟩;refine R6 ((F _ W (A R)).run callerA [] c H ⟨[.ref a],[]⟩ [.ref a] [.ref a] _ _ hr e0 (N c (.ref a)) (.cons rfl .nil) (a3 H hO hS)) λ r l h=>?_;cases r with
  | error e=>exact(a7 H e l h).elim
  | ok fl=>
   cases fl with
   | next=>exact False.elim h
   | brk=>exact False.elim h
   | cont=>exact False.elim h
   | ret u=>
    obtain⟨v,H',os,Z,un,I,r',q⟩:=h;have q':v=.bl true:=q;subst q';obtain rfl:u=Value.bool true:=r';refine⟨rfl,⟨λ b o e=>?_,λ b o e=>un.there b o e JK⟩,os,Z⟩;cases q:H b with
    | none=>exact .inl (un.keep b o e q (by intro z;exact absurd (show b∈([]:on Jn)from z) JK) JK)
    | some u=>
     rcases hO b with z | ⟨E,xs,z⟩ | ⟨qq,z⟩
     ·rw[q]at z;cases z
     ·have z2:=un.frzs b E _ z;obtain⟨Y,_⟩:=M b _ z;obtain⟨e2,_⟩:=I b _ z2;rw[e]at Y;cases Y;exact .inl e2
     ·rcases hA b (by rw[q];simp)with e' | ⟨⟨q2,e'⟩,_⟩
      ·subst e';obtain⟨ps,Y,_⟩:=M b _ z;rw[O]at Y;have:=congrArg Obj.data (B8 Y);cases this
      ·have t:=i _ e';rw[t.2.1]at e;cases e;obtain⟨ps,e2,_⟩:=I b _ (un.tbls b _ z);exact .inr (.inl ⟨t.2.2,rfl,#[],ps,rfl,by simpa using e2⟩)
 have C:∀f:Hp,(∀p∈A5 K,f p.1=none)->∃H:Hp,(∀b,(∃q,(b,q)∈A5 K/\H b=some (.tbl q))\/((∀q,(b,q)∉A5 K)/\H b=f b)):=λ f hf=>by
  refine⟨λ b=>match(A5 K).lookup b with | some q=>some (.tbl q) | none=>f b,λ b=>?_⟩;cases z:(A5 K).lookup b with
  | some q=>exact .inl ⟨q,cV z,by simp only[z]⟩
  | none=>exact .inr ⟨λ q hq=>pB z hq,by simp only[z]⟩
 have B:∀{H:Hp} {f:Hp},(∀b,(∃q,(b,q)∈A5 K/\H b=some (.tbl q))\/((∀q,(b,q)∉A5 K)/\H b=f b))->cO K H:=λ {H f} h p hp=>by
  rcases h p.1 with⟨q,X,h2⟩ | ⟨X,_⟩
  ·rw[h2,yH a2 X hp]
  ·exact absurd hp (X p.2)
 cases hk:K.lookup a with
 | some o=>
  have e:=KX a o hk;rw[O]at e;cases e;obtain⟨H,h⟩:=C (λ _=>none) λ _ _=>rfl;refine J H (λ b=>?_) (.inr ⟨_,vs.toArray,_,hk,rfl,rfl,rfl,by rw[t7,Q];exact hl,by simpa using rv⟩) (λ b u z=>?_) (λ b z=>?_) (λ z=>?_) (B h)
  ·rcases h b with⟨q,_,e⟩ | ⟨_,e⟩
   ·exact .inr (.inr ⟨q,e⟩)
   ·exact .inl e
  ·rcases h b with⟨q,m,e⟩ | ⟨_,e⟩
   ·rw[e]at z;cases z;exact⟨#[],(i _ m).2.1,trivial,λ a0 cv z=>by cases z⟩
   ·rw[e]at z;cases z
  ·rcases h b with⟨q,m,e⟩ | ⟨_,e⟩
   ·exact .inr ⟨⟨q,m⟩,q,e⟩
   ·exact absurd e z
  ·rcases h a with⟨q,m,e⟩ | ⟨_,e⟩
   ·have:=(i _ m).1;rw[hk]at this;cases this
   ·exact absurd e z
 | none=>
  have S:∀q,(a,q)∉A5 K:=λ q m=>by have:=(i _ m).2.1;rw[O]at this;have:=congrArg Obj.data (B8 this);cases this
  obtain⟨H,h⟩:=C (λ b=>if b=a then some (.frz {cls:=.type "list",data:=.seq vs.toArray} (.lst (ns.map V.int)))else none) λ p hp=>g9 λ z=>S p.2 (by rw[←z];exact hp)
  have a6:H a=some (.frz {cls:=.type "list",data:=.seq vs.toArray} (.lst (ns.map V.int))):=by
   rcases h a with⟨q,m,_⟩ | ⟨_,e⟩
   ·exact absurd m (S q)
   ·rw[e];exact f8 rfl
  refine J H (λ b=>?_) (.inl (.inr ⟨{cls:=.type "list",data:=.seq vs.toArray},a6⟩)) (λ b u z=>?_) (λ b z=>?_) (λ _=>hk) (B h)
  ·rcases h b with⟨q,_,e⟩ | ⟨_,e⟩
   ·exact .inr (.inr ⟨q,e⟩)
   ·by_cases j:b=a
    ·exact .inr (.inl ⟨_,_,e.trans (f8 j)⟩)
    ·exact .inl (e.trans (g9 j))
  ·rcases h b with⟨q,m,e⟩ | ⟨_,e⟩
   ·rw[e]at z;cases z;exact⟨#[],(i _ m).2.1,trivial,λ a0 cv z=>by cases z⟩
   ·rw[e]at z;by_cases j:b=a
    ·have z':=(f8 j).symm.trans z;cases z';subst j;exact⟨O,by rw[i0];exact hl,vs,_,rv,O⟩
    ·have z':=(g9 j).symm.trans z;cases z'
  ·rcases h b with⟨q,m,e⟩ | ⟨_,e⟩
   ·exact .inr ⟨⟨q,m⟩,q,e⟩
   ·by_cases j:b=a
    ·exact .inl j
    ·exact absurd (e.trans (g9 j)) z
end L2
namespace L2
open PySem PySem.Spec PyProof.Rows
def walk_of{l:PySem.W.OpenLaw}{XP:(Str->Jk Jl)->Jo->Prop}{K:Params->Jw}{CX:Jr->CXT}{L:Jr->Sp}
  (O:l.most=some n) (A:n<=sizeLine) (C:d.params.defaults=[]) (N:Room k callerA)
  (S:∀(w:Jr) (h:Jo),YP w h->(K w.params).In h) (j:∀(w:Jr) (h:Jo),YP w h->(∀p∈A5 (K w.params),(K w.params).lookup p.1=none/\h.get? p.1=some {cls:=.none,data:=.fields #[]} /\ isCodeTable h p.1)/\((A5 (K w.params)).map (·.1)).Nodup)
  (F:∀(w:Jr) (mg:Str->Jk Jl) (r:Jn) (h:Jo),(K w.params).In h->h.Ns mainGlobals mg->mg d.name=some (.ref r) ->
   ∃fd:FuncData,(∀(s:Jm) (u:Jl),BindsTo s fd ⟨[u],[]⟩ [(x,u)]) /\
    ∀b:Jo,(K w.params).In b->b.Ns mainGlobals mg->FnOk l.prog w (K w.params) mg b (CX w) k r fd [x] (L w))
  (z:∀(w:Jr) (H:Hp) (a:Jn) (ns:on Int),ns.length<=n->Only H->SqL (K w.params) H a (ns.map V.int)->L w [.ref a] H (λ v _=>v=.bl true) λ _ _ _=>False)
  (E:∀(w:Jr) (H:Hp) (s:Jm) (e:Jl) (y:Jm),CX w [] H s (λ _ _ _=>False) e y->False) :
  PySem.W.WalkO q loose XP YP l.row.toRowW d [] (λ f I=>PySem.call f I):=by
 refine Att.attach_call O C λ w J i mg mb r o pm cd Z a I ns G Y ho hd Q B m g c P=>?_;have M:=S w _ Y;obtain⟨fd,R,X⟩:=F w mg r _ M G.T.g B;exact yI M G.T.g G.T.b G.T.builtins G.T.nolimit P m g (k6 c A) N X R (λ H W U=>z w H a ns c W U) (j w _ Y).1 (j w _ Y).2 G.T.bmain λ H e y=>E w H i e y
end L2
namespace L2
open PySem PySem.Spec PyProof.Rows
abbrev CX0:CXT:=λ _ _ _ _ _ _=>False
abbrev E0:XK:=λ _ _ _=>False
def yJ:bh CX0 X E0:=λ _ _ _ _ _ _ _ h=>h.elim
def iteF{B:Prop}(h:B):if false=true then A else B:=by
 rw[g9 B7];exact h
def iteT{B:Prop}(h:A):if true=true then A else B:=by
 rw[f8 rfl];exact h
def Same(H H':Hp):Prop:=∀b o,H b=some o->H' b=some o
def Same.refl(H:Hp):Same H H:=λ _ _ h=>h
def Same.trans(a:Same H e)(b:Same e d):Same H d:=λ c o h=>b c o (a c o h)
def Same.free(e:Same H a)(h:a l=Option.none):H l=Option.none:=by
 cases q:H l with
 | none=>rfl
 | some o=>
  rw[e l o q]at h;cases h
def Same.seq{K:Jw}(e:Same H b)(h:SqL K H a xs):SqL K b a xs:=by
 rcases h with(h | ⟨o,h⟩) | h
 ·exact .inl (.inl (e _ _ h))
 ·exact .inl (.inr ⟨o,e _ _ h⟩)
 ·exact .inr h
end L2
end
noncomputable section
namespace L2
open PySem PySem.Spec PyProof.Rows
noncomputable def o8(cells:on (Str×Jn)):on (Str×JA)->on (Str×Jn)->on (Str×Jn)
 | [],acc=>acc
 | (n,k)::r,acc=>if(k==NameKind.free)=true then o8 cells r ((n,(cells.lookup n).getD 0)::acc)else o8 cells r acc
theorem jI:∀(d:on (Str×JA)) (b:on (Str×Jn)),(∀y∈d,y.2=NameKind.free->∃c,env.cells.lookup y.1=some c) ->
  (forIn d b (λ (x:Str×JA) (cs:on (Str×Jn))=>(match x with | (e,f)=>if(f==NameKind.free)=true then(do let a ←cellOf env e;pure (ForInStep.yield ((e,a)::cs)))else pure (ForInStep.yield cs):Sem (ForInStep (on (Str×Jn))))):Sem (on (Str×Jn)))=pure (o8 env.cells d b)
 | [],b,_=>rfl
 | (n,k)::r,b,h=>by
  have j:=λ y m=>h y (o4 _ m);rw[iW];by_cases g:(k==NameKind.free)=true
  ·obtain⟨c,l⟩:=h (n,k) o6 (i5.mp g);have o:cellOf env n=pure c:=by unfold cellOf;rw[l]
   have i:o8 env.cells ((n,k)::r) b=o8 env.cells r ((n,c)::b):=(by show(if(k==NameKind.free)=true then o8 env.cells r (_::b)else o8 env.cells r b)=_;rw[f8 g,l];rfl);rw[i,←jI r _ j];simp only[g,if_true,o];rfl
  ·have i:o8 env.cells ((n,k)::r) b=o8 env.cells r b:=by
    show(if(k==NameKind.free)=true then o8 env.cells r (_::b)else o8 env.cells r b)=_;rw[g9 g]
   rw[i,←jI r b j];simp only[g,if_false];rfl
def fI(h:∀y∈scope.names,y.2=NameKind.free->∃c,env.cells.lookup y.1=some c):closureFor scope env=pure (o8 env.cells scope.names []):=by
 unfold closureFor
 first
  | exact _.trans rfl
  | (simp only[(jI scope.names [] h)];rfl)
theorem bn:∀{a:on (Str×JA)} {d:on (Str×Jn)} {x:Str} {c:Jn},(∀y∈a,y.2=NameKind.free->∃c,b.lookup y.1=some c) ->
  (x,c)∈o8 b a d->(x,c)∈d\/(b.lookup x=some c/\(x,NameKind.free)∈a)
 | [],d,x,c,_,h=>.inl h
 | (n,k)::r,d,x,c,g,h=>by
  have f:=λ y i=>g y (o4 _ i);unfold o8 at h;by_cases e:(k==NameKind.free)=true
  ·rw[f8 e]at h;obtain⟨c',j⟩:=g (n,k) o6 (i5.mp e);rcases bn f h with z | ⟨z1,z2⟩
   ·rcases j0.mp z with z | z
    ·cases z;exact .inr ⟨by rw[j];rfl,by rw[←i5.mp e];exact o6⟩
    ·exact .inl z
   ·exact .inr ⟨z1,o4 _ z2⟩
  ·rw[g9 e]at h;rcases bn f h with z | ⟨z1,z2⟩
   ·exact .inl z
   ·exact .inr ⟨z1,o4 _ z2⟩
theorem jJ:∀{a:on (Str×JA)} {c:on (Str×Jn)} {y:Str×Jn},y∈c->y∈o8 b a c
 | [],_,_,h=>h
 | (n,k)::r,c,y,h=>by
  unfold o8;split
  ·exact jJ (o4 _ h)
  ·exact jJ h
theorem fK:∀{a:on (Str×JA)} {d:on (Str×Jn)} {x:Str} {c:Jn},(x,NameKind.free)∈a->b.lookup x=some c->(x,c)∈o8 b a d
 | (n,k)::r,d,x,c,h,e=>by
  unfold o8;rcases j0.mp h with z | z
  ·cases z;rw[f8 (show(NameKind.free==NameKind.free)=true from rfl),e];exact jJ o6
  ·split
   ·exact fK z e
   ·exact fK z e
theorem bo:∀(a:on (Str×JA)) (n:Nat) (b:on (Str×Jn)),cellsFrom n a b=cellsFrom n a []++b
 | [],_,_=>rfl
 | (x,k)::r,n,b=>by
  unfold cellsFrom;split
  ·rw[bo r _ _,bo r _ [(x,n)],N7];rfl
  ·exact bo r n b
theorem fL:∀{a:on (Str×JA)} {n:Nat} {x:Str} {c:Jn},(x,c)∈cellsFrom n a []->(x,NameKind.cell)∈a
 | [],_,_,_,h=>nomatch h
 | (y,k)::r,n,x,c,h=>by
  unfold cellsFrom at h;by_cases b:(k==NameKind.cell)=true
  ·rw[f8 b,bo]at h;rcases C7.mp h with z | z
   ·exact o4 _ (fL z)
   ·have d:(x,c)=(y,n):=by simpa using z
    cases d;rw[i5.mp b];exact o6
  ·rw[g9 b]at h;exact o4 _ (fL h)
theorem O3{a:Type}:∀{l r:on (Str×a)},(l++r).lookup x=(l.lookup x).or (r.lookup x)
 | [],r=>by simp
 | (y,v)::l,r=>by
  rw[List.cons_append,F9,F9];cases hb:x==y with
  | true=>rfl
  | false=>exact O3
theorem jK{a:Type}:∀{l:on (Str×a)},(∀c,(x,c)∉l)->l.lookup x=none
 | [],_=>rfl
 | (y,v)::l,h=>by
  rw[F9];cases hb:x==y with
  | true=>exact absurd (by grind) (h v)
  | false=>exact jK λ c b=>h c (o4 _ b)
theorem jL{a:Type}:∀{l:on (Str×a)} {c:a},(x,c)∈l->∃d,l.lookup x=some d
 | (y,v)::l,c,h=>by
  rw[F9];cases b:x==y with
  | true=>exact⟨v,rfl⟩
  | false=>
   rcases j0.mp h with z | z
   ·cases z;rw[N8]at b;cases b
   ·exact jL z
theorem V0{b:Type}:∀{l:on (Str×b)} {c:b},(l.map (·.1)).Nodup->(x,c)∈l->l.lookup x=some c
 | (y,v)::l,c,d,h=>by
  rw[F9];rw[A0]at d;have a:=R4.mp d;rcases j0.mp h with z | z
  ·cases z;rw[N8]
  ·have:x≠y:=λ e=>a.1 (by rw[←e];exact m9.mpr ⟨_,z,rfl⟩);rw[y9.mpr this];exact V0 a.2 z
def jM:(relabel scope env).names.lookup x=(scope.names.lookup x).map λ k=>if(k==NameKind.free&&env.scope.kind == .function&&env.kindOf x==some .cell)=true then NameKind.cell else k:=by
 unfold relabel;show(scope.names.map _).lookup x=_;generalize scope.names=l
 induction l with
 | nil=>rfl
 | cons y r a=>
  obtain⟨n,k⟩:=y;rw[A0];show List.lookup x ((if _=true then _ else(n,k))::_)=_;have e:(if(k==NameKind.free&&env.scope.kind == .function&&env.kindOf n==some .cell)=true then(n,NameKind.cell)else(n,k))=(n,if(k==NameKind.free&&env.scope.kind == .function&&env.kindOf n==some .cell)=true then NameKind.cell else k):=by split<;>rfl
  rw[e,F9,F9];cases b:x==n with
  | true=>rw[i5.mp b];rfl
  | false=>exact a
def yK
  (e:Q (newEnv scope s.heap.objs.size g (cellsFrom (s.heap.objs.size+1) scope.names cl) q none .none (some env) builtinsNs) {s with heap:=pushCells (s.heap.push {cls:=.type "dict",data:=.dict #[]}) scope.names}) :
  wpAny M A (newFunctionEnv scope g cl [] q none .none (some env)) Q E s:=by
 simp only[newFunctionEnv,Option.isSome_some,if_true];refine f0 (wpAny_alloc ?_);refine f0 (wpAny_layCells _ (λ d a c=>by cases b:a==NameKind.cell<;>simp[b]) _ _ _ _ ?_);rw[show({s with heap:=s.heap.push {cls:=.type "dict",data:=.dict #[]}}:Jm).heap.objs.size=s.heap.objs.size+1 from G0 ..];exact f0 (g7 (g7 e))
def yL{prog:Js}{w:Jr}{A:Ju}{R:Result->Jm->Prop}{s:Jm}{elt target iter:Jp}{ifs:on Jp}{scope:Jx}{pos:Pos}{it acc:Jl}{env:Env}(I:Nat->Jm->Prop)
  (turn:∀n s,I n s->wpAny JH A (pyNext it) (λ r s₁=>match r with
   | none=>R (.ok .next) s₁
   | some v=>wpAny JH A (letOwnedTupleGo target it v) (λ _ s₁'=>wpAny JH A (assign target env v) (λ _ s₂=>
     wpAny JH A (forIn ifs true λ c r=>if r=true then do let ok ←isTrue c env (eval c env);pure (ForInStep.yield ok)else pure (ForInStep.yield r)) (λ ok s₃=>
      if ok=true then wpAny JH A (eval elt env) (λ x s₄=>
       wpAny JH A (call (.builtin "list.append") [acc,x]) (λ _ s₅=>∃m,m<n/\I m s₅) (notedBy JH A env λ e s'=>R (.error e) s') s₄) (notedBy JH A env λ e s'=>R (.error e) s') s₃
      else ∃m,m<n/\I m s₃) (notedBy JH A env λ e s'=>R (.error e) s') s₂) (notedBy JH A env λ e s'=>R (.error e) s') s₁') (notedBy JH A env λ e s'=>R (.error e) s') s₁) (notedBy JH A env λ e s'=>R (.error e) s') s)
  (n:Nat) (h:I n s) :
  codeAny JH A (.compLoop (.ListComp elt [⟨target,iter,ifs,0⟩] scope pos) 0 it acc env) R s:=by
 refine codeAny_loop rfl I (λ n s hI=>?_) n h;show wpAny _ A ((compTurn (.ListComp elt [⟨target,iter,ifs,0⟩] scope pos) 0 it acc env).onRaise (λ x=>do noteFrame x env;theTreesLotGoes x)) _ _ s;refine wpAny_noted ?_;rw[compTurn_list];refine f0 (fg (f0 (A9 (turn n s hI) (λ r s₁ h₁=>?_) λ _ _ h'=>h')));cases r with
 | none=>exact g7 h₁
 | some v=>
  refine f0 (A9 h₁ (λ _ s₁' h₁'=>?_) λ _ _ h'=>h');refine f0 (A9 h₁' (λ _ s₂ h₂=>f0 (A9 h₂ (λ ok s₃ h₃=>?_) λ _ _ h'=>h')) λ _ _ h'=>h');cases ok with
  | false=>exact g7 ⟨rfl,h₃⟩
  | true=>
   exact f0 (f0 (A9 h₃ (λ x s₄ h₄=>f0 (A9 h₄ (λ _ s₅ h₅=>g7 (g7 ⟨rfl,h₅⟩)) λ _ _ h'=>h')) λ _ _ h'=>h'))
def HOk.track(x:HOk P w H h)(d:H a=none)(new:u9 P w (upd H a o) h a o):HOk P w (upd H a o) h:=λ b u e=>by
 by_cases f:b=a
 ·subst f;rw[z8]at e;cases e;exact new
 ·rw[m7 f]at e;exact(x b u e).stay (λ c v _ q=>q) (λ c q=>by rw[m7 (B1 q d)];exact q) (λ c g q=>by rw[m7 (B1 q d)];exact q) (λ c g q=>by rw[m7 (B1 q d)];exact q) λ c _ _ _ _ q=>by rw[m7 (B1 q d)];exact q
def Un.track{fs ex:on Jn}{H H':Hp}{h h':Jo}{a:Jn}{o:HO}(u:Un fs ex H H' h h')(hn:H' a=none)(hh:h.get? a=none):Un fs ex H (upd H' a o) h h' where
 keep:=u.keep
 slot:=u.slot
 free:=λ b ob q n hx=>by
  have:b≠a:=λ z=>by rw[z,hh]at q;cases q
  rw[m7 this];exact u.free b ob q n hx
 there:=u.there
 tups:=λ b xs q=>by have z:=u.tups b xs q;rw[m7 (B1 z hn)];exact z
 frzs:=λ b ob xs q=>by have z:=u.frzs b ob xs q;rw[m7 (B1 z hn)];exact z
 tbls:=λ b ps q=>by have z:=u.tbls b ps q;rw[m7 (B1 z hn)];exact z
structure CompScope(N N':List Str)(sc osc:Scope)(fr:List (Option Nat)):Prop where
 kind:sc.kind=.function
 nd:N'.Nodup
 snd:(sc.names.map (·.1)).Nodup
 len:fr.length=N'.length
 fre:∀(j i:Nat),fr[j]? = some (some i)->∃x,N'[j]? = some x/\N[i]? = some x/\(x,NameKind.free)∈sc.names
 out:∀y∈sc.names,y.2=NameKind.free->osc.names.lookup y.1=some .cell\/osc.names.lookup y.1=some .free
noncomputable def inner(fr:on (Jk Nat))(σ:St):St:=fr.map λ o=>o.bind λ i=>(σ[i]?).join
noncomputable def u6(X:Cx)(scope:Jx)(N':on Str)(C:Jn)(cells:on (Str×Jn))(s₂:Jm)(H₂:Hp)(fp:on Jn):Cx:=
 {X with N:=N',s₀:=s₂,H₀:=H₂,env:=compEnvC scope cells C X.env,outer:=X.stack,stack:=X.stack,ex:=fp,fn:=λ x=>scope.names.lookup x==some .cell,pn:=[],xe:=λ _ _=>False}
abbrev P9:Obj:={cls:=.type "list",dict:=none,data:=.seq ([]:on Jl).toArray}
abbrev cW:Obj:={cls:=.type "dict",data:=.dict #[]}
def yM(S:CompScope X.N N' scope X.env.scope fr)(I:Inv X O σ H d)(f:∀b∈fp,FpOk X O H b)(ho:∀b∈fp,@LT.lt Nat _ b d.heap.objs.size)(hC:C=d.heap.objs.size+1)(M:U=pushCells ((d.heap.push P9).push cW) scope.names) :
  Inv (u6 X scope N' C (cellsFrom (C+1) scope.names (o8 X.env.cells scope.names [])) d H fp) [] (inner fr σ) H {d with heap:=U} /\ U.get? d.heap.objs.size=some P9/\(∀b o,d.heap.get? b=some o->U.get? b=some o):=by
 have Q:(d.heap.push P9).objs.size=d.heap.objs.size+1:=G0 ..;have P:((d.heap.push P9).push cW).objs.size=C+1:=by rw[G0,Q,hC]
 have h:∀b o,d.heap.get? b=some o->U.get? b=some o:=λ b o e=>by rw[M];exact cC _ _ b o (k9 _ (k9 _ e))
 have hD:U.get? d.heap.objs.size=some P9:=by rw[M];exact cC _ _ _ _ (k9 _ (q5 _ rfl))
 have a4:U.Ns C λ _=>none:=by have q:=(Heap.Ns.new (d.heap.push P9) (.type "dict")).keeps (cC scope.names _);rw[Q,←hC]at q;rw[M];exact q
 have ok:=jm scope.names ((d.heap.push P9).push cW) (C+1) [] ⟨λ _ _ A=>(nomatch A),List.Pairwise.nil⟩ (by rw[P];exact i8 _);rw[P,←M]at ok;have J:∀y∈scope.names,y.2=NameKind.free->∃c,X.env.cells.lookup y.1=some c:=λ y hy hk=>I.ok.has y.1 (S.out y hy hk);generalize Z:o8 X.env.cells scope.names []=cl;have F:∀{x:Str} {c:Jn},(x,c)∈cl->X.env.cells.lookup x=some c/\(x,NameKind.free)∈scope.names:=λ {x c} A=>by
  rw[←Z]at A;rcases bn J A with z | z
  ·exact nomatch z
  ·exact z
 generalize s:cellsFrom (C+1) scope.names []=own at ok;have a6:cellsFrom (C+1) scope.names cl=own++cl:=by rw[bo,s]
 rw[a6];have L:∀{x:Str} {c:Jn},(x,c)∈own->(x,NameKind.cell)∈scope.names:=λ {x c} A=>by rw[←s]at A;exact fL A
 have L1:∀x c,(own++cl).lookup x=some c->((x,c)∈own)\/(X.env.cells.lookup x=some c/\(x,NameKind.free)∈scope.names/\own.lookup x=none):=λ x c e=>by
  rw[O3]at e;cases q:own.lookup x with
  | some c'=>rw[q]at e;cases e;exact .inl (A4 q)
  | none=>rw[q]at e;have z:=F (A4 (show cl.lookup x=some c from e));exact .inr ⟨z.1,z.2,rfl⟩
 have g:=λ {x c} A=>(ok.empty x c A).2;have n:∀{x:Str} {c:Nat},X.env.cells.lookup x=some c->@LT.lt Nat _ c d.heap.objs.size:=λ {x c} e=>by obtain⟨v,z⟩:=I.cell x c e;exact z.lt
 have K:∀{x:Str},(x,NameKind.free)∈scope.names->own.lookup x=none:=λ {x} A=>by refine jK λ c Y=>?_;have a:=V0 S.snd A;have b:=V0 S.snd (L Y);rw[a]at b;cases b
 have B:∀{x:Str} {c:Jn},(x,NameKind.free)∈scope.names->X.env.cells.lookup x=some c->(own++cl).lookup x=some c:=λ {x c} A Y=>by rw[O3,K A];obtain⟨c',e⟩:=jL (l:=cl) (by rw[←Z];exact fK A Y);have z:=(F (A4 e)).1;rw[Y]at z;cases z;exact e
 have hX:(u6 X scope N' C (own++cl) d H fp).Ok:=by
  refine⟨I.ok.mod,S.kind,I.ok.glob,I.ok.blt,?_,λ x y c h1 h2=>?_,λ x hx=>?_,λ x c hf Y=>?_,I.ok.hd,I.ok.frames,.inl rfl,λ b R=>⟨?_,λ x c e=>?_⟩,I.bs,k6 I.ok.bsz I.sz,λ b o e R=>?_,λ b R hs=>?_,I.stack,⟨I.stkFree,I.tabs⟩⟩
  ·show d.heap.objs.size<=C;rw[hC];exact ai _
  ·have h1:(own++cl).lookup x=some c:=h1;have h2:(own++cl).lookup y=some c:=h2;rcases L1 x c h1 with a | ⟨a,_⟩<;>rcases L1 y c h2 with b | ⟨b,_⟩
   ·exact jj ok.apart a b
   ·exfalso;have q1:=g a;have q2:=n b;omega
   ·exfalso;have q1:=g b;have q2:=n a;omega
   ·exact I.ok.inj x y c a b
  ·have E:(relabel scope X.env).names.lookup x=some .cell\/(relabel scope X.env).names.lookup x=some .free:=hx;show ∃c,(own++cl).lookup x=some c;rw[jM]at E;cases q:scope.names.lookup x with
   | none=>rw[q]at E;rcases E with z | z<;>cases z
   | some k=>
    have km:=A4 q;by_cases k1:k=.cell
    ·subst k1;have z:=eF scope.names (C+1) [] (.inl q);rw[s]at z;obtain⟨c,z⟩:=V7.mp z;exact⟨c,by rw[O3,z];rfl⟩
    ·by_cases k2:k=.free
     ·subst k2;obtain⟨c,e⟩:=J _ km rfl;exact⟨c,B km e⟩
     ·exfalso;rw[q]at E;have e0:(k==NameKind.free)=false:=y9.mpr k2;simp only[O0,e0,cF]at E;rcases E with z | z
      ·exact k1 (by simpa using z)
      ·exact k2 (by simpa using z)
  ·have a5:(scope.names.lookup x==some .cell)=true:=hf;have q:scope.names.lookup x=some .cell:=by simpa using a5
   have z:=eF scope.names (C+1) [] (.inl q);rw[s]at z;obtain⟨c',z⟩:=V7.mp z;have a0:(own++cl).lookup x=some c:=Y;rw[O3,z]at a0;have e:c'=c:=B8 a0;subst e;have:=g (A4 z);show @LE.le Nat _ d.heap.objs.size c';omega
  ·have:=ho b R;show @Ne Nat b C;omega
  ·rcases L1 x c e with a | ⟨a,_⟩
   ·have:=g a;have:=ho b R;show @Ne Nat c b;omega
   ·exact(f b R).2.2.2.2.1 x c a
  ·rcases(f b R).2.2.2.1 with z | z
   ·exact I.ok.noex b o e z
   ·exact absurd (p9 (k8 e) (k6 I.ok.bsz z)) (L0 _)
  ·rcases j0.mp (I.stkSub b hs)with z | z
   ·exact(f b R).2.1 z
   ·exact(f b R).2.2.1 z
 refine⟨⟨hX,rfl,I.bare,Un.kept h,⟨_,a4,λ i x v e1 W e3=>?_⟩,λ x c e=>?_,I.hok.fresh (by show @LE.le Nat _ d.heap.objs.size C;omega),λ x c e=>?_,λ p hp=>absurd (show p∈([]:on (Jn×Obj))from hp) JK,I.hok.kept h,?_⟩,hD,h⟩
 ·have e1:N'[i]? = some x:=e1;unfold inner at W;rw[q9]at W;cases q:fr[i]? with
  | none=>rw[q]at W;cases W
  | some o=>
   rw[q]at W;cases o with
   | none=>cases W
   | some j=>
    have N:(σ[j]?).join=some v:=B8 W;have hv:σ[j]? = some (some v):=by
     cases z:σ[j]? with
     | none=>rw[z]at N;cases N
     | some o=>rw[z]at N;rw[show o=some v from N]
    obtain⟨x',a1,a2,a3⟩:=S.fre i j q;rw[e1]at a1;cases a1;obtain⟨m,hn,hl⟩:=I.loc;have ko:=S.out _ a3 rfl;obtain⟨u,r,l⟩:=hl j x v a2 hv (ko.elim (λ z=>.inr (.inl z)) λ z=>.inr (.inr z));rcases l with⟨k,_⟩ | ⟨k,c,e,z⟩
    ·have k':X.env.scope.names.lookup x=some .local:=k;rcases ko with w | w<;>(rw[show X.env.scope.names.lookup x=_ from w]at k';cases k')
    ·refine⟨u,r,.inr ⟨?_,c,B a3 e,z.keeps h⟩⟩;show(relabel scope X.env).names.lookup x=some .cell\/(relabel scope X.env).names.lookup x=some .free;rw[jM,V0 S.snd a3];simp only[O0];split
     ·exact .inl rfl
     ·exact .inr rfl
 ·rcases L1 x c e with a | ⟨a,_⟩
  ·exact⟨none,(ok.empty x c a).1⟩
  ·obtain⟨v,z⟩:=I.cell x c a;exact⟨v,z.keeps h⟩
 ·rcases L1 x c e with a | ⟨a,_⟩
  ·exact I.hok.fresh (by have:=g a;show @LE.le Nat _ d.heap.objs.size c;omega)
  ·exact I.freeC x c a
 ·show(inner fr σ).length=N'.length;unfold inner;rw[i0,S.len]
def PTs(X:Cx)(ifs:on Jp)(t:TT):Prop:=
 ∀(pins:on (Jn×Obj)) (s:Jm) (σ:St) (H:Hp) (Q:Bool->Hp->Prop),Inv X pins σ H s->t σ H Q ->
  wpAny JG X.A (forIn ifs true λ c r=>if r=true then do let ok ←isTrue c X.env (eval c X.env);pure (ForInStep.yield ok)else pure (ForInStep.yield r)) (TP X pins σ Q) X.xe s
def tYes:TT:=λ _ H Q=>Q true H
def pC:PTs X [] tYes:=λ _ _ _ H _ I h=>wpAny_tests_nil ⟨H,I,h⟩
def yN(h:PT X c t):PTs X [c] t:=λ a s b H Q I d=>wpAny_tests_one (h a s b H Q I d)
def jN(J:It)(g:TG)(tc:TT)(te:TE)(Fin:on V->Hp->Prop)(σ:St)(H:Hp):Prop:=
 ∃W:Nat->Nat->on V->St->Hp->Prop,(∃m,W 0 m [] σ H)/\∀i m ys σ H,W i m ys σ H ->
  (J.stop i H/\Fin ys H)\/(J.go i H/\ys.length<sizeLine/\∀x H',J.yld i H x H'->g x σ H' λ σ2 H2=>tc σ2 H2 λ b H3=>
   if b=true then te σ2 H3 λ y H4=>∃m',m'<m/\W (i+1) m' (ys++[y]) σ2 H4 else ∃m',m'<m/\W (i+1) m' ys σ2 H3)
def Vals.snoc(r:Vals xs a)(q:RelV x u):Vals (xs++[x]) (a++[u]):=r.append (.cons q .nil)
def pD{K:on (Jn×Obj)}
   {RR:Jl->Jn->Result->Jm->Prop}
  (S:CompScope X.N L scope X.env.scope fr) (hc:X.calm=true)
  (hg:∀C j a B fp,PG (u6 X scope L C j a B fp) tg g) (ht:∀C j a B fp,PTs (u6 X scope L C j a B fp) a3 tc) (he:∀C j a B fp,PE (u6 X scope L C j a B fp) elt te)
  (I:Inv X K σ H a) (T:Turn X.prog X.w X.K tg J fp it tn) (st:tn 0 a.heap) (f:∀b∈fp,FpOk X K H b) (h:jN J g tc te c0 (inner fr σ) H)
  (c4:∀D C A P m O,Inv X K σ (upd A D (.lst O)) P->A D=none->P.heap.Ns C m->upd A D (.lst O) C=none->C≠X.env.locals->X.s₀.heap.objs.size<=C->(∀x c,X.env.cells.lookup x=some c->c≠C)->(∀p∈X.pn++K,p.1≠C)->c0 O A->RR (.ref D) C (.ok .next) P) :
  wpAny JG X.A (newList []) (λ b8 a8=>wpAny JG X.A (newFunctionEnv scope X.env.globals (o8 X.env.cells scope.names []) [] X.env.qual none .none (some X.env)) (λ a1 a7=>
   codeAny JG X.A (.compStart (.ListComp elt [⟨tg,a0,a3,0⟩] scope pos) 0 (.ref it) b8 {a1 with scope:=relabel scope X.env}) (RR b8 a1.locals) a7) E a8) E a:=by
 have ho:∀b∈fp,b<a.heap.objs.size:=λ b s=>by obtain⟨o,e,_⟩:=T.obj _ _ st b s;exact k8 e
 refine E3 (yK ?_);have b0:(a.heap.push P9).objs.size=a.heap.objs.size+1:=G0 ..;obtain⟨I4,b6,Z⟩:=yM (C:=a.heap.objs.size+1) S I f ho rfl rfl;show codeAny _ _ _ (RR (.ref a.heap.objs.size) (a.heap.push P9).objs.size) {a with heap:=pushCells ((a.heap.push P9).push cW) scope.names};rw[b0];generalize b4:a.heap.objs.size=D at *;generalize cellsFrom (D+1+1) scope.names (o8 X.env.cells scope.names [])=j at *;generalize pushCells ((a.heap.push P9).push cW) scope.names=h4 at *;have a4:∀{w:on (Jn×Obj)} {A:Hp},(∀b∈fp,A b=none)->(∀p∈w,p.1=D)->∀b∈fp,FpOk (u6 X scope L (D+1) j a H fp) w A b:=λ {w A} hn N b s=>
  ⟨hn b s,(I4.ok.exf b s).1,I4.ok.exfs b s,.inl s,(I4.ok.exf b s).2,λ p R z=>by
   have R:p∈([]:on (Jn×Obj))++w:=R;rw[iV]at R;have:=ho b s;rw[←z,N p R]at this;exact L0 _ this⟩
 obtain⟨W,⟨m0,w0⟩,a6⟩:=h;have b5:D≠(u6 X scope L (D+1) j a H fp).env.locals:=by show D≠D+1;omega
 have U:∀x c,(u6 X scope L (D+1) j a H fp).env.cells.lookup x=some c->c≠D:=λ x c e z=>by
  obtain⟨v,o,c1,hd⟩:=I4.cell x c e;have q:h4.get? D=some o:=by rw[←z];exact c1
  rw[b6]at q;cases q;cases hd
 have b3:D∉(u6 X scope L (D+1) j a H fp).fs:=λ z=>by
  obtain⟨_,o,c2,_⟩:=I4.ok.funs.mem z
  have:=k8 c2;have e:a.heap.objs.size=D:=b4;exact absurd this (by show ¬D<a.heap.objs.size;omega)
 have Y:codeAny JG X.A (.compLoop (.ListComp elt [⟨tg,a0,a3,0⟩] scope pos) 0 (.ref it) (.ref D) (compEnvC scope j (D+1) X.env)) (RR (.ref D) (D+1)) {a with heap:=h4}:=by
  refine yL (λ n P=>∃i O l k a5 A,Inv (u6 X scope L (D+1) j a H fp) [] a5 A P/\tn i P.heap/\(∀b∈fp,A b=none)/\A D=none /\
   P.heap.get? D=some {cls:=.type "list",data:=.seq (l:on Jl).toArray k} /\ Vals O l/\O.length<=sizeLine/\W i n O a5 A) ?_ m0
   ⟨0,[],[],_,_,H,I4,T.keep _ _ _ st λ b _ o e=>Z b o e,λ b s=>(f b s).1,I.hok.fresh JC,b6,.nil,E5 _,w0⟩
  rintro n s3 ⟨i,O,l,k,σ3,H3,I3,st3,fr3,hD3,oD3,rv,hl,w3⟩
  have b9:Inv (u6 X scope L (D+1) j a H fp) [(D,{cls:=.type "list",data:=.seq l.toArray k})] σ3 H3 s3:=I3.pins_of λ p N=>by
   have e:p=(D,{cls:=.type "list",data:=.seq l.toArray k}):=by simpa using N
   subst e;exact⟨oD3,hD3,b5,b3,λ v z=>by cases z⟩
  have Q:∀p∈[((D:Jn),({cls:=.type "list",data:=.seq l.toArray k}:Obj))],p.1=D:=λ p N=>by
   have e:p=(D,{cls:=.type "list",data:=.seq l.toArray k}):=by simpa using N
   subst e;rfl
  rcases a6 i n O σ3 H3 w3 with⟨a9,c8⟩ | ⟨go,hlt,step⟩
  ·refine thn (T.done (u6 X scope L (D+1) j a H fp) rfl rfl rfl hc i _ s3 σ3 H3 _ b9 (a4 fr3 Q) st3 a9) λ r s4 t0=>?_;obtain⟨hr,F⟩:=t0;subst hr;have oD:=(F.pin (D,_) (x9 _ o6)).1;have un:Un (frs X.stack) fp H H3 a.heap s4.heap:=F.base;have hn:a.heap.get? D=none:=aN (by rw[b4];exact i8 _);obtain⟨mC,c3,_⟩:=F.loc;refine c4 D (D+1) H3 s4 mC O (I.call' F.os (un.track hD3 hn) (F.hok.track hD3 ⟨hl,l,k,rv,oD⟩) F.bare λ b s=>?_) hD3 c3 ?_ ?_ ?_ (λ x c e=>?_) (λ p N=>?_) c8
   ·obtain⟨_,f1,f2,f3,f4,f5⟩:=f b s;exact⟨f3,f1,f4,f5⟩
   ·rw[m7 (show @Ne Nat (D+1) D by omega)];exact F.free
   ·have q:@LT.lt Nat _ X.env.locals a.heap.objs.size:=I.lt;show @Ne Nat (D+1) X.env.locals;omega
   ·have q:@LE.le Nat _ X.s₀.heap.objs.size a.heap.objs.size:=I.sz;show @LE.le Nat _ X.s₀.heap.objs.size (D+1);omega
   ·obtain⟨v,z⟩:=I.cell x c e;have q:@LT.lt Nat _ c a.heap.objs.size:=z.lt;show @Ne Nat c (D+1);omega
   ·have q:@LT.lt Nat _ p.1 a.heap.objs.size:=k8 (I.pin p N).1;show @Ne Nat p.1 (D+1);omega
  ·refine thn (T.item (u6 X scope L (D+1) j a H fp) rfl rfl rfl hc i _ s3 σ3 H3 _ b9 (a4 fr3 Q) st3 go) λ r s4 t0=>?_;obtain⟨u,hr,c6⟩:=t0;subst hr;refine thn c6 λ _ s5 t0=>?_;obtain⟨x,H5,I5,r5,y5,a2,c7⟩:=t0;have c9:=I5.pinned (a4 c7 Q) (T.obj _ _ a2);refine A9 (hg (D+1) j a H fp _ s5 σ3 H5 x u _ c9 r5 (step x H5 y5)) (λ _ s6 ⟨M,H6,I6,q6⟩=>?_) λ _ _ z=>z.elim;refine A9 (ht (D+1) j a H fp _ s6 M H6 _ I6 q6) (λ b s7 ⟨H7,I7,q7⟩=>?_) λ _ _ z=>z.elim;have b7:∀{A:Hp} {P:Jm},Inv (u6 X scope L (D+1) j a H fp) ([(D,{cls:=.type "list",data:=.seq l.toArray k})]++fF fp s5.heap) M A P->tn (i+1) P.heap/\(∀b∈fp,A b=none)/\P.heap.get? D=some {cls:=.type "list",data:=.seq l.toArray k} /\ A D=none:=λ {A P} J'=>by
    refine⟨T.keep _ _ _ a2 λ b s o e=>(J'.pin (b,o) (x9 _ (x9 _ (W4 s e)))).1,λ b s=>?_,?_,?_⟩
    ·obtain⟨o,e,d⟩:=T.obj _ _ a2 b s;exact(J'.pin (b,o) (x9 _ (x9 _ (W4 s e)))).2.1
    ·exact(J'.pin (D,_) (x9 _ (C6 _ o6))).1
    ·exact(J'.pin (D,_) (x9 _ (C6 _ o6))).2.1
   cases b with
   | false=>
    rw[g9 B7]at q7 ⊢;obtain⟨m',hm,w7⟩:=q7;obtain⟨k1,k2,k3,k4⟩:=b7 I7;exact⟨m',hm,i+1,O,l,k,M,H7,I7.pins_of (λ p N=>(nomatch N)),k1,k2,k4,k3,rv,hl,w7⟩
   | true=>
    rw[f8 rfl]at q7 ⊢;refine A9 (he (D+1) j a H fp _ s7 M H7 _ I7 q7) (λ y s8 ⟨v8,H8,I8,r8,q8⟩=>?_) λ _ _ z=>z.elim
    obtain⟨m',hm,w8⟩:=q8;obtain⟨k1,k2,k3,k4⟩:=b7 I8;have b2:l.length<=sizeLine:=by rw[←rv.length];exact hl
    refine append_at k3 (λ h9 b1 c5=>?_) (by rw[t7];exact b2);have I9:Inv (u6 X scope L (D+1) j a H fp) [] M H8 s8:=I8.pins_of λ p N=>(nomatch N);refine⟨m',hm,i+1,O++[v8],l++[y],k+1,M,H8,I9.turned (it:=D) (t':=s8.toks) (λ b o s e=>(b1.2 b s).trans e) k4 b5 (.inr (by show a.heap.objs.size<=D;omega)) U (λ p N=>(nomatch N)),?_,k2,k4,?_,rv.snoc r8,?_,w8⟩
    ·exact T.keep _ _ _ k1 λ b s o e=>(b1.2 b (by have q:@LT.lt Nat _ b D:=ho b s;show @Ne Nat b D;omega)).trans e
    ·rw[c5,List.push_toArray]
    ·rw[x4,iA];omega
 exact codeAny_compStart_list Y (T.self X.A 0 _ _ _ (T.keep _ _ _ st λ b _ o e=>Z b o e) Y)
def jO(fr:on (Jk Nat))(wi:TI)(g:TG)(tc:TT)(te:TE):TE:=λ σ H Q=>wi σ H λ J H1=>jN J g tc te (λ ys H'=>∀p,H' p=none->Q (.ref p) (upd H' p (.lst ys))) (inner fr σ) H1
def pE{K:TT}(S:CompScope X.N k scope X.env.scope fr)(hc:X.calm=true)(Y:PI X tg f E)
  (Z:∀C a c d fp,PG (u6 X scope k C a c d fp) tg g) (P:∀C a c d fp,PTs (u6 X scope k C a c d fp) j K) (he:∀C a c d fp,PE (u6 X scope k C a c d fp) elt F)
  (R:∀x,foldedSetIterable f X.env x=pure x:=by intro _;rfl):PE X (.ListComp elt [⟨tg,f,j,0⟩] scope pos) (jO fr E g K F):=by
 intro i s L H Q I h;rw[eval_ListComp];refine nv rfl R (fI (λ y N W=>I.ok.has y.1 (S.out y N W))) S.kind (λ x O U=>V0 S.snd (by rw[←U];exact O)) (thn (Y i s L H _ I h) λ v s1 h1=>thn h1 λ M s2 h2=>?_);obtain⟨it,fp,tn,J,H2,e,I2,T,l,f2,w⟩:=h2;subst e;refine pD S hc Z P he I2 T l f2 w ?_;intro D C H' s' m ys I' hD p u A q z r B;exact⟨m,p,λ h' n=>⟨.ref D,_,I'.turned (λ b o hb e=>(n.2 b hb).trans e) u A (.inr q) z r,rfl,B D hD⟩⟩
def yO(S:CompScope X.N u scope X.env.scope fr)(hc:X.calm=true)(hN:X.N.Nodup)(L:X.N[i]? = some y)
  (r:X.env.scope.names.lookup y=some .local) (hi:PI X tg j R)
  (hg:∀C c d f fp,PG (u6 X scope u C c d f fp) tg g) (ht:∀C c d f fp,PTs (u6 X scope u C c d f fp) l W) (he:∀C c d f fp,PE (u6 X scope u C c d f fp) elt U)
  (B:swapsWith (.ListComp elt [⟨tg,j,l,0⟩] scope pos) (some (.Name y Y)) k.line X.env=pure true:=by rfl)
  (hs:∀x,foldedSetIterable j X.env x=pure x:=by intro _;rfl):PS X (.Assign [.Name y Y] (.ListComp elt [⟨tg,j,l,0⟩] scope pos) k) (tAsg (jO fr R g W U) (cT i)):=by
 intro n s Z H Dn I h;rw[exec_Assign_Name_used _ _ _ _ B];refine f0 (fg (f0 ?_));show wpAny _ _ _ _ _ s;refine f0 (A9 (nv rfl hs (fI (λ y r hk=>I.ok.has y.1 (S.out y r hk))) S.kind (λ x hx hl=>V0 S.snd (by rw[←hl];exact hx))
  (thn (hi n s Z H _ I h) λ v s1 h1=>thn h1 λ itv s2 h2=>?_)) (λ _ s' hq=>g7 (g7 hq)) λ _ _ e=>e)
 obtain⟨it,fp,tn,J,H2,e,I2,T,A,f2,w⟩:=h2;subst e;refine pD S hc hg ht he I2 T A f2 w ?_;intro D C H' s' m ys I' hD K O q M p N P;refine wpAny_assign_Name (nU (v:=.ref D) I' hN L (Or.inl r) rfl (λ s'' Q ⟨a,E,ha⟩=>⟨m,K.sameBut E ?_,λ h' F=>⟨_,_,Q.turned (λ b o hb e=>(F.2 b hb).trans e) O q (.inr M) p N,P D hD⟩⟩) (.inr r));rcases ha with z | z
 ·rw[z];exact q
 ·exact Ne.symm (p y a z)
abbrev cxD(P:Js)(w:Jr)(K:Jw)(mg:Str->Jk Jl)(base:Jo)(N:on Str)(qual:Str)(scope:Jx)(f:Jn)(cd:Jl)(A:Ju)(outer:on Env)(s:Jm)(H:Hp):Cx:=cxOf CX0 P w K mg base N qual scope f cd A outer s H E0
theorem Inv.track(I:JI pins)(f:H a=none)(k:X.s₀.heap.get? a=none)(j:a≠X.env.locals)(i:∀x c,X.env.cells.lookup x=some c->c≠a)(h:∀p∈X.pn++pins,p.1≠a)(new:u9 X.prog X.w (upd H a o) s.heap a o) :
  Inv X pins σ (upd H a o) s:=
 ⟨I.ok,I.os,I.bare,I.base.track f k,I.loc,I.cell,by rw[m7 j.symm];exact I.free,λ x c e=>by rw[m7 (i x c e)];exact I.freeC x c e,λ p b=>by
  obtain⟨e,n,ne,g,d⟩:=I.pin p b;exact⟨e,by rwa [m7 (h p b)],ne,g,d⟩,I.hok.track f new,I.len⟩
structure Src(P:Program)(w:World)(ia la:Addr)(vs:Array Value)(S:Nat->Heap->Prop):Prop where
 keep:∀k h h',S k h->(∀o,h.get? ia=some o->h'.get? ia=some o)->(∀o,h.get? la=some o->h'.get? la=some o)->S k h'
 there:∀k h,S k h->∃o xs,h.get? ia=some o/\o.data=.fields xs
 step:∀{A:Around} {E:Value->Shared->Prop} {s:Shared} {Q:Value->Shared->Prop} (k:Nat) (x:Value),S k s.heap->vs[k]? = some x->(∀h',S (k+1) h'->Heap.SameBut ia s.heap h'->Q x {s with heap:=h'}) ->
  wpAny (model P w) A (Builtin.SmallTypes.nextOf (.ref ia)) Q E s
 stop:∀{A:Around} {E:Value->Shared->Prop} {s:Shared} {Q:Value->Shared->Prop} (k:Nat),A.handled=none->S k s.heap->vs[k]? = none ->
  (∀h' e,Heap.ExtBut ia s.heap h'->(∃o,h'.get? e=some o/\o.cls=.type "StopIteration")->E (.ref e) {s with heap:=h'})->wpAny (model P w) A (Builtin.SmallTypes.nextOf (.ref ia)) Q E s
noncomputable def sL(ia la:Jn)(vs:Jq Jl):Nat->Jo->Prop:=λ k h=>h.IsListIter ia la k/\h.IsList la vs
noncomputable def sT(ia la:Jn)(vs:Jq Jl):Nat->Jo->Prop:=λ k h=>h.IsTupleIter ia la k/\h.IsTuple la vs
def yP(ne:a≠b):Src P w b a vs (sL b a vs) where
 keep:=λ k h i ⟨p,q⟩ n m=>⟨p.at n,q.at m⟩
 there:=λ k h ⟨p,q⟩=>by obtain⟨o,e,_,d⟩:=p;exact⟨o,_,e,d⟩
 step:=λ k x ⟨p,q⟩ c f=>wpAny_nextOf_list_item p q c λ i j g=>f i ⟨j,q.extBut g.extBut ne⟩ g
 stop:=λ k l ⟨p,q⟩ c f=>wpAny_nextOf_list_end l p q c f
def yQ(p:s.heap.IsTupleIter b a k)(q:s.heap.IsTuple a vs)(f:vs[k]? = some x)(g:∀e,e.IsTupleIter b a (k+1)->Heap.SameBut b s.heap e->Q x {s with heap:=e}) :
  wpAny (model P w) A (Builtin.SmallTypes.nextOf (.ref b)) Q E s:=by
 obtain⟨ob,d,j,c⟩:=id p;obtain⟨ot,i,_,nn,h⟩:=q;unfold Builtin.SmallTypes.nextOf;refine f0 (Q6 p.typeIs eE (G7 eE p.typeIs mY ?_ (mX _)));show wpAny _ _ (field (.ref b) 0 >>= _) _ _ s;refine f0 (G2 d c (x:=.ref a) rfl ?_);show wpAny _ _ _ _ _ s;rw[g9 (show ¬((Value.ref a==Value.none)=true)from B7)];show wpAny _ _ (field (.ref b) 1 >>= _) _ _ s;refine f0 (G2 d c (x:=.int k 0) rfl ?_);show wpAny _ _ (seqItems? (.ref a) >>= _) _ _ s;refine f0 (ag i h ?_);simp only[D3,f];refine f0 (W3 d c JK (g7 ⟨x,rfl,g7 (g _ ?_ (M2 ..))⟩));exact⟨_,Z9 _ d (iB (aR c _)),(iM ..).trans j,by rw[aR c];simp[rawInt]⟩
def yR(g:A.handled=none)(p:s.heap.IsTupleIter b a k)(q:s.heap.IsTuple a vs)(h:vs[k]? = none)(i:∀c e,Heap.ExtBut b s.heap c->(∃o,c.get? e=some o/\o.cls=.type "StopIteration")->E (.ref e) {s with heap:=c}) :
  wpAny (model P w) A (Builtin.SmallTypes.nextOf (.ref b)) Q E s:=by
 obtain⟨ob,f,e2,d⟩:=id p;obtain⟨ot,l,_,nn,j⟩:=q;unfold Builtin.SmallTypes.nextOf;refine f0 (Q6 p.typeIs eE (G7 eE p.typeIs mY ?_ (mX _)));show wpAny _ _ (field _ 0 >>= _) _ _ s;refine f0 (G2 f d (x:=.ref a) rfl ?_);show wpAny _ _ _ _ _ s;rw[g9 (show ¬((Value.ref a==Value.none)=true)from B7)];show wpAny _ _ _ _ _ s;refine f0 (G2 f d rfl ?_);show wpAny _ _ _ _ _ s;refine f0 (ag l j ?_);simp only[D3,h];refine f0 (cN (f0 (W3 f d JK ?_)));show wpAny _ _ _ _ _ _;refine f0 ?_;simp only[newExc,newTuple];refine f0 (E3 ?_ (by size_fits));refine f0 (aZ (by first | rfl | (simp only[firstArgMember];rfl)) ?_);refine E3 ?_ (by size_fits);refine f0 (jf ?_)
 first | rw[show A.in1.handled=none from g] | rw[g]
 refine f0 (g7 (wpAny_throw (i _ _ (((M2 ..).extBut.push _).push _) ⟨_,q5 _ rfl,rfl⟩)))
def yT(ne:a≠b):Src P w b a vs (sT b a vs) where
 keep:=λ k h i ⟨p,q⟩ n m=>⟨by obtain⟨o,e,r⟩:=p;exact⟨o,n o e,r⟩,by obtain⟨o,e,r⟩:=q;exact⟨o,m o e,r⟩⟩
 there:=λ k h ⟨p,q⟩=>by obtain⟨o,e,_,d⟩:=p;exact⟨o,_,e,d⟩
 step:=λ k x ⟨p,q⟩ c f=>yQ p q c λ i j g=>f i ⟨j,q.extBut g.extBut ne⟩ g
 stop:=λ k l ⟨p,q⟩ c f=>yR l p q c f
def Src.ext{P:Js}{w:Jr}{k:Nat}{ia la:Jn}{vs:Jq Jl}{S:Nat->Jo->Prop}{h h':Jo}{e:Jn}(R:Src P w ia la vs S)(q:S k h)(hs:Heap.ExtBut e h h')(n1:ia≠e)(n2:la≠e):S k h':=R.keep k h h' q (λ o z=>hs _ _ n1 z) (λ o z=>hs _ _ n2 z)
def SqK(t:Bool)(h:Jo)(l:Jn)(vs:Jq Jl):Prop:=match t with | false=>h.IsList l vs | true=>h.IsTuple l vs
def sK(t:Bool)(ia la:Jn)(vs:Jq Jl):Nat->Jo->Prop:=match t with | false=>sL ia la vs | true=>sT ia la vs
def pF(t:Bool)(ne:a≠b):Src P w b a vs (sK t b a vs):=by
 cases t
 ·exact yP ne
 ·exact yT ne
noncomputable def itN:Bool->JB | false=>"list_iterator" | true=>"tuple_iterator"
abbrev itO(t:Bool)(l:Jn):Obj:={cls:=.type (itN t),data:=.fields #[.ref l,.int 0 0]}
abbrev zH1(h:Jo)(t1:Bool)(l1:Jn):Jo:=h.push (itO t1 l1)
def yU{t:Bool}{ia la:Jn}{vs:Jq Jl}{h h':Jo}(e:h'.get? ia=some (itO t la))(q:SqK t h la vs)(k:∀c o,h.get? c=some o->h'.get? c=some o):sK t ia la vs 0 h':=by
 cases t
 ·exact⟨⟨_,e,rfl,rfl⟩,Heap.IsList.at q λ o z=>k _ o z⟩
 ·exact⟨⟨_,e,rfl,rfl⟩,by obtain⟨o,z,r⟩:=q;exact⟨o,k _ o z,r⟩⟩
set_option genInjectivity true in
inductive DKey where
 | i (n:Int) | s (x:Str) | t (l:List (Sum Int Str))
 deriving DecidableEq
inductive Bi where
 | len | min | max | sum | sset | tuple | list | sorted
 deriving DecidableEq
inductive Mt where
 | bitLength | index | get
 deriving DecidableEq
inductive Tg where
 | one (i:Nat) | many (is:List Nat)
inductive ME where
  | var (i:Nat) | int (i:Int) | bl (b:Bool) | str (x:Str) | non | glb (x:Str)
  | bin (op:Operator) (a b:ME)   | not (a:ME)
  | cmp (op:CmpOp) (a b:ME) | chain (op op':CmpOp) (a b c:ME)
  | and (es:List ME) | or (es:List ME)
  | lst (es:List ME) | tup (es:List ME)
  | ix (a b:ME) | sl (a lo hi:ME) | slf (a lo:ME) | rev (a:ME) | ite (c a b:ME)
   | call (f:Nat) (es:List ME)    | bi (f:Bi) (es:List ME) | isi (a:ME) (ts:List Str) | meth (m:Mt) (a:ME) (es:List ME)
  | comp (elt:ME) (tg:Tg) (it:ME) (fr:List (Option Nat)) | compi (elt:ME) (tg:Tg) (it c:ME) (fr:List (Option Nat))
   | dix (a k:ME)
  | maxk (a:ME) (N:List Str) (np:Nat) (lb:ME) (fr:List Nat) | self (np nc:Nat) (es:List ME)
  | rng (es:List ME) | enu (a:ME)  | itm (a:ME)
structure LamD where
 N:List Str
 np:Nat
 body:ME
 fn:List Str
 bl:List Str
 cl:List Str
set_option genInjectivity true in
inductive DV where
 | non | bl (b:Bool) | int (i:Int) | str (x:Str) | tup (ds:List DV) | lst (ds:List DV) | dct (ks:List DKey) (vs:List DV) | dcl (ks:List DKey) (vs:List DV)
 | fn (x:Str)
 | lam (m:LamD) (ds:List DV)
 | scr (ns:List Int)
inductive Cl where
 | weak | top | strong | fresh
 deriving DecidableEq
set_option genInjectivity true in
inductive Re where
 | ok (d:DV) (c:Cl)
inductive Rs where
 | ok (l:List (DV×Cl))
inductive Rt where
 | ok (b:Bool)
inductive Sv where
 | no | val (d:DV) | own (d:DV)
 | od (d:DV)
inductive Ou where
 | v (d:DV) (fr:Bool)
inductive Out where
 | nx (δ:List Sv) | rt (d:DV) (fr:Bool)
inductive MS where
 | set (i:Nat) (own:Bool) (e:ME)
 | app (i:Nat) (e:ME) | ext (i:Nat) (e:ME) | seti (i:Nat) (k e:ME) | augi (i:Nat) (k e:ME) | clr (i:Nat)
 | exp (e:ME) | ret (e:ME)  | iff (c:ME) (a b:List MS) | fo (tg:Tg) (it:ME) (body:List MS) | wh (c:ME) (body:List MS)
  | retd (i:Nat)
 | sep (i:Nat) | dpp (i:Nat) (ks:List ME) (e:ME) | dpv (i:Nat) (a:ME) (h:Nat) (e:ME)
 | unk | rse (c:Str) (e:ME) | rfs (b:List MS)  | aug (i:Nat) (e:ME) | frz (i:Nat)
 | dfr (i:Nat) (fr:List Nat) (a:ME) (es:List ME)
structure CloD where
 N:List Str
 np:Nat
 nc:Nat
 body:List MS
structure FD where
 n:Nat
 np:Nat
 clo:Option CloD:=none
 body:List MS
noncomputable def Re.thn(r:Jk Re)(k:DV->Cl->Jk Re):Jk Re:=match r with
 | none=>none
 | some (.ok d c)=>k d c
def Rs.thn(r:Jk Rs)(k:on (DV×Cl)->Jk Re):Jk Re:=match r with
 | none=>none
 | some (.ok l)=>k l
def Rt.thn(r:Jk Rt)(k:Bool->Jk Re):Jk Re:=match r with
 | none=>none
 | some (.ok b)=>k b
noncomputable def Re.thnT(r:Jk Re)(k:DV->Cl->Jk Rt):Jk Rt:=match r with
 | none=>none
 | some (.ok d c)=>k d c
mutual
noncomputable def DV.immut:DV->Bool
 | .non=>true | .bl _=>true | .int _=>true | .str _=>true | .fn _=>true | .scr _=>true
 | .tup ds=>DV.immuts ds
 | .lst _=>false
 | .lam _ _=>false
 | .dcl _ _=>false
 | .dct _ vs=>DV.immuts vs
noncomputable def DV.immuts:on DV->Bool
 | []=>true
 | d::r=>d.immut&&DV.immuts r
end
mutual
noncomputable def DV.nolam:DV->Bool
 | .lam _ _=>false
 | .tup ds=>DV.nolams ds
 | .lst ds=>DV.nolams ds
 | .dct _ vs=>DV.nolams vs
 | .dcl _ _=>false
 | _=>true
noncomputable def DV.nolams:on DV->Bool
 | []=>true
 | d::r=>d.nolam&&DV.nolams r
end
def stro(d:DV):Cl->Bool
 | .strong=>true | .fresh=>true | _=>d.immut
def stros(l:on (DV×Cl)):Bool:=l.all λ p=>stro p.1 p.2
def Cl.item:Cl->Cl
 | .weak=>.weak | _=>.strong
noncomputable def Cl.anew:Cl->Cl->Cl
 | .weak,_=>.weak | _,.weak=>.weak | _,_=>.fresh
def Cl.notF:Cl->Cl
 | .fresh=>.strong | c=>c
def n5:Nat:=1000000
mutual
noncomputable def deq:DV->DV->Bool
 | .non,.non=>true
 | .bl a,.bl b=>a==b
 | .bl a,.int j=>(if a then 1 else 0)==j
 | .int i,.bl b=>i==(if b then 1 else 0)
 | .int i,.int j=>i==j
 | .str a,.str b=>decide (a=b)
 | .tup a,.tup b=>deqs a b
 | .lst a,.lst b=>deqs a b
 | _,_=>false
noncomputable def deqs:on DV->on DV->Bool
 | [],[]=>true
 | a::r,b::s=>deq a b&&deqs r s
 | _,_=>false
end
mutual
noncomputable def DV.plain:Nat->DV->Bool
 | _,.non=>true | _,.bl _=>true | _,.int _=>true
 | _,.str x=>x.cps.all (· < 0x110000)
 | 0,_=>false
 | n+1,.tup ds=>DV.plains n ds | n+1,.lst ds=>DV.plains n ds
 | _,_=>false
noncomputable def DV.plains:Nat->on DV->Bool
 | _,[]=>true
 | n,d::r=>d.plain n&&DV.plains n r
end
noncomputable def L3:DV->Jk Bool
 | .non=>some false
 | .bl b=>some b
 | .int i=>some (i != 0)
 | .str x=>some (x.cps.size != 0)
 | .tup ds=>some (!ds.isEmpty)
 | .lst ds=>some (!ds.isEmpty)
 | _=>none
noncomputable def D7(n:Nat)(i:Int):Jk Nat:=if 0<=i then(if i<n then some i.toNat else none)else if -(n:Int)<=i then some (i+n).toNat else none
def atD(ds:on DV)(i:Int):Jk DV:=(D7 ds.length i).bind λ j=>ds[j]?
noncomputable def W5(k:DKey):on DKey->on DV->Jk DV
 | k'::ks,v::vs=>if k'=k then some v else W5 k ks vs
 | _,_=>none
noncomputable def putD(k:DKey)(d:DV)(ks:on DKey)(vs:on DV):on DKey×on DV:=
 if k∈ks then(ks,(ks.zip vs).map λ p=>if p.1=k then d else p.2)else(ks++[k],vs++[d])
def ixD(a b:DV):Jk DV:=match a,b with
 | .scr ns,.int i=>((D7 ns.length i).bind λ j=>ns[j]?).map DV.int
 | .lst ds,.int i=>atD ds i
 | .tup ds,.int i=>atD ds i
 | _,_=>none
noncomputable def slIx(n d:Nat):Jk Int->Nat
 | none=>d
 | some v=>if v<0 then(v+(n:Int)).toNat else min v.toNat n
def cutD(ds:on DV)(lo hi:Jk Int):on DV:=(ds.drop (slIx ds.length 0 lo)).take (slIx ds.length ds.length hi - slIx ds.length 0 lo)
def slD(a:DV)(lo hi:Jk Int):Jk DV:=match a with
 | .scr ns=>some (.lst (cutD (ns.map DV.int) lo hi))
 | .lst ds=>some (.lst (cutD ds lo hi))
 | .tup ds=>if slIx ds.length 0 lo=0/\slIx ds.length ds.length hi=ds.length then none else some (.tup (cutD ds lo hi))
 | _=>none
def slCl(a:DV)(c:Cl):Cl:=match a with
 | .scr _=>.fresh
 | .lst _=>Cl.anew c c
 | _=>c.item
noncomputable def Q0(i j:Int):Bool:=(decide (-(2^64)<i)&&decide (i<2^64))||(decide (-(2^64)<j)&&decide (j<2^64))||(decide (i.natAbs<2^2000)&&decide (j.natAbs<2^2000))
def asI:DV->Jk Int
 | .int i=>some i
 | _=>none
def asL:DV->Jk (on DV)
 | .lst i=>some i
 | _=>none
noncomputable def asTp:DV->Jk (on DV)
 | .tup i=>some i
 | _=>none
def binD(op:Operator)(a b:DV)(ca cb:Cl):Jk Re:=match op with
 | .Add=>match a with
  | .int i=>(asI b).bind λ j=>some (.ok (JP (i+j)) .strong)
  | .lst x=>(asL b).bind λ y=>if x.length+y.length<=n5 then some (.ok (.lst (x++y)) (Cl.anew ca cb))else none
  | .tup x=>(asTp b).bind λ y=>if x.length+y.length<=n5/\x≠[]then some (.ok (.tup (x++y)) (Cl.anew ca cb).notF)else none
  | _=>none
 | .Sub=>(asI a).bind λ i=>(asI b).bind λ j=>some (.ok (JP (i - j)) .strong)
 | .Mult=>match a with
  | .int i=>(asI b).bind λ j=>if Q0 i j then some (.ok (JP (i*j)) .strong)else none
  | .lst x=>(asI b).bind λ k=>if x.length*k.toNat<=n5 /\ -(2^63)<=k/\k<2^63 then some (.ok (.lst (List.replicate k.toNat x).flatten) (Cl.anew ca ca))else none
  | _=>none
 | .Mod=>(asI a).bind λ i=>(asI b).bind λ j=>if 0<j then some (.ok (JP (i%j)) .strong)else none
 | .FloorDiv=>(asI a).bind λ i=>(asI b).bind λ j=>if 0<j/\j<2^200 then some (.ok (JP (i/j)) .strong)else none
 | .LShift=>(asI a).bind λ i=>(asI b).bind λ j=>if 0<=j/\j<=1000000/\i.natAbs<2^64 then some (.ok (JP (i*2^j.toNat)) .strong)else none
 | .RShift=>(asI a).bind λ i=>(asI b).bind λ j=>if 0<=j then some (.ok (JP (i/2^j.toNat)) .strong)else none
 | .Pow=>(asI a).bind λ i=>(asI b).bind λ j=>if 2<=i/\i<64/\1<=j/\j<64 then some (.ok (JP (i^j.toNat)) .strong)else none
 | .BitAnd=>(asI a).bind λ i=>(asI b).bind λ j=>some (.ok (JP (Builtin.bitAnd i j)) .strong)
 | _=>none
def isN:DV->Bool
 | .non=>true
 | _=>false
noncomputable def ints?:on DV->Jk (on Int)
 | []=>some []
 | .int i::r=>(ints? r).map (i :: ·)
 | _=>none
def kP(k:on Int):on (Sum Int Str):=k.map Sum.inl
def keyI(y:DV):Jk (on Int):=(asTp y).bind ints?
def cmpD(op:CmpOp)(a b:DV):Jk Bool:=match op with
 | .Lt=>(asI a).bind λ i=>(asI b).bind λ j=>some (decide (i<j))
 | .LtE=>(asI a).bind λ i=>(asI b).bind λ j=>some (decide (i<=j))
 | .Gt=>(asI a).bind λ i=>(asI b).bind λ j=>some (decide (j<i))
 | .Eq=>if a.plain 60&&b.plain 60 then some (deq a b)else none
 | .NotEq=>if a.plain 60&&b.plain 60 then some (!deq a b)else none
 | .Is=>match b with
  | .non=>some (isN a)
  | _=>none
 | .NotIn=>match b with
  | .tup ds=>if a.plain 60&&DV.plains 60 ds then some (!ds.any λ d=>deq d a)else none
  | .dcl ks _=>(keyI a).map λ k=>!decide (DKey.t (kP k)∈ks)
  | _=>none
 | _=>none
noncomputable def maxI:Int->on Int->Int
 | m,[]=>m
 | m,x::r=>maxI (if m<x then x else m) r
noncomputable def insI(x:Int):on Int->on Int
 | []=>[x]
 | y::r=>if x<y then x::y::r else y::insI x r
def L4:on Int->on Int
 | []=>[]
 | x::r=>insI x (L4 r)
noncomputable def dk(σ:on Int)(k:Int):on Int:=if k∈σ then σ else σ++[k]
noncomputable def bp(i:Int):Int:=if i=0 then 0 else(i.natAbs.log2:Int)+1
noncomputable def lenD:on (DV×Cl)->Jk Re
 | [(.lst ds,_)]=>some (.ok (JP ds.length) .strong)
 | [(.tup ds,_)]=>some (.ok (JP ds.length) .strong)
 | [(.scr ns,_)]=>some (.ok (JP ns.length) .strong)
 | _=>none
noncomputable def ltT(p q:Int×Int×Int):Bool:=decide (p.1<q.1)||(p.1==q.1&&(decide (p.2.1<q.2.1)||(p.2.1==q.2.1&&decide (p.2.2<q.2.2))))
noncomputable def minD:on (DV×Cl)->Jk Re
 | [(.int i,_),(.int j,_)]=>some (.ok (JP (if j<i then j else i)) .strong)
 | _=>none
noncomputable def quads?:on DV->Jk (on (Int×Int×Int×Int))
 | []=>some []
 | .tup [.int a,.int b,.int c,.int d]::r=>(quads? r).map ((a,b,c,d) :: ·)
 | _=>none
def ltQ(p q:Int×Int×Int×Int):Bool:=decide (p.1<q.1)||(p.1==q.1&&ltT p.2 q.2)
def Q2:on (Int×Int×Int×Int)->Bool
 | p::q::r=>ltQ p q&&Q2 (q::r)
 | _=>true
def jP:on (DV×Cl)->Jk Re
 | [(.lst ds,c)]=>match quads? ds with
  | some ps=>if Q2 ps=true/\ps.length<=2000 then some (.ok (.lst ds) (Cl.anew c c))else none
  | none=>none
 | _=>none
def maxD:on (DV×Cl)->Jk Re
 | [(.int i,_),(.int j,_)]=>some (.ok (JP (if j>i then j else i)) .strong)
 | [(.lst ds,_)]=>match ints? ds with
  | some (n::r)=>some (.ok (JP (maxI n r)) .strong)
  | _=>none
 | _=>none
def fM:on (DV×Cl)->Jk Re
 | [(.lst ds,_)]=>match ints? ds with
  | some ns=>if ns.length<4000/\(ns.foldl dk []).length<64 then some (.ok (.lst ((L4 (ns.foldl dk [])).map DV.int)) .fresh)else none
  | none=>none
 | _=>none
def sumD:on (DV×Cl)->Jk Re
 | [(.lst ds,_)]=>(ints? ds).map λ ns=>.ok (JP ns.sum) .strong
 | _=>none
def jQ:on (DV×Cl)->Jk Re
 | [(.scr ns,_)]=>some (.ok (.lst (ns.map DV.int)) .fresh)
 | [(.lst ds,c)]=>some (.ok (.lst ds) (Cl.anew c c))
 | [(.tup ds,c)]=>some (.ok (.lst ds) (Cl.anew c c))
 | _=>none
noncomputable def jR:on (DV×Cl)->Jk Re
 | [(.lst ds,c)]=>some (.ok (.tup ds) c.item)
 | [(.tup ds,c)]=>some (.ok (.tup ds) c)
 | _=>none
def biD(f:Bi)(l:on (DV×Cl)):Jk Re:=match f with
 | .len=>lenD l
 | .min=>minD l
 | .max=>maxD l
 | .tuple=>jR l
 | .list=>jQ l
 | .sorted=>jP l
 | .sset=>fM l
 | .sum=>sumD l
noncomputable def biOk:Bi->Bool
 | .len=>true | .min=>true | .max=>true | .tuple=>true | .list=>true | .sorted=>true | .sset=>true | .sum=>true
def mtD(m:Mt)(a:DV):Jk Re:=match m,a with
 | .bitLength,.int i=>some (.ok (JP (bp i)) .strong)
 | _,_=>none
structure Gs where
 con:List (Str×DV)
 fnl:List Str:=[]
 bll:List Str:=[]
 cll:List Str:=[]
 clo:Option CloD:=none
noncomputable def tyOf:DV->on Str
 | .non=>["NoneType"]
 | .bl _=>["bool","int"]
 | .int _=>["int"]
 | .str _=>["str"]
 | .tup _=>["tuple"]
 | .lst _=>["list"]
 | .dct _ _=>["dict"]
 | _=>[]
noncomputable def W6:on Str:=["int","bool","str","list","tuple","dict"]
def isiD(G:Gs)(d:DV)(ts:on Str):Jk Bool:=match d with
 | .scr _=>none
 | .fn _=>none
 | .lam _ _=>none
 | .dcl _ _=>none
 | d=>match ts with
  | [t]=>if W6.contains t then some ((tyOf d).contains t)else none
  | _=>none
noncomputable def upTo(lo:Int)(n:Nat):on DV:=(JS n).map λ (i:Nat)=>DV.int (lo+i)
noncomputable def J0(i:Int):Bool:=decide (-(2^62)<=i)&&decide (i<2^62)
def rngD(l:on (DV×Cl)):Jk (on DV):=match l with
 | [(.int j,_)]=>if J0 j&&decide (j<=n5)then some (upTo 0 j.toNat)else none
 | [(.int i,_),(.int j,_)]=>if J0 i&&J0 j&&decide (j - i<=n5)then some (upTo i (j - i).toNat)else none
 | _=>none
noncomputable def enuD:Nat->on DV->on DV
 | _,[]=>[]
 | k,d::r=>.tup [.int k,d]::enuD (k+1) r
def Cl.meet:Cl->Cl->Cl
 | .weak,_=>.weak | _,.weak=>.weak | .top,_=>.top | _,.top=>.top | _,_=>.strong
noncomputable def aq:DV->Jk (Bool×on DV)
 | .lst ds=>some (false,ds)
 | .tup ds=>some (true,ds)
 | _=>none
def fN(x:DV)(c:Cl):Jk Re:=match aq x with
 | some (_,xs)=>some (.ok (.lst (enuD 0 xs)) (Cl.meet c c))
 | _=>none
noncomputable def unP:on (Sum Int Str)->Jk (on Int)
 | []=>some []
 | .inl a::r=>(unP r).map (a :: ·)
 | _=>none
def kvp?:on DKey->on DV->Jk (on (on Int×Int))
 | [],[]=>some []
 | .t l::ks,.int v::vs=>(unP l).bind λ k=>(kvp? ks vs).map ((k,v) :: ·)
 | _,_=>none
def itmD(x:DV)(c:Cl):Jk Re:=match x with
 | .dct ks vs=>if c=.strong/\ks.isEmpty=false then(kvp? ks vs).map (λ l=>.ok (.lst (l.map λ p=>.tup [.tup (p.1.map .int),.int p.2])) .strong)else none
 | _=>none
noncomputable def asDc:DV->Jk (on DKey×on DV)
 | .dct ks vs=>some (ks,vs)
 | .dcl ks vs=>some (ks,vs)
 | _=>none
def dixD(x y:DV):Jk Re:=(asDc x).bind λ p=>(keyI y).bind λ k=>(W5 (.t (kP k)) p.1 p.2).bind λ d=>(asI d).bind λ v=>some (JR (.int v))
noncomputable def asOd:Jk Sv->Jk (on DKey×on DV)
 | some (.od (.dcl ks vs))=>some (ks,vs)
 | _=>none
def dppD(i:Nat)(δ:on Sv)(p:on DKey×on DV)(l:on (DV×Cl))(d:DV):Jk (on Sv):=(ints? (l.map (·.1))).bind λ k=>(asI d).bind λ z=>if p.1.length<n5/\k.length<=3 then some (δ.set i (.od (.dcl (putD (.t (kP k)) (.int z) p.1 p.2).1 (putD (.t (kP k)) (.int z) p.1 p.2).2)))else none
noncomputable def seqD:DV->Jk (on DV)
 | .scr ns=>some (ns.map DV.int)
 | .lst ds=>some ds
 | .tup ds=>some ds
 | _=>none
noncomputable def bq(δ:on Sv):on Nat->on DV->Jk (on Sv)
 | [],[]=>some δ
 | i::is,d::ds=>bq (δ.set i (.val d)) is ds
 | _,_=>none
def Tg.bind(tg:Tg)(d:DV)(δ:on Sv):Jk (on Sv):=match tg with
 | .one i=>some (δ.set i (.val d))
 | .many is=>match d with
  | .tup ds=>bq δ is ds
  | _=>none
noncomputable def A6(fr:on (Jk Nat))(δ:on Sv):on Sv:=fr.map λ o=>match o with
 | some i=>δ.getD i .no
 | none=>.no
inductive Rc where
 | skip | item (d:DV)
noncomputable def w4(g:DV->Jk Rc):on DV->Jk (on DV)
 | []=>some []
 | d::r=>match g d with
  | none=>none
  | some .skip=>w4 g r
  | some (.item x)=>match w4 g r with
   | none=>none
   | some xs=>some (x::xs)
noncomputable def W7(r:Jk (on DV)):Jk Re:=match r with
 | none=>none
 | some xs=>some (.ok (.lst xs) .fresh)
noncomputable def fO(r:Jk (on DV)):Jk Re:=match r with
 | none=>none
 | some xs=>some (.ok (.lst xs) .weak)
def Rc.of(r:Jk Re):Jk Rc:=match r with
 | some (.ok d c)=>if stro d c then some (.item d)else none
 | _=>none
noncomputable def Rc.test(t:Jk Rt)(r:Jk Rc):Jk Rc:=match t with
 | some (.ok true)=>r
 | some (.ok false)=>some .skip
 | _=>none
inductive Ri where
 | ok (ds:List DV) (c:Cl)
def Ri.thn(r:Jk Ri)(k:on DV->Cl->Jk Re):Jk Re:=match r with
 | none=>none
 | some (.ok ds c)=>k ds c
noncomputable def Re.thnI(r:Jk Re)(k:DV->Cl->Jk Ri):Jk Ri:=match r with
 | none=>none
 | some (.ok d c)=>k d c
def yV(d:DV)(c:Cl):Jk Ri:=(seqD d).map λ ds=>.ok ds c
def imL:DV->Bool
 | .lst ds=>DV.immuts ds
 | _=>false
def V1(F:Nat->on DV->Jk Ou)(f:Nat)(l:on (DV×Cl)):Jk Re:=match F f (l.map (·.1))with
 | none=>none
 | some (.v d fr)=>some (.ok d (if l.all λ p=>p.2 == .strong||p.2 == .fresh then(if fr then .fresh else .strong)else if fr&&imL d then .fresh else .weak))
def G3:Nat:=1001
def capD(δ:on Sv):on Nat->Jk (on DV)
 | []=>some []
 | i::r=>match δ[i]?,capD δ r with
  | some (.val d),some ds=>if d.nolam then some (d::ds)else none
  | _,_=>none
def sS:DV->Jk Str | .str i=>some i | _=>none
def tT:DV->Jk (on DV) | .tup l=>some l | _=>none
noncomputable def S6(F:Nat->on DV->Jk Ou)(m:DV):on DV->Jk (on Int)
 | []=>some []
 | d::r=>match F G3 [m,d]with
  | some (.v (.int k) false)=>(S6 F m r).map (k :: ·)
  | _=>none
noncomputable def O4(ks:on Int):Jk Nat:=(JS ks.length).find? λ i=>(JS ks.length).all λ j=>decide (ks.getD j 0<=ks.getD i 0)&&(decide (i<=j)||decide (ks.getD j 0<ks.getD i 0))
def mxkL(F:Nat->on DV->Jk Ou)(m:DV)(x:DV)(c:Cl):Jk Re:=match x with
 | .lst ds=>if(c == .strong||c == .fresh||c == .top)=true then(S6 F m ds).bind λ ks=>(O4 ks).bind λ i=>ds[i]?.map λ d=>.ok d .strong else none
 | _=>none
def fP(G:Gs)(F:Nat->on DV->Jk Ou)(ra:Jk Re)(N:on Str)(np:Nat)(lb:ME)(o:Jk (on DV)):Jk Re:=match o with
  | some cs=>if G.fnl.isEmpty then none else Re.thn (ra) λ x cx=>mxkL F (.lam ⟨N,np,lb,G.fnl,G.bll,G.cll⟩ cs) x cx
  | none=>none
def E9:Nat:=1003
def n7:Str:="plan_of"
def O5(F:Nat->on DV->Jk Ou)(np:Nat)(cs:on DV)(l:on (DV×Cl)):Jk Re:=if(l.all λ p=>p.2 == .strong||p.2 == .fresh)=true/\l.length=np then(match F E9 (l.map (·.1)++cs)with
 | some (.v d false)=>if d.nolam then some (JR d)else none
 | _=>none)else none
def cX(G:Gs)(F:Nat->on DV->Jk Ou)(np nc:Nat)(rs:Jk Rs)(o:Jk (on DV)):Jk Re:=match G.clo with
  | some C=>if C.np=np/\C.nc=nc then o.bind λ cs=>Rs.thn rs λ l=>O5 F np cs l else none
  | none=>none
def revD(x:DV)(c:Cl):Jk Re:=match x with
 | .lst [d,d']=>some (.ok (.lst [d',d]) (Cl.anew c c))
 | _=>none
def andD(x:DV)(c:Cl)(r:Jk Re):Jk Re:=match L3 x with
 | none=>none
 | some true=>r
 | some false=>some (.ok x c)
def orD(x:DV)(c:Cl)(r:Jk Re):Jk Re:=match L3 x with
 | none=>none
 | some true=>some (.ok x c)
 | some false=>r
def tstD(r:Jk Re):Jk Rt:=Re.thnT r λ x _=>(L3 x).map Rt.ok
def p7(r:Jk Re):Jk Ri:=Re.thnI r λ x c=>yV x c
def varE(o:Jk Sv):Jk Re:=match o with
  | some (.val d)=>some (JR d)
  | some (.own d)=>some (.ok d .top)
  | some (.od (.dcl ks vs))=>some (.ok (.dcl ks vs) .weak)
  | _=>none
mutual
def evE(G:Gs)(F:Nat->on DV->Jk Ou):ME->on Sv->Jk Re
 | .var i,δ=>varE δ[i]?
 | .int i,_=>some (JR (.int i))
 | .bl i,_=>some (JR (.bl i))
 | .str i,_=>some (JR (.str i))
 | .non,_=>some (.ok .non .strong)
 | .glb x,_=>(G.con.lookup x).map λ d=>.ok d .strong
 | .bin op a b,δ=>Re.thn (JO a) λ x cx=>Re.thn (JO b) λ y cy=>binD op x y cx cy
 | .not a,δ=>Re.thn (JO a) λ x _=>(L3 x).map λ k=>.ok (.bl (!k)) .strong
 | .cmp op a b,δ=>Re.thn (JO a) λ x _=>Re.thn (JO b) λ y _=>(cmpD op x y).map λ k=>.ok (.bl k) .strong
 | .chain op op' a b c,δ=>Re.thn (JO a) λ x _=>Re.thn (JO b) λ y _=>match cmpD op x y with
  | none=>none
  | some false=>some (JR (.bl false))
  | some true=>Re.thn (JO c) λ z _=>(cmpD op' y z).map λ k=>.ok (.bl k) .strong
 | .and es,δ=>M8 G F es δ
 | .or es,δ=>evOr G F es δ
 | .lst es,δ=>Rs.thn (evEs G F es δ) λ l=>if l.length<=n5 then some (.ok (.lst (l.map (·.1))) (if stros l then .fresh else .weak))else none
 | .tup es,δ=>Rs.thn (evEs G F es δ) λ l=>if l.length<=n5 then some (.ok (.tup (l.map (·.1))) (if stros l then .strong else .weak))else none
 | .ix a b,δ=>Re.thn (JO a) λ x cx=>Re.thn (JO b) λ y _=>(ixD x y).map λ d=>.ok d cx.item
 | .sl a lo hi,δ=>Re.thn (JO a) λ x cx=>Re.thn (JO lo) λ l _=>match l with
  | .int l=>Re.thn (JO hi) λ h _=>(match h with
   | .int h=>(slD x (some l) (some h)).map λ d=>.ok d (slCl x cx)
   | _=>none)
  | _=>none
 | .slf a lo,δ=>Re.thn (JO a) λ x cx=>Re.thn (JO lo) λ l _=>match l with
  | .int l=>(slD x (some l) none).map λ d=>.ok d (slCl x cx)
  | _=>none
 | .rev a,δ=>Re.thn (JO a) λ d c=>revD d c
 | .ite c a b,δ=>Rt.thn (tstD (JO c)) λ k=>if k then evE G F a δ else evE G F b δ
 | .call f es,δ=>Rs.thn (evEs G F es δ) λ l=>V1 F f l
 | .bi f es,δ=>if biOk f then Rs.thn (evEs G F es δ) λ l=>biD f l else none
 | .isi a ts,δ=>Re.thn (JO a) λ x _=>(isiD G x ts).map λ k=>.ok (.bl k) .strong
 | .meth m a _,δ=>if m=.bitLength then Re.thn (JO a) λ x _=>mtD m x else none
 | .comp elt tg it fr,δ=>Ri.thn (p7 (JO it)) λ ds c=>if c=.weak\/n5<ds.length then(if c=.weak/\ds.length<=n5 then fO (w4 (λ d=>(tg.bind d (A6 fr [])).bind λ δ'=>Rc.of (evE G F elt δ')) ds)else none)else W7 (w4 (λ d=>(tg.bind d (A6 fr δ)).bind λ δ'=>Rc.of (evE G F elt δ')) ds)
 | .compi elt tg it cd fr,δ=>Ri.thn (p7 (JO it)) λ ds c=>if c=.weak\/n5<ds.length then none else W7 (w4 (λ d=>(tg.bind d (A6 fr δ)).bind λ δ'=>Rc.test (tstD (evE G F cd δ')) (Rc.of (evE G F elt δ'))) ds)
 | .rng es,δ=>Rs.thn (evEs G F es δ) λ l=>(rngD l).map λ ds=>.ok (.lst ds) .fresh
 | .enu a,δ=>Re.thn (JO a) λ x c=>fN x c
 | .itm a,δ=>Re.thn (JO a) λ x c=>itmD x c
 | .dix a k,δ=>Re.thn (JO a) λ x _=>Re.thn (JO k) λ y _=>dixD x y
 | .maxk a N np lb fr,δ=>fP G F (JO a) N np lb (capD δ fr)
 | .self np nc es,δ=>cX G F np nc (evEs G F es δ) (capD δ (List.range' np nc))
def evEs(G:Gs)(F:Nat->on DV->Jk Ou):on ME->on Sv->Jk Rs
 | [],_=>some (.ok [])
 | e::es,δ=>match evE G F e δ with
  | none=>none
  | some (.ok d c)=>match evEs G F es δ with
   | none=>none
   | some (.ok l)=>some (.ok ((d,c)::l))
def M8(G:Gs)(F:Nat->on DV->Jk Ou):on ME->on Sv->Jk Re
 | [],_=>none
 | e::es,δ=>if es.isEmpty then evE G F e δ else Re.thn (JO e) λ x c=>andD x c (M8 G F es δ)
def evOr(G:Gs)(F:Nat->on DV->Jk Ou):on ME->on Sv->Jk Re
 | [],_=>none
 | e::es,δ=>if es.isEmpty then evE G F e δ else Re.thn (JO e) λ x c=>orD x c (evOr G F es δ)
end
def au:Nat:=1000
noncomputable def Re.thnS(δ:on Sv)(r:Jk Re)(k:DV->Cl->Jk Out):Jk Out:=match r with
 | none=>none
 | some (.ok d c)=>k d c
def Rs.thnS(δ:on Sv)(r:Jk Rs)(k:on (DV×Cl)->Jk Out):Jk Out:=match r with
 | none=>none
 | some (.ok l)=>k l
def Rt.thnS(δ:on Sv)(r:Jk Rt)(k:Bool->Jk Out):Jk Out:=match r with
 | none=>none
 | some (.ok b)=>k b
def Ri.thnS(δ:on Sv)(r:Jk Ri)(k:on DV->Cl->Jk Out):Jk Out:=match r with
 | none=>none
 | some (.ok ds c)=>k ds c
def t6(tg:Tg)(body:on Sv->Jk Out):on DV->on Sv->Jk Out
 | [],δ=>some (.nx δ)
 | d::r,δ=>match tg.bind d δ with
  | none=>none
  | some δ1=>match body δ1 with
   | some (.nx δ2)=>t6 tg body r δ2
   | o=>o
def J1(test:on Sv->Jk Rt)(body:on Sv->Jk Out):Nat->on Sv->Jk Out
 | 0,_=>none
 | n+1,δ=>match test δ with
  | none=>none
  | some (.ok false)=>some (.nx δ)
  | some (.ok true)=>match body δ with
   | some (.nx δ2)=>J1 test body n δ2
   | o=>o
def frD:DV->Cl->Bool
 | .lst _,.fresh=>true | .lst _,.top=>true
 | _,_=>false
noncomputable def noOt(i:Nat)(δ:on Sv):Bool:=(JS δ.length).all λ j=>j==i||(match δ[j]? with | some (.od _)=>false | _=>true)
noncomputable def cY(i:Nat)(δ:on Sv)(d:DV)(c:Cl):Jk Out:=match c with
 | .fresh=>some (.nx (δ.set i (.own d)))
 | _=>match d with
  | .non=>some (.nx (δ.set i (.val .non)))
  | _=>none
def retD(d:DV)(c:Cl):Out:=.rt d (frD d c)
def appS(δ:on Sv)(i:Nat)(re:Jk Re)(o:Jk Sv):Jk Out:=match o with
  | some (.own (.lst ds))=>Re.thnS δ (re) λ d c=>if stro d c/\ds.length<n5 then some (.nx (δ.set i (.own (.lst (ds++[d])))))else none
  | _=>none
def pG(δ:on Sv)(i:Nat)(rk re:Jk Re)(o:Jk Sv):Jk Out:=match o with
  | some (.own (.lst ds))=>Re.thnS δ (re) λ d c=>Re.thnS δ (rk) λ k _=>(match k with
   | .int k=>(match D7 ds.length k with
    | some j=>if stro d c then some (.nx (δ.set i (.own (.lst (ds.set j d)))))else none
    | none=>none)
   | _=>none)
  | _=>none
def fQ(δ:on Sv)(i:Nat)(rk re:Jk Re)(o:Jk Sv):Jk Out:=match o with
  | some (.own (.lst ds))=>Re.thnS δ rk λ k _=>(asI k).bind λ k=>(D7 ds.length k).bind λ j=>(ds[j]?).bind λ x=>(asI x).bind λ a=>Re.thnS δ re λ d _=>(asI d).bind λ b=>if 0<=k then some (.nx (δ.set i (.own (.lst (ds.set j (JP (a+b)))))))else none
  | _=>none
noncomputable def clrS(δ:on Sv)(i:Nat)(o:Jk Sv):Jk Out:=match o with
  | some (.own (.lst _))=>some (.nx (δ.set i (.own (.lst []))))
  | _=>none
def dpvD(i:Nat)(δ:on Sv)(p:on DKey×on DV)(x:DV)(h:Nat)(d:DV):Jk Out:=(asTp x).bind λ ds=>(ints? ds).bind λ k=>(asI d).bind λ z=>if 0<h/\h<ds.length/\p.1.length<n5/\h<=3 then some (.nx (δ.set i (.od (.dcl (putD (.t (kP (k.take h))) (.int z) p.1 p.2).1 (putD (.t (kP (k.take h))) (.int z) p.1 p.2).2))))else none
def noB:Jk Sv->Bool
 | some .no=>true
 | _=>false
def dfrS(G:Gs)(F:Nat->on DV->Jk Ou)(fr:on Nat)(ra:Jk Re)(rs:Jk Rs)(o:Jk (on DV))(oi:Jk Sv):Jk Out:=match G.clo with
  | some C=>if C.nc=fr.length/\noB oi=true/\G.fnl.isEmpty=false then o.bind λ cs=>(Re.thn ra λ x _=>(asI x).bind λ n=>Rs.thn rs λ l=>(O5 F C.np cs l).bind λ r=>(match r with
   | .ok d _=>some (JR (.tup [.int n,d])))).bind λ r=>(match r with
   | .ok d _=>some (.rt d false))else none
  | none=>none
noncomputable def frzS(δ:on Sv)(i:Nat)(o:Jk Sv):Jk Out:=match o with
 | some (.own d)=>some (.nx (δ.set i (.val d)))
 | _=>some (.nx δ)
noncomputable def asIv:Jk Sv->Jk Int
 | some (.val d)=>asI d
 | _=>none
def rxIx:Nat:=2000
def rxC(G:Gs)(F:Nat->on DV->Jk Ou):ME->on Sv->Bool
 | .call f es,δ=>match evEs G F es δ with
  | some (.ok l)=>(F (rxIx+f) (l.map (·.1))).isSome
  | none=>false
 | _,_=>false
def rxI(G:Gs)(F:Nat->on DV->Jk Ou):ME->on Sv->Bool
 | .itm a,δ=>rxC G F a δ
 | _,_=>false
def rxE(G:Gs)(F:Nat->on DV->Jk Ou):ME->on Sv->Bool
 | .call f es,δ=>rxC G F (.call f es) δ
 | .comp _ _ a _,δ=>rxI G F a δ
 | _,_=>false
def rxF(G:Gs)(F:Nat->on DV->Jk Ou):MS->on Sv->Bool
 | .exp e,δ=>rxE G F e δ
 | .ret e,δ=>rxE G F e δ
 | .set _ _ e,δ=>rxC G F e δ
 | .rse c e,δ=>c == "TooGreat" && (JO e).isSome
 | _,_=>false
def rxS(G:Gs)(F:Nat->on DV->Jk Ou):Nat->on MS->on Sv->Bool
 | n+1,.iff c a b::_,δ=>match tstD (JO c)with
  | some (.ok k)=>rxS G F n (if k then a else b) δ
  | none=>false
 | _,m::_,δ=>rxF G F m δ
 | _,[],_=>false
mutual
def evS(G:Gs)(F:Nat->on DV->Jk Ou)(fu:Nat):MS->on Sv->Jk Out
 | .set i own e,δ=>Re.thnS δ (JO e) λ d c=>if own then cY i δ d c else(if stro d c then some (.nx (δ.set i (.val d)))else none)
 | .app i e,δ=>appS δ i (JO e) δ[i]?
 | .ext i e,δ=>match δ[i]? with
  | some (.own (.lst ds))=>Re.thnS δ (JO e) λ d c=>if c=.strong\/c=.fresh then(match aq d with
   | some (_,ys)=>if ds.length+ys.length<=n5 then some (.nx (δ.set i (.own (.lst (ds++ys)))))else none
   | none=>none)else none
  | _=>none
 | .seti i k e,δ=>pG δ i (JO k) (JO e) δ[i]?
 | .augi i k e,δ=>fQ δ i (JO k) (JO e) δ[i]?
 | .clr i,δ=>clrS δ i δ[i]?
 | .exp e,δ=>Re.thnS δ (JO e) λ _ _=>some (.nx δ)
 | .ret e,δ=>Re.thnS δ (JO e) λ d c=>some (retD d c)
 | .iff c a b,δ=>Rt.thnS δ (tstD (JO c)) λ k=>if k then evSs G F fu a δ else evSs G F fu b δ
 | .fo tg it body,δ=>Ri.thnS δ (p7 (JO it)) λ ds c=>if c=.strong\/c=.fresh then t6 tg (λ δ'=>evSs G F fu body δ') ds δ else none
 | .wh c body,δ=>J1 (λ δ'=>tstD (evE G F c δ')) (λ δ'=>evSs G F fu body δ') fu δ
 | .retd i,δ=>(asOd δ[i]?).bind λ p=>some (.rt (.dct p.1 p.2) false)
 | .sep i,δ=>if noOt i δ then some (.nx (δ.set i (.od (.dcl [] []))))else none
 | .dpp i ks e,δ=>(asOd δ[i]?).bind λ p=>Re.thnS δ (JO e) λ d _=>Rs.thnS δ (evEs G F ks δ) λ l=>(dppD i δ p l d).map Out.nx
 | .dpv i a h e,δ=>(asOd δ[i]?).bind λ p=>Re.thnS δ (JO e) λ d _=>Re.thnS δ (JO a) λ x _=>dpvD i δ p x h d
 | .rse _ _,_=>none
 | .rfs b,δ=>if rxS G F 3 b (δ.set 4 (.val .non))=true then some (.rt (.bl true) false)else none
 | .aug i e,δ=>(asIv δ[i]?).bind λ a=>Re.thnS δ (JO e) λ d _=>(asI d).bind λ b=>some (.nx (δ.set i (JE (a+b))))
 | .frz i,δ=>frzS δ i δ[i]?
 | .unk,_=>none
 | .dfr i fr a es,δ=>dfrS G F fr (JO a) (evEs G F es δ) (capD δ fr) δ[i]?
def evSs(G:Gs)(F:Nat->on DV->Jk Ou)(fu:Nat):on MS->on Sv->Jk Out
 | [],δ=>some (.nx δ)
 | s::r,δ=>match evS G F fu s δ with
  | some (.nx δ')=>evSs G F fu r δ'
  | o=>o
end
noncomputable def o5(n:Nat)(ds:on DV):on Sv:=ds.map Sv.val++List.replicate (n - ds.length) .no
def Ou.of(o:Jk Out):Jk Ou:=match o with
 | some (.nx _)=>some (.v .non false)
 | some (.rt d fr)=>some (.v d fr)
 | none=>none
def cloR(G:Gs)(ev:on MS->on Sv->Jk Out)(ds:on DV):Jk Ou:=G.clo.bind λ C=>if ds.length=C.np+C.nc/\DV.nolams ds=true then(match ev C.body (o5 C.N.length ds)with
  | some (.rt d false)=>if d.nolam then some (.v d false)else none
  | _=>none)else none
def lamR(ev:ME->on Sv->Jk Re)(ds:on DV):Jk Ou:=match ds with
 | .lam m cs::args=>if args.length=m.np/\args.length+cs.length=m.N.length/\DV.nolams args=true/\DV.nolams cs=true then(match ev m.body ((args++cs).map Sv.val)with
  | some (.ok d .strong)=>if d.nolam then some (.v d false)else none
  | _=>none)else none
 | _=>none
def rxR(G:Gs)(T:on FD)(F:Nat->on DV->Jk Ou)(f:Nat)(ds:on DV):Jk Ou:=(T[f - rxIx]?).bind λ fd=>if rxIx<=f/\ds.length=fd.np/\rxS G F 3 fd.body (o5 fd.n ds)=true then some (.v .non false)else none
def run(G:Gs)(T:on FD)(fu:Nat):Nat->Nat->on DV->Jk Ou
 | 0,_,_=>none
 | k+1,f,ds=>match T[f]? with
  | none=>if f=G3 then lamR (evE G (JJ k)) ds else if f=E9 then cloR G (evSs G (JJ k) fu) ds else rxR G T (JJ k) f ds
  | some fd=>if ds.length=fd.np then Ou.of (evSs G (JJ k) fu fd.body (o5 fd.n ds))else none
def M9:Re.thn (some (.ok d c)) k=k d c:=rfl
def cZ:Rs.thn (some (.ok l)) k=k l:=rfl
def br:Ri.thn (some (.ok ds c)) k=k ds c:=rfl
def pH:Re.thnS δ (some (.ok d c)) k=k d c:=rfl
def yW{G:Gs}{F:Nat->on DV->Jk Ou}{fu:Nat}{δ:on Sv}{m:MS}{r:on MS}{δ':on Sv}(h:evS G F fu m δ=some (.nx δ')):evSs G F fu (m::r) δ=evSs G F fu r δ':=by
 rw[show evSs G F fu (m::r) δ=(match evS G F fu m δ with | some (.nx δ')=>evSs G F fu r δ' | o=>o)from rfl,h]
def yX(h:evS G F fu m δ=some (.rt d fr)):evSs G F fu (m::r) δ=some (.rt d fr):=by
 rw[show evSs G F fu _ δ=(match evS G F fu m δ with | some (.nx δ')=>evSs G F fu r δ' | o=>o)from rfl,h]
def fR(h:T[f]? = none):run G T fu (k+1) f ds=if f=G3 then lamR (evE G (JJ k)) ds else if f=E9 then cloR G (evSs G (JJ k) fu) ds else rxR G T (JJ k) f ds:=by
 unfold run;rw[h]
def jS(h:T[f]? = some fd):run G T fu (k+1) f ds=if ds.length=fd.np then Ou.of (evSs G (JJ k) fu fd.body (o5 fd.n ds))else none:=by
 rw[run];rw[h]
def r9(h:T[f]? = some fd)(a:ds.length=fd.np):run G T fu (k+1) f ds=Ou.of (evSs G (JJ k) fu fd.body (o5 fd.n ds)):=(jS h).trans (f8 a)
end L2
namespace L2
open PySem
theorem pI:∀{a:on DV},(∀d∈a,g d=some (if p d then .item d else .skip))->w4 g a=some (a.filter p)
 | [],_=>rfl
 | d::r,h=>by
  have b:=pI (λ d e=>h d (o4 _ e));unfold w4;rw[(h d (o6 ..))];cases c:p d with
  | false=>rw[nz (by grind)];exact b
  | true=>
   rw[nA c];show(match w4 g r with | none=>none | some xs=>some _)=_;rw[b]
theorem pJ:∀{a:on DV},(∀d∈a,g d=some (.item (f d)))->w4 g a=some (a.map f)
 | [],_=>rfl
 | d::r,h=>by unfold w4;rw[(h d (o6 ..))];show(match w4 g r with | none=>none | some xs=>some _)=_;rw[(pJ (λ d b=>h d (o4 _ b)))];rfl
def yY(h:d∈upTo a n):∃j:Nat,j<n/\d=.int (a+j):=by
 unfold upTo at h;rw[m9]at h;obtain⟨j,b,rfl⟩:=h;exact⟨j,x5.mp b,rfl⟩
end L2
namespace L2
open PySem
def t5(h:evSs G F fu r δ=some (.rt d fr)):Ou.of (evSs G F fu r δ)=some (.v d fr):=by rw[h];rfl
def yZ{G:Gs}{F:Nat->on DV->Jk Ou}{fu:Nat}{δ δ':on Sv}{r:on MS}(h:evSs G F fu r δ=some (.nx δ')):Ou.of (evSs G F fu r δ)=some (.v .non false):=by rw[h];rfl
def i6(h:evS G F fu m δ=some (.nx δ'))(a:evSs G F fu r δ'=o):evSs G F fu (m::r) δ=o:=(yW h).trans a
def q0(h:evS G F fu m δ=some (.rt d fr)):evSs G F fu (m::r) δ=some (.rt d fr):=yX h
def fT(d:tstD (JO c)=some (.ok bb)):evS G F fu (.iff c a b) δ=if bb then evSs G F fu a δ else evSs G F fu b δ:=by
 show Rt.thnS δ _ _=_;rw[d];rfl
def bt(d:tstD (JO c)=some (.ok true))(h:evSs G F fu a δ=some (.nx δ'))(e:evSs G F fu r δ'=o):evSs G F fu (.iff c a b::r) δ=o:=i6 ((fT d).trans h) e
def za(d:tstD (JO c)=some (.ok false))(h:evSs G F fu b δ=some (.nx δ'))(e:evSs G F fu r δ'=o):evSs G F fu (.iff c a b::r) δ=o:=i6 ((fT d).trans h) e
def bu(e:tstD (JO c)=some (.ok true))(h:evSs G F fu a δ=some (.rt d fr)):evSs G F fu (.iff c a b::r) δ=some (.rt d fr):=q0 ((fT e).trans h)
def x8(b:tstD (JO c)=some (.ok false))(d:evSs G F fu r δ=o):evSs G F fu (.iff c a []::r) δ=o:=za b rfl d
def D9(b:p7 (JO it)=some (.ok ds cl))(c:cl=.strong\/cl=.fresh)(h:t6 tg (λ δ'=>evSs G F fu body δ') ds δ=some (.nx δ'))(d:evSs G F fu r δ'=o):evSs G F fu (.fo tg it body::r) δ=o:=by
 refine i6 ?_ d;show Ri.thnS δ _ _=_;rw[b];show(if cl=.strong\/cl=.fresh then t6 tg _ ds δ else none)=_
 rwa [f8 c]
def n6(h:evE G F e δ=some (.ok d cl))(hs:stro d cl=true):evS G F fu (.set i false e) δ=some (.nx (δ.set i (.val d))):=by
 show Re.thnS δ _ _=_;rw[h];show(if stro d cl then some _ else none)=_;rw[f8 hs]
def W8(h:evE G F e δ=some (.ok d .fresh)):evS G F fu (.set i true e) δ=some (.nx (δ.set i (.own d))):=by
 show Re.thnS δ _ _=_;rw[h];rfl
def u7(h:evE G F e δ=some (.ok d cl)):evS G F fu (.ret e) δ=some (.rt d (frD d cl)):=by
 show Re.thnS δ _ _=_;rw[h];rfl
def pK(h:evE G F e δ=some (.ok d cl)):evS G F fu (.exp e) δ=some (.nx δ):=by
 show Re.thnS δ _ _=_;rw[h];rfl
def k7(a:evEs G F es δ=some (.ok l))(hs:(l.all λ p=>p.2 == .strong||p.2 == .fresh)=true)(h:F f (l.map (·.1))=some (.v d fr)):evE G F (.call f es) δ=some (.ok d (if fr then .fresh else .strong)):=by
 show Rs.thn _ _=_;rw[a];show V1 F f l=_;unfold V1;rw[h,hs];rfl
def jT(c:evEs G F es δ=some (.ok l))(a:(l.all λ p=>p.2 == .strong||p.2 == .fresh)=false)(h:F f (l.map (·.1))=some (.v d fr))(b:(fr&&imL d)=false:=by rfl):evE G F (.call f es) δ=some (.ok d .weak):=by
 show Rs.thn _ _=_;rw[c];show V1 F f l=_;unfold V1;rw[h,a];show some _=_;rw[b];rfl
def o7(h:JF e cl (.bl x)):tstD (JO e)=some (.ok x):=by rw[h];rfl
def bv(h:JF e cl (.bl x)):evE G F (.not e) δ=some (.ok (.bl (!x)) .strong):=by
 show Re.thn _ _=_;rw[h];rfl
end L2
namespace L2
open PySem
def F0(d:evE G F a δ=some (.ok x cx))(c:evE G F b δ=some (.ok y cy))(h:binD op x y cx cy=r):evE G F (.bin op a b) δ=r:=by
 show Re.thn _ _=_;rw[d,M9,c,M9,h]
def C4(d:evE G F a δ=some (.ok x cx))(c:evE G F b δ=some (.ok y cy))(h:cmpD op x y=some t):evE G F (.cmp op a b) δ=some (.ok (.bl t) .strong):=by
 show Re.thn _ _=_;rw[d,M9,c,M9,h];rfl
def n9(e:evE G F a δ=some (.ok x cx))(c:evE G F b δ=some (.ok y cy))(h:ixD x y=some d):evE G F (.ix a b) δ=some (.ok d cx.item):=by
 show Re.thn _ _=_;rw[e,M9,c,M9,h];rfl
def pL(d:JF a cx (.bl false))(c:evE G F b δ=o):evE G F (.or [a,b]) δ=o:=by
 show Re.thn _ _=_;rw[d];exact c
def zb(c:JF a cx (.bl true)):evE G F (.or [a,b]) δ=some (.ok (.bl true) cx):=by
 show Re.thn _ _=_;rw[c];rfl
def i9:evEs G F [] δ=some (.ok []):=rfl
def f7(b:evE G F a δ=some (.ok x cx))(h:evEs G F es δ=some (.ok l)):evEs G F (a::es) δ=some (.ok ((x,cx)::l)):=by
 unfold evEs;rw[b,h]
end L2
namespace L2
open PySem
def fU(c:δ[i]? = some (.own (.lst ds)))(h:evE G F e δ=some (.ok d cl))(a:stro d cl=true)(b:ds.length<n5):evS G F fu (.app i e) δ=some (.nx (δ.set i (.own (.lst (ds++[d]))))):=by
 show appS δ i _ δ[i]? = _;rw[c];show Re.thnS δ _ _=_;rw[h];exact f8 ⟨a,b⟩
def zc(f:δ[i]? = some (.own (.lst ds)))(h:evE G F e δ=some (.ok d cl))(b:JF k cx (.int n))(a:stro d cl=true)(c:D7 ds.length n=some j):evS G F fu (.seti i k e) δ=some (.nx (δ.set i (.own (.lst (ds.set j d))))):=by
 show pG δ i _ _ δ[i]? = _;rw[f];show Re.thnS δ _ _=_;rw[h,pH,b,pH];show(match D7 ds.length n with | some j=>if stro d cl then some (Out.nx _)else none | none=>none)=_;rw[c];exact f8 a
def pM(h:test δ=some (.ok false)):J1 test body (n+1) δ=some (.nx δ):=by
 unfold J1;rw[h]
def pN(h:test δ=some (.ok true))(a:body δ=some (.nx δ'))(hr:J1 test body n δ'=o):J1 test body (n+1) δ=o:=by
 unfold J1
 rwa [h,a]
def pO(h:J1 (λ δ'=>tstD (evE G F c δ')) (λ δ'=>evSs G F fu body δ') fu δ=some (.nx δ'))(b:evSs G F fu r δ'=o):evSs G F fu (.wh c body::r) δ=o:=i6 h b
end L2
namespace L2
open PySem
theorem K0{I:Nat->on Sv->Prop}:∀(n:Nat) (c:Int) {δ:on Sv},(∀j<n,∀δ,I j δ->∃b,body (δ.set i (JE (c+j)))=some (.nx b)/\I (j+1) b)->I 0 δ->∃d,t6 (.one i) body (upTo c n) δ=some (.nx d)/\I n d
 | 0,_,δ,_,g=>⟨δ,rfl,g⟩
 | n+1,c,δ,h,g=>by
  have e:upTo c (n+1)=.int c::upTo (c+1) n:=by
   unfold upTo;rw[nL,A0,v7]
   congr 1
   ·congr 1;omega
   ·apply Q8;intro a _;show DV.int _=DV.int _
    congr 1
    push_cast
    omega
  obtain⟨b,k,r⟩:=h 0 JC δ g;rw[show c+_=c by omega]at k;obtain⟨d,u,p⟩:=K0 n (c+1) (λ j hj δ q=>by
   obtain⟨f,m,l⟩:=h (j+1) JC δ q;refine⟨f,?_,l⟩;rw[show c+1+_=c+((j+1:Nat):Int) by push_cast;omega];exact m) r
  refine⟨d,?_,p⟩;rw[e];show(match body (δ.set i _)with | some (.nx b)=>t6 _ body _ b | o=>o)=_;rw[k];exact u
def ze(b:p7 (JO it)=some (.ok ds cl))(hc:cl ≠ .weak)(hl:ds.length<=n5)
  (h:∀d∈ds,∃a,tg.bind d (A6 fr δ)=some a/\tstD (evE G F cd a)=some (.ok (p d))/\evE G F elt a=some (JR d)):evE G F (.compi elt tg it cd fr) δ=some (.ok (.lst (ds.filter p)) .fresh):=by
 show Ri.thn _ _=_;rw[b,br,g9 (by grind),pI (λ d c=>?_)]
 ·rfl
 ·obtain⟨a,g,f,e⟩:=h d c;rw[g,N9,f,e];cases p d<;>rfl
def zf(hw:p7 (JO it)=some (.ok ds cl))(b:cl ≠ .weak)(hl:ds.length<=n5)
  (h:∀d∈ds,∃a,tg.bind d (A6 fr δ)=some a/\evE G F elt a=some (JR (f d))):evE G F (.comp elt tg it fr) δ=some (.ok (.lst (ds.map f)) .fresh):=by
 show Ri.thn _ _=_;rw[hw,br,g9 (by rintro(z | z);exact b z;omega),pJ (λ d hd=>?_)]
 ·rfl
 ·obtain⟨a,e,c⟩:=h d hd;rw[e,N9,c];rfl
def pP{l:on Int}(h:j<l.length):ixD (.lst (l.map DV.int)) (.int j)=some (.int l[j]):=by
 have a:(j:Int)<((l.map DV.int).length:Int):=by rw[i0];exact_mod_cast h
 simp only[ixD,atD,D7,f8 (E8 j),f8 a,N9,D3,q9,p8 h,O0]
def fV{l:on Int}{i:Int}(a:0<=i)(h:i<l.length):∃v,ixD (.lst (l.map DV.int)) (.int i)=some (.int v):=by
 obtain⟨j,rfl⟩:=nB a;exact⟨_,pP JC⟩
end L2
namespace L2
open PySem
def g8:evE G F (.int i) δ=some (.ok (.int i) .strong):=rfl
def f6(h:δ[n]? = some (.val d)):evE G F (.var n) δ=some (.ok d .strong):=congrArg varE h
def da(h:δ[n]? = some (.own d)):evE G F (.var n) δ=some (.ok d .top):=congrArg varE h
def B2(d:JF a cx (.int i))(c:JF b cy (.int j)):evE G F (.bin .Add a b) δ=some (.ok (JP (i+j)) .strong):=F0 d c rfl
def G4(d:JF a cx (.int i))(c:JF b cy (.int j)):evE G F (.bin .Sub a b) δ=some (.ok (JP (i - j)) .strong):=F0 d c rfl
def K1(d:JF a cx (.int i))(c:JF b cy (.int j))(h:Q0 i j=true):evE G F (.bin .Mult a b) δ=some (.ok (JP (i*j)) .strong):=F0 d c (f8 h)
def E2(d:JF a cx (.int i))(c:JF b cy (.int j))(h:0<j):evE G F (.bin .Mod a b) δ=some (.ok (JP (i%j)) .strong):=F0 d c (f8 h)
def av(d:JF a cx (.int i))(c:JF b cy (.int j))(h:0<j/\j<1073741824):evE G F (.bin .FloorDiv a b) δ=some (.ok (JP (i/j)) .strong):=F0 d c (f8 ⟨h.1,Int.lt_trans h.2 JD⟩)
def b_eq(d:JF a cx (.int i))(c:JF b cy (.int j)):evE G F (.cmp .Eq a b) δ=some (.ok (.bl (i==j)) .strong):=C4 d c rfl
def b_lt(d:JF a cx (.int i))(c:JF b cy (.int j)):evE G F (.cmp .Lt a b) δ=some (.ok (.bl (decide (i<j))) .strong):=C4 d c rfl
end L2
namespace L2
open PySem
def K2:evE G F (.str x) δ=some (.ok (.str x) .strong):=rfl
def D0(h:evEs G F es δ=some (.ok l))(b:l.length<=n5)(a:stros l=true):evE G F (.tup es) δ=some (.ok (.tup (l.map (·.1))) .strong):=by
 show Rs.thn _ _=_;rw[h,cZ,f8 b,a];rfl
end L2
namespace L2
open PySem
theorem pQ:∀{ds es:on DV} {f e:on Sv},t6 tg body ds f=some (.nx e)->t6 tg body (ds++es) f=t6 tg body es e
 | [],es,f,e,h=>by cases h;rfl
 | d::r,es,f,e,h=>by
  show(match tg.bind d f with | none=>none | some b=>(match body b with | some (.nx a)=>t6 tg body _ a | o=>o))=_;have g:(match tg.bind d f with | none=>none | some b=>(match body b with | some (.nx a)=>t6 tg body r a | o=>o))=some _:=h;cases j:tg.bind d f with
  | none=>rw[j]at g;cases g
  | some b=>
   rw[j]at g;have c:(match body b with | some (.nx a)=>t6 tg body r a | o=>o)=some _:=g;show(match body b with | some (.nx a)=>t6 tg body _ a | o=>o)=_;cases i:body b with
   | none=>rw[i]at c;cases c
   | some o=>
    rw[i]at c;cases o with
    | nx a=>exact pQ c
    | rt d fr=>cases c
end L2
namespace L2
open PySem
def zg(c:tg.bind d δ=some δ1)(b:body δ1=some (.nx a)):t6 tg body [d] δ=some (.nx a):=by
 unfold t6;rw[c];simp only[b];rfl
end L2
end
noncomputable section
namespace L2
open PySem
def Rise(xs:Jq Nat):Prop:=∀(i k x y:Nat),i<k->xs[i]? = some x->xs[k]? = some y->x<y
def pR(v:Rise xs):∀(c b a:Nat),b<=a->a<=xs.size->a - b<=c ->
  (∀i x,i<b->xs[i]? = some x->x<j)->(∀i x,a<=i->xs[i]? = some x->j<=x) ->
  (∀i x,i<SetTable.below.go xs j c b a->xs[i]? = some x->x<j)/\(∀i x,SetTable.below.go xs j c b a<=i->xs[i]? = some x->j<=x):=by
 intro c
 induction c with
 | zero=>
  intro b a z w y l k;have:b=a:=by omega
  subst this;exact⟨l,k⟩
 | succ n u=>
  intro b a z w y l k;unfold SetTable.below.go;by_cases g:b<a
  ·rw[f8 g];have hm:(b+a)/2<a:=by omega
   have o:b<=(b+a)/2:=by omega
   have m:(b+a)/2<xs.size:=by omega
   have h:=T7 m;have r:xs.getD ((b+a)/2) j=xs[(b+a)/2]:=(by rw[aK,h];rfl);dsimp only;rw[r];by_cases f:xs[(b+a)/2]<j
   ·rw[f8 f];refine u _ _ JC w JC (λ i x p d=>?_) k;rcases ah i ((b+a)/2)with q | q
    ·exact R7 (v i _ x _ q d h) f
    ·have e:i=(b+a)/2:=by omega
     subst e;rw[h]at d;cases d;exact f
   ·rw[g9 f];refine u _ _ o JC JC l λ i x p d=>?_
    rcases ah ((b+a)/2) i with q | q
    ·exact k6 (iS f) (M3 (v _ i _ x q h d))
    ·have e:i=(b+a)/2:=by omega
     subst e;rw[h]at d;cases d;exact iS f
  ·rw[g9 g];have:b=a:=by omega
   subst this;exact⟨l,k⟩
def jU(b:Rise xs)(h:i<SetTable.below xs j)(a:xs[i]? = some x):x<j:=
 (pR b xs.size 0 xs.size (E5 _) (i8 _) JC (λ i x h=>by omega) λ i x h a=>by
  rw[T8 h]at a;cases a).1 i x h a
def fW(b:Rise xs)(h:SetTable.below xs j<=i)(a:xs[i]? = some x):j<=x:=
 (pR b xs.size 0 xs.size (E5 _) (i8 _) JC (λ i x h=>by omega) λ i x h a=>by
  rw[T8 h]at a;cases a).2 i x h a
def zh:∀(a c b:Nat),c<=b->SetTable.below.go xs j a c b<=b:=by
 intro a
 induction a with
 | zero=>intro c b h;exact h
 | succ n d=>
  intro c b h;unfold SetTable.below.go;dsimp;split
  ·split
   ·exact d _ _ JC
   ·exact k6 (d _ _ JC) JC
  ·exact h
def pS:SetTable.below xs j<=xs.size:=zh _ _ _ (E5 _)
def zi(d:Rise xs)(c:xs[i]? = some x):SetTable.below xs (x+1)=i+1:=by
 have hi:i<xs.size:=by
  rcases ah i xs.size with h | h
  ·exact h
  ·rw[T8 h]at c;cases c
 rcases Nat.lt_trichotomy _ _ with h | h | h
 ·have:=fW d (j:=x+1) (Nat.le_of_lt_succ h) c;omega
 ·exact h
 ·have h2:SetTable.below xs (x+1)<=xs.size:=pS;have f:i+1<xs.size:=by omega
  have e:=T7 f;have a:=jU d h e;have b:=d i _ x _ (cu _) c e;omega
def zj(b:Rise xs):SetTable.below xs 0=0:=by
 rcases iH _ with h | h
 ·exact h
 ·have h2:SetTable.below xs 0<=xs.size:=pS;have a:=jU b h (T7 JC);omega
def Rise.empty:Rise #[]:=λ i k x y _ a=>by simp at a
theorem Rise.range(n:Nat):Rise (Array.range n):=λ i k x y h b a=>by
 rw[Array.getElem?_range]at b a;split at b
 ·split at a
  ·cases b;cases a;exact h
  ·cases a
 ·cases b
def pT{l:on Nat}(h:l.Pairwise (· < ·)):Rise l.toArray:=λ i k x y a c b=>by
 obtain⟨e,g⟩:=w6.mp (by simpa using c);obtain⟨d,f⟩:=w6.mp (by simpa using b);rw[←g,←f];exact nh.mp h i k e d a
def fX(h:Rise xs):xs.toList.Pairwise (· < ·):=by
 refine nh.mpr λ i k c b a=>?_;exact h i k _ _ a (by rw[←L9];exact p8 c) (by rw[←L9];exact p8 b)
structure Tab(t:SetTable)(b:Bool):Prop where
 rise:Rise t.place
 dum:t.dummies = #[]
 led:t.led=b
theorem Tab.fresh(b:Bool):Tab (SetTable.fresh 0 0 b) b:=⟨Rise.empty,rfl,rfl⟩
theorem Tab.standIn(h:Tab t b)(n:Nat):Tab (t.standIn n) b:=⟨Rise.range n,rfl,h.led⟩
def pU(j:Nat):SetTable.has #[] j=false:=by
 unfold SetTable.has;simp
def zk(h:Tab t b)(f:Nat->Int)(z:Int):∀(a:Nat) (p:SetTable.Probe) (j:Nat) (d:Jk Nat),p.dummy=none->SetTable.probe.go t f z a p=some (.empty j d)->d=none/\t.slot j=.empty:=by
 intro a
 induction a with
 | zero=>intro p j d c e;cases e
 | succ n g=>
  intro p j d c e;unfold SetTable.probe.go at e;cases hs:t.slot p.j with
  | empty=>rw[hs]at e;cases e;exact⟨c,hs⟩
  | dummy=>
   unfold SetTable.slot at hs;rw[h.dum,pU]at hs;dsimp at hs;split at hs
   ·cases hs
   ·cases hs
  | live i=>
   rw[hs]at e;dsimp at e;split at e
   ·cases e
   ·refine g _ j d ?_ e;unfold SetTable.advance;split
    ·exact c
    ·exact c
def zm(h:Tab t b)(e:t.freeSlot z=some (j,w)):t.slot j=.empty:=by
 unfold SetTable.freeSlot at e;split at e
 ·rename_i j' d a;obtain⟨c,hs⟩:=zk h _ _ _ _ _ _ rfl a;subst c;cases e;exact hs
 ·cases e
theorem Tab.put(h:Tab t b)(hs:t.slot j=.empty):Tab (t.put j).1 b:=by
 have m:t.place[SetTable.below t.place j]? ≠ some j:=λ z=>by unfold SetTable.slot at hs;dsimp only at hs;rw[z]at hs;simp at hs
 refine⟨?_,?_,h.led⟩
 ·show Rise _;have g:=fX h.rise;have:(SetTable.insertAt t.place (SetTable.below t.place j) j).toList.Pairwise (· < ·):=by
   rw[(SetTable.toList_insertAt _ _ _),List.pairwise_append];refine⟨g.sublist (iK _ _),K9.mpr ⟨λ y f=>?_,g.sublist (List.drop_sublist _ _)⟩,λ x l y f=>?_⟩
   ·obtain⟨i,d⟩:=eH.mp f;rw[aT,L9]at d;rcases Nat.lt_or_eq_of_le (fW h.rise (P4 _ _) d)with q | q
    ·exact q
    ·exfalso;subst q;rcases iH i with z | z
     ·subst z;exact m d
     ·have n:SetTable.below t.place j<t.place.size:=by
       rcases ah (SetTable.below t.place j+i) t.place.size with q | q
       ·omega
       ·rw[T8 q]at d;cases d
      have k:=T7 n;have a:=fW h.rise (i8 _) k;have c:=h.rise _ _ _ _ JC k d;omega
   ·have e:x<j:=by
     obtain⟨i,d⟩:=eH.mp l;rw[List.getElem?_take]at d;split at d
     ·rw[L9]at d;exact jU h.rise JC d
     ·cases d
    rcases j0.mp f with q | q
    ·rw[q];exact e
    ·obtain⟨i,d⟩:=eH.mp q;rw[aT,L9]at d;exact p9 e (fW h.rise (P4 _ _) d)
  have r:=pT this
  rwa [Array.toArray_toList]at r
 ·show(if SetTable.has t.dummies j then _ else t.dummies) = #[];rw[h.dum,pU];rfl
theorem Tab.orStandIn(h:Tab t b)(n:Nat):Tab (t.orStandIn n) b:=by
 unfold SetTable.orStandIn;split
 ·exact h
 ·exact h.standIn n
theorem Tab.layNew{t:Jz}{b:Bool}(h:Tab t b)(es:Jq (Int×Jl))(z:Int)(x:Jl):Tab (layNew t es z x).2.1 b:=by
 unfold PySem.layNew;split
 ·rename_i j w e;exact(h.put (zm h e)).orStandIn _
 ·exact h.standIn _
theorem pV{f:Nat->Jk Nat}:∀{l:on Nat},l.Pairwise (· < ·)->((l.filterMap λ j=>(f j).map (j,·)).map (·.1)).Pairwise (· < ·)
 | [],_=>.nil
 | a::l,h=>by
  obtain⟨o,n⟩:=K9.mp h;have d:=pV (f:=f) n;rw[eL];cases e:f a with
  | none=>exact d
  | some c=>
   refine K9.mpr ⟨λ y i=>?_,d⟩;obtain⟨p,k,rfl⟩:=m9.mp i;obtain⟨j,m,b⟩:=aP.mp k;cases g:f j with
   | none=>rw[g]at b;cases b
   | some c2=>rw[g]at b;cases b;exact o j m
theorem Tab.relayAll{t:Jz}{b:Bool}(h:Tab t b)(es:Jq (Int×Jl))(n:Nat):Tab (relayAll t es n).2.1 b:=by
 unfold PySem.relayAll;split
 ·rename_i t' order e;dsimp only;split
  ·show Tab t' b;unfold SetTable.relaid SetTable.laid at e;cases hl:SetTable.layClean (SetTable.sizeAbove n - 1) (es.map (·.1))with
   | none=>rw[hl]at e;cases e
   | some owner=>
    rw[hl]at e;cases e;exact⟨pT (pV (nM)),rfl,h.led⟩
  ·exact h.standIn _
 ·exact h.standIn _
theorem jV{b:Type}{x:b}:∀{l:on b} {i:Nat} (h:i<l.length),l[i]=x->(x::l.eraseIdx i).Perm l
 | [],i,h,_=>by cases h
 | a::l,0,_,e=>by have e:=e;subst e;exact .rfl
 | a::l,i+1,h,e=>by rw[List.eraseIdx_cons_succ];exact(List.Perm.swap a x _).trans (List.Perm.cons a (jV (by simpa using h) (by simpa using e)))
def zn(d:Nat->Nat):∀(c k:Nat) (b:on i) (f:Jq i),b.length<=c->(pickOrder.go d c k b f).toList.Perm (f.toList++b):=by
 intro c
 induction c with
 | zero=>
  intro k b f h;have:b=[]:=Z7.mp JC;subst this;unfold pickOrder.go;rw[C8]
 | succ n j=>
  intro k b f h;unfold pickOrder.go;cases e:b[d k%b.length]? with
  | none=>
   have:b=[]:=by
    cases b with
    | nil=>rfl
    | cons a r=>
     have g:d k%(a::r).length<(a::r).length:=Nat.mod_lt _ JK;rw[p8 g]at e;cases e
   subst this;rw[C8]
  | some x=>
   obtain⟨g,l⟩:=w6.mp e;refine(j _ _ _ ((by rw[List.length_eraseIdx,f8 g];omega))).trans ?_;rw[Array.toList_push,N7];refine List.Perm.append_left _ ?_;exact jV g l
def pW(a:Nat->Nat)(xs:Jq b):(pickOrder a xs).toList.Perm xs.toList:=by
 unfold pickOrder;exact(zn a xs.size 0 xs.toList #[] JK).trans JK
def O6:Jl->Int
 | .int n _=>n
 | _=>0
def E6(w:Jr):Bool:=w.params.followText "set-order"
def SetI(prog:Js)(w:Jr)(h:Jo)(a:Jn)(ks:on Int):Prop:=
 ∃o es ep t,h.get? a=some o/\o.ExactSet/\o.data=.set es ep t/\ElemsOf (intKind prog w) es.toList/\(es.toList.map λ e=>O6 e.2).Perm ks/\es.size<scanBound/\t.fits es.size=true/\Tab t (!E6 w)
def pX(h:ElemsOf (intKind prog w) es)(b:e∈es):∃t,e.2=.int (O6 e.2) t:=by
 obtain⟨⟨k,a,_⟩,_⟩:=h e b;obtain⟨t,q⟩:=Value.isInt_shape a;exact⟨t,by rw[q];rfl⟩
def pY(h:ElemsOf (intKind prog w) es)(a:e∈es)(k:Int):(intKind prog w).is k e.2=true↔O6 e.2=k:=by
 obtain⟨t,q⟩:=pX h a;rw[q];show Value.isInt k (.int _ t)=true↔_;simp[Value.isInt,O6]
def SetI.at{prog:Js}{w:Jr}{a:Jn}{ks:on Int}{h h':Jo}(x:SetI prog w h a ks)(k:∀o,h.get? a=some o->h'.get? a=some o):SetI prog w h' a ks:=by
 obtain⟨o,es,ep,t,ho,r⟩:=x;exact⟨o,es,ep,t,k o ho,r⟩
def pZ{h:Jo}(c:h.get? a=some o)(b:o.data=.set es ep t) :
  (h.update a (Obj.putSet es' t')).get? a=some {o with data:=.set es' (ep+1) t'}:=by
 have q:=Z9 (Obj.putSet es' t') c (by rw[putSet_of es' t' b];rfl)
 rwa [putSet_of es' t' b]at q
def zo{prog:Js}{w:Jr}{A:Ju}{E:Jl->Jm->Prop}{s:Jm}{a:Jn}{ks:on Int}{k:Int}{tk:Tok}{Q:Jk Bool->Jm->Prop}{o:Obj}{es:Jq (Int×Jl)}{ep:Nat}{t:Jz}(ho:s.heap.get? a=some o)(hx:o.ExactSet)(hd:o.data=.set es ep t)
  (hel:ElemsOf (intKind prog w) es.toList) (hp:(es.toList.map λ e=>O6 e.2).Perm ks) (hb:es.size+1<scanBound) (ht:Tab t (!E6 w))
  {es1:Jq (Int×Jl)} {t1:Jz} (p1:es1.toList.Perm (es.toList++[(hashInt k,Value.int k tk)])) (f1:t1.fits es1.size=true) (g1:Tab t1 (!E6 w)) (wd:Bool) {g:Bool->Sem Unit}
  (hg:∀(b:Bool) (s₁:Jm) (Q':Unit->Jm->Prop),Q' () s₁->wpAny JH A (g b) Q' E s₁)
  (h:∀h',Heap.SameBut a s.heap h'->SetI prog w h' a (ks++[k])->Q (some true) {s with heap:=h'}) :
  wpAny JH A (do
   storeSet a es1 t1
   if(!wd&&t1.tooFull)=true then do
    g (relayAll t1 es1 (SetTable.grown es1.size)).2.2
    storeSet a (relayAll t1 es1 (SetTable.grown es1.size)).1 (relayAll t1 es1 (SetTable.grown es1.size)).2.1
    pure (some true)
   else pure (some true)) Q E s:=by
 have z1:es1.size=es.size+1:=(by have:=p1.length_eq;rw[x4,G6,G6]at this;exact this);have e1:ElemsOf (intKind prog w) es1.toList:=(hel.push (intKind_is prog w k tk) rfl).perm p1;have m1:(es1.toList.map λ e=>O6 e.2).Perm (ks++[k]):=(by refine(p1.map _).trans ?_;rw[C3];exact hp.append_right _);have b1:es1.size<scanBound:=by omega
 refine f0 (wpAny_storeSet_of ho hd ?_ (iN b1));have o1:=pZ (es':=es1) (t':=t1) ho hd;have sb:=M2 s.heap a (Obj.putSet es1 t1);split
 ·have p2:=relayAll_perm t1 es1 (SetTable.grown es1.size);have f2:=relayAll_fits t1 es1 (SetTable.grown es1.size);have g2:=g1.relayAll es1 (SetTable.grown es1.size);generalize relayAll t1 es1 (SetTable.grown es1.size)=R at p2 f2 g2 ⊢;have z2:R.1.size=es1.size:=by
   have:=p2.length_eq
   rwa [G6,G6]at this
  have b2:R.1.size<scanBound:=by omega
  refine f0 (hg _ _ _ ?_);refine f0 (wpAny_storeSet_of o1 rfl ?_ (iN b2));refine g7 (h _ (sb.trans (M2 _ a _)) ?_);exact⟨_,R.1,_,R.2.1,pZ o1 rfl,hx,rfl,e1.perm p2,(p2.map _).trans m1,b2,f2,g2⟩
 ·refine g7 (h _ sb ?_);exact⟨_,es1,_,t1,o1,hx,rfl,e1,m1,b1,f1,g1⟩
def zp(Z:SetI prog w s.heap a ks)(hr:ks.length+1<scanBound)
  (h:∀n b,Heap.SameBut a s.heap n->SetI prog w n a (dk ks k)->Q b {s with heap:=n}) :
  wpAny JH A (setAddHashed a (.int k tk) (hashInt k)) Q E s:=by
 obtain⟨o,es,ep,t,B,W,F,f,u,Y,P,K⟩:=id Z;have hz:es.size=ks.length:=by
  have:=u.length_eq
  rwa [i0,G6]at this
 have M:∀(b:Bool) (d:Jm) (H:Unit->Jm->Prop),H () d->wpAny JH A (match b with | true=>rule "set.scan.the-table-gave-way" | false=>pure ()) H E d:=λ b d H q=>by
  cases b with
  | true=>exact cN q
  | false=>exact g7 q
 unfold setAddHashed setAddHashedIn;refine F4 (f0 (aU B F P ?_));dsimp only;rw[byScan_of rfl Y f,f8 rfl];unfold setAddByScan;refine f0 (f0 (cN (f0 ?_)));refine wpAny_setScan_of (intKind_is prog w k tk) B F P f ?_;cases O:es.toList.findIdx? _ with
 | some j=>
  obtain⟨N,X,_⟩:=List.findIdx?_eq_some_iff_getElem.mp O;have C:=u.mem_iff.mp (m9.mpr ⟨es.toList[j],U1 N,(pY f (U1 N) k).mp X⟩);have m:dk ks k=ks:=by unfold dk;rw[f8 C]
  refine g7 (g7 ?_);have:=h s.heap false (Heap.SameBut.refl a s.heap) (by grind);exact this
 | none=>
  have C:k∉ks:=λ z=>by obtain⟨e,R,q⟩:=m9.mp (u.mem_iff.mpr z);have:=List.findIdx?_eq_none_iff.mp O e R;rw[(pY f R k).mpr q]at this;cases this
  have m:dk ks k=ks++[k]:=(by unfold dk;rw[g9 C]);rw[m]at h;dsimp only;have p1:=layNew_perm t es (hashInt k) (.int k tk);have y:=layNew_fits t es (hashInt k) (.int k tk);have v:=K.layNew es (hashInt k) (.int k tk);show wpAny _ _ _ _ _ _
  change wpAny _ A (match layNew t es (hashInt k) (.int k tk)with | _=>_) _ _ _
  generalize layNew t es _ _=L at p1 y v ⊢;obtain⟨c,J,I,gv⟩:=L;rw[Array.toList_push]at p1;dsimp only at p1 y v ⊢;refine f0 (M gv _ _ ?_);have p:∀g:Jz,g.fits c.size=true->Tab g (!E6 w)->wpAny JH A (do
   storeSet a c g
   if(!I&&g.tooFull)=true then do
    (λ b:Bool=>match b with | true=>rule "set.scan.the-table-gave-way" | false=>pure ()) (relayAll g c (SetTable.grown c.size)).2.2
    storeSet a (relayAll g c (SetTable.grown c.size)).1 (relayAll g c (SetTable.grown c.size)).2.1
    pure (some true)
   else pure (some true)) (λ r U=>wpAny JH A (match r with | some l=>pure l | none=>setAddHashedIn a (.int k tk) (hashInt k) 99999) Q E U) E s:=λ g f2 g2=>
   zo B W F f u JC K p1 f2 g2 I M λ n S S'=>g7 (h n true S S')
  split
  ·refine f0 ?_;rw[hashByValue_scannable 8 rfl];refine g7 ?_;exact p J y v
  ·refine f0 (g7 ?_);exact p J y v
open PySem.Spec PyProof.Rows
def fm(val:Nat->Int)(i:Nat):on Int:=((JS i).map val).foldl dk []
def qa(a:Nat->Int)(i:Nat):fm a (i+1)=dk (fm a i) (a i):=by
 unfold fm;rw[cD,C3,List.foldl_append];rfl
def zq(σ:on Int)(k:Int):(dk σ k).length<=σ.length+1:=by
 unfold dk;split
 ·exact ai _
 ·rw[x4];exact i8 _
theorem qb(a:Nat->Int):∀i,(fm a i).length<=i
 | 0=>i8 _
 | i+1=>by rw[qa];exact k6 (zq _ _) (Nat.succ_le_succ (qb a i))
def SetI.moved(x:SetI prog w s.heap S ks)(b:Moved wr G s a)(c:S∉wr):SetI prog w a.heap S ks:=x.at λ o e=>b.heap S o c e
def zr{prog:Js}{w:Jr}{A:Ju}{R:Result->Jm->Prop}{I:Jn}{fp wr:on Jn}{G:Jq GenState->Jq GenState->Prop}{n:Nat}{P:Nat->Jl->Prop}{St:Nat->Jm->Prop}(W:WalksS prog w A.in1 I fp wr G n P St)(S:Jn)(hSf:S∉fp)(val:Nat->Int)(hval:∀i v,P i v->∃t,v=.int (val i) t)(hb:n+1<scanBound) :
  ∀(k i:Nat) (s:Jm),i+k=n->St i s->SetI prog w s.heap S (fm val i) ->
   (∀s',Moved (S::wr) G s s'->SetI prog w s'.heap S (fm val n)->R (.ok (.ret .none)) s')->codeAny JH A (.builtin "set.update.loop" ⟨[.ref S,.ref I],[]⟩) R s:=by
 have hw:S∉wr:=λ z=>hSf (W.sub S z);have up:∀b∈wr,b∈S::wr:=λ b z=>o4 S z;intro k
 induction k with
 | zero=>
  intro i s e st hs hR;have e:i=n:=e;subst e;refine R5 nC ?_;rw[V8 ir];show wpAny JH A.in1 (pyNext (.ref I) >>= _) _ _ s;refine f0 (W.done s _ _ st λ s' hm=>?_);show wpAny JH A.in1 (ret Value.none) _ _ s';exact g7 (hR s' (hm.mono up) (hs.moved hm hw))
 | succ k ih=>
  intro i s e st hs hR;have hi:i<n:=by omega
  refine R5 nC ?_;rw[V8 ir];show wpAny JH A.in1 (pyNext (.ref I) >>= _) _ _ s;refine f0 (W.item i s _ _ hi st λ v s' hP st' hm=>?_);obtain⟨t,hv⟩:=hval i v hP;subst hv;have hs':=hs.moved hm hw;show wpAny JH A.in1 (holding [Value.int (val i) t] (setAdd S (.int (val i) t)) >>= _) _ _ s';refine f0 (F4 ?_);unfold setAdd;refine F4 (f0 ((intKind prog w).pyHash (k:=val i) (intKind_is prog w (val i) t) ?_));have hl:=qb val i;refine zp (s:={s' with toks:=s'.toks+1}) (k:=val i) (tk:=t) hs' JC λ h' b sb S'=>?_;have hkeep:∀b o,b≠S->s'.heap.get? b=some o->h'.get? b=some o:=λ b o hb e=>by rw[sb.2 b hb];exact e
  refine g7 ⟨U3 ir _,ih (i+1) _ JC (W.frame (i+1) s' h' _ st' (ai _) λ b hb o e=>hkeep b o (λ z=>hSf (z▸hb)) e) (by rw[qa];exact S') λ s2 hm2 S2=>?_⟩;refine hR s2 (Moved.trans W.gtrans ((hm.mono up).then_heap (ai _) λ b o hb e=>hkeep b o (λ z=>hb (z▸o6)) e) hm2) S2
noncomputable def set0(w:Jr):Obj:={cls:=.type "set",dict:=none,data:=.set #[] 0 (.fresh 0 0 (!E6 w))}
def zt(e:h.get? a=some (set0 w)):SetI prog w h a []:=
 ⟨_,#[],0,_,e,⟨rfl,rfl,rfl⟩,rfl,λ _ z=>by simp at z,by simp,by decide,by rfl,Tab.fresh _⟩
def zu(v:Jl)(h:Q (.ref s.heap.objs.size) {s with heap:=s.heap.push (set0 w)}) :
  codeAny JH A (.call (.builtin "set.__new__") ⟨[.type "set",v],[]⟩) (wants Q E) s:=by
 refine codeAny_of_tree ?_;show wpAny _ A.in1 _ _ _ s;refine f0 (aZ (F.newCall_set_1 v) ?_);refine g7 ⟨U3 F.plain_set_new _,R5 F.entry_set_new ?_⟩;rw[V8 F.plain_set_new];unfold Builtin.«set.__new__» Builtin.Frozenset.newClass;have q:=sub_set_self;obtain⟨h0,g0,d0,t0,o0⟩:=s
 wp_walk
 refine aW (g7 ?_);simp[newObj];exact f0 (wpAny_alloc (g7 (g7 h)))
def zw{prog:Js}{w:Jr}{A:Ju}{E:Jl->Jm->Prop}{s:Jm}{l:Jn}{items:Jq Jl}{ns:on Int}{Q:Jl->Jm->Prop}(hh:A.handled=none)(hl:s.heap.IsList l items)(hi:IntsAre items.toList ns)(hb:items.size+1<scanBound)
  (h:∀h' tk,SetI prog w h' s.heap.objs.size (fm (λ i=>ns.getD i 0) items.size)->(∀b o,s.heap.get? b=some o->h'.get? b=some o)->Q (.ref s.heap.objs.size) {s with heap:=h',toks:=tk}) :
  wpAny JH A (call (.type "set") [.ref l]) Q E s:=by
 have m0:=F.called_set.mro;obtain⟨c0,r0,m1⟩:=m0;have m2:=F.called_set.made;have m3:=F.called_set.sub;have m4:=F.called_set.notType;have m5:=F.called_set.canCreate;have m6:=F.typeCall_set_1 (.ref l);refine cM (codeAny_of_tree ?_);show wpAny JH _ (callAny (.type "set") _) _ _ _;refine g7 ⟨Code.quiet_builtin _ (by decide +kernel),R5 F.entry_type_call ?_⟩;rw[Around.under_plain (weight_type_call_type "set" [.ref l] []) rfl]
 repeat (any_goals (first | assumption | wp_step))
 refine R6 (zu (.ref l) (E:=E) (Q:=λ v s1=>v=.ref s.heap.objs.size/\s1 = {s with heap:=s.heap.push (set0 w)}) ⟨rfl,rfl⟩) λ r s1 q=>?_;cases r with
 | error e=>exact q
 | ok f=>
  cases f with
  | ret v=>
   obtain⟨e1,e2⟩:=q;subst e1;subst e2;have g0:(s.heap.push (set0 w)).get? s.heap.objs.size=some (set0 w):=q5 _ rfl;have ty:Shared.TypeIs {s with heap:=s.heap.push (set0 w)} (.ref s.heap.objs.size) "set":=⟨_,g0,rfl⟩;have n1:=F.called_set.init.lookup;have n2:=F.called_set.init.bind (.ref s.heap.objs.size)
   repeat (any_goals (first | assumption | wp_step))
   refine R6 (iE (R:=wants (λ v s2=>v=.none/\∃h' tk,s2 = {s with heap:=h',toks:=tk} /\ SetI prog w h' s.heap.objs.size (fm (λ i=>ns.getD i 0) items.size) /\
     ∀b o,s.heap.get? b=some o->h'.get? b=some o) E) F.called_set.init.plain F.entry_set_init (check_set_init_1 ty ?_)) λ r2 s2 q2=>?_
   ·obtain⟨⟨k1,k2,k3,k4⟩,kl,kc,kn,kd⟩:=hl;dsimp only at kc kd;subst kc;subst kd;have kl':(s.heap.push (set0 w)).get? l=some {cls:=.type "list",dict:=k2,data:=.seq items kn,slots:=k4}:=k9 _ kl;have il:(s.heap.push (set0 w)).IsList l items:=⟨_,kl',rfl,kn,rfl⟩;have p1:=F.sub_list_set;have p2:=F.sub_list_frozenset;have p3:(Value.type "list" == Value.type "dict")=false:=by decide
    unfold Builtin.«set.__init__» noKeywords Builtin.Frozenset.updateFrom;generalize hP:pyIter=PI
    wp_walk
    subst hP;refine iJ il (f0 (wpAny_runValue ?_));have l0:l<s.heap.objs.size:=k8 kl;have z1:(s.heap.push (set0 w)).objs.size=s.heap.objs.size+1:=G0 _ _;have a1:l≠(s.heap.push (set0 w)).objs.size:=by rw[z1];exact o9 (P3 l0)
    have a2:s.heap.objs.size∉[(s.heap.push (set0 w)).objs.size,l]:=by
     rw[z1];intro z;rcases j0.mp z with z | z
     ·exact absurd z (o9 (cu _))
     ·exact absurd (C2.mp z) (M4 l0)
    refine zr ((fB (by show A.handled=none;exact hh) _ l a1 items).toS) s.heap.objs.size a2 (λ i=>ns.getD i 0) (λ i v e=>IntsAre.int_at hi i v (by rw[L9];exact e)) hb
     items.size 0 _ (cK _) ⟨⟨_,q5 _ rfl,rfl,rfl⟩,il.push _⟩ (zt (k9 _ g0)) λ s3 hm S3=>?_
    obtain⟨h3,g3,d3,t3,o3⟩:=s3;have b1:g3=s.gens:=hm.gens;have b2:d3=s.drawn:=hm.drawn;have b3:o3=s.os:=hm.os;subst b1;subst b2;subst b3;show wpAny JH _ _ _ _ _;refine g7 ?_;show wpAny JH _ (ret Value.none) _ _ _;refine g7 ⟨rfl,h3,t3,rfl,S3,λ b o e=>?_⟩;have b4:=k8 e;refine hm.heap b o (λ z=>?_) (k9 _ (k9 _ e));rcases j0.mp z with z | z
    ·exact absurd z (o9 b4)
    ·have:=C2.mp z;rw[z1]at this;exact absurd this (o9 (P3 b4))
   ·cases r2 with
    | error e=>exact q2
    | ok f2=>
     cases f2 with
     | ret v2=>
      obtain⟨c1,h',tk,c2,c3,c4⟩:=q2;subst c1;subst c2
      repeat (any_goals (first | assumption | wp_step))
      exact h h' tk c3 c4
     | _=>exact q2.elim
  | _=>exact q.elim
def F5(h:Jo)(I a:Jn)(f:Jl)(i n ep:Nat):Prop:=∃o,h.get? I=some o/\o.cls=.type "set_iterator" /\ o.data=.fields #[f,.int i 0,.ref a,.int n 0,.int ep 0]
def K3(h:Jo)(a:Jn)(es:Jq (Int×Jl))(ep:Nat)(t:Jz):Prop:=∃o,h.get? a=some o/\o.ExactSet/\o.data=.set es ep t
def F5.typeIs{s:Jm}(x:F5 s.heap I a f i n ep):s.TypeIs (.ref I) "set_iterator":=let ⟨o,e,c,_⟩:=x;⟨o,e,c⟩
def F5.at{h h':Jo}{I a:Jn}{f:Jl}{i n ep:Nat}(x:F5 h I a f i n ep)(k:∀o,h.get? I=some o->h'.get? I=some o):F5 h' I a f i n ep:=let ⟨o,e,c⟩:=x;⟨o,k o e,c⟩
def K3.at{h h':Jo}{a:Jn}{es:Jq (Int×Jl)}{ep:Nat}{t:Jz}(x:K3 h a es ep t)(k:∀o,h.get? a=some o->h'.get? a=some o):K3 h' a es ep t:=let ⟨o,e,c⟩:=x;⟨o,k o e,c⟩
def K3.typeIs{s:Jm}(x:K3 s.heap a es ep t):s.TypeIs (.ref a) "set":=let ⟨o,e,c,_⟩:=x;⟨o,e,c.1⟩
def Q3:Slot "set_iterator" "__next__" "set_iterator.__next__":=
 .of (owner:="set_iterator") (n:="__next__") (by rw[typeLookup_type,nT];kernel_rfl) (by decide +kernel) (by decide +kernel) (by decide +kernel)
  (by first | exact .inl (by decide +kernel) | exact .inr (by decide +kernel)) (by rw[jb];kernel_rfl)
def fY:entryFor table "set_iterator.__next__" = some Builtin.«set_iterator.__next__»:=entryFor_of_tree (by kernel_rfl)
def fZ(v:Jl):argsOk "set_iterator.__next__" ⟨[v],[]⟩:=by unfold argsOk;kernel_rfl
def zx:entryFor table "set.__iter__" = some Builtin.«frozenset.__iter__»:=entryFor_alias (id':="frozenset.__iter__") (by kernel_rfl) rfl (by decide +kernel) (by kernel_rfl)
def qc{ep:Nat}{h:Jo}{i:Nat}{n:Nat}(e:h.get? I=some o)(c:o.cls=.type "set_iterator")(d:o.data=.fields #[f,.int i 0,.ref a,.int n 0,.int ep 0]) :
  F5 (h.update I (Obj.mapFields (·.setIfInBounds 1 (rawInt ((i:Int)+1))))) I a f (i+1) n ep:=by
 refine⟨_,Z9 _ e (iB (aR d _)),(iM ..).trans c,?_⟩;rw[aR d];simp[rawInt]
def qd{ep:Nat}{h:Jo}(g:Jl){i:Nat}{n:Nat}(e:h.get? I=some o)(c:o.cls=.type "set_iterator")(d:o.data=.fields #[f,.int i 0,.ref a,.int n 0,.int ep 0]) :
  F5 (h.update I (Obj.mapFields (·.setIfInBounds 0 g))) I a g i n ep:=by
 refine⟨_,Z9 _ e (iB (aR d _)),(iM ..).trans c,?_⟩;rw[aR d];simp
def qe{prog:Js}{w:Jr}{A:Ju}{E:Jl->Jm->Prop}{s:Jm}{I a:Jn}{es:Jq (Int×Jl)}{ep:Nat}{t:Jz}{Q:Jk Jl->Jm->Prop}{slot i j:Nat}{x:Jl}(hI:F5 s.heap I a (.int slot 0) i es.size ep)(hS:K3 s.heap a es ep t)(hf:t.fits es.size=true)
  (hn:∀(A:Ju) (E':Jl->Jm->Prop) (Q':Jk (Jl×Nat)->Jm->Prop),Q' (some (x,j)) s->wpAny JH A (setNext a slot i ep) Q' E' s)
  (hQ:∀h',F5 h' I a (.int j 0) (i+1) es.size ep->Heap.SameBut I s.heap h'->Q (some x) {s with heap:=h'}):wpAny JH A (pyNext (.ref I)) Q E s:=by
 obtain⟨o,ho,hc,hd⟩:=id hI;obtain⟨p,hp,hx,hq⟩:=id hS;unfold pyNext;refine f0 (U4 (Q6 (name:=Str.ofString "__next__") hI.typeIs Q3 (G7 Q3 hI.typeIs fY ?_ (fZ _))));unfold Builtin.«set_iterator.__next__»;refine f0 (g7 ?_);dsimp only;refine f0 (cG ho hd ?_);dsimp only;refine f0 (cn hp hq hf ?_);rw[show(((es.size:Nat):Int) != ((es.size:Nat):Int))=false by simp,g9 B7];simp only[D3];refine f0 (hn _ _ _ ?_);dsimp only;refine f0 (W3 ho hd JK ?_);have I1:=qd (ep:=ep) (rawInt j) ho hc hd;obtain⟨o1,ho1,hc1,hd1⟩:=id I1;refine f0 (W3 ho1 hd1 JK (g7 ⟨x,rfl,g7 (hQ _ (qc ho1 hc1 hd1) ?_)⟩));exact(M2 ..).trans (M2 ..)
def qf{prog:Js}{w:Jr}{A:Ju}{E:Jl->Jm->Prop}{s:Jm}{I a:Jn}{es:Jq (Int×Jl)}{ep:Nat}{t:Jz}{Q:Jk Jl->Jm->Prop}{slot i:Nat}(hh:A.handled=none)(hI:F5 s.heap I a (.int slot 0) i es.size ep)(hS:K3 s.heap a es ep t)(hf:t.fits es.size=true)
  (hn:∀(A:Ju) (E':Jl->Jm->Prop) (Q':Jk (Jl×Nat)->Jm->Prop),Q' none s->wpAny JH A (setNext a slot i ep) Q' E' s)
  (hQ:∀h',Heap.ExtBut I s.heap h'->Q none {s with heap:=h'}):wpAny JH A (pyNext (.ref I)) Q E s:=by
 obtain⟨o,ho,hc,hd⟩:=id hI;obtain⟨p,hp,hx,hq⟩:=id hS;unfold pyNext;refine f0 (U4 (Q6 (name:=Str.ofString "__next__") hI.typeIs Q3 (G7 Q3 hI.typeIs fY ?_ (fZ _))));unfold Builtin.«set_iterator.__next__»;refine f0 (g7 ?_);dsimp only;refine f0 (cG ho hd ?_);dsimp only;refine f0 (cn hp hq hf ?_);rw[show(((es.size:Nat):Int) != ((es.size:Nat):Int))=false by simp,g9 B7];simp only[D3];refine f0 (hn _ _ _ ?_);dsimp only;refine f0 (W3 ho hd JK ?_);refine f0 ?_;simp only[newExc,newTuple];refine f0 (E3 ?_ (by size_fits));refine f0 (m:=firstArgMember _ _) (aZ (a:=Value.none) (by first | rfl | (simp only[firstArgMember];rfl)) ?_);refine E3 ?_ (by size_fits);simp only[raiseNew];refine f0 (jf ?_);rw[show A.in1.handled=none from hh];refine f0 (g7 (wpAny_throw ?_));refine f0 (cw (T:="StopIteration") (b:=true) ⟨_,q5 _ rfl,rfl⟩ eZ ?_);exact g7 (hQ _ (((M2 ..).extBut.push _).push _))
def zC{k:Nat}(f:F5 s.heap I a (.ref q) i es.size ep)(B:K3 s.heap a es ep t)(l:t.fits es.size=true)(r:IsTup s.heap q ps)(u:ps[i]? = some (.int k 0))(n:es[k]? = some (z,x))
  (C:∀g,F5 g I a (.ref q) (i+1) es.size ep->Heap.SameBut I s.heap g->Q (some x) {s with heap:=g}):wpAny JH A (pyNext (.ref I)) Q E s:=by
 obtain⟨o,c,y,e⟩:=id f;obtain⟨p,j,m,h⟩:=id B;unfold pyNext;refine f0 (U4 (Q6 f.typeIs Q3 (G7 Q3 f.typeIs fY ?_ (fZ _))));unfold Builtin.«set_iterator.__next__»;refine f0 (g7 ?_);refine f0 (cG c e ?_);refine f0 (cn j h l ?_);rw[show(_ != _)=false by simp,g9 B7];simp[D3];obtain⟨oq,b,v,nq,d⟩:=r;refine f0 (ag b d ?_);dsimp only;rw[u];unfold setNextDrawn;simp only[D3];refine f0 (f0 (aU j h l ?_));rw[show(ep != ep)=false by simp,g9 B7];rw[n];refine g7 ?_;refine f0 (W3 c e JK (g7 ⟨x,rfl,g7 (C _ (qc c y e) (M2 ..))⟩))
def zE(v:A.handled=none)(j:F5 s.heap I a (.ref q) i es.size ep)(C:K3 s.heap a es ep t)(x:t.fits es.size=true)(l:IsTup s.heap q ps)(u:ps[i]? = none)
  (F:∀k,Heap.ExtBut I s.heap k->Q none {s with heap:=k}):wpAny JH A (pyNext (.ref I)) Q E s:=by
 obtain⟨o,e,B,h⟩:=id j;obtain⟨p,r,hx,n⟩:=id C;unfold pyNext;refine f0 (U4 (Q6 j.typeIs Q3 (G7 Q3 j.typeIs fY ?_ (fZ _))));unfold Builtin.«set_iterator.__next__»;refine f0 (g7 ?_);dsimp only;refine f0 (cG e h ?_);dsimp only;refine f0 (cn r n x ?_);rw[show(((es.size:Nat):Int) != ((es.size:Nat):Int))=false by simp,g9 B7];simp only[D3];obtain⟨oq,c,y,nq,f⟩:=l;refine f0 (ag c f ?_);dsimp only;rw[u];dsimp only;refine f0 (W3 e h JK ?_);obtain⟨o1,d,z,g⟩:=qd (ep:=ep) (rawInt 0) e B h;refine f0 (W3 d g JK ?_);refine f0 ?_;simp only[newExc,newTuple];refine f0 (E3 ?_ (by size_fits));refine f0 (m:=firstArgMember _ _) (aZ (a:=Value.none) (by first | rfl | (simp only[firstArgMember];rfl)) ?_);refine E3 ?_ (by size_fits);simp only[raiseNew];refine f0 (jf ?_);rw[show A.in1.handled=none from v];refine f0 (g7 (wpAny_throw ?_));refine f0 (cw (T:="StopIteration") (b:=true) ⟨_,q5 _ rfl,rfl⟩ eZ ?_);exact g7 (F _ ((((M2 ..).trans (M2 ..)).extBut.push _).push _))
section
variable {prog:Js} {w:Jr} {A:Ju} {E:Jl->Jm->Prop} {s:Jm} {I a:Jn} {es:Jq (Int×Jl)} {ep:Nat} {t:Jz}
def qg(d:E6 w=true)(g:K3 s.heap a es ep t)(f:t.fits es.size=true)
  (h:Q (((pickOrder (w.params.setOrder a ep) es)[i]?).map λ e=>(e.2,slot)) s):wpAny JH A (setNext a slot i ep) Q E s:=by
 obtain⟨p,c,hx,b⟩:=id g;unfold setNext;refine f0 (aU c b f ?_);dsimp only;unfold setsByText;refine f0 (f0 (aW (g7 ?_)));show wpAny _ A (if E6 w=true then _ else _) Q E s;rw[f8 d];rw[show(ep != ep)=false by simp,g9 B7];refine f0 ?_;unfold setWalk;refine f0 (aU c b f ?_);dsimp only;unfold setsByText;refine f0 (f0 (aW (g7 ?_)));show wpAny JH A (if E6 w=true then _ else _) _ E s;rw[f8 d];exact f0 (aW (g7 (g7 h)))
def qh(d:E6 w=false)(g:(!t.plain&&decide (es.size>1))=false)(e:t.led=true)(k:K3 s.heap a es ep t)(f:t.fits es.size=true)
  (h:Q (match es[SetTable.below t.place slot]?,t.place[SetTable.below t.place slot]? with | some (_,x),some j=>some (x,j+1) | _,_=>none) s):wpAny JH A (setNext a slot i ep) Q E s:=by
 obtain⟨p,c,hx,b⟩:=id k;unfold setNext;refine f0 (aU c b f ?_);dsimp only;unfold setsByText;refine f0 (f0 (aW (g7 ?_)));show wpAny _ A (if E6 w=true then _ else _) Q E s;rw[g9 (by rw[d];exact B7)];show wpAny _ A (if(!t.plain&&decide (es.size>1))=true then _ else _) Q E s;rw[g,g9 B7];refine f0 ?_;show wpAny JH A (if(!t.led && !es.isEmpty)=true then _ else _) _ E s;rw[e];exact g7 (g7 h)
def zF:∀(n:Nat) (a:on e) (s:Jm),a.length=n->(∀l d,l.Perm a->Q l {s with drawn:=d})->wpAny JH A (drawOrder n a) Q E s:=by
 intro n
 induction n generalizing Q with
 | zero=>
  intro a s c h;have:=Z7.mp c;subst this;exact g7 (h [] s.drawn .rfl)
 | succ n g=>
  intro a s c h;cases a with
  | nil=>cases c
  | cons y r=>
   show wpAny _ A _ Q E s;have b:∀i,i<(y::r).length->wpAny _ A (match _[i]? with
     | some x=>do return x::(←drawOrder n ((y::r).eraseIdx i))
     | none=>unsupported "internal:drawOrder") Q E {s with drawn:=s.drawn.bump .order}:=λ i f=>by
    rw[(p8 f)];refine f0 (g _ _ (by grind) λ l d p=>g7 (h _ d ?_));exact(List.Perm.cons _ p).trans (jV f rfl)
   refine f0 λ Γ p j=>⟨by simp,?_⟩;exact b _ (Nat.mod_lt _ JK)
noncomputable def qi(f:Jl)(a:Jn)(n ep:Nat):Obj:={cls:=.type "set_iterator",data:=.fields #[f,.int 0 0,.ref a,.int n 0,.int ep 0]}
def jW{h:Jo}:F5 (h.push (qi f a n ep)) h.objs.size a f 0 n ep:=⟨_,q5 _ rfl,rfl,rfl⟩
end
section
variable {prog:Js} {w:Jr} {A:Ju} {E:Jl->Jm->Prop} {s:Jm} {I a:Jn} {es:Jq (Int×Jl)} {ep:Nat} {t:Jz}
abbrev Nx(prog:Js)(w:Jr)(I:Jn)(fp:on Jn)(n:Nat)(ws:on Jl)(St:Nat->Jo->Prop):Prop:=
 ∀A:Ju,A.handled=none->WalksS prog w A I fp [I] (λ a b=>b=a) n (λ i v=>ws[i]? = some v) (λ i s=>St i s.heap)
def jX {fp : on Jn} {n : Nat} {ws : on Jl} {St : Nat -> Jo -> Prop} (hI : I ∈ fp) (hz : ws.length = n)
    (fr : ∀ i h h', St i h -> (∀ b ∈ fp, ∀ o, h.get? b = some o -> h'.get? b = some o) -> St i h')
    (it : ∀ (A : Ju) (E : Jl -> Jm -> Prop) (Q : Jk Jl -> Jm -> Prop) (s : Jm) i v, A.handled = none -> ws[i]? = some v -> St i s.heap -> (∀ h', St (i + 1) h' -> Heap.SameBut I s.heap h' -> Q (some v) { s with heap := h' }) -> wpAny JH A (pyNext (.ref I)) Q E s)
    (dn : ∀ (A : Ju) (E : Jl -> Jm -> Prop) (Q : Jk Jl -> Jm -> Prop) (s : Jm), A.handled = none -> St n s.heap -> (∀ h', Heap.ExtBut I s.heap h' -> Q none { s with heap := h' }) -> wpAny JH A (pyNext (.ref I)) Q E s)
    (sf : ∀ (A : Ju) (E : Jl -> Jm -> Prop) (Q : Jl -> Jm -> Prop) (s : Jm) i, St i s.heap -> Q (.ref I) s -> wpAny JH A (pyIter (.ref I)) Q E s) : Nx prog w I fp n ws St := λ A hh =>
  { sub := λ b hb => by rw [C2.mp hb]; exact hI
    grefl := λ _ => rfl
    gtrans := λ _ _ _ h1 h2 => h2.trans h1
    frame := λ i s h' tk st _ k => fr i s.heap h' st k
    item := λ i s Q E hi st hQ => by have hg : ws[i]? = some ws[i] := p8 JC;exact it A E Q s i _ hh hg st λ h' st' sb => hQ _ _ hg st' ⟨λ b o hb e => sb.extBut b o (λ z => hb (C2.mpr z)) e, rfl, rfl, rfl, i8 _⟩
    done := λ s Q E st hQ => dn A E Q s hh st λ h' eb => hQ _ ⟨λ b o hb e => eb b o (λ z => hb (C2.mpr z)) e, rfl, rfl, rfl, i8 _⟩
    self := λ i s Q E st hQ => sf A E Q s i st hQ }
def gb{h h':Jo}{b:Jn}(sb:Heap.SameBut I h h')(hb:b≠I):∀o,h.get? b=some o->h'.get? b=some o:=λ o e=>sb.extBut b o hb e
def qj:Slot "set_iterator" "__iter__" "set_iterator.__iter__":=
 .of (owner:="set_iterator") (n:="__iter__") (by rw[typeLookup_type,nT];kernel_rfl) (by decide +kernel) (by decide +kernel) (by decide +kernel)
  (by first | exact .inl (by decide +kernel) | exact .inr (by decide +kernel)) (by rw[jb];kernel_rfl)
def zG:entryFor table "set_iterator.__iter__" = some Builtin.«dict_keyiterator.__iter__»:=entryFor_alias (id':="dict_keyiterator.__iter__") (by kernel_rfl) rfl (by decide +kernel) (by kernel_rfl)
def zH(v:Jl):argsOk "set_iterator.__iter__" ⟨[v],[]⟩:=by unfold argsOk;kernel_rfl
def jY(b:F5 s.heap I a f i n ep)(h:Q (.ref I) s):wpAny JH A (pyIter (.ref I)) Q E s:=by
 refine iO b.typeIs qj (G7 qj b.typeIs zG ?_ (zH _));show wpAny _ _ _ _ _ s;exact g7 ⟨_,rfl,"set_iterator",_,b.typeIs,Q3.lookup,h⟩
def zI(l:E6 w=true)(c:t.fits es.size=true)(f:a≠I) :
  Nx prog w I [I,a] es.size ((pickOrder (w.params.setOrder a ep) es).toList.map (·.2)) (λ i h=>F5 h I a (.int (0:Nat) 0) i es.size ep/\K3 h a es ep t):=by
 have hz:(pickOrder (w.params.setOrder a ep) es).size=es.size:=by
  have:=(pW (w.params.setOrder a ep) es).length_eq
  rwa [G6,G6]at this
 refine jX JK (by grind) (λ i h n st k=>⟨st.1.at (k I JK),st.2.at (k a JK)⟩) (λ A E Q s i v m b st g=>?_) (λ A E Q s m st g=>?_) λ A E Q s i st h=>jY st.1 h
 ·obtain⟨e,he,hev⟩:∃e,(pickOrder (w.params.setOrder a ep) es)[i]? = some e/\e.2=v:=by
   rw[q9,L9]at b;cases q:(pickOrder _ es)[i]? with
   | none=>rw[q]at b;cases b
   | some e=>rw[q]at b;cases b;exact⟨e,rfl,rfl⟩
  refine qe st.1 st.2 c (λ A p o q=>qg l st.2 c (by rwa [he,O0,hev])) λ n d j=>?_;exact g n ⟨d,st.2.at (gb j f)⟩ j
 ·refine qf m st.1 st.2 c (λ A p o q=>qg l st.2 c (by grind)) g
noncomputable def db(t:Jz):Nat->Nat
 | 0=>0
 | i+1=>t.place.getD i 0+1
def qk(a:Rise t.place):∀{i:Nat},i<=t.place.size->SetTable.below t.place (db t i)=i
 | 0,_=>zj a
 | i+1,h=>by have b:t.place[i]? = some t.place[i]:=T7 JC;show SetTable.below t.place (t.place.getD i 0+1)=i+1;rw[aK,b];exact zi a b
def zJ(g:E6 w=false)(y:(!t.plain&&decide (es.size>1))=false)(f:Tab t (!E6 w))(b:t.fits es.size=true)(l:a≠I) :
  Nx prog w I [I,a] es.size (es.toList.map (·.2)) (λ i h=>F5 h I a (.int (db t i:Nat) 0) i es.size ep/\K3 h a es ep t/\i<=es.size):=by
 have p:t.led=true:=by rw[f.led,g];rfl
 have hz:t.place.size=es.size:=(by unfold SetTable.fits at b;rw[f9]at b;exact i5.mp b.1);refine jX JK (by rw[i0,G6]) (λ i h B st k=>⟨st.1.at (k I JK),st.2.1.at (k a JK),st.2.2⟩) (λ A E Q s i v r c st n=>?_) (λ A E Q s r st n=>?_) λ A E Q s i st h=>jY st.1 h
 ·obtain⟨z,he⟩:∃z,es[i]? = some (z,v):=by
   rw[q9,L9]at c;cases q:es[i]? with
   | none=>rw[q]at c;cases c
   | some e=>rw[q]at c;cases c;exact⟨e.1,rfl⟩
  have F:i<es.size:=by
   rcases ah i es.size with h | h
   ·exact h
   ·rw[T8 h]at he;cases he
  have u:t.place[i]? = some t.place[i]:=T7 JC;have m:=qk f.rise (i:=i) JC;have C:db t (i+1)=t.place[i]+1:=(by show t.place.getD i 0+1=_;rw[aK,u];rfl);refine qe (slot:=db t i) (j:=db t (i+1)) (x:=v) st.1 st.2.1 b (λ A J H q=>qh g y p st.2.1 b (by rw[m,he,u];rw[C]at q;exact q)) λ B d o=>?_;exact n B ⟨d,st.2.1.at (gb o l),F⟩ o
 ·have m:=qk f.rise (i:=es.size) JC;refine qf r st.1 st.2.1 b (λ A J H q=>qh g y p st.2.1 b (by rw[m,T8 (i8 _)];exact q)) n
def zK{l:on Nat}(n:l.Perm (JS es.size))(u:t.fits es.size=true)(g:a≠I)(B:q≠I) :
  Nx prog w I [I,a,q] es.size (l.map λ i=>(es.getD i (0,.none)).2) (λ i h=>F5 h I a (.ref q) i es.size ep/\K3 h a es ep t/\IsTup h q (l.map λ (i:Nat)=>Value.int i 0).toArray):=by
 have hl:l.length=es.size:=by rw[n.length_eq,A8]
 refine jX JK (by grind) (λ i h z st k=>⟨st.1.at (k I JK),st.2.1.at (k a JK),let ⟨o,e,r⟩:=st.2.2;⟨o,k q JK o e,r⟩⟩) (λ A E Q s i v p b st m=>?_) (λ A E Q s p st m=>?_) λ A E Q s i st h=>jY st.1 h
 ·obtain⟨k,hk,hkv⟩:∃k,l[i]? = some k/\(es.getD k _).2=v:=by
   rw[q9]at b;cases q:l[i]? with
   | none=>rw[q]at b;cases b
   | some k=>rw[q]at b;cases b;exact⟨k,rfl,rfl⟩
  have j:=(by have:=n.mem_iff.mp (eH.mpr ⟨i,hk⟩);exact x5.mp this);have y:=T7 j;have f:es[k].2=v:=(by rw[←hkv,aK,y];rfl);refine zC (x:=v) st.1 st.2.1 u st.2.2 (by rw[←L9,List.toList_toArray,q9,hk];rfl) (by rw[y,←f]) λ z c d=>?_;exact m z ⟨c,st.2.1.at (gb d g),let ⟨o,e,r⟩:=st.2.2;⟨o,gb d B o e,r⟩⟩ d
 ·refine zE p st.1 st.2.1 u st.2.2 (T8 (by grind)) m
def zL(m:K3 s.heap a es ep t)(f:t.fits es.size=true)(r:es.size<=sizeLine)
  (B:Tab t (!E6 w)) (h:∀I h' d fp ws St,Nx prog w I fp es.size ws St->St 0 h'->ws.Perm (es.toList.map (·.2))->(∀b o,s.heap.get? b=some o->h'.get? b=some o)->(∀b∈fp,b=a\/s.heap.objs.size<=b)->s.heap.objs.size<=I->Q (.ref I) {s with heap:=h',drawn:=d}) :
  wpAny JH A (pyIter (.ref a)) Q E s:=by
 have g:=let ⟨_,n,_⟩:=m;k8 n;obtain⟨p,n,hx,u⟩:=id m;refine iO m.typeIs F.slot_set_iter (G7 F.slot_set_iter m.typeIs zx ?_ (F.args_set_iter_1 _));unfold Builtin.«frozenset.__iter__» Builtin.Frozenset.slot0 slotArgs;simp only[iT,Bool.not_true,W0,↓reduceIte,bind_assoc,eW,aa];unfold Builtin.Frozenset.addrOf Builtin.Frozenset.sizeOf;refine f0 (g7 ?_)
 try dsimp only
 refine f0 (g7 ?_);refine f0 (f0 (cn n u f (g7 ?_)));unfold setDrawn;refine f0 (f0 (aU n u f ?_));dsimp only;unfold setsByText;refine f0 (f0 (aW (g7 (g7 ?_))));show wpAny JH _ (if(!E6 w&&(!t.plain&&decide (es.size>1)))=true then _ else _) _ _ _;by_cases q:(!E6 w&&(!t.plain&&decide (es.size>1)))=true
 ·rw[f8 q];have ho:E6 w=false:=by
   cases e:E6 w with
   | false=>rfl
   | true=>rw[e]at q;cases q
  refine f0 (zF es.size _ s (A8) λ l d v=>?_);have hl:l.length=es.size:=by rw[v.length_eq,A8]
  unfold newTuple;refine f0 (E3 ?_ (by show(l.map _).toArray.size<=_;simp;omega));refine f0 (wpAny_setEpoch_of (k9 _ n) u f ?_);refine f0 (E3 (g7 ⟨_,rfl,"set_iterator",_,⟨_,q5 _ rfl,rfl⟩,Q3.lookup,?_⟩));have z:(s.heap.push {cls:=.type "tuple",data:=.seq (l.map λ (i:Nat)=>rawInt i).toArray}).objs.size=s.heap.objs.size+1:=G0 _ _;refine h _ _ d _ _ _ (zK (ep:=ep) (t:=t) v f ?_ ?_) ⟨jW,m.at λ _ e=>k9 _ (k9 _ e),_,k9 _ (q5 _ rfl),rfl,_,rfl⟩ ?_ (λ b o e=>k9 _ (k9 _ e)) ?_ ?_
  ·rw[z];exact o9 (P3 g)
  ·rw[z];exact o9 (cu _)
  ·refine(v.map _).trans (List.Perm.of_eq ?_);refine eR λ j=>?_;have H:es.toList[j]? = es[j]?:=L9;rw[q9,q9,H];by_cases y:j<es.size
   ·rw[aO y,O0,aK,T7 y];rfl
   ·have C:(JS es.size)[j]? = none:=M0 (by rw[A8];omega);rw[C,T8 JC];rfl
  ·intro b r;simp only[j0,P5,P7]at r;rcases r with rfl | rfl | rfl
   ·exact .inr (z▸ai _)
   ·exact .inl rfl
   ·exact .inr (i8 _)
  ·exact z▸ai _
 ·rw[g9 q];refine f0 (g7 ?_);refine f0 (wpAny_setEpoch_of n u f ?_);refine f0 (E3 (g7 ⟨_,rfl,"set_iterator",_,⟨_,q5 _ rfl,rfl⟩,Q3.lookup,?_⟩));have k:=λ b o (e:s.heap.get? b=some o)=>k9 (qi (.int 0 0) a es.size ep) e
  have x:∀b∈[s.heap.objs.size,a],b=a\/s.heap.objs.size<=b:=λ b r=>by
   simp only[j0,P5,P7]at r;rcases r with rfl | rfl
   ·exact .inr (i8 _)
   ·exact .inl rfl
  by_cases c:E6 w=true
  ·exact h _ _ s.drawn _ _ _ (zI (t:=t) (ep:=ep) c f (o9 g)) ⟨jW,m.at λ _ e=>k _ _ e⟩ ((pW _ es).map _) k x (i8 _)
  ·have c:E6 w=false:=by simpa using c
   rw[c]at q;exact h _ _ s.drawn _ _ _ (zJ (ep:=ep) c (by simpa using q) B f (o9 g)) ⟨jW,m.at λ _ e=>k _ _ e,E5 _⟩ .rfl k x (i8 _)
end
def zM(d:s.TypeIs (.ref a) "set")(h:Q false s):wpAny JH A (Builtin.List.listLengthHint (.ref a)) Q E s:=by
 unfold Builtin.List.listLengthHint;refine f0 (wpAny_specialOf d F.slot_set_len.lookup ?_);generalize c:("set.__len__" : JB)=id0
 wp_delta
 rw[show splitId id0=some ("set","__len__")from by subst c;decide +kernel];subst c;refine f0 (cw (b:=true) d (by rw[jb];kernel_rfl) ?_);refine iX (λ z=>absurd z JD) λ _=>?_
 refine iX (λ _=>?_) λ z=>absurd (by decide +kernel) z;exact f0 (fq d (g7 h))
def zN{prog:Js}{w:Jr}{A:Ju}{I a:Jn}{S:Jn}{fp:on Jn}{n c0:Nat}{ws:on Jl}{St:Nat->Jo->Prop}{c:Bool->Bool}{s1:Jm}{res:Jl}{R:Result->Jm->Prop}{EE:Jl->Jm->Prop}(W:Nx prog w I fp n ws St)(hh:A.handled=none)(hn:n<=sizeLine)(hSf:S∉fp)
  (hT:s1.TypeIs (.ref a) "set") (st:St 0 s1.heap) (hS:s1.heap.get? S=some {cls:=.type "list",data:=.seq #[] c0})
  (hR:∀h' tk acc c',(∀b o,b≠S->b≠I->s1.heap.get? b=some o->h'.get? b=some o)->h'.get? S=some {cls:=.type "list",dict:=none,data:=.seq acc c',slots:=#[]} -> acc.toList=ws->R (.ok (.ret res)) {s1 with heap:=h',toks:=tk}) (hw:ws.length=n) :
  wpAny JH A.in1 (do
   let room ←holding [Value.ref I] (Builtin.List.listLengthHint (.ref a))
   if c room=true then do
    rule "list.extend.makes-room"
    Builtin.List.listTouch (.ref S)
    again (.builtin "list.extend.loop" ⟨[.ref S,.ref I,res],[]⟩)
   else again (.builtin "list.extend.loop" ⟨[.ref S,.ref I,res],[]⟩))
   (λ fin s'=>match fin with | .done f=>R (.ok f) s' | .again c'=>c'.quiet=true/\codeAny JH A c' R s') EE s1:=by
 have loop:∀(h:Jo) (c1 tk:Nat),St 0 h->(∀b o,b≠S->s1.heap.get? b=some o->h.get? b=some o)->h.get? S=some {cls:=.type "list",data:=.seq #[] c1} ->
   codeAny JH A (.builtin "list.extend.loop" ⟨[.ref S,.ref I,res],[]⟩) R {s1 with heap:=h,toks:=tk}:=λ h c1 tk st1 k e=>by
  refine codeAny_extend_loopS (W A.in1 hh) hn S hSf res n 0 _ #[] c1 rfl (E5 _) st1 e (ItemsOf.nil _) λ s' acc c' hm e' ac=>?_;have b1:s' = {s1 with heap:=s'.heap,toks:=s'.toks}:=(by have q1:s'.gens=s1.gens:=hm.gens;have q2:s'.drawn=s1.drawn:=hm.drawn;have q3:s'.os=s1.os:=hm.os;obtain⟨h',g',d',t',o'⟩:=s';dsimp only at q1 q2 q3;subst q1;subst q2;subst q3;rfl);rw[b1];refine hR s'.heap s'.toks acc c' (λ b o hb hi q=>hm.heap b o (λ z=>?_) (k b o hb q)) e' ?_
  ·rcases j0.mp z with z | z
   ·exact hb z
   ·exact hi (C2.mp z)
  ·refine eR λ j=>?_;by_cases hj:j<n
   ·have hj':j<acc.size:=by rw[ac.1];exact hj
    have q1:acc[j]? = some acc[j]:=T7 hj';rw[L9,q1];exact(ac.2 j _ q1).symm
   ·rw[M0 (by rw[G6,ac.1];omega),M0 JC]
 refine f0 (F4 (zM hT ?_));refine iX (λ _=>?_) λ _=>g7 ⟨U3 F.plain_extend_loop _,loop s1.heap c0 s1.toks st (λ b o _ e=>e) hS⟩;refine f0 (cN (f0 ?_));show wpAny JH A.in1 (updateSeq S (·.push .none) >>= λ _=>updateSeq S (·.pop)) _ _ _;refine f0 (cE hS rfl ?_);have e2:=Z9 (Obj.mapSeq (·.push Value.none)) hS rfl;refine cE (hz:=by seq_fits) e2 rfl ?_;have e3:=Z9 (Obj.mapSeq (·.pop)) e2 rfl;have oth:∀b o,b≠S->s1.heap.get? b=some o->((s1.heap.update S (Obj.mapSeq (·.push Value.none))).update S (Obj.mapSeq (·.pop))).get? b=some o:=λ b o hb e=>
  (eG _ _ (Ne.symm hb)).trans ((eG _ _ (Ne.symm hb)).trans e)
 refine g7 ⟨U3 F.plain_extend_loop _,loop _ _ s1.toks ?_ oth e3⟩;exact(W A.in1 hh).frame 0 s1 _ s1.toks st (i8 _) λ b hb o e=>oth b o (λ z=>hSf (z▸hb)) e
def zQ(hh:A.handled=none)(hS:SetI prog w s.heap a ks)
  (h:∀vs h' tk d,IntsAre vs (vs.map O6)->(vs.map O6).Perm ks->(∀b o,s.heap.get? b=some o->h'.get? b=some o)->s.heap.objs.size<h'.objs.size->Q vs {s with heap:=h',toks:=tk,drawn:=d}):wpAny JH A (collect (.ref a)) Q E s:=by
 obtain⟨o,S,ep,t,y,C,hd,J,hp,hb,hf,ht⟩:=id hS;have O:S.size<=sizeLine:=iN hb;have i:∀vs:on Jl,vs.Perm (S.toList.map (·.2))->IntsAre vs (vs.map O6)/\(vs.map O6).Perm ks:=λ vs p=>by
  refine⟨?_,(p.map _).trans (by rw[v7];exact hp)⟩;have all:∀v∈vs,∃tk,v=.int (O6 v) tk:=λ v hv=>by obtain⟨e,he,q⟩:=m9.mp (p.mem_iff.mp hv);obtain⟨tk,m⟩:=pX J he;exact⟨tk,by rw[←q];exact m⟩
  clear p
  induction vs with
  | nil=>exact .nil
  | cons v r ih=>
   obtain⟨tk,e⟩:=all v (o6 ..);rw[A0];have q:=ih λ u hu=>all u (o4 _ hu)
   generalize hn:O6 v=n at e;subst e;exact .cons n tk q
 have l:=k8 y;unfold collect;refine f0 (wpAny_runValue (R5 F.entry_proto_collect ?_));rw[V8 F.plain_proto_collect];show wpAny JH A.in1 _ _ _ s;refine f0 (E3 ?_);refine g7 ⟨U3 F.plain_list_iadd _,R5 F.entry_list_iadd ?_⟩;rw[V8 F.plain_list_iadd];show wpAny JH A.in1 (Builtin.List.listExtendWith (.ref s.heap.objs.size) (.ref a) (.ref s.heap.objs.size)) _ _ _;unfold Builtin.List.listExtendWith;refine f0 (fq (T:="set") ⟨o,k9 _ y,C.1⟩ ?_);have h1:Builtin.List.listSameRef (.ref s.heap.objs.size) (.ref a)=false:=(by unfold Builtin.List.listSameRef;exact y9.mpr (M4 l));have P:(Value.type "set" == Value.type "list")=false:=by decide
 have h3:(Value.type "set" == Value.type "tuple")=false:=by decide
 simp only[h1,P,h3,cI,W0,if_false];refine f0 (zL (t:=t) (⟨o,k9 _ y,C,hd⟩) hf O ht λ I P d fp N St W U p B Z kI=>?_);rw[G0]at kI;have K:s.heap.objs.size∉fp:=λ z=>by
  rcases Z _ z with q | q
  ·exact absurd q (M4 l)
  ·rw[G0]at q;omega
 obtain⟨Y,X⟩:=i N p;refine A9 (zN (A:=A) (a:=a) (c0:=0) (R:=λ r x=>∃h' tk c j,r=.ok (.ret (.ref s.heap.objs.size))/\x = {s with heap:=h',toks:=tk,drawn:=d} /\ h'.get? s.heap.objs.size=some {cls:=.type "list",dict:=none,data:=.seq c j,slots:=#[]} /\ Q c.toList x)
  W hh O K ⟨o,B _ _ (k9 _ y),C.1⟩ U (B _ _ (q5 _ rfl)) (λ h' tk c j k e ea=>⟨h',tk,c,j,rfl,rfl,e,by rw[ea];exact h N h' tk d Y X (λ b u q=>k b u (o9 (k8 q)) (o9 (R7 (k8 q) kI)) (B _ _ (k9 _ q))) (k8 e)⟩) (by rw[p.length_eq,i0,G6])) ?_ λ _ _ e=>e
 intro L x g;cases L with
 | done f=>
  obtain⟨h',tk,c,j,M,m,e,H⟩:=g;cases M;subst m;exact f0 (wpAny_load e (g7 H))
 | again j=>
  refine⟨g.1,R6 g.2 λ r x hr=>?_⟩;obtain⟨h',tk,c,j,M,m,e,H⟩:=hr;subst M;subst m;exact f0 (wpAny_load e (g7 H))
def zR(B:A.handled=none)(F:SetI prog w s.heap a ks)(H:ks.length<64)
  (h:∀k g d p c f e,(∀b o,s.heap.get? b=some o->k.get? b=some o)->s.heap.objs.size<=p->k.get? p=some (seqObj "list" c e)->IntsAre c.toList f->f.Perm ks->f.Pairwise (· <= ·)->Q (.ref p) {s with heap:=k,toks:=g,drawn:=d}) :
  wpAny JH A (call (.builtin "sorted") [.ref a]) Q E s:=by
 refine ni kind_sorted plain_sorted entry_sorted (args_sorted1 _) ?_
 unfold Builtin.«sorted»;refine f0 (g7 ?_);refine f0 (zQ (B) F λ c n g d y p1 l r=>?_);have z:c.length<64:=by have:=p1.length_eq;rw[i0]at this;omega
 refine f0 (fh ?_ (by rw[P6];omega));have j:(n.push (seqObj "list" c.toArray 0)).get? n.objs.size=some _:=q5 _ rfl;refine f0 (F4 (G7 slot_list_sort ⟨_,j,rfl⟩ entry_list_sort (list_sort_tree j y z λ i f x v u=>⟨_,rfl,?_⟩) (args_list_sort _)));refine g7 ⟨_,rfl,?_⟩;obtain⟨e,C⟩:=sortedHeap_at j;refine h _ g d _ i f e (λ b o q=>?_) (M3 r) C x (v.trans p1) u;have m:=k8 (l b o q);rw[sortedHeap_old (o9 m) (by rw[be];exact P3 m)];exact k9 _ (l b o q)
def zT{l:on Int}(h:i<l.length):l.getD i 0∈l:=by
 rw[D1,p8 h];exact U1 h
def maxL{prog:Js}{w:Jr}{A:Ju}{E:Jl->Jm->Prop}{s:Jm}{l:Jn}{vs:on Jl}{ns:on Int}{Q:Jl->Jm->Prop}(hh:A.handled=none)(hl:s.heap.IsList l vs.toArray)(hi:IntsAre vs ns)(hz:ns≠[])
  (h:∀h' M (t:Tok) tk,(∀b o,s.heap.get? b=some o->h'.get? b=some o)->M∈ns->(∀a∈ns,a<=M)->Q (.int M t) {s with heap:=h',toks:=tk}):wpAny JH A (call (.builtin "max") [.ref l]) Q E s:=by
 obtain⟨ys,e⟩:=hi.allInts.items;have en:ns=ys.toList.map (·.1):=by rw[←hi.numsOf,←nums_intItems,←e]
 have zy:0<ys.size:=by
  have q:0<ns.length:=List.length_pos_iff.mpr hz
  rwa [en,i0,G6]at q
 rw[e]at hl;refine max_intList hh hl zy λ v h1 tk q k=>?_
 obtain⟨t,ev⟩:=intItems_at q;subst ev;obtain⟨g1,g2⟩:=argBest_gt (numAt ys) (ys.size - 1);refine h h1 _ t tk k ?_ λ a ha=>?_
 ·rw[en,numAt_eq];exact zT (by rw[i0,G6];omega)
 ·rw[en]at ha;obtain⟨j,hj,ej⟩:=mem_getD ha;subst ej;rw[i0,G6]at hj;rw[←numAt_eq];exact g2 j JC
def extL(e:s.heap.get? l=some {cls:=.type "list",data:=.seq items n})(m:s.heap.IsList b new\/IsTup s.heap b new)(k:items.size+new.size<=sizeLine)
  (h:Q .none {s with heap:=s.heap.update l (Obj.mapSeq (· ++ new))}):wpAny JH A (call (.builtin "list.extend") [.ref l,.ref b]) Q E s:=by
 refine G7 F.slot_list_extend (⟨_,e,rfl⟩) F.entry_list_extend ?_ (F.args_list_extend_2 _ _);unfold Builtin.«list.extend»;refine f0 (g7 ?_);show wpAny _ _ _ _ _ _;unfold Builtin.List.listExtendWith;obtain⟨a,eb,T,hT,j,hd⟩:∃a,s.heap.get? b=some a/\∃T:JB,(a.cls=.type T/\(T = "list" \/ T = "tuple"))/\∃j,a.data=.seq new j:=by
  rcases m with⟨o,i,g,f,d⟩ | ⟨o,i,g,f,d⟩
  ·exact⟨o,i,"list",⟨g,.inl rfl⟩,f,d⟩
  ·exact⟨o,i,"tuple",⟨g,.inr rfl⟩,f,d⟩
 refine f0 (fq ⟨a,eb,hT.1⟩ ?_);have c:(Builtin.List.listSameRef (.ref l) (.ref b)||Value.type T == .type "list" || Value.type T == .type "tuple")=true:=by
  rcases hT.2 with z | z<;>subst z
  ·rw[show(Value.type "list" == Value.type "list")=true by decide,jo,jp]
  ·rw[show(Value.type "tuple" == Value.type "tuple")=true by decide,jo]
 rw[f8 c];refine f0 (jq eb hd (f0 (jq e rfl ?_)));rw[g9 (by rw[pz k,jc];exact B7)];refine f0 (fi e rfl ?_ JC (by grind));exact g7 ⟨_,rfl,h⟩
def zU(K:Jw):V->on V->Hp->VK->Prop:=λ x vs H Q=>∃l b xs zs,x=.ref l/\vs=[.ref b]/\H l=some (.lst xs)/\(SqL K H b zs\/SqT K H b zs)/\xs.length+zs.length<=sizeLine/\Q .non (upd H l (.lst (xs++zs)))
def zV:MtM X "list.extend" (zU X.K):=by
 intro g s σ H x vs v us Q I k m h;obtain⟨l,b,xs,j,rfl,rfl,i,d,hz,q⟩:=h;cases k;obtain⟨u,rfl,o⟩:=m.one;cases o;obtain⟨z,p,n,r,hl,e⟩:=I.lstM i;obtain⟨a,c,ob⟩:∃a:on Jl,Vals j a/\(s.heap.IsList b a.toArray\/IsTup s.heap b a.toArray):=by
  rcases d with d | d
  ·obtain⟨a,c,f,_⟩:=I.list d;exact⟨a,c,.inl f.isList⟩
  ·obtain⟨a,c,f,_⟩:=I.tuple d;exact⟨a,c,.inr f⟩
 have e2:=c.length;refine extL e ob (by grind) ?_;refine⟨.non,_,I.lset i e JK (r.append c) ?_,rfl,q⟩;rw[x4];omega
theorem gc:∀{b:on Int} {a:on Jl},Vals (b.map V.int) a->IntsAre a b
 | [],a,h=>by cases h;exact .nil
 | n::b,a,h=>by
  cases h with
  | cons r t=>
   obtain⟨c,rfl⟩:=r;exact .cons n c (gc t)
theorem ql:∀{a:on Int} {us:on Jl},IntsAre us a->Vals (a.map V.int) us
 | _,_,.nil=>.nil
 | _,_,.cons n t h=>.cons ⟨t,rfl⟩ (ql h)
def zW(m:X.calm=true):C9 X (.builtin "max") (λ c H Q=>∃(a:Jn) (b:on Int),c=[.ref a]/\SqL X.K H a (b.map V.int)/\b≠[]/\∀M,M∈b->(∀x∈b,x<=M)->Q (.int M) H):=by
 intro d s σ H c us Q I r h;obtain⟨a,b,rfl,l,j,q⟩:=h;obtain⟨u,rfl,r1⟩:=S4 r;cases r1;obtain⟨i,rv,e,_⟩:=I.list l;exact maxL (I.ok.hd m) e.isList (gc rv) j λ h' M t tk k g f=>⟨.int M,H,I.kept k,⟨t,rfl⟩,q M g f⟩
noncomputable def setO(P:Js)(w:Jr)(a:Jn)(ks:on Int):HO:=.ext λ h=>SetI P w h a ks
def zX{P:Js}{w:Jr}{H:Hp}{h:Jo}{a:Jn}{ks:on Int}(x:SetI P w h a ks):u9 P w H h a (setO P w a ks):=
 ⟨x,let ⟨o,_,_,_,e,_⟩:=x;⟨o,e⟩,λ h1 h2 q k=>q.at k⟩
def zY(a:on Int):fm (λ i=>a.getD i 0) a.length=a.foldl dk []:=by
 unfold fm
 congr 1
 refine eR λ j=>?_;rw[q9];by_cases b:j<a.length
 ·rw[aO b,O0,D1,p8 b];rfl
 ·rw[M0 (by grind),M0 JC];rfl
def Aa(n:X.calm=true):C9 X (.type "set") (λ e H Q=>∃(a:Jn) (b:on Int),e=[.ref a]/\SqL X.K H a (b.map V.int)/\b.length<4000/\∀p,H p=none->Q (.ref p) (upd H p (setO X.prog X.w p (b.foldl dk [])))):=by
 intro g s σ H e us Q I r h;obtain⟨a,b,rfl,m,hz,q⟩:=h;obtain⟨u,rfl,j⟩:=S4 r;cases j;obtain⟨c,f,l,_⟩:=I.list m;have i:c.length=b.length:=by rw[←f.length,i0]
 refine zw (I.ok.hd n) l.isList (gc f) (by rw[t7,i];show _<4096;omega) λ h' tk S k=>?_;have d:c.toArray.size=b.length:=by rw[t7,i]
 rw[d,zY]at S;exact⟨.ref s.heap.objs.size,_,I.laid k (i8 _) (zX S),rfl,q _ I.fresh⟩
def Ab(z:X.calm=true):C9 X (.builtin "sorted") (λ l H Q=>∃(p:Jn) (f:on Int),l=[.ref p]/\H p=some (setO X.prog X.w p f)/\f.length<64/\∀(q:Jn) (i:on Int),H q=none->i.Perm f->i.Pairwise (· <= ·)->Q (.ref q) (upd H q (.lst (i.map V.int)))):=by
 intro m s σ H l us Q I r h;obtain⟨p,f,rfl,A,x,q⟩:=h;obtain⟨u,rfl,w⟩:=S4 r;cases w;refine zR (I.ok.hd z) ((I.hok p _ A).1) x λ B v d c o g e k n he y b j=>?_
 have hl:g.length<=sizeLine:=(by rw[b.length_eq,P6];omega);have ok:u9 X.prog X.w (upd H c (.lst (g.map V.int))) B c (.lst _):=⟨by rwa [i0],o.toList,e,(ql y),by rwa [Array.toArray_toList]⟩;have a:=I.laid (t':=v) k n ok;refine⟨.ref c,_,?_,rfl,q c g (I.hok.fresh n) b j⟩;exact⟨a.ok,a.os,a.bare,a.base,a.loc,a.cell,a.free,a.freeC,a.pin,a.hok,a.len⟩
open PySem.Calls PySem.W
theorem qm(c:∀i,i+1<n->∀C:Bool->Jm->Prop,C false s->a (i+1) i C s):∀(f m:Nat),1<=m->m+f=n->Q n s->(kas_asc (List.toArray (JS n)) f m).kasWp a Q s
 | 0,m,_,h,q=>by
  have:m=n:=by omega
  subst this;exact q
 | f+1,m,h1,h,q=>by
  have g:(List.toArray (JS n)).getD m 0=m:=by simp[Array.getD];omega
  have e:(List.toArray (JS n)).getD (m - 1) 0=m - 1:=by simp[Array.getD];omega
  show a _ _ (λ b d=>(if b=true then KasT.ret m else kas_asc _ f (m+1)).kasWp a Q d) s;rw[g,e];obtain⟨i,rfl⟩:∃i,m=i+1:=⟨m - 1,by omega⟩;refine c i JC _ ?_;rw[g9 B7];exact qm c f (i+2) JC JC q
noncomputable def jZ:on Jl->on Jn
 | []=>[]
 | .ref a::vs=>a::jZ vs
 | _::vs=>jZ vs
def Ac(h:Vals [x,y,z] a):∃u v w,a=[u,v,w]/\RelV x u/\RelV y v/\RelV z w:=by
 cases h with
 | cons r t=>
  obtain⟨v,w,rfl,c,b⟩:=ap t;exact⟨_,v,w,rfl,r,c,b⟩
theorem qo:∀(f n r:Nat),r<=1->minRun' f n r<=n+r
 | 0,n,r,_=>i8 _
 | f+1,n,r,h=>by
  rw[minRun'_succ];split
  ·exact i8 _
  ·refine k6 (qo f (n/2) _ JC) ?_;omega
def Ad(h2:2<=n)(h:∀i,i+1<n->∀C:Bool->Jm->Prop,C false s->kas_cmp prog w A κ it (i+1) i C s)
  (q:∀a,arrOf a=(List.toArray (JS n)).map (kas_item it)->failedOf a=none->Q () a s):kasC JH A E sortRuns' Q (kas_st κ it (List.toArray (JS n))) s:=by
 have c:(List.toArray (JS n)).size=n:=by simp
 have f:(kas_count n (List.toArray (JS n))).kasWp (kas_cmp prog w A κ it) (λ r b=>r=(n,List.toArray (JS n))/\b=s) s:=(by unfold kas_count;rw[KasT.kasWp_bind];refine qm h _ 1 (i8 _) JC ?_;show(if(n==n)=true then KasT.ret (n,List.toArray (JS n))else _).kasWp _ _ s;rw[f8 (N8 n)];exact⟨rfl,rfl⟩);obtain⟨r,rfl⟩:∃r,n=r+2:=⟨n - 2,by omega⟩;rw[sortRuns'_eq];refine kasC_bind (kasC_get ?_);have e:(arrOf (kas_st κ it (List.toArray (JS (r+2))))).size=r+2:=by show((List.toArray (JS (r+2))).map (kas_item it)).size=_;rw[Array.size_map,c]
 have d:=Nat.not_lt.mpr (qo (r+2) (r+2) 0 JC);dsimp only;rw[e];generalize minRun' (r+2) (r+2) 0=M at d ⊢;refine kasC_bind (kasC_range ?_);show kasC _ _ _ _ _ _ _;refine kasC_cons ?_;dsimp only;rw[g9 JC];simp only[Nat.sub_zero,cK];refine kasC_bind (kas_count_ JC (by rw[c];exact i8 _) (λ m p' b _ _ _ g=>?_) f);obtain⟨j,rfl⟩:=g;obtain⟨rfl,rfl⟩:=fy j;dsimp only;rw[g9 d];refine kasC_bind (kasC_get ?_);rw[show(pendingOf _).back? = none from rfl];dsimp only;refine kasC_bind (kasC_modify (kasC_pure (kasC_cons ?_)));dsimp only;rw[f8 (i8 _)];refine kasC_pure (kasC_bind (kasC_range ?_));show kasC _ _ _ _ _ _ _;refine kasC_cons (kasC_bind (kasC_get ?_));rw[f8 (show(pendingOf (setPending (kas_st κ it (List.toArray (JS (r+2)))) ((pendingOf (kas_st κ it (List.toArray (JS (r+2))))).push (0,r+2,0)))).size<=1 from i8 1)];exact kasC_pure (kasC_pure (q _ rfl rfl))
def QdAt(h:Jo)(v:Jl)(p:Int×Int×Int×Int):Prop:=∃a o n t1 t2 t3 t4,v=.ref a/\h.get? a=some o/\o.cls=.type "tuple" /\ o.data=.seq #[.int p.1 t1,.int p.2.1 t2,.int p.2.2.1 t3,.int p.2.2.2 t4] n
noncomputable def J2(h:Jo):on Jl->on (Int×Int×Int×Int)->Prop
 | [],[]=>True
 | v::vs,p::ps=>QdAt h v p/\J2 h vs ps
 | _,_=>False
theorem J2.len:∀{vs:on Jl} {ps:on (Int×Int×Int×Int)},J2 h vs ps->vs.length=ps.length
 | [],[],_=>rfl
 | _::_,_::_,x=>by rw[z7,z7,x.2.len]
 | [],_::_,x=>x.elim
 | _::_,[],x=>x.elim
theorem J2.keep:∀{vs:on Jl} {ps:on (Int×Int×Int×Int)},J2 h vs ps->(∀b∈jZ vs,∀o,h.get? b=some o->h'.get? b=some o)->J2 h' vs ps
 | [],[],_,_=>trivial
 | _::_,_::_,x,k=>by obtain⟨⟨a,o,n,j,i,g,f,rfl,e,c,d⟩,y⟩:=x;exact⟨⟨a,o,n,j,i,g,f,rfl,k a (o6 ..) o e,c,d⟩,y.keep λ b l=>k b (o4 _ l)⟩
 | [],_::_,x,_=>x.elim
 | _::_,[],x,_=>x.elim
theorem J2.get:∀{vs:on Jl} {ps:on (Int×Int×Int×Int)} {i:Nat} {v:Jl},J2 h vs ps->vs[i]? = some v->QdAt h v (ps.getD i (0,0,0,0))
 | [],[],_,_,_,e=>by simp at e
 | _::_,_::_,0,_,x,e=>by have:=B8 e;subst this;exact x.1
 | _::_,_::_,i+1,_,x,e=>x.2.get (by simpa using e)
 | [],_::_,_,_,x,_=>x.elim
 | _::_,[],_,_,x,_=>x.elim
theorem qp:∀{ps:on (Int×Int×Int×Int)} {i:Nat},Q2 ps=true->i+1<ps.length->ltQ (ps.getD (i+1) (0,0,0,0)) (ps.getD i (0,0,0,0))=false
 | [],_,_,h=>by simp at h
 | [_],_,_,h=>by simp at h
 | p::q::r,i,b,h=>by
  have a:(ltQ p q&&Q2 (q::r))=true:=b;rw[f9]at a;cases i with
  | zero=>
   show ltQ q p=false;have:=a.1;unfold ltQ ltT at this ⊢;simp only[B5,P1,f9,i5]at this;simp only[N6,decide_eq_false_iff_not,Bool.and_eq_false_iff,y9];omega
  | succ i=>exact qp (ps:=q::r) a.2 (by simpa using h)
def Ae(g:QdAt s.heap u p)(hv:QdAt s.heap v q)(h:Q (ltQ p q) s):wpAny JH A (keyLt' (tuples' true) u v) Q E s:=by
 obtain⟨a,oa,na,t1,t2,t3,t4,rfl,j,ca,l⟩:=g;obtain⟨b,ob,nb,u1,u2,u3,u4,rfl,i,cb,k⟩:=hv;refine kat_lt j l i k ?_;show KatLex prog w A true _ Q _ 0 s;unfold ltQ ltT at h;refine kat_cons (cr ?_);by_cases e:p.1=q.1
 ·rw[i5.mpr e];rw[B4 JC,i5.mpr e,fj,cJ]at h;refine kat_yes (kat_cons (cr ?_));by_cases d:p.2.1=q.2.1
  ·rw[i5.mpr d];rw[B4 JC,i5.mpr d,fj,cJ]at h;refine kat_yes (kat_cons (cr ?_));by_cases c:p.2.2.1=q.2.2.1
   ·rw[i5.mpr c];rw[B4 JC,i5.mpr c,fj,cJ]at h;refine kat_yes (kat_cons (cr ?_));by_cases f:p.2.2.2=q.2.2.2
    ·rw[i5.mpr f];rw[B4 JC]at h;exact kat_yes (kat_nil h)
    ·rw[y9.mpr f];refine kat_no ?_;show wpAny _ A _ Q _ s;exact kat_one _ _ (jr h)
   ·rw[y9.mpr c];rw[y9.mpr c,cF,cI]at h;refine kat_no ?_;show wpAny _ A _ Q _ s;exact kat_one _ _ (jr h)
  ·rw[y9.mpr d];rw[y9.mpr d,cF,cI]at h;refine kat_no ?_;show wpAny _ A _ Q _ s;exact kat_one _ _ (jr h)
 ·rw[y9.mpr e];rw[y9.mpr e,cF,cI]at h;refine kat_no ?_;show wpAny _ A _ Q _ s;exact oneLt_int h
def J2.keepNe(l:h.get? a=some (seqObj "list" xs n))(k:∀b o,b≠a->h.get? b=some o->h'.get? b=some o)(x:J2 h vs ps):J2 h' vs ps:=by
 induction vs generalizing ps with
 | nil=>cases ps with | nil=>trivial | cons _ _=>exact x.elim
 | cons v vs j=>
  cases ps with
  | nil=>exact x.elim
  | cons p ps=>
   obtain⟨⟨b,o,m,i,g,f,e,r,c,d,q⟩,y⟩:=x;refine⟨⟨b,o,m,i,g,f,e,r,k b o (λ z=>?_) c,d,q⟩,j y⟩;subst z;rw[l]at c;cases c;exact absurd d (by intro z;injection z with z;exact absurd z JD)
def J2.tups(x:J2 h vs ps):∃fs,KatTups h vs fs/\fs.length=vs.length/\∀v∈fs,∃i t,v=Value.int i t:=by
 induction vs generalizing ps with
 | nil=>exact⟨[],trivial,rfl,λ _ h=>nomatch h⟩
 | cons v vs e=>
  cases ps with
  | nil=>exact x.elim
  | cons p ps=>
   obtain⟨⟨a,o,n,b,t2,t3,t4,rfl,j,g,f⟩,y⟩:=x;obtain⟨fs,d,c,k3⟩:=e y;refine⟨.int p.1 b::fs,KatTups.cons j g f rfl d,by rw[z7,z7,c],λ v hv=>?_⟩;rcases j0.mp hv with q | q
   ·exact⟨_,_,q⟩
   ·exact k3 v q
def Af(x:s.heap.get? a=some (seqObj "list" vs.toArray n))(J:J2 s.heap vs ps)(R:Q2 ps=true)(hz:ps.length<=2000)
  (h:P (.done (.ret .none)) {s with heap:=sortedHeap s.heap a vs vs.toArray}):wpAny JH A (Builtin.«list.sort» ⟨[.ref a],[]⟩) P E s:=by
 have hl:=J.len;rw[list_sort_plain];have K:a<s.heap.objs.size:=k8 x;refine f0 (jq x rfl ?_);refine f0 (fi x rfl ?_ (by rw[t7,P6];omega) (E5 _));obtain⟨H,u⟩:∃H,(s.heap.update a (Obj.mapSeq λ _=>(#[]:Jq Jl))).get? a=some (seqObj "list" #[] H):=⟨_,get?_update_seq x λ _=>#[]⟩;refine f0 (seqEpoch_at u rfl ?_);refine f0 (jd ?_ (by show vs.length<=_;rw[P6];omega));refine f0 (fh ?_ (E5 _));refine F4 ?_;have keep:∀b o,b≠a->s.heap.get? b=some o->((JQ).push (seqObj "list" #[] 0)).get? b=some o:=λ b o W e=>by have y:=k8 e;rw[aV _ _ _ (by rw[be,cA];exact o9 (P3 y)),aV _ _ _ (by rw[cA];exact o9 y),Heap.get?_update_ne _ _ _ _ W];exact e
 have m:((JQ).push (seqObj "list" #[] 0)).get? a=some (seqObj "list" #[] H):=(by rw[aV _ _ _ (by rw[be,cA];exact o9 (P3 K)),aV _ _ _ (by rw[cA];exact o9 K)];exact u);show wpAny JH A _ P E {s with heap:=(JQ).push (seqObj "list" #[] 0)};dsimp only;have I:(vs.toArray.zip vs.toArray).map (·.2)=vs.toArray:=by apply Array.ext JK;intro i h1 h2;simp
 by_cases k:vs.toArray.size<2
 ·rw[f8 k,f8 k];refine f0 (g7 ?_);rw[StateT.run_pure];refine f0 (g7 ?_);dsimp only;refine f0 (seqEpoch_at m rfl ?_);rw[I];refine f0 (fi m rfl ?_ (E5 _) (by rw[t7,P6];omega));simp only[aa,W0,if_false];exact g7 h
 rw[g9 k,g9 k];rw[t7]at k;have q:=J.keepNe x keep;obtain⟨fs,O,k2,k3⟩:=q.tups;refine f0 (kat_kind (T:=.type "int") O JC (λ v hv=>?_) rfl ?_)
 ·obtain⟨i,t,rfl⟩:=k3 v hv;exact .now
 have F:=kas_range (vs.toArray.zip vs.toArray);rw[show(vs.toArray.zip vs.toArray).size=vs.length by simp]at F;have run:=Ad (prog:=prog) (w:=w) (A:=A) (E:=E) (κ:=tuples' true) (n:=vs.length)
  (Q:=λ _ l z=>arrOf l=vs.toArray.zip vs.toArray/\failedOf l=none/\z = {s with heap:=(JQ).push (seqObj "list" #[] 0)})
  JC (λ i U C X=>by
   have Y:=congrFun (congrFun (congrFun (congrFun (kat_ask_eq (prog:=prog) (w:=w) (A:=A) (κ:=tuples' true) (ks:=vs) (vs:=vs) rfl) (i+1)) i) C) {s with heap:=(JQ).push (seqObj "list" #[] 0)};rw[←Y];have L:∀j,j<vs.length->QdAt ((JQ).push (seqObj "list" #[] 0)) (vs.getD j .none) (ps.getD j (0,0,0,0)):=λ j S=>q.get (by rw[D1,p8 S];rfl);show wpAny JH A _ C (λ _ _=>False) _;refine Ae (L _ U) (L _ JC) ?_;rw[qp R JC];exact X) (λ l N M=>⟨N.trans F,M,rfl⟩)
 have B:SortSt.mk' (tuples' true) (vs.toArray.zip vs.toArray) #[] 7 none=kas_st (tuples' true) (vs.toArray.zip vs.toArray) (List.toArray (JS vs.length)):=(by show SortSt.mk' _ _ #[] 7 none=SortSt.mk' _ _ #[] 7 none;rw[F]);have p:wpAny JH A (sortRuns'.run (SortSt.mk' (tuples' true) (vs.toArray.zip vs.toArray) #[] 7 none)) (λ r z=>arrOf r.2=vs.toArray.zip vs.toArray/\failedOf r.2=none/\z = {s with heap:=(JQ).push (seqObj "list" #[] 0)}) E {s with heap:=(JQ).push (seqObj "list" #[] 0)}:=(by rw[B];exact run);refine f0 (A9 p ?_ λ _ _ e=>e)
 ·rintro⟨⟨⟩,l⟩ z ⟨har,hf,rfl⟩
  dsimp only;refine f0 (seqEpoch_at m rfl ?_);dsimp only at har hf;rw[har,I];refine f0 (fi m rfl ?_ (E5 _) (by rw[t7,P6];omega));rw[hf];simp only[aa,W0,if_false];exact g7 h
def Ag(j:s.heap.IsList l vs.toArray)(f:J2 s.heap vs ps)(g:Q2 ps=true)(i:ps.length<=2000)
  (h:∀h' p e,(∀b o,s.heap.get? b=some o->h'.get? b=some o)->s.heap.objs.size<=p->h'.get? p=some (seqObj "list" vs.toArray e)->Q (.ref p) {s with heap:=h'}) :
  wpAny JH A (call (.builtin "sorted") [.ref l]) Q E s:=by
 have hz:=f.len;refine ni kind_sorted plain_sorted entry_sorted (args_sorted1 _) ?_
 unfold Builtin.«sorted»;refine f0 (g7 ?_);refine f0 (collect_list j ?_ (by rw[P6];omega));refine f0 (fh ?_ (by rw[P6];omega));have c:((s.heap.push (seqObj "list" #[] 0)).update s.heap.objs.size (Obj.mapSeq (· ++ vs.toArray))).objs.size=s.heap.objs.size+1:=(by rw[cA,be]);have d:(((s.heap.push (seqObj "list" #[] 0)).update s.heap.objs.size (Obj.mapSeq (· ++ vs.toArray))).push (seqObj "list" vs.toArray 0)).get? (s.heap.objs.size+1)=some (seqObj "list" vs.toArray 0):=(by rw[←c];exact q5 _ rfl);have keep:∀b o,s.heap.get? b=some o->(((s.heap.push (seqObj "list" #[] 0)).update s.heap.objs.size (Obj.mapSeq (· ++ vs.toArray))).push (seqObj "list" vs.toArray 0)).get? b=some o:=λ b o q=>by have a:=k8 q;rw[aV _ _ _ (by rw[c];exact o9 (P3 a)),Heap.get?_update_ne _ _ _ _ (o9 a),aV _ _ _ (o9 a)];exact q
 show wpAny _ _ _ _ _ {s with heap:=((s.heap.push (seqObj "list" #[] 0)).update s.heap.objs.size (Obj.mapSeq (· ++ vs.toArray))).push _};rw[c];refine f0 (F4 (G7 slot_list_sort ⟨_,d,rfl⟩ entry_list_sort (Af d (f.keep λ b _ o q=>keep b o q) g i ⟨_,rfl,?_⟩) (args_list_sort _)));refine g7 ⟨_,rfl,?_⟩;obtain⟨e,k⟩:=sortedHeap_at d;refine h _ _ e (λ b o q=>?_) (ai _) k;have a:=k8 q;rw[sortedHeap_old (o9 (P3 a)) (by rw[be,c];exact P3 (P3 a))];exact keep b o q
noncomputable def QdsV(K:Jw)(H:Hp):on V->on (Int×Int×Int×Int)->Prop
 | [],[]=>True
 | v::vs,p::ps=>(∃a,v=.ref a/\SqT K H a [.int p.1,.int p.2.1,.int p.2.2.1,.int p.2.2.2])/\QdsV K H vs ps
 | _,_=>False
def Ah(h:Vals [x,y,z,b] c):∃u v w a,c=[u,v,w,a]/\RelV x u/\RelV y v/\RelV z w/\RelV b a:=by
 cases h with
 | cons r t=>
  obtain⟨v,w,a,rfl,f,e,d⟩:=Ac t;exact⟨_,v,w,a,rfl,r,f,e,d⟩
theorem QdsV.at(I:JI c):∀{vs:on V} {ps:on (Int×Int×Int×Int)} {b:on Jl},QdsV X.K H vs ps->Vals vs b->J2 s.heap b ps
 | [],[],b,_,r=>by cases r;exact trivial
 | _::_,p::ps,b,x,r=>by
  obtain⟨⟨a,rfl,k⟩,j⟩:=x;cases b with
  | nil=>cases r
  | cons u us=>
   cases r;rename_i r1 i;cases r1;obtain⟨d,h,⟨o,q,m,n,l⟩,_⟩:=I.tuple k;obtain⟨u1,u2,u3,u4,rfl,⟨t,rfl⟩,⟨g,rfl⟩,⟨f,rfl⟩,⟨e,rfl⟩⟩:=Ah h;exact⟨⟨a,o,n,t,g,f,e,rfl,q,m,l⟩,j.at I i⟩
 | [],_::_,_,x,_=>x.elim
 | _::_,[],_,x,_=>x.elim
def Ai:C9 X (.builtin "sorted") (λ f H Q=>∃(a:Jn) (vs:on V) (ps:on (Int×Int×Int×Int)),f=[.ref a]/\SqL X.K H a vs/\QdsV X.K H vs ps/\Q2 ps=true/\ps.length<=2000/\∀q,H q=none->Q (.ref q) (upd H q (.lst vs))):=by
 intro i s σ H f us Q I r h;obtain⟨a,vs,ps,rfl,o,p,n,m,q⟩:=h;obtain⟨u,rfl,r1⟩:=S4 r;cases r1;obtain⟨d,g,l,j⟩:=I.list o;refine Ag l.isList (p.at I g) n m λ w c e k b v=>?_
 have ok:u9 X.prog X.w (upd H c (.lst vs)) w c (.lst vs):=⟨j,d,e,g,v⟩;exact⟨.ref c,_,I.laid k b ok,rfl,q c (I.hok.fresh b)⟩
def sumL{prog:Js}{w:Jr}{A:Ju}{E:Jl->Jm->Prop}{s:Jm}{l:Jn}{vs:on Jl}{ns:on Int}{Q:Jl->Jm->Prop}(hh:A.handled=none)(hl:s.heap.IsList l vs.toArray)(hi:IntsAre vs ns)
  (h:∀h' tk t,(∀b o,s.heap.get? b=some o->h'.get? b=some o)->Q (.int ns.sum t) {s with heap:=h',toks:=tk}):wpAny JH A (call (.builtin "sum") [.ref l]) Q E s:=by
 obtain⟨ys,e⟩:=hi.allInts.items;have en:ns=ys.toList.map (·.1):=by rw[←hi.numsOf,←nums_intItems,←e]
 rw[e]at hl;refine sum_intListG hh hl λ h' tk t' hk=>?_
 have:=h h' tk t' hk;rw[preSum_eq,List.take_of_length_le JK];rw[en]at this;exact this
def Aj(l:X.calm=true):C9 X (.builtin "sum") (λ c H Q=>∃(a:Jn) (b:on Int),c=[.ref a]/\SqL X.K H a (b.map V.int)/\Q (JP b.sum) H):=by
 intro d s σ H c us Q I r h;obtain⟨a,b,rfl,j,q⟩:=h;obtain⟨u,rfl,f⟩:=S4 r;cases f;obtain⟨i,e,g,_⟩:=I.list j;exact sumL (I.ok.hd l) g.isList (gc e) λ h' tk t k=>⟨.int _,H,I.kept k,⟨t,rfl⟩,q⟩
noncomputable section
open PySem
structure Sg where
 N:List Str
 sc:List (Str×NameKind)
 fn:List Str
 bl:List Str
 cl:List Str
 top:Bool
 lp:Bool
 co:Arguments->List Stmt->Scope->List Str->Bool
noncomputable def noCo:Jy->on Jv->Jx->on Str->Bool:=λ _ _ _ _=>false
def t9:Jp->Bool | .Starred _ _=>true | _=>false
def X0:Jp->Bool | .Slice _ _ _ _=>true | _=>false
def J3:Jp->Bool | .Set _ _ _=>true | _=>false
noncomputable def S7:Jp->Bool | .ListComp _ _ _ _=>true | .SetComp _ _ _ _=>true | .DictComp _ _ _ _ _=>true | _=>false
noncomputable def any1{α:Type}(o:Jk α)(f:α->Bool):Bool:=o.rec false f
def A3(h:any1 o f=true):∃a,o=some a/\f a=true:=by
 cases o with
 | none=>cases h
 | some a=>exact⟨a,rfl,h⟩
@[elab_as_elim] def bw{o:Jk b}(h:any1 o f=true){C:Jk b->Prop}(k:∀a,f a=true->C (some a)):C o:=let ⟨_,q,h⟩:=A3 h;Eq.mpr (congrArg C q) (k _ h)
noncomputable def inNo{α:Type}(o:Jk α)(f:Bool):Bool:=o.rec f λ _=>false
@[elab_as_elim] def L5{o:Jk b}(h:inNo o f=true){C:Jk b->Prop}(k:f=true->C none):C o:=by
 cases o with
 | none=>exact k h
 | some a=>cases h
noncomputable def in0{α:Type}(l:on α)(f:Bool):Bool:=l.rec f λ _ _ _=>false
@[elab_as_elim] def F1{l:on b}(h:in0 l f=true){C:on b->Prop}(k:f=true->C []):C l:=by
 cases l with
 | nil=>exact k h
 | cons a r=>cases h
noncomputable def inC{α:Type}(l:on α)(f:α->on α->Bool):Bool:=l.rec false λ a r _=>f a r
@[elab_as_elim] def qr{f:b->on b->Bool}(h:inC l f=true){C:on b->Prop}(k:∀a r,f a r=true->C (a::r)):C l:=by
 cases l with
 | nil=>cases h
 | cons a r=>exact k a r h
def in1{α:Type}(l:on α)(f:α->Bool):Bool:=inC l λ a r=>in0 r (f a)
@[elab_as_elim] def Q4{f:b->Bool}(h:in1 l f=true){C:on b->Prop}(k:∀a,f a=true->C [a]):C l:=qr h λ a _ h=>F1 h (k a)
def Ak(h:in1 l f=true):∃a,l=[a]/\f a=true:=Q4 h λ a h=>⟨a,rfl,h⟩
def in2{α:Type}(l:on α)(f:α->α->Bool):Bool:=inC l λ a r=>in1 r (f a)
@[elab_as_elim] def aw{f:c->c->Bool}(h:in2 l f=true){C:on c->Prop}(k:∀a b,f a b=true->C [a,b]):C l:=qr h λ a _ h=>Q4 h (k a)
noncomputable def qt(e:Jp):Jk {t:Str×Pos // e=.Name t.1 t.2}:=match e with | .Name x p=>some ⟨(x,p),rfl⟩ | _=>none
@[irreducible] def G5(e:Jp)(f:Str->Bool):Bool:=any1 (qt e) λ t=>f t.1.1
@[elab_as_elim] def F6(h:G5 e g=true){C:Jp->Prop}(k:∀x p,g x=true->C (.Name x p)):C e:=by
 unfold G5 at h;exact let ⟨t,_,h⟩:=A3 h;Eq.mpr (congrArg C t.2) (k _ _ h)
noncomputable def Al(e:Jp):Jk {t:Const×Nat×Pos // e=.Constant t.1 t.2.1 t.2.2}:=match e with | .Constant x k p=>some ⟨(x,k,p),rfl⟩ | _=>none
noncomputable def qu(e:Jp):Jk {t:Jp×Operator×Jp×Pos // e=.BinOp t.1 t.2.1 t.2.2.1 t.2.2.2}:=match e with | .BinOp a o b p=>some ⟨(a,o,b,p),rfl⟩ | _=>none
@[irreducible] def ka(e:Jp)(f:Jp->Operator->Jp->Bool):Bool:=any1 (qu e) λ t=>f t.1.1 t.1.2.1 t.1.2.2.1
@[elab_as_elim] def qv(h:ka e g=true){C:Jp->Prop}(k:∀a o b p,g a o b=true->C (.BinOp a o b p)):C e:=by
 unfold ka at h;exact let ⟨t,_,h⟩:=A3 h;Eq.mpr (congrArg C t.2) (k _ _ _ _ h)
noncomputable def Am(e:Jp):Jk {t:UnaryOp×Jp×Pos // e=.UnaryOp t.1 t.2.1 t.2.2}:=match e with | .UnaryOp o a p=>some ⟨(o,a,p),rfl⟩ | _=>none
@[irreducible] def inUn(e:Jp)(f:UnaryOp->Jp->Bool):Bool:=any1 (Am e) λ t=>f t.1.1 t.1.2.1
@[elab_as_elim] def qw(h:inUn e g=true){C:Jp->Prop}(k:∀o a p,g o a=true->C (.UnaryOp o a p)):C e:=by
 unfold inUn at h;exact let ⟨t,_,h⟩:=A3 h;Eq.mpr (congrArg C t.2) (k _ _ _ h)
noncomputable def An(e:Jp):Jk {t:Jp×(on CmpOp)×(on Jp)×Pos // e=.Compare t.1 t.2.1 t.2.2.1 t.2.2.2}:=match e with | .Compare a os bs p=>some ⟨(a,os,bs,p),rfl⟩ | _=>none
@[irreducible] def gf(e:Jp)(f:Jp->(on CmpOp)->(on Jp)->Bool):Bool:=any1 (An e) λ t=>f t.1.1 t.1.2.1 t.1.2.2.1
@[elab_as_elim] def qx(h:gf e g=true){C:Jp->Prop}(k:∀a b bs p,g a b bs=true->C (.Compare a b bs p)):C e:=by
 unfold gf at h;exact let ⟨t,_,h⟩:=A3 h;Eq.mpr (congrArg C t.2) (k _ _ _ _ h)
noncomputable def Ao(e:Jp):Jk {t:BoolOp×(on Jp)×Pos // e=.BoolOp t.1 t.2.1 t.2.2}:=match e with | .BoolOp o es p=>some ⟨(o,es,p),rfl⟩ | _=>none
@[irreducible] def gh(e:Jp)(f:BoolOp->(on Jp)->Bool):Bool:=any1 (Ao e) λ t=>f t.1.1 t.1.2.1
@[elab_as_elim] def gi(h:gh e g=true){C:Jp->Prop}(k:∀o a p,g o a=true->C (.BoolOp o a p)):C e:=by
 unfold gh at h;exact let ⟨t,_,h⟩:=A3 h;Eq.mpr (congrArg C t.2) (k _ _ _ h)
noncomputable def Ap(e:Jp):Jk {t:Jp×Jp×Jp×Pos // e=.IfExp t.1 t.2.1 t.2.2.1 t.2.2.2}:=match e with | .IfExp c a b p=>some ⟨(c,a,b,p),rfl⟩ | _=>none
@[irreducible] def inIf(e:Jp)(f:Jp->Jp->Jp->Bool):Bool:=any1 (Ap e) λ t=>f t.1.1 t.1.2.1 t.1.2.2.1
@[elab_as_elim] def qy(h:inIf e g=true){C:Jp->Prop}(k:∀c a b p,g c a b=true->C (.IfExp c a b p)):C e:=by
 unfold inIf at h;exact let ⟨t,_,h⟩:=A3 h;Eq.mpr (congrArg C t.2) (k _ _ _ _ h)
noncomputable def Aq(e:Jp):Jk {t:(on Jp)×Pos // e=.List t.1 t.2}:=match e with | .List es p=>some ⟨(es,p),rfl⟩ | _=>none
@[irreducible] def kb(e:Jp)(f:(on Jp)->Bool):Bool:=any1 (Aq e) λ t=>f t.1.1
@[elab_as_elim] def qz(h:kb e g=true){C:Jp->Prop}(k:∀a p,g a=true->C (.List a p)):C e:=by
 unfold kb at h;exact let ⟨t,_,h⟩:=A3 h;Eq.mpr (congrArg C t.2) (k _ _ h)
noncomputable def qA(e:Jp):Jk {t:(on Jp)×Nat×Pos // e=.Tuple t.1 t.2.1 t.2.2}:=match e with | .Tuple es k p=>some ⟨(es,k,p),rfl⟩ | _=>none
@[irreducible] def de(e:Jp)(f:(on Jp)->Bool):Bool:=any1 (qA e) λ t=>f t.1.1
@[elab_as_elim] def gj(h:de e g=true){C:Jp->Prop}(k:∀a k p,g a=true->C (.Tuple a k p)):C e:=by
 unfold de at h;exact let ⟨t,_,h⟩:=A3 h;Eq.mpr (congrArg C t.2) (k _ _ _ h)
noncomputable def Ar(e:Jp):Jk {t:Jp×Jp×Pos // e=.Subscript t.1 t.2.1 t.2.2}:=match e with | .Subscript a b p=>some ⟨(a,b,p),rfl⟩ | _=>none
@[irreducible] def O7(e:Jp)(f:Jp->Jp->Bool):Bool:=any1 (Ar e) λ t=>f t.1.1 t.1.2.1
@[elab_as_elim] def N0(h:O7 e g=true){C:Jp->Prop}(k:∀a b p,g a b=true->C (.Subscript a b p)):C e:=by
 unfold O7 at h;exact let ⟨t,_,h⟩:=A3 h;Eq.mpr (congrArg C t.2) (k _ _ _ h)
noncomputable def As(e:Jp):Jk {t:(Jk Jp)×(Jk Jp)×(Jk Jp)×Pos // e=.Slice t.1 t.2.1 t.2.2.1 t.2.2.2}:=match e with | .Slice a b c p=>some ⟨(a,b,c,p),rfl⟩ | _=>none
@[irreducible] def dg(e:Jp)(f:(Jk Jp)->(Jk Jp)->(Jk Jp)->Bool):Bool:=any1 (As e) λ t=>f t.1.1 t.1.2.1 t.1.2.2.1
@[elab_as_elim] def ke(h:dg e g=true){C:Jp->Prop}(k:∀a b c p,g a b c=true->C (.Slice a b c p)):C e:=by
 unfold dg at h;exact let ⟨t,_,h⟩:=A3 h;Eq.mpr (congrArg C t.2) (k _ _ _ _ h)
noncomputable def At(e:Jp):Jk {t:Jp×(on Jp)×(on Keyword)×Pos // e=.Call t.1 t.2.1 t.2.2.1 t.2.2.2}:=match e with | .Call f as ks p=>some ⟨(f,as,ks,p),rfl⟩ | _=>none
@[irreducible] def gk(e:Jp)(f:Jp->(on Jp)->(on Keyword)->Pos->Bool):Bool:=any1 (At e) λ t=>f t.1.1 t.1.2.1 t.1.2.2.1 t.1.2.2.2
@[elab_as_elim] def qB(h:gk e g=true){C:Jp->Prop}(k:∀f as a p,g f as a p=true->C (.Call f as a p)):C e:=by
 unfold gk at h;exact let ⟨t,_,h⟩:=A3 h;Eq.mpr (congrArg C t.2) (k _ _ _ _ h)
noncomputable def Au(e:Jp):Jk {t:Jp×Str×Pos // e=.Attribute t.1 t.2.1 t.2.2}:=match e with | .Attribute a n p=>some ⟨(a,n,p),rfl⟩ | _=>none
@[irreducible] def ax(e:Jp)(f:Jp->Str->Pos->Bool):Bool:=any1 (Au e) λ t=>f t.1.1 t.1.2.1 t.1.2.2
@[elab_as_elim] def bx(h:ax e g=true){C:Jp->Prop}(k:∀a n p,g a n p=true->C (.Attribute a n p)):C e:=by
 unfold ax at h;exact let ⟨t,_,h⟩:=A3 h;Eq.mpr (congrArg C t.2) (k _ _ _ h)
noncomputable def Av(e:Jp):Jk {t:Jp×(on Comprehension)×Jx×Pos // e=.ListComp t.1 t.2.1 t.2.2.1 t.2.2.2}:=match e with | .ListComp x gs sc p=>some ⟨(x,gs,sc,p),rfl⟩ | _=>none
@[irreducible] def kf(e:Jp)(f:Jp->(on Comprehension)->Jx->Bool):Bool:=any1 (Av e) λ t=>f t.1.1 t.1.2.1 t.1.2.2.1
@[elab_as_elim] def Aw(h:kf e g=true){C:Jp->Prop}(k:∀x a sc p,g x a sc=true->C (.ListComp x a sc p)):C e:=by
 unfold kf at h;exact let ⟨t,_,h⟩:=A3 h;Eq.mpr (congrArg C t.2) (k _ _ _ _ h)
noncomputable def Ax(e:Jp):Jk {t:(on (Jk Jp))×(on Jp)×Pos // e=.Dict t.1 t.2.1 t.2.2}:=match e with | .Dict ks vs p=>some ⟨(ks,vs,p),rfl⟩ | _=>none
@[irreducible] def kg(e:Jp)(f:(on (Jk Jp))->(on Jp)->Bool):Bool:=any1 (Ax e) λ t=>f t.1.1 t.1.2.1
@[elab_as_elim] def Ay(h:kg e g=true){C:Jp->Prop}(k:∀ks vs p,g ks vs=true->C (.Dict ks vs p)):C e:=by
 unfold kg at h;exact let ⟨t,_,h⟩:=A3 h;Eq.mpr (congrArg C t.2) (k _ _ _ h)
noncomputable def Az(e:Jp):Jk {t:Jy×Jp×Jx×Pos // e=.Lambda t.1 t.2.1 t.2.2.1 t.2.2.2}:=match e with | .Lambda pr bd sc p=>some ⟨(pr,bd,sc,p),rfl⟩ | _=>none
@[irreducible] def kh(e:Jp)(f:Jy->Jp->Jx->Pos->Bool):Bool:=any1 (Az e) λ t=>f t.1.1 t.1.2.1 t.1.2.2.1 t.1.2.2.2
@[elab_as_elim] def AA(h:kh e g=true){C:Jp->Prop}(k:∀a b sc p,g a b sc p=true->C (.Lambda a b sc p)):C e:=by
 unfold kh at h;exact let ⟨t,_,h⟩:=A3 h;Eq.mpr (congrArg C t.2) (k _ _ _ _ h)
noncomputable def AB(e:Jv):Jk {t:(on Jp)×Jp×Pos // e=.Assign t.1 t.2.1 t.2.2}:=match e with | .Assign t v p=>some ⟨(t,v,p),rfl⟩ | _=>none
@[irreducible] def ki(e:Jv)(f:(on Jp)->Jp->Pos->Bool):Bool:=any1 (AB e) λ t=>f t.1.1 t.1.2.1 t.1.2.2
@[elab_as_elim] def AC(h:ki e g=true){C:Jv->Prop}(k:∀t v p,g t v p=true->C (.Assign t v p)):C e:=by
 unfold ki at h;exact let ⟨t,_,h⟩:=A3 h;Eq.mpr (congrArg C t.2) (k _ _ _ h)
noncomputable def AD(e:Jv):Jk {t:Jp×Pos // e=.Expr t.1 t.2}:=match e with | .Expr v p=>some ⟨(v,p),rfl⟩ | _=>none
@[irreducible] def bz(e:Jv)(f:Jp->Pos->Bool):Bool:=any1 (AD e) λ t=>f t.1.1 t.1.2
@[elab_as_elim] def dh(h:bz e g=true){C:Jv->Prop}(k:∀v p,g v p=true->C (.Expr v p)):C e:=by
 unfold bz at h;exact let ⟨t,_,h⟩:=A3 h;Eq.mpr (congrArg C t.2) (k _ _ h)
noncomputable def AE(e:Jv):Jk {t:(Jk Jp)×Pos // e=.Return t.1 t.2}:=match e with | .Return v p=>some ⟨(v,p),rfl⟩ | _=>none
@[irreducible] def kj(e:Jv)(f:(Jk Jp)->Pos->Bool):Bool:=any1 (AE e) λ t=>f t.1.1 t.1.2
@[elab_as_elim] def AF(h:kj e g=true){C:Jv->Prop}(k:∀v p,g v p=true->C (.Return v p)):C e:=by
 unfold kj at h;exact let ⟨t,_,h⟩:=A3 h;Eq.mpr (congrArg C t.2) (k _ _ h)
noncomputable def AG(e:Jv):Jk {t:Jp×(on Jv)×(on Jv)×Pos // e=.If t.1 t.2.1 t.2.2.1 t.2.2.2}:=match e with | .If c a b p=>some ⟨(c,a,b,p),rfl⟩ | _=>none
@[irreducible] def kq(e:Jv)(f:Jp->(on Jv)->(on Jv)->Pos->Bool):Bool:=any1 (AG e) λ t=>f t.1.1 t.1.2.1 t.1.2.2.1 t.1.2.2.2
@[elab_as_elim] def qC(h:kq e g=true){C:Jv->Prop}(k:∀c a b p,g c a b p=true->C (.If c a b p)):C e:=by
 unfold kq at h;exact let ⟨t,_,h⟩:=A3 h;Eq.mpr (congrArg C t.2) (k _ _ _ _ h)
noncomputable def AH(e:Jv):Jk {t:Jp×Jp×(on Jv)×(on Jv)×Pos // e=.For t.1 t.2.1 t.2.2.1 t.2.2.2.1 t.2.2.2.2}:=match e with | .For t i b o p=>some ⟨(t,i,b,o,p),rfl⟩ | _=>none
@[irreducible] def kr(e:Jv)(f:Jp->Jp->(on Jv)->(on Jv)->Pos->Bool):Bool:=any1 (AH e) λ t=>f t.1.1 t.1.2.1 t.1.2.2.1 t.1.2.2.2.1 t.1.2.2.2.2
@[elab_as_elim] def AI(h:kr e g=true){C:Jv->Prop}(k:∀t i b o p,g t i b o p=true->C (.For t i b o p)):C e:=by
 unfold kr at h;exact let ⟨t,_,h⟩:=A3 h;Eq.mpr (congrArg C t.2) (k _ _ _ _ _ h)
noncomputable def AJ(e:Jv):Jk {t:Jp×(on Jv)×(on Jv)×Pos // e=.While t.1 t.2.1 t.2.2.1 t.2.2.2}:=match e with | .While t b o p=>some ⟨(t,b,o,p),rfl⟩ | _=>none
@[irreducible] def inWh(e:Jv)(f:Jp->(on Jv)->(on Jv)->Pos->Bool):Bool:=any1 (AJ e) λ t=>f t.1.1 t.1.2.1 t.1.2.2.1 t.1.2.2.2
@[elab_as_elim] def AK(h:inWh e g=true){C:Jv->Prop}(k:∀t b o p,g t b o p=true->C (.While t b o p)):C e:=by
 unfold inWh at h;exact let ⟨t,_,h⟩:=A3 h;Eq.mpr (congrArg C t.2) (k _ _ _ _ h)
noncomputable def AL(e:Jv):Jk {t:Jp×Operator×Jp×Pos // e=.AugAssign t.1 t.2.1 t.2.2.1 t.2.2.2}:=match e with | .AugAssign t o v p=>some ⟨(t,o,v,p),rfl⟩ | _=>none
@[irreducible] def gl(e:Jv)(f:Jp->Operator->Jp->Pos->Bool):Bool:=any1 (AL e) λ t=>f t.1.1 t.1.2.1 t.1.2.2.1 t.1.2.2.2
@[elab_as_elim] def qD(h:gl e g=true){C:Jv->Prop}(k:∀t o v p,g t o v p=true->C (.AugAssign t o v p)):C e:=by
 unfold gl at h;exact let ⟨t,_,h⟩:=A3 h;Eq.mpr (congrArg C t.2) (k _ _ _ _ h)
def qE(e:Jp)(f:Jp->CmpOp->Jp->Bool):Bool:=gf e λ a os bs=>in1 os λ o=>in1 bs λ b=>f a o b
@[elab_as_elim] def qF(h:qE e f=true){C:Jp->Prop}(k:∀a o b p,f a o b=true->C (.Compare a [o] [b] p)):C e:=qx h λ a _ _ p h=>Q4 h λ o h=>Q4 h λ b h=>k a o b p h
def qG(e:Jp)(f:Jp->CmpOp->CmpOp->Jp->Jp->Bool):Bool:=gf e λ a os bs=>in2 os λ o o2=>in2 bs λ b c=>f a o o2 b c
@[elab_as_elim] def qH(h:qG e f=true){C:Jp->Prop}(k:∀a o d b c p,f a o d b c=true->C (.Compare a [o,d] [b,c] p)):C e:=qx h λ a _ _ p h=>aw h λ o d h=>aw h λ b c h=>k a o d b c p h
def qI(e:Jp)(f:Jp->Bool):Bool:=dg e λ a b c=>inNo b (inNo c (any1 a f))
@[elab_as_elim] def AM(h:qI e f=true){C:Jp->Prop}(k:∀x p,f x=true->C (.Slice (some x) none none p)):C e:=ke h λ _ _ _ p h=>L5 h λ h=>L5 h λ h=>bw h λ x h=>k x p h
def qK(e:Jp)(f:Jp->Bool):Bool:=dg e λ a b c=>inNo a (inNo c (any1 b f))
@[elab_as_elim] def AN(h:qK e f=true){C:Jp->Prop}(k:∀x p,f x=true->C (.Slice none (some x) none p)):C e:=ke h λ _ _ _ p h=>L5 h λ h=>L5 h λ h=>bw h λ x h=>k x p h
def qL(e:Jp)(f:Jp->Jp->Bool):Bool:=dg e λ a b c=>inNo c (any1 a λ x=>any1 b (f x))
@[elab_as_elim] def AO(h:qL e f=true){C:Jp->Prop}(k:∀x y p,f x y=true->C (.Slice (some x) (some y) none p)):C e:=ke h λ _ _ _ p h=>L5 h λ h=>bw h λ x h=>bw h λ y h=>k x y p h
def inCl(e:Jp)(f:Jp->on Jp->Pos->Bool):Bool:=gk e λ g as ks p=>in0 ks (f g as p)
@[elab_as_elim] def L6(h:inCl e f=true){C:Jp->Prop}(k:∀g as p,f g as p=true->C (.Call g as [] p)):C e:=qB h λ g as _ p h=>F1 h (k g as p)
def gm(e:Jp)(f:Jp->Pos->Bool):Bool:=inCl e λ g as p=>in0 as (f g p)
@[elab_as_elim] def di(h:gm e f=true){C:Jp->Prop}(k:∀g p,f g p=true->C (.Call g [] [] p)):C e:=L6 h λ g _ p h=>F1 h (k g p)
def dm(e:Jp)(f:Jp->Jp->Pos->Bool):Bool:=inCl e λ g as p=>in1 as λ a=>f g a p
@[elab_as_elim] def gn(h:dm e f=true){C:Jp->Prop}(k:∀g a p,f g a p=true->C (.Call g [a] [] p)):C e:=L6 h λ g _ p h=>Q4 h λ a h=>k g a p h
def qM(e:Jp)(f:Jp->Jp->Jp->Pos->Bool):Bool:=inCl e λ g as p=>in2 as λ a b=>f g a b p
@[elab_as_elim] def qN(h:qM e f=true){C:Jp->Prop}(k:∀g a b p,f g a b p=true->C (.Call g [a,b] [] p)):C e:=L6 h λ g _ p h=>aw h λ a b h=>k g a b p h
def qO(e:Jp)(f:Bool):Bool:=kg e λ ks vs=>in0 ks (in0 vs f)
@[elab_as_elim] def AQ(h:qO e f=true){C:Jp->Prop}(k:∀p,f=true->C (.Dict [] [] p)):C e:=Ay h λ _ _ p h=>F1 h λ h=>F1 h λ h=>k p h
noncomputable def AR(e:Jp):Jk {t:Jp×Nat×Pos×Pos×Pos×Pos // e=.Subscript t.1 (.Slice none none (some (.UnaryOp .USub (.Constant (.int 1) t.2.1 t.2.2.1) t.2.2.2.1)) t.2.2.2.2.1) t.2.2.2.2.2}:=match e with | .Subscript a (.Slice none none (some (.UnaryOp .USub (.Constant (.int 1) j p) q)) r) s=>some ⟨(a,j,p,q,r,s),rfl⟩ | _=>none
@[irreducible] def kt(e:Jp)(f:Jp->Bool):Bool:=any1 (AR e) λ t=>f t.1.1
@[elab_as_elim] def qP(h:kt e g=true){C:Jp->Prop}(k:∀a j p q r s,g a=true->C (.Subscript a (.Slice none none (some (.UnaryOp .USub (.Constant (.int 1) j p) q)) r) s)):C e:=by
 unfold kt at h;exact let ⟨t,_,h⟩:=A3 h;Eq.mpr (congrArg C t.2) (k _ _ _ _ _ _ h)
noncomputable def AS(e:Jv):Jk {t:Str×Jy×on Jv×Jx×Str×Pos // e=.FunctionDef t.1 t.2.1 t.2.2.1 [] none [] t.2.2.2.1 none t.2.2.2.2.1 t.2.2.2.2.2}:=match e with | .FunctionDef n a b [] none [] sc none bd p=>some ⟨(n,a,b,sc,bd,p),rfl⟩ | _=>none
@[irreducible] def inFd(e:Jv)(f:Str->Jy->on Jv->Jx->Str->Bool):Bool:=any1 (AS e) λ t=>f t.1.1 t.1.2.1 t.1.2.2.1 t.1.2.2.2.1 t.1.2.2.2.2.1
@[elab_as_elim] def AT(h:inFd e g=true){C:Jv->Prop}(k:∀n a b sc bd p,g n a b sc bd=true->C (.FunctionDef n a b [] none [] sc none bd p)):C e:=by
 unfold inFd at h;exact let ⟨t,_,h⟩:=A3 h;Eq.mpr (congrArg C t.2) (k _ _ _ _ _ _ h)
def qQ(e:Jp)(f:Jp->on Jp->Jk Str->Jp->Bool):Bool:=gk e λ g as ks p=>in1 ks λ w=>f g as w.arg w.value
@[elab_as_elim] def AU(h:qQ e f=true){C:Jp->Prop}(k:∀g b a v q p,f g b a v=true->C (.Call g b [⟨a,v,q⟩] p)):C e:=qB h λ g b _ p h=>Q4 h λ ⟨a,v,q⟩ h=>k g b a v q p h
def inCk(e:Jp)(f:Jp->Jp->Jk Str->Jp->Bool):Bool:=qQ e λ g as a v=>in1 as λ b=>f g b a v
@[elab_as_elim] def qR(h:inCk e f=true){C:Jp->Prop}(k:∀g b a v q p,f g b a v=true->C (.Call g [b] [⟨a,v,q⟩] p)):C e:=AU h λ g _ a v q p h=>Q4 h λ b h=>k g b a v q p h
def bA(e:Jv)(f:Jp->Jp->Pos->Bool):Bool:=ki e λ ts v p=>in1 ts λ t=>f t v p
@[elab_as_elim] def bB(h:bA e f=true){C:Jv->Prop}(k:∀t v p,f t v p=true->C (.Assign [t] v p)):C e:=AC h λ _ v p h=>Q4 h λ t h=>k t v p h
def gp(e:Jv)(f:Jp->Pos->Bool):Bool:=kj e λ o p=>any1 o λ v=>f v p
@[elab_as_elim] def gq(h:gp e f=true){C:Jv->Prop}(k:∀v p,f v p=true->C (.Return (some v) p)):C e:=AF h λ _ p h=>bw h λ v h=>k v p h
def qU(e:Jv)(f:Jp->Jp->on Jv->Pos->Bool):Bool:=kr e λ t i b o p=>in0 o (f t i b p)
@[elab_as_elim] def AV(h:qU e f=true){C:Jv->Prop}(k:∀t i b p,f t i b p=true->C (.For t i b [] p)):C e:=AI h λ t i b _ p h=>F1 h (k t i b p)
noncomputable def AW(e:Jv):Jk {t:(Jk Jp)×(Jk Jp)×Pos // e=.Raise t.1 t.2.1 t.2.2}:=match e with | .Raise v k p=>some ⟨(v,k,p),rfl⟩ | _=>none
@[irreducible] def ku(e:Jv)(f:(Jk Jp)->(Jk Jp)->Pos->Bool):Bool:=any1 (AW e) λ t=>f t.1.1 t.1.2.1 t.1.2.2
@[elab_as_elim] def AX(h:ku e g=true){C:Jv->Prop}(k:∀v k p,g v k p=true->C (.Raise v k p)):C e:=by
 unfold ku at h;exact let ⟨t,_,h⟩:=A3 h;Eq.mpr (congrArg C t.2) (k _ _ _ h)
def qV(e:Jv)(f:Jp->Pos->Bool):Bool:=ku e λ v k p=>inNo k (any1 v λ v=>f v p)
@[elab_as_elim] def AY(h:qV e f=true){C:Jv->Prop}(k:∀v p,f v p=true->C (.Raise (some v) none p)):C e:=AX h λ _ _ p h=>L5 h λ h=>bw h λ v h=>k v p h
def qW(e:Jv)(f:Jp->on Jv->Pos->Bool):Bool:=inWh e λ t b o p=>in0 o (f t b p)
@[elab_as_elim] def AZ(h:qW e f=true){C:Jv->Prop}(k:∀t b p,f t b p=true->C (.While t b [] p)):C e:=AK h λ t b _ p h=>F1 h (k t b p)
def K4(e:Jp):Jk Str:=(qt e).map λ t=>t.1.1
def ay(e:Jp):Jk Const:=(Al e).map λ t=>t.1.1
def L7(e:Jp):Jk (on Jp):=(qA e).map λ t=>t.1.1
def qX(e:Jp):Jk (Jp×Operator×Jp):=(qu e).map λ t=>(t.1.1,t.1.2.1,t.1.2.2.1)
def mpd{o:Jk d}(h:o.map f=some b):∃a,f a=b:=by
 cases o with
 | none=>cases h
 | some a=>cases h;exact⟨a,rfl⟩
def V2(h:K4 e=some x):∃p,e=.Name x p:=let ⟨t,h⟩:=mpd h;⟨_,h▸t.2⟩
def kx(h:ay e=some x):∃k p,e=.Constant x k p:=let ⟨t,h⟩:=mpd h;⟨_,_,h▸t.2⟩
def gr{e:Jp}{es:on Jp}(h:L7 e=some es):∃k p,e=.Tuple es k p:=let ⟨t,h⟩:=mpd h;⟨_,_,h▸t.2⟩
def Ba(h:qX e=some (a,o,b)):∃p,e=.BinOp a o b p:=by
 obtain⟨⟨⟨_,_,_,p⟩,z⟩,h⟩:=mpd h;cases h;exact⟨p,z⟩
structure CParts where
 elt:Expr
 tg:Expr
 it:Expr
 ifs:List Expr
 sc:Scope
def inCp(e:Jp)(f:CParts->Bool):Bool:=kf e λ x gs sc=>in1 gs λ g=>decide (g.is_async=0)&&f ⟨x,g.target,g.iter,g.ifs,sc⟩
@[elab_as_elim] def dr(h:inCp e f=true){C:Jp->Prop}(k:∀c p,f c=true->C (.ListComp c.elt [⟨c.tg,c.it,c.ifs,0⟩] c.sc p)):C e:=by
 refine Aw h λ x gs d p h=>Q4 h λ ⟨b,g,a,w⟩ h=>?_;obtain⟨i,h⟩:=J9.mp h;obtain rfl:=iP i;exact k ⟨x,b,g,a,d⟩ p h
noncomputable def visB(sg:Sg)(x:Str):Bool:=sg.sc.lookup x==some .local||sg.sc.lookup x==some .cell||sg.sc.lookup x==some .free
noncomputable def gloB(sg:Sg)(x:Str):Bool:=sg.sc.lookup x==some .globalImplicit
noncomputable def locB(sg:Sg)(x:Str):Bool:=sg.sc.lookup x==some .local||sg.sc.lookup x==some .cell
def N1(sg:Sg)(i:Nat)(x:Str):Bool:=sg.N[i]? == some x&&visB sg x&&x != "__debug__" && x != "__classdict__"
def bltB(sg:Sg)(x:Str)(f:Jp):Bool:=K4 f==some x&&gloB sg x&&sg.bl.contains x
noncomputable def Bb:Bi->Str
 | .len=>"len" | .min=>"min" | .max=>"max" | .sum=>"sum" | .sset=>"sorted" | .tuple=>"tuple" | .list=>"list" | .sorted=>"sorted"
noncomputable def qY:Mt->Str
 | .bitLength=>"bit_length" | .index=>"index" | .get=>"get"
noncomputable def J4(sg:Sg)(tn:on Str)(fr:on (Jk Nat)):on Str:=tn++(fr.drop tn.length).map λ o=>match o with | some i=>sg.N.getD i "" | none=>""
def qZ:Tg->Jp->Jk (on Str)
 | .one _,e=>(K4 e).map λ x=>[x]
 | .many is,e=>match L7 e with
  | some es=>if es.length=is.length then es.mapM K4 else none
  | none=>none
def tgOk(sg:Sg):Tg->Jp->Bool
 | .one i,e=>match K4 e with
  | some x=>sg.N[i]? == some x&&locB sg x
  | none=>false
 | .many is,e=>match L7 e with
  | some es=>es.length==is.length&&2<=es.length&&(is.zip es).all λ p=>match K4 p.2 with
   | some x=>sg.N[p.1]? == some x&&locB sg x
   | none=>false
  | none=>false
noncomputable def O8:on Str->Bool
 | []=>true
 | x::r=>!r.contains x&&O8 r
def az:Tg->on Nat
 | .one i=>[i]
 | .many is=>is
def aA(sg:Sg)(N':on Str)(fr:on (Jk Nat))(sc:Jx)(tg:Tg):Bool:=(az tg).all (λ i=>fr[i]? == some none) &&
 sc.kind == .function&&O8 N'&&O8 (sc.names.map (·.1))&&fr.length==N'.length &&
 (fr.zip N').all (λ p=>match p.1 with | some i=>sg.N[i]? == some p.2&&sc.names.contains (p.2,.free) | none=>true) &&
 sc.names.all λ y=>if y.2 == .free then sg.sc.lookup y.1==some .cell||sg.sc.lookup y.1==some .free else true
def Bc(p:Jy)(ps:on Str):Bool:=match p with | ⟨po,ar,va,ko,kd,kw,df⟩=>in0 po (in2 ar λ a b=>inNo va (in0 ko (in0 kd (inNo kw (in0 df (a.arg == "r" && b.arg == "c" && ps==(["r","c"]:on Str)))))))
def Bd(p:Jy)(ps:on Str):Bool:=match p with | ⟨po,ar,va,ko,kd,kw,df⟩=>in0 po (in1 ar λ a=>inNo va (in0 ko (in0 kd (inNo kw (in0 df ((["way","entry","word"]:on Str).contains a.arg&&ps==[a.arg]))))))
def dt(p:Jy)(ps:on Str):Bool:=Bc p ps||Bd p ps
@[elab_as_elim] def rd(h:dt p ps=true){C:Jy->on Str->Prop}(k:∀x y z w,C ⟨[],[⟨"r",x,y⟩,⟨"c",z,w⟩],none,[],[],none,[]⟩ ["r","c"])
  (k1:∀a x y,a∈(["way","entry","word"]:on Str)->C ⟨[],[⟨a,x,y⟩],none,[],[],none,[]⟩ [a]):C p ps:=by
 obtain⟨po,ar,va,ko,kd,kw,df⟩:=p;rcases Bool.or_eq_true_iff.mp h with h | h
 ·refine F1 h λ h=>aw h λ ⟨x,b,p1⟩ ⟨y,c,p2⟩ h=>L5 h λ h=>F1 h λ h=>F1 h λ h=>L5 h λ h=>F1 h λ h=>?_;simp only[f9,i5]at h;obtain⟨⟨rfl,rfl⟩,rfl⟩:=h;exact k b p1 c p2
 ·refine F1 h λ h=>Q4 h λ ⟨x,b,p1⟩ h=>L5 h λ h=>F1 h λ h=>F1 h λ h=>L5 h λ h=>F1 h λ h=>?_;simp only[f9,i5,N5]at h;obtain⟨d,rfl⟩:=h;exact k1 x b p1 d
def rf(sg:Sg)(N:on Str)(np:Nat)(fr:on Nat)(pr:Jy)(sc:Jx):Bool:=dt pr (N.take np)&&sc.kind == .function && !sc.isCoroutine && !sc.isGenerator&&O8 N&&O8 (sc.names.map (·.1))&&decide (N.length=np+fr.length) &&
 (N.take np).all (λ x=>sc.names.lookup x==some .local)&&sc.names.all (λ y=>y.2 != .cell)&&(N.drop np).all (λ x=>sc.names.lookup x==some .free)&&(fr.zip (N.drop np)).all (λ p=>sg.N[p.1]? == some p.2) &&
 sg.sc.lookup n7 != some .cell&&sc.names.all λ y=>if y.2 == .free then sg.sc.lookup y.1==some .cell||(!sg.top&&sg.sc.lookup y.1==some .free)else true
def du(p:Jy)(ps:on Str):Bool:=match p with | ⟨po,ar,va,ko,kd,kw,df⟩=>in0 po (in2 ar λ a b=>inNo a.annotation (inNo b.annotation (inNo va (in0 ko (in0 kd (inNo kw (in0 df (a.arg == "part" && b.arg == "left" && ps==(["part","left"]:on Str)))))))))
@[elab_as_elim] def ky(h:du p ps=true){C:Jy->on Str->Prop}(k:∀x y,C ⟨[],[⟨"part",none,x⟩,⟨"left",none,y⟩],none,[],[],none,[]⟩ ["part","left"]):C p ps:=by
 obtain⟨po,ar,va,ko,kd,kw,df⟩:=p;refine F1 h λ h=>aw h λ ⟨x,b,d⟩ ⟨y,a,c⟩ h=>L5 (o:=b) h λ h=>L5 (o:=a) h λ h=>L5 h λ h=>F1 h λ h=>F1 h λ h=>L5 h λ h=>F1 h λ h=>?_
 simp only[f9,i5]at h;obtain⟨⟨rfl,rfl⟩,rfl⟩:=h;exact k d c
def kz(sg:Sg)(i:Nat)(fr:on Nat)(ss:on Jv)(f:Jp->on Jp->Bool):Bool:=sg.top&&sg.sc.lookup n7==some .cell&&(in2 ss λ a b=>inFd a λ n pr bd sc x=>n==n7&&x==n7&&sg.N[i]? == some n7&&sg.co pr bd sc (fr.map λ j=>sg.N.getD j "")&&fr.all (λ j=>decide (j<sg.N.length)) &&
 (sc.names.all λ y=>if y.2 == .free then sg.sc.lookup y.1==some .cell else true)&&(gp b λ v _=>de v λ ts=>in2 ts λ ea ec=>inCl ec λ ef es _=>(G5 ef λ x=>x==n7) && !es.isEmpty && !t9 ea&&f ea es))
noncomputable def rg:ME->Bool
 | .comp _ _ _ _=>true
 | .compi _ _ _ _ _=>true
 | _=>false
noncomputable def isZp:ME->Bool
 | .enu _=>true
 | .itm _=>true
 | _=>false
mutual
def corE(sg:Sg)(w:Bool):ME->Jp->Bool
 | .var i,e=>G5 e λ x=>N1 sg i x
 | .int i,e=>ay e==some (.int i)
 | .bl i,e=>ay e==some (.bool i)
 | .str x,e=>ay e==some (.str x)&&decide (x.length<=1000)
 | .non,e=>ay e==some .none
 | .glb x,e=>K4 e==some x&&gloB sg x&&x != "__debug__"
 | .bin op a b,e=>ka e λ ea o eb=>o==op&&corE sg false a ea&&corE sg false b eb
 | .not a,e=>inUn e λ o ea=>o == .Not&&corE sg false a ea
 | .cmp op a b,e=>qE e λ ea o eb=>o==op&&corE sg false a ea&&corE sg false b eb && !J3 eb
 | .chain op op' a b c,e=>qG e λ ea o o' eb ec=>o==op&&o'==op'&&corE sg false a ea&&corE sg false b eb&&corE sg false c ec && !J3 ec
 | .and ms,e=>gh e λ o es=>o == .And&&u8 sg ms es
 | .or ms,e=>gh e λ o es=>o == .Or&&u8 sg ms es
 | .lst ms,e=>kb e λ es=>u8 sg ms es
 | .tup ms,e=>de e λ es=>u8 sg ms es
 | .ix a b,e=>O7 e λ ea eb=>corE sg false a ea&&corE sg false b eb && !X0 eb
 | .sl a lo hi,e=>O7 e λ ea es=>(qL es λ el eh=>corE sg false a ea&&corE sg false lo el&&corE sg false hi eh)
 | .slf a lo,e=>O7 e λ ea es=>(qI es λ el=>corE sg false a ea&&corE sg false lo el)
 | .rev a,e=>kt e λ ea=>corE sg false a ea
 | .ite c a b,e=>inIf e λ ec ea eb=>corE sg false c ec&&corE sg false a ea&&corE sg false b eb
 | .call f ms,e=>inCl e λ ef es _=>(G5 ef λ x=>sg.fn[f]? == some x&&gloB sg x&&x != "__debug__") && !es.isEmpty&&u8 sg ms es
 | .bi f ms,e=>inCl e λ ef es _=>bltB sg (Bb f) ef && !es.isEmpty&&(match f with
   | .sset=>(in1 es λ e1=>inCl e1 λ ef' es' _=>bltB sg "set" ef'&&es'.length==1&&u8 sg ms es')
   | _=>u8 sg ms es)
 | .isi a ts,e=>qM e λ ef ea et _=>bltB sg "isinstance" ef&&corE sg false a ea && !t9 ea && !t9 et&&(match ts with
   | [t]=>K4 et==some t&&gloB sg t&&sg.bl.contains t&&W6.contains t
   | _=>false)
 | .meth m a ms,e=>gm e λ ef pos=>(ax ef λ ea n apos=>n==qY m&&corE sg false a ea&&((K4 ea).isSome||(qX ea).isSome)&&apos.endLine==pos.line&&ms.isEmpty)
 | .comp elt tg it fr,e=>inCp e λ c=>c.ifs.isEmpty&&(corE sg true it c.it&&(!isZp it||(L7 c.tg).isSome)) && !J3 c.it&&(any1 (qZ tg c.tg) λ tn=>aA sg (J4 sg tn fr) fr c.sc tg&&tgOk ⟨J4 sg tn fr,c.sc.names,sg.fn,sg.bl,sg.cl,false,false,noCo⟩ tg c.tg&&corE ⟨J4 sg tn fr,c.sc.names,sg.fn,sg.bl,sg.cl,false,false,noCo⟩ false elt c.elt)
 | .compi elt tg it cd fr,e=>inCp e λ c=>(corE sg true it c.it&&(!isZp it||(L7 c.tg).isSome)) && !J3 c.it&&(any1 (qZ tg c.tg) λ tn=>in1 c.ifs λ ec=>aA sg (J4 sg tn fr) fr c.sc tg&&tgOk ⟨J4 sg tn fr,c.sc.names,sg.fn,sg.bl,sg.cl,false,false,noCo⟩ tg c.tg&&corE ⟨J4 sg tn fr,c.sc.names,sg.fn,sg.bl,sg.cl,false,false,noCo⟩ false elt c.elt&&corE ⟨J4 sg tn fr,c.sc.names,sg.fn,sg.bl,sg.cl,false,false,noCo⟩ false cd ec)
 | .rng ms,e=>w&&(inCl e λ ef es _=>bltB sg "range" ef&&u8 sg ms es&&decide (es.length<=2))
 | .enu a,e=>w&&(dm e λ ef ea _=>bltB sg "enumerate" ef&&corE sg false a ea && !t9 ea)
 | .itm a,e=>w&&(gm e λ ef pos=>(ax ef λ o n apos=>n == "items" && corE sg false a o&&apos.endLine==pos.line&&((K4 o).isSome||inCl o λ _ es _=>!es.isEmpty)))
 | .dix a k,e=>O7 e λ ea eb=>corE sg false a ea&&corE sg false k eb && !X0 eb
 | .maxk a N np lb fr,e=>sg.lp&&(inCk e λ ef ea kn el=>bltB sg "max" ef&&kn==some "key" && corE sg false a ea && !t9 ea&&(kh el λ pr bd sc _=>rf sg N np fr pr sc&&corE ⟨N,sc.names,sg.fn,sg.bl,sg.cl,false,false,noCo⟩ false lb bd))
 | .self _ _ ms,e=>(sg.lp && !sg.top)&&(inCl e λ ef es _=>(G5 ef λ x=>x==n7) && !es.isEmpty&&u8 sg ms es)
def u8(sg:Sg):on ME->on Jp->Bool
 | [],[]=>true
 | m::ms,e::es=>corE sg false m e && !t9 e&&u8 sg ms es
 | _,_=>false
end
mutual
def corS(sg:Sg):MS->Jv->Bool
 | .set i _ e,s=>bA s λ t v pos=>(G5 t λ x=>sg.N[i]? == some x&&locB sg x&&corE sg false e v&&(!S7 v||rg e))
 | .app i e,s=>bz s λ v _=>(dm v λ ef ea pos=>(ax ef λ o n apos=>n == "append" && (G5 o λ x=>N1 sg i x)&&corE sg false e ea && !t9 ea&&apos.endLine==pos.line))
 | .ext i e,s=>bz s λ v _=>(dm v λ ef ea pos=>(ax ef λ o n apos=>n == "extend" && (G5 o λ x=>N1 sg i x)&&corE sg false e ea && !t9 ea&&apos.endLine==pos.line))
 | .seti i k e,s=>bA s λ t v _=>(O7 t λ o ek=>(G5 o λ x=>N1 sg i x)&&corE sg false k ek && !X0 ek&&corE sg false e v)
 | .augi i k e,s=>gl s λ t o v _=>o == .Add&&(O7 t λ ob ek=>(G5 ob λ x=>N1 sg i x)&&corE sg false k ek && !X0 ek&&(O7 ek λ _ _=>true)&&corE sg false e v)
 | .clr i,s=>bz s λ v _=>(gm v λ ef pos=>(ax ef λ o n apos=>n == "clear" && (G5 o λ x=>N1 sg i x)&&apos.endLine==pos.line))
 | .exp e,s=>bz s λ v _=>corE sg false e v && !S7 v
 | .ret e,s=>gp s λ v _=>corE sg false e v
 | .iff c a b,s=>kq s λ ec ea eb _=>corE sg false c ec&&C5 sg a ea&&C5 sg b eb
 | .fo tg it body,s=>qU s λ t i b _=>sg.lp&&tgOk sg tg t&&(corE sg true it i&&(!isZp it||(L7 t).isSome)) && !J3 i&&C5 sg body b
 | .wh c body,s=>qW s λ t b _=>sg.lp&&corE sg false c t&&C5 sg body b
 | .sep i,s=>bA s λ t v _=>(G5 t λ x=>(qO v (sg.N[i]? == some x&&locB sg x)))
 | .dpp i ks e,s=>bA s λ t v _=>(O7 t λ o ek=>(G5 o λ x=>N1 sg i x)&&(de ek λ es=>u8 sg ks es)&&corE sg false e v && !S7 v)
 | .dpv i a h e,s=>bA s λ t v _=>(O7 t λ o ek=>(G5 o λ x=>N1 sg i x)&&(O7 ek λ ea es=>(qK es λ eh=>corE sg false a ea&&ay eh==some (.int h)))&&corE sg false e v && !S7 v)
 | .rse c e,s=>qV s λ v _=>(dm v λ ef ea _=>sg.top&&K4 ef==some c&&gloB sg c&&c != "__debug__" && corE sg false e ea && !t9 ea)
 | .rfs _,_=>false
 | .retd i,s=>gp s λ v _=>(G5 v λ x=>N1 sg i x)
 | .unk,_=>true
 | .aug i e,s=>gl s λ t o v _=>o == .Add&&(G5 t λ x=>sg.N[i]? == some x&&locB sg x)&&corE sg false e v
 | .frz _,_=>false
 | .dfr _ _ _ _,_=>false
def C5(sg:Sg):on MS->on Jv->Bool
 | [],[]=>true
 | .dfr i fr a es::ms,ss=>kz sg i fr ss (λ e l=>corE sg false a e&&u8 sg es l)&&ms.isEmpty
 | .frz _::ms,ss=>C5 sg ms ss
 | m::ms,s::ss=>corS sg m s&&C5 sg ms ss
 | _,_=>false
end
def X1(C:CloD)(fn bl cl:on Str)(pr:Jy)(bd:on Jv)(sc:Jx)(cap:on Str):Bool:=du pr (C.N.take C.np)&&C.np==2&&sc.kind == .function && !sc.isCoroutine && !sc.isGenerator&&O8 C.N&&decide (2+C.nc<=C.N.length)&&O8 (sc.names.map (·.1)) &&
 sc.names.lookup ("part" : Str)==some .local&&sc.names.lookup ("left" : Str)==some .cell&&(cap==(C.N.drop 2).take C.nc)&&cap.all (λ x=>sc.names.lookup x==some .free)&&sc.names.lookup n7==some .free&&C5 ⟨C.N,sc.names,fn,bl,cl,false,true,noCo⟩ C.body bd
end
end L2
end
noncomputable section
namespace L2
open PySem PySem.Spec PyProof.Rows
def O9(H:Hp)(q:Str)(params:Jy)(body:Jp)(scope:Jx)(cl:on (Str×Jn))(f:Jn):Prop:=
 ∃c' oc u vs t pm ctv,H f=some (.frz (PySem.W.kla_obj "<lambda>" q params body scope cl pm c' ctv) (.own f))/\H c'=some (.frz oc u)/\oc.data=.fields vs/\vs[1]? = some (.str q t)
def O9.mono(e:Same H c)(h:O9 H q a body scope cl f):O9 c q a body scope cl f:=by
 obtain⟨l,i,u,d,t,g,b,k,j,r⟩:=h;exact⟨l,i,u,d,t,g,b,e _ _ k,e _ _ j,r⟩
structure LamScope(N ps:List Str)(sc:Scope)(cl:List (Str×Addr))(l:List Addr):Prop where
 kind:sc.kind=.function
 co:sc.isCoroutine=false
 gen:sc.isGenerator=false
 nd:N.Nodup
 pre:N.take ps.length=ps
 par:∀x∈ps,sc.names.lookup x=some .local
 nocell:∀y∈sc.names,y.2 ≠ .cell
 fre:∀i x,ps.length<=i->N[i]? = some x->sc.names.lookup x=some .free
 has:∀x,sc.names.lookup x=some .free->∃c,cl.lookup x=some c
 inj:∀x y c,cl.lookup x=some c->cl.lookup y=some c->x=y
 mem:∀x c,cl.lookup x=some c->c∈l
def dw(H:Hp)(N:on Str)(np:Nat)(cl:on (Str×Jn))(l:on Jn)(ws:on V):Prop:=N.length=np+ws.length/\(∀c∈l,∃o v,H c=some (.frz o (.own c))/\o.data=.cell v) /\
 ∀(i:Nat) x v,N[np+i]? = some x->ws[i]? = some v->∃c o u,cl.lookup x=some c/\H c=some (.frz o (.own c))/\o.data=.cell (some u)/\RelV v u
def dw.mono(e:Same H d)(h:dw H N np cl l ws):dw d N np cl l ws:=
 ⟨h.1,λ c f=>by obtain⟨o,v,b,a⟩:=h.2.1 c f;exact⟨o,v,e _ _ b,a⟩,λ i x v j g=>by obtain⟨c,o,u,b,a,r⟩:=h.2.2 i x v j g;exact⟨c,o,u,b,e _ _ a,r⟩⟩
noncomputable def X2(m:LamD)(params:Jy)(body:Jp)(scope:Jx):Bool:=dt params (m.N.take m.np)&&corE ⟨m.N,scope.names,m.fn,m.bl,m.cl,false,false,noCo⟩ false m.body body
def Be(h:dt c ps=true)(d:e.length=ps.length):bindArgs (PySem.W.kla_fn "<lambda>" q c b sc cl pm cd g) ⟨e,[]⟩=pure (ps.zip e):=by
 revert d;refine rd h (λ x y z w d=>?_) λ a x y f d=>?_
 ·obtain⟨u,v,rfl⟩:∃u v,e=[u,v]:=by
   cases e with
   | nil=>cases d
   | cons u r=>cases r with
    | nil=>cases d
    | cons v r=>cases r with
     | nil=>exact⟨u,v,rfl⟩
     | cons _ _=>cases d
  rfl
 ·obtain⟨u,rfl⟩:∃u,e=[u]:=by
   cases e with
   | nil=>cases d
   | cons u r=>cases r with
    | nil=>exact⟨u,rfl⟩
    | cons _ _=>cases d
  simp only[j0,P5,P7]at f;rcases f with z | z | z<;>(subst z;rfl)
structure Dm where
 K:PySem.W.Frag
 mg:Str->Option Value
abbrev Cx.D(X:Cx):Dm:=⟨X.K,X.mg⟩
def SqS(K:Jw)(H:Hp)(a:Jn)(xs:on V):Prop:=(∃o,H a=some (.frz o (.lst xs))) \/
 ∃(o:Obj) (its:Jq Jl) (n:Nat),K.lookup a=some o/\o.cls=.type "list" /\ o.dict=none/\o.data=.seq its n/\its.size<=sizeLine/\Vals xs its.toList
def SqS.sq{K:Jw}(h:SqS K H a xs):SqL K H a xs:=by
 rcases h with h | h
 ·exact .inl (.inr h)
 ·exact .inr h
def SqS.of{K:Jw}(b:Only H)(h:SqL K H a xs):SqS K H a xs:=by
 rcases h with(h | h) | h
 ·rcases b a with z | z
  ·rw[h]at z;cases z
  ·rcases z with⟨o,ys,z⟩ | ⟨q,z⟩<;>(rw[h]at z;cases z)
 ·exact .inl h
 ·exact .inr h
def Same.sqs{K:Jw}(e:Same H b)(h:SqS K H a xs):SqS K b a xs:=by
 rcases h with⟨o,h⟩ | h
 ·exact .inl ⟨o,e _ _ h⟩
 ·exact .inr h
noncomputable def mutO:HO->Bool
 | .lst _=>true
 | .dK _=>true
 | .dT _=>true
 | _=>false
mutual
noncomputable def Rep(D:Dm)(H:Hp):DV->V->Prop
 | .non,v=>v=.non
 | .bl b,v=>v=.bl b
 | .int i,v=>v=.int i
 | .str x,v=>v=.str x/\x.length<=sizeLine
 | .tup ds,v=>∃a xs,v=.ref a/\SqT D.K H a xs/\RepL D H ds xs
 | .lst ds,v=>∃a xs,v=.ref a/\H a=some (.lst xs)/\RepL D H ds xs
 | .dct ks vs,v=>∃a o kvs,v=.ref a/\H a=some (.frz o (.dT kvs))/\kvs.map (λ p=>DKey.t p.1)=ks/\RepL D H vs (kvs.map (·.2))
 | .dcl ks vs,v=>∃a kvs,v=.ref a/\H a=some (.dT kvs)/\kvs.map (λ p=>DKey.t p.1)=ks/\RepL D H vs (kvs.map (·.2))
 | .fn x,v=>∃f,v=.ref f/\D.mg x=some (.ref f)
 | .lam m cs,v=>∃f pr bd sc q cl l ws,v=.ref f/\O9 H q pr bd sc cl f/\X2 m pr bd sc=true/\LamScope m.N (m.N.take m.np) sc cl l/\RepL D H cs ws/\dw H m.N m.np cl l ws
 | .scr ns,v=>∃a,v=.ref a/\SqS D.K H a (ns.map V.int)
noncomputable def RepL(D:Dm)(H:Hp):on DV->on V->Prop
 | [],xs=>xs=[]
 | d::ds,xs=>∃v vs,xs=v::vs/\Rep D H d v/\RepL D H ds vs
end
def Same.tseq{K:Jw}(e:Same H b)(h:SqT K H a xs):SqT K b a xs:=by
 rcases h with(h | ⟨o,h⟩) | h
 ·exact .inl (.inl (e _ _ h))
 ·exact .inl (.inr ⟨o,e _ _ h⟩)
 ·exact .inr h
mutual
theorem Rep.mono{D:Dm}{H H':Hp}(e:Same H H'):∀{d:DV} {v:V},Rep D H d v->Rep D H' d v
 | .non,_,h=>by unfold Rep at h ⊢;exact h
 | .bl _,_,h=>by unfold Rep at h ⊢;exact h
 | .int _,_,h=>by unfold Rep at h ⊢;exact h
 | .str _,_,h=>by unfold Rep at h ⊢;exact h
 | .tup ds,_,h=>by unfold Rep at h ⊢;obtain⟨a,xs,e1,e2,e3⟩:=h;exact⟨a,xs,e1,e.tseq e2,RepL.mono e e3⟩
 | .lst ds,_,h=>by unfold Rep at h ⊢;obtain⟨a,xs,e1,e2,e3⟩:=h;exact⟨a,xs,e1,e _ _ e2,RepL.mono e e3⟩
 | .dct _ _,_,h=>by unfold Rep at h ⊢;obtain⟨a,o,kvs,e1,e2,e3,e4⟩:=h;exact⟨a,o,kvs,e1,e _ _ e2,e3,RepL.mono e e4⟩
 | .dcl _ _,_,h=>by unfold Rep at h ⊢;obtain⟨a,kvs,e1,e2,e3,e4⟩:=h;exact⟨a,kvs,e1,e _ _ e2,e3,RepL.mono e e4⟩
 | .fn _,_,h=>by unfold Rep at h ⊢;exact h
 | .lam m cs,_,h=>by unfold Rep at h ⊢;obtain⟨f,pr,bd,sc,q,cl,l,ws,e1,e2,e3,e4,e5,e6⟩:=h;exact⟨f,pr,bd,sc,q,cl,l,ws,e1,e2.mono e,e3,e4,RepL.mono e e5,e6.mono e⟩
 | .scr _,_,h=>by unfold Rep at h ⊢;obtain⟨a,e1,e2⟩:=h;exact⟨a,e1,e.sqs e2⟩
theorem RepL.mono{D:Dm}{H H':Hp}(e:Same H H'):∀{ds:on DV} {xs:on V},RepL D H ds xs->RepL D H' ds xs
 | [],_,h=>by unfold RepL at h ⊢;exact h
 | d::ds,_,h=>by unfold RepL at h ⊢;obtain⟨v,vs,e1,e2,e3⟩:=h;exact⟨v,vs,e1,Rep.mono e e2,RepL.mono e e3⟩
end
def A7:Rep D H (.int i) v↔v=.int i:=by unfold Rep;exact M5
def X3:Rep D H (.bl i) v↔v=.bl i:=by unfold Rep;exact M5
def dz:Rep D H (.str i) v↔(v=.str i/\i.length<=sizeLine):=by unfold Rep;exact M5
def V3:Rep D H .non v↔v=.non:=by unfold Rep;exact M5
def E7:Rep D H (.tup ds) v↔∃a b,v=.ref a/\SqT D.K H a b/\RepL D H ds b:=by unfold Rep;exact M5
def K5:Rep D H (.lst ds) v↔∃a b,v=.ref a/\H a=some (.lst b)/\RepL D H ds b:=by unfold Rep;exact M5
def kA:Rep D H (.lam m cs) v↔∃f pr c a q cl l b,v=.ref f/\O9 H q pr c a cl f/\X2 m pr c a=true/\LamScope m.N (m.N.take m.np) a cl l/\RepL D H cs b/\dw H m.N m.np cl l b:=by unfold Rep;exact M5
def Bf:Rep D H (.fn x) v↔∃f,v=.ref f/\D.mg x=some (.ref f):=by unfold Rep;exact M5
def V4{D:Dm}{H:Hp}{v:V}{ns:on Int}:Rep D H (.scr ns) v↔∃a,v=.ref a/\SqS D.K H a (ns.map V.int):=by unfold Rep;exact M5
def aC:Rep D H (.dct ks vs) v↔∃a o b,v=.ref a/\H a=some (.frz o (.dT b))/\b.map (λ p=>DKey.t p.1)=ks/\RepL D H vs (b.map (·.2)):=by unfold Rep;exact M5
def gu:Rep D H (.dcl ks vs) v↔∃a b,v=.ref a/\H a=some (.dT b)/\b.map (λ p=>DKey.t p.1)=ks/\RepL D H vs (b.map (·.2)):=by unfold Rep;exact M5
def B9{D:Dm}{H:Hp}{xs:on V}:RepL D H [] xs↔xs=[]:=by unfold RepL;exact M5
def v5:RepL D H (d::ds) xs↔∃v a,xs=v::a/\Rep D H d v/\RepL D H ds a:=by
 constructor
 ·intro h;exact h
 ·intro h;exact h
theorem RepL.length:∀{a:on DV} {xs:on V},RepL D H a xs->xs.length=a.length
 | [],_,h=>by rw[B9.mp h];rfl
 | d::a,_,h=>by obtain⟨v,vs,c,_,b⟩:=v5.mp h;rw[c,z7,z7,RepL.length b]
theorem RepL.get:∀{ds:on DV} {xs:on V} {i:Nat} {d:DV},RepL D H ds xs->ds[i]? = some d->∃v,xs[i]? = some v/\Rep D H d v
 | [],_,_,_,_,e=>by simp at e
 | d::ds,_,i,d',h,e=>by
  obtain⟨v,vs,c,b,a⟩:=v5.mp h;subst c;cases i with
  | zero=>simp at e;subst e;exact⟨v,rfl,b⟩
  | succ i=>simpa using RepL.get a (by simpa using e)
theorem RepL.append:∀{a es:on DV} {xs ys:on V},RepL D H a xs->RepL D H es ys->RepL D H (a++es) (xs++ys)
 | [],_,_,_,h,b=>by rwa [B9.mp h]
 | d::a,_,_,_,h,b=>by obtain⟨v,vs,f,e,c⟩:=v5.mp h;subst f;exact v5.mpr ⟨v,_,rfl,e,RepL.append c b⟩
def RepL.one(h:Rep D H d v):RepL D H [d] [v]:=v5.mpr ⟨v,[],rfl,h,B9.mpr rfl⟩
theorem RepL.take:∀{a:on DV} {xs:on V} (n:Nat),RepL D H a xs->RepL D H (a.take n) (xs.take n)
 | _,_,0,_=>B9.mpr rfl
 | [],_,n+1,h=>by rw[B9.mp h];exact B9.mpr rfl
 | d::a,_,n+1,h=>by obtain⟨v,vs,e,c,b⟩:=v5.mp h;subst e;exact v5.mpr ⟨v,_,rfl,c,RepL.take n b⟩
theorem RepL.drop:∀{a:on DV} {xs:on V} (n:Nat),RepL D H a xs->RepL D H (a.drop n) (xs.drop n)
 | _,_,0,h=>h
 | [],_,n+1,h=>by rw[B9.mp h];exact B9.mpr rfl
 | d::a,_,n+1,h=>by obtain⟨v,vs,c,e2,b⟩:=v5.mp h;subst c;exact RepL.drop n b
theorem RepL.set(q:Rep D H d v):∀{a:on DV} {xs:on V} (n:Nat),RepL D H a xs->RepL D H (a.set n d) (xs.set n v)
 | [],_,n,h=>by rw[B9.mp h];exact B9.mpr rfl
 | _::a,_,0,h=>by obtain⟨v,f,c,e,b⟩:=v5.mp h;subst c;exact v5.mpr ⟨_,_,rfl,q,b⟩
 | _::a,_,n+1,h=>by obtain⟨v,f,c,e,b⟩:=v5.mp h;subst c;exact v5.mpr ⟨_,_,rfl,e,RepL.set q n b⟩
theorem RepL.rep{D:Dm}{H:Hp}{ds:on DV}{xs:on V}(h:RepL D H ds xs):∀k:Nat,RepL D H (List.replicate k ds).flatten (List.replicate k xs).flatten
 | 0=>B9.mpr rfl
 | k+1=>by rw[V9,V9,U0,U0];exact h.append (RepL.rep h k)
theorem bC:∀(a:on Int),RepL D H (a.map DV.int) (a.map V.int)
 | []=>B9.mpr rfl
 | n::a=>v5.mpr ⟨_,_,rfl,A7.mpr rfl,bC a⟩
theorem gw:∀{k:on Int} {xs:on V},RepL D H (k.map DV.int) xs->xs=k.map V.int
 | [],_,h=>B9.mp h
 | a::r,_,h=>by obtain⟨v,vs,d,c,b⟩:=v5.mp h;rw[d,A7.mp c,gw b];rfl
theorem dB:∀{ds:on DV} {k:on Int},ints? ds=some k->ds=k.map DV.int
 | [],k,h=>by cases h;rfl
 | d::r,k,h=>by
  cases d with
  | int n=>
   obtain⟨k',b,a⟩:=B3.mp (h);rw[←a,dB b];rfl
  | _=>cases h
noncomputable def wo(O:on Jn)(H:Hp):Hp:=λ b=>if b∈O then none else H b
def X4(h:b∈O):wo O H b=none:=f8 h
def j9(h:b∉O):wo O H b=H b:=g9 h
def D6(h:wo O H b=some o):b∉O/\H b=some o:=by
 by_cases a:b∈O
 ·rw[X4 a]at h;cases h
 ·rw[j9 a]at h;exact⟨a,h⟩
theorem Same.wo{O:on Jn}{H H':Hp}(e:Same H H'):Same (wo O H) (wo O H'):=λ b o h=>by
 obtain⟨hb,h⟩:=D6 h;rw[j9 hb];exact e b o h
def A2:Same (L2.wo O H) H:=λ b o h=>(D6 h).2
def J7(h:∀b∈a,b∈O):Same (L2.wo O H) (L2.wo a H):=λ b o e=>by
 obtain⟨c,e⟩:=D6 e
 rwa [j9 λ z=>c (h b z)]
def v9(h:H p=none):Same H (upd H p o):=λ b u q=>by rwa [m7 (B1 q h)]
structure Hid(O W:List Addr)(H0 H:Hp):Prop where
 ot:∀a∈O++W,H0 a≠none
 same:Same H0 H
 wl:∀a∈W,∃o,H0 a=some o/\mutO o=true
 dj:∀a∈W,a∉O
 om:∀a∈O,∃o,H0 a=some o/\mutO o=true
def Hdn(O:on Jn)(H:Hp):Prop:=∀a∈O,∃o,H a=some o/\mutO o=true
def Hdn.ne(h:Hdn O H):∀a∈O,H a≠none:=λ a b q=>by obtain⟨o,e,_⟩:=h a b;rw[q]at e;cases e
def Hid.omS(h:Hid O W b H)(e:Same b c):Hdn O c:=λ a d=>by obtain⟨o,q,m⟩:=h.om a d;exact⟨o,e _ _ q,m⟩
def Hid.omW(h:Hid O W b H)(c:p∈W):Hdn O (upd b p x):=λ a d=>by
 obtain⟨o,q,m⟩:=h.om a d;exact⟨o,by rw[m7 λ z=>h.dj p c (by grind)];exact q,m⟩
def Hid.hdO(h:Hid O W a H):Hdn O H:=h.omS h.same
def Hid.hdA(h:Hid O W c H):Hdn (O++W) H:=λ a b=>by
 rcases C7.mp b with z | z
 ·exact h.hdO a z
 ·obtain⟨o,q,m⟩:=h.wl a z;exact⟨o,h.same _ _ q,m⟩
def Hid.mono(h:Hid O W a H)(e:Same H b):Hid O W a b:=⟨h.ot,h.same.trans e,h.wl,h.dj,h.om⟩
def Hid.newOut(h:Hid O W b H)(a:H p=none):p∉O++W:=λ z=>h.ot p z (h.same.free a)
mutual
theorem Rep.immut{D:Dm}{O W:on Jn}{H:Hp}(hw:∀a∈W,∃o,H a=some o/\mutO o=true):∀{d:DV} {v:V},d.immut=true->Rep D (L2.wo O H) d v->Rep D (L2.wo (O++W) H) d v
 | .non,_,_,h=>by unfold Rep at h ⊢;exact h
 | .bl _,_,_,h=>by unfold Rep at h ⊢;exact h
 | .int _,_,_,h=>by unfold Rep at h ⊢;exact h
 | .str _,_,_,h=>by unfold Rep at h ⊢;exact h
 | .tup ds,_,m,h=>by
  unfold Rep at h ⊢;obtain⟨a,xs,e1,e2,e3⟩:=h;have m':DV.immuts ds=true:=by unfold DV.immut at m;exact m
  refine⟨a,xs,e1,?_,RepL.immut hw m' e3⟩;rcases e2 with(h | ⟨o,h⟩) | h
  ·obtain⟨ha,h⟩:=D6 h;refine .inl (.inl ?_);rw[j9 λ z=>?_]
   ·exact h
   ·rcases C7.mp z with z | z
    ·exact ha z
    ·obtain⟨ys,q,m⟩:=hw a z;rw[h]at q;cases q;cases m
  ·obtain⟨ha,h⟩:=D6 h;refine .inl (.inr ⟨o,?_⟩);rw[j9 λ z=>?_]
   ·exact h
   ·rcases C7.mp z with z | z
    ·exact ha z
    ·obtain⟨ys,q,m⟩:=hw a z;rw[h]at q;cases q;cases m
  ·exact .inr h
 | .lst ds,_,m,_=>by unfold DV.immut at m;cases m
 | .dct ks vs,_,m,h=>by
  have m':DV.immuts vs=true:=by unfold DV.immut at m;exact m
  have ou:∀{a:Jn} {o:Obj} {u:HO},L2.wo O H a=some (.frz o u)->L2.wo (O++W) H a=some (.frz o u):=λ {a o u} e=>by
   obtain⟨ha,h⟩:=D6 e;rw[j9 λ z=>?_]
   ·exact h
   ·rcases C7.mp z with z | z
    ·exact ha z
    ·obtain⟨ys,q,m⟩:=hw a z;rw[h]at q;cases q;cases m
  obtain⟨a,o,kvs,e1,e2,e3,e4⟩:=aC.mp h;exact aC.mpr ⟨a,o,kvs,e1,ou e2,e3,RepL.immut hw m' e4⟩
 | .fn _,_,_,h=>by unfold Rep at h ⊢;exact h
 | .lam _ _,_,m,_=>by unfold DV.immut at m;cases m
 | .dcl _ _,_,m,_=>by unfold DV.immut at m;cases m
 | .scr ns,_,_,h=>by
  unfold Rep at h ⊢;obtain⟨a,e1,e2⟩:=h;refine⟨a,e1,?_⟩;rcases e2 with⟨o,h⟩ | h
  ·obtain⟨ha,h⟩:=D6 h;refine .inl ⟨o,?_⟩;rw[j9 λ z=>?_]
   ·exact h
   ·rcases C7.mp z with z | z
    ·exact ha z
    ·obtain⟨ys,q,m⟩:=hw a z;rw[h]at q;cases q;cases m
  ·exact .inr h
theorem RepL.immut{D:Dm}{O W:on Jn}{H:Hp}(hw:∀a∈W,∃o,H a=some o/\mutO o=true):∀{ds:on DV} {xs:on V},DV.immuts ds=true->RepL D (L2.wo O H) ds xs->RepL D (L2.wo (O++W) H) ds xs
 | [],_,_,h=>by unfold RepL at h ⊢;exact h
 | d::ds,_,m,h=>by unfold RepL at h ⊢;obtain⟨v,vs,e1,e2,e3⟩:=h;unfold DV.immuts at m;rw[f9]at m;exact⟨v,vs,e1,Rep.immut hw m.1 e2,RepL.immut hw m.2 e3⟩
end
def RepT(D:Dm)(W:on Jn)(Ht H:Hp)(d:DV)(v:V):Prop:=match d with
 | .lst ds=>∃a xs,v=.ref a/\a∈W/\Ht a=some (.lst xs)/\RepL D H ds xs
 | d=>Rep D H d v
theorem RepT.mono(k:Same g f)(e:Same H i)(h:RepT D W g H d v):RepT D W f i d v:=by
 cases d with
 | lst ds=>obtain⟨a,j,n,o,m,l⟩:=h;exact⟨a,j,n,o,k _ _ m,l.mono e⟩
 | non=>exact Rep.mono e h
 | bl b=>exact Rep.mono e h
 | int b=>exact Rep.mono e h
 | str b=>exact Rep.mono e h
 | tup b=>exact Rep.mono e h
 | dct b c=>exact Rep.mono e h
 | dcl b c=>exact Rep.mono e h
 | fn b=>exact Rep.mono e h
 | lam b c=>exact Rep.mono e h
 | scr b=>exact Rep.mono e h
def RepT.rep(e:Same H f)(h:RepT D W f H d v):Rep D f d v:=by
 cases d with
 | lst ds=>obtain⟨a,g,k,e0,j,i⟩:=h;exact K5.mpr ⟨a,g,k,j,i.mono e⟩
 | non=>exact Rep.mono e h
 | bl b=>exact Rep.mono e h
 | int b=>exact Rep.mono e h
 | str b=>exact Rep.mono e h
 | tup b=>exact Rep.mono e h
 | dct b c=>exact Rep.mono e h
 | dcl b c=>exact Rep.mono e h
 | fn b=>exact Rep.mono e h
 | lam b c=>exact Rep.mono e h
 | scr b=>exact Rep.mono e h
def Got(D:Dm)(O W:on Jn)(H0 H:Hp)(d:DV)(c:Cl)(v:V):Prop:=match c with
 | .weak=>Rep D (L2.wo O H) d v
 | .top=>RepT D W (L2.wo O H) (L2.wo (O++W) H) d v
 | .strong=>Rep D (L2.wo (O++W) H) d v
 | .fresh=>∃p xs ds,v=.ref p/\d=.lst ds/\H0 p=none/\H p=some (.lst xs)/\RepL D (L2.wo (p::(O++W)) H) ds xs
section
variable {D:Dm} {O W:on Jn} {H0 H H':Hp} {d:DV} {ds:on DV} {c:Cl} {v:V}
def bD:∀b∈O,b∈O++W:=λ _ h=>C6 _ h
theorem Got.mono(h:Got D O W H0 H d c v)(e:Same H H'):Got D O W H0 H' d c v:=by
 cases c with
 | weak=>exact Rep.mono e.wo h
 | top=>exact RepT.mono e.wo e.wo h
 | strong=>exact Rep.mono e.wo h
 | fresh=>
  obtain⟨p,a,k,j,i,g,f,b⟩:=h;exact⟨p,a,k,j,i,g,e _ _ f,b.mono e.wo⟩
def Got.since(h:Got D O W a H d c v)(e:Same H0 a):Got D O W H0 H d c v:=by
 cases c with
 | weak=>exact h
 | top=>exact h
 | strong=>exact h
 | fresh=>
  obtain⟨p,b,l,k,j,i,g,f⟩:=h;exact⟨p,b,l,k,j,e.free i,g,f⟩
def Got.strong(h:Got D O W H0 H d .fresh v)(c:Hid O W H0 H):Rep D (L2.wo (O++W) H) d v:=by
 obtain⟨p,a,ds,j,i,g,e4,f⟩:=h;rw[i];exact K5.mpr ⟨p,a,j,by rwa [j9 (λ z=>c.ot p z g)],f.mono (J7 λ b e=>o4 _ e)⟩
theorem Got.weak(h:Got D O W H0 H d c v)(hd:Hid O W H0 H):Rep D (L2.wo O H) d v:=by
 cases c with
 | weak=>exact h
 | top=>exact RepT.rep (J7 bD) h
 | strong=>exact Rep.mono (J7 bD) h
 | fresh=>exact Rep.mono (J7 bD) (h.strong hd)
def Got.all(h:Got D O W H0 H d c v)(a:Hid O W H0 H):Rep D H d v:=Rep.mono A2 (h.weak a)
theorem Got.stro(h:Got D O W H0 H d c v)(hd:Hid O W H0 H)(g:L2.stro d c=true):Rep D (L2.wo (O++W) H) d v:=by
 cases c with
 | strong=>exact h
 | fresh=>exact h.strong hd
 | weak=>exact Rep.immut (λ a f=>by obtain⟨b,e,m⟩:=hd.wl a f;exact⟨b,hd.same _ _ e,m⟩) g (h.weak hd)
 | top=>exact Rep.immut (λ a f=>by obtain⟨b,e,m⟩:=hd.wl a f;exact⟨b,hd.same _ _ e,m⟩) g (h.weak hd)
def Got.items(h:Got D O W H0 H (.lst ds) c v)(hd:Hid O W H0 H)(f:c ≠ .weak):∃a xs,v=.ref a/\H a=some (.lst xs)/\RepL D (L2.wo (O++W) H) ds xs:=by
 cases c with
 | weak=>exact absurd rfl f
 | top=>
  obtain⟨a,xs,e,e0,d,b⟩:=h;exact⟨a,xs,e,A2 _ _ d,b⟩
 | strong=>
  obtain⟨a,xs,e,d,b⟩:=K5.mp h;exact⟨a,xs,e,A2 _ _ d,b⟩
 | fresh=>
  obtain⟨a,xs,e,d,b⟩:=K5.mp (h.strong hd);exact⟨a,xs,e,A2 _ _ d,b⟩
def Got.itemsT(h:Got D O W H0 H (.tup f) c v)(hd:Hid O W H0 H)(g:c ≠ .weak):∃a xs,v=.ref a/\SqT D.K H a xs/\RepL D (L2.wo (O++W) H) f xs:=by
 cases c with
 | weak=>exact absurd rfl g
 | top=>
  obtain⟨a,xs,e,b,d⟩:=E7.mp (h);exact⟨a,xs,e,A2.tseq b,d⟩
 | strong=>
  obtain⟨a,xs,e,b,d⟩:=E7.mp h;exact⟨a,xs,e,A2.tseq b,d⟩
 | fresh=>
  obtain⟨p,xs,f,e,b,d,e4,e5⟩:=h;cases b
theorem Got.lst(h:Got D O W H0 H (.lst ds) c v)(d:Hid O W H0 H):∃a b,v=.ref a/\H a=some (.lst b)/\RepL D (L2.wo O H) ds b:=by
 obtain⟨a,b,g,f,e⟩:=K5.mp (h.weak d);exact⟨a,b,g,A2 _ _ f,e⟩
theorem Got.tup(h:Got D O W H0 H (.tup ds) c v)(d:Hid O W H0 H):∃a b,v=.ref a/\SqT D.K H a b/\RepL D (L2.wo O H) ds b:=by
 obtain⟨a,b,g,f,e⟩:=E7.mp (h.weak d);exact⟨a,b,g,A2.tseq f,e⟩
noncomputable def L8(O W:on Jn):Cl->on Jn
 | .weak=>O
 | _=>O++W
def Got.lstC(h:Got D O W H0 H (.lst ds) c v)(hd:Hid O W H0 H):∃a xs,v=.ref a/\H a=some (.lst xs)/\RepL D (L2.wo (L8 O W c) H) ds xs:=by
 cases c with
 | weak=>exact h.lst hd
 | top=>exact h.items hd JL
 | strong=>exact h.items hd JL
 | fresh=>exact h.items hd JL
def Got.tupC(h:Got D O W H0 H (.tup ds) c v)(hd:Hid O W H0 H):∃a xs,v=.ref a/\SqT D.K H a xs/\RepL D (L2.wo (L8 O W c) H) ds xs:=by
 cases c with
 | weak=>exact h.tup hd
 | top=>exact h.itemsT hd JL
 | strong=>exact h.itemsT hd JL
 | fresh=>exact h.itemsT hd JL
theorem Got.item(h:Rep D (L2.wo (L8 O W c) H) d v):Got D O W H0 H d c.item v:=by
 cases c<;>exact h
def K6(a:c ≠ .fresh:=by intro z;cases z):Got D O W H0 H (.int i) c (.int i):=by
 have q:∀H,Rep D H _ (.int i):=λ H=>A7.mpr rfl;cases c with
 | fresh=>exact absurd rfl a
 | weak=>exact q (L2.wo O H)
 | strong=>exact q (L2.wo (O++W) H)
 | top=>exact q (L2.wo (O++W) H)
def aD:Got D O W H0 H (.bl i) .strong (.bl i):=(X3.mpr rfl:Rep D (L2.wo (O++W) H) _ _)
def Bg:Got D O W H0 H .non .strong .non:=(V3.mpr rfl:Rep D (L2.wo (O++W) H) .non .non)
theorem Got.int(h:Got D O W H0 H (.int i) c v)(a:Hid O W H0 H):v=.int i:=A7.mp (h.weak a)
theorem Got.bl(h:Got D O W H0 H (.bl i) c v)(a:Hid O W H0 H):v=.bl i:=X3.mp (h.weak a)
def V5(c:Hid O W H0 H)(a:H p=none)(r:RepL D (L2.wo (O++W) H) ds xs):Got D O W H0 (upd H p (.lst xs)) (.lst ds) .fresh (.ref p):=by
 refine⟨p,xs,ds,rfl,rfl,c.same.free a,z8,r.mono λ b o e=>?_⟩;obtain⟨hb,e⟩:=D6 e
 rwa [j9 (by grind),m7 (B1 e a)]
def kB(b:Hid O W H0 H)(a:H p=none)(r:RepL D (L2.wo O H) ds xs):Got D O W H0 (upd H p (.lst xs)) (.lst ds) .weak (.ref p):=by
 exact K5.mpr ⟨p,xs,rfl,by rw[j9 (λ z=>b.newOut a (C6 _ z))];exact z8,r.mono (v9 a).wo⟩
def bE(hd:Hid O W H0 H)(a:H p=none)(r:RepL D (L2.wo (L8 O W c) H) ds xs):Got D O W H0 (upd H p (.lst xs)) (.lst ds) (Cl.anew c c) (.ref p):=by
 cases c with
 | weak=>exact kB hd a r
 | top=>exact V5 hd a r
 | strong=>exact V5 hd a r
 | fresh=>exact V5 hd a r
def dC(b:Hid O W H0 H)(a:H p=none)(r:RepL D (L2.wo (O++W) H) ds xs):Got D O W H0 (upd H p (.tup xs)) (.tup ds) .strong (.ref p):=
 E7.mpr ⟨p,xs,rfl,SqT.of (by rw[j9 (b.newOut a)];exact z8),r.mono (v9 a).wo⟩
def kC(b:Hid O W H0 H)(a:H p=none)(r:RepL D (L2.wo O H) ds xs):Got D O W H0 (upd H p (.tup xs)) (.tup ds) .weak (.ref p):=
 E7.mpr ⟨p,xs,rfl,SqT.of (by rw[j9 λ z=>b.newOut a (C6 _ z)];exact z8),r.mono (v9 a).wo⟩
def rh(hd:Hid O W H0 H)(a:H p=none)(r:RepL D (L2.wo (L8 O W c) H) ds xs):Got D O W H0 (upd H p (.tup xs)) (.tup ds) c.item (.ref p):=by
 cases c with
 | weak=>exact kC hd a r
 | top=>exact dC hd a r
 | strong=>exact dC hd a r
 | fresh=>exact dC hd a r
end
inductive GotL (D:Dm) (O W:List Addr) (H0 H:Hp):List (DV×Cl)->List V->Prop where
 | nil:GotL D O W H0 H [] []
 | cons {d:DV} {c:Cl} {v:V} {l:List (DV×Cl)} {vs:List V}:Got D O W H0 H d c v->GotL D O W H0 H l vs->GotL D O W H0 H ((d,c)::l) (v::vs)
def GotL.repL(h:GotL D O W H0 H l vs)(b:Hid O W H0 H):RepL D (L2.wo O H) (l.map (·.1)) vs:=by
 induction h with
 | nil=>exact B9.mpr rfl
 | cons h _ a=>exact v5.mpr ⟨_,_,rfl,h.weak b,a⟩
theorem GotL.stros(h:GotL D O W H0 H l vs)(b:Hid O W H0 H)(hs:L2.stros l=true):RepL D (L2.wo (O++W) H) (l.map (·.1)) vs:=by
 induction h with
 | nil=>exact B9.mpr rfl
 | cons h _ a=>
  unfold L2.stros at hs;rw[fk,f9]at hs;exact v5.mpr ⟨_,_,rfl,h.stro b hs.1,a hs.2⟩
theorem GotL.length(h:GotL D O W H0 H l vs):vs.length=l.length:=by
 induction h with
 | nil=>rfl
 | cons _ _ a=>rw[z7,z7,a]
theorem GotL.strong(h:GotL D O W H0 H l vs)(b:Hid O W H0 H)(hs:(l.all λ p=>p.2 == .strong||p.2 == .fresh)=true):RepL D (L2.wo (O++W) H) (l.map (·.1)) vs:=by
 refine h.stros b ?_;unfold L2.stros;rw[G8]at hs ⊢;intro p a;have:=hs p a;unfold L2.stro;cases e:p.2<;>rw[e]at this<;>first | rfl | cases this
def GotL.one(h:GotL D O W H0 H [(d,c)] vs):∃v,vs=[v]/\Got D O W H0 H d c v:=by
 cases h with
 | cons h t=>cases t;exact⟨_,rfl,h⟩
def GotL.two(h:GotL D O W H0 H [(d,c),(b,f)] vs):∃v a,vs=[v,a]/\Got D O W H0 H d c v/\Got D O W H0 H b f a:=by
 cases h with
 | cons h t=>obtain⟨a,e,g⟩:=t.one;subst e;exact⟨_,_,rfl,h,g⟩
noncomputable def oeK(L:on (on Int×Int)):on (on Key×V):=L.map λ p=>(kP p.1,.int p.2)
def kD(k:on Int):DKey:=.t (kP k)
noncomputable def dicO:HO->Bool
 | .dK _=>true
 | .dT _=>true
 | _=>false
def OdOk(d:DV)(_:Jn)(o:HO):Prop:=∃L:on (on Int×Int),d=.dcl (L.map λ p=>kD p.1) (L.map λ p=>.int p.2)/\o=.dT (oeK L)
def rj(L:on (on Int×Int)):(oeK L).map (λ p=>DKey.t p.1)=L.map λ p=>kD p.1:=by
 unfold oeK;rw[v7];rfl
def rm(L:on (on Int×Int)):RepL D H (L.map λ p=>.int p.2) ((oeK L).map (·.2)):=by
 unfold oeK;rw[v7]
 induction L with
 | nil=>exact B9.mpr rfl
 | cons p r a=>exact v5.mpr ⟨_,_,rfl,A7.mpr rfl,a⟩
def OdOk.dic(h:OdOk d a o):dicO o=true:=by obtain⟨L,_,e⟩:=h;rw[e];rfl
def OdOk.mut(h:OdOk d a o):mutO o=true:=by obtain⟨L,_,e⟩:=h;rw[e];rfl
def OdAt(H:Hp)(σ:St)(δ:on Sv)(W:on Jn):Prop:=∀(i:Nat) d,δ[i]? = some (.od d)->(∃a o,OdOk d a o/\σ[i]? = some (some (.ref a))/\a∈W/\H a=some o)/\∀(j:Nat) d',δ[j]? = some (.od d')->j=i
def OdAt.step{H H':Hp}{σ σ':St}{δ δ':on Sv}{W W':on Jn}(h:OdAt H σ δ W)(hδ:∀(j:Nat) d,δ'[j]? = some (.od d)->δ[j]? = some (.od d)/\σ'[j]? = σ[j]?)(hW:∀a∈W,(∃o,H a=some o/\dicO o=true)->a∈W')(hH:∀a o,a∈W->H a=some o->dicO o=true->H' a=some o):OdAt H' σ' δ' W':=λ i d q=>by
 obtain⟨q1,q2⟩:=hδ i d q;obtain⟨⟨a,L,e0,e1,e2,e3⟩,u⟩:=h i d q1;exact⟨⟨a,L,e0,by rw[q2];exact e1,hW a e2 ⟨_,e3,e0.dic⟩,hH a _ e2 e3 e0.dic⟩,λ j d' z=>u j d' (hδ j d' z).1⟩
def kF{σ:St}{δ:on Sv}(x:Jk V)(c:∀d,X ≠ .od d):∀(j:Nat) d,(δ.set i X)[j]? = some (.od d)->δ[j]? = some (.od d)/\(σ.set i x)[j]? = σ[j]?:=λ j d h=>by
 have b:j≠i:=λ z=>by
  subst z;have a:j<δ.length:=by have:=(w6.mp h).1;rw[D4]at this;exact this
  rw[J8 a]at h;exact c d (B8 h)
 rw[v6 b.symm]at h ⊢;exact⟨h,rfl⟩
def rn{σ:St}{δ:on Sv}(a:∀d,X ≠ .od d):∀(j:Nat) d,(δ.set i X)[j]? = some (.od d)->δ[j]? = some (.od d)/\σ[j]? = σ[j]?:=λ j d h=>⟨(kF (σ:=σ) none a j d h).1,rfl⟩
structure RSt(D:Dm)(H:Hp)(σ:St)(δ:List Sv)(O W:List Addr):Prop where
 val:∀(i:Nat) d,δ[i]? = some (.val d)->∃v,σ[i]? = some (some v)/\Rep D (L2.wo (O++W) H) d v
 own:∀(i:Nat) d,δ[i]? = some (.own d)->∃a xs ds,d=.lst ds/\σ[i]? = some (some (.ref a))/\a∈W/\H a=some (.lst xs)/\RepL D (L2.wo (O++W) H) ds xs
 inj:∀(i j:Nat) a d d',δ[i]? = some (.own d)->δ[j]? = some (.own d')->σ[i]? = some (some (.ref a))->σ[j]? = some (some (.ref a))->i=j
 od:OdAt H σ δ W
 len:σ.length=δ.length
 hid:Hid O W H H
def Hid.later(h:Hid O W H H)(e:Same H c):Hid O W c c:=⟨λ a b q=>h.ot a b (e.free q),Same.refl _,λ a b=>by obtain⟨d,q,m⟩:=h.wl a b;exact⟨d,e _ _ q,m⟩,h.dj,h.omS e⟩
theorem RSt.mono(R:RSt D H σ δ O W)(e:Same H g):RSt D g σ δ O W where
 val:=λ i d h=>by obtain⟨v,c,b⟩:=R.val i d h;exact⟨v,c,b.mono e.wo⟩
 own:=λ i f h=>by obtain⟨a,k,f,o,c,b,n,m⟩:=R.own i f h;exact⟨a,k,f,o,c,b,e _ _ n,m.mono e.wo⟩
 inj:=R.inj
 od:=R.od.step (λ j d h=>⟨h,rfl⟩) (λ _ h _=>h) (λ a l _ h _=>e _ _ h)
 len:=R.len
 hid:=R.hid.later e
noncomputable def Post(D:Dm)(O W:on Jn)(H0 H:Hp)(Q:VK):Re->Prop
 | .ok d c=>∀v H',Same H H'->Got D O W H0 H' d c v->Q v H'
def dE(D:Dm)(δ:on Sv)(r:Re):TE:=λ σ H Q=>∃O W,RSt D H σ δ O W/\Post D O W H H Q r
noncomputable def Bh(D:Dm)(O W:on Jn)(H0 H:Hp)(Q:on V->Hp->Prop):Rs->Prop
 | .ok l=>∀vs H',Same H H'->GotL D O W H0 H' l vs->Q vs H'
def dA(D:Dm)(δ:on Sv)(r:Rs):TA:=λ σ H Q=>∃O W,RSt D H σ δ O W/\Bh D O W H H Q r
noncomputable def gy(D:Dm)(H:Hp)(Q:Bool->Hp->Prop):Rt->Prop
 | .ok b=>∀H',Same H H'->Q b H'
def dT(D:Dm)(δ:on Sv)(r:Rt):TT:=λ σ H Q=>∃O W,RSt D H σ δ O W/\gy D H Q r
def Post.step(h:Post D O W b H Q r)(e:Same H a):Post D O W b a Q r:=by
 cases r with
 | ok d c=>exact λ v f s g=>h v f (e.trans s) g
def Post.later(h:Post D O W b H Q r)(e:Same H a)(f:Same b a):Post D O W a a Q r:=by
 cases r with
 | ok d c=>exact λ v i s g=>h v i (e.trans s) (g.since f)
theorem GotL.since(h:GotL D O W a H l vs)(e:Same b a):GotL D O W b H l vs:=by
 induction h with
 | nil=>exact .nil
 | cons g _ c=>exact .cons (g.since e) c
def gy.later(h:gy D H Q r)(e:Same H a):gy D a Q r:=by
 cases r with
 | ok b=>exact λ c s=>h c (e.trans s)
def PE.weak(h:PE X e t)(k:∀a H Q,t' a H Q->t a H Q):PE X e t':=λ b s a H Q I q=>h b s a H Q I (k a H Q q)
def PT.weak(h:PT X e t)(k:∀a H Q,t' a H Q->t a H Q):PT X e t':=λ b s a H Q I q=>h b s a H Q I (k a H Q q)
def PW.weak(h:PW X e t)(k:∀b H Q,t' b H Q->t b H Q):PW X e t':=λ a c s b H Q I q=>h a c s b H Q I (k b H Q q)
def PA.weak(h:PA X e t)(k:∀a H Q,t' a H Q->t a H Q):PA X e t':=λ c b s a H Q I q=>h c b s a H Q I (k a H Q q)
def PS.weak(h:PS X e t)(k:∀D a H,t' D a H->t D a H):PS X e t':=λ b s a H D I q=>h b s a H D I (k D a H q)
def PSs.weak(h:PSs X e t)(k:∀D a H,t' D a H->t D a H):PSs X e t':=λ b s a H D I q=>h b s a H D I (k D a H q)
def ro:PW X e (λ _ _ _=>False):=λ _ _ _ _ _ _ _ h=>h.elim
def rq:PT X e (λ _ _ _=>False):=λ _ _ _ _ _ _ h=>h.elim
def dD:PE X e (λ _ _ _=>False):=λ _ _ _ _ _ _ h=>h.elim
def S8(h:n<=n5):n<=sizeLine:=k6 h JD
def Bj(g:∀j,PE X a j->PE X e (tUn r j))(m:∀q,f=some q->PE X a JN)(h:Re.thn f k=some c)
  (l:∀O W i H x Q d cx (σ:St),k d cx=some c->Hid O W i H->Got X.D O W i H d cx x->Post X.D O W i H Q c->r x H Q):PE X e (dE X.D δ c):=by
 cases b:f with
 | none=>rw[b]at h;cases h
 | some q=>
  rw[b]at h;have A:=m q b;cases q with
  | ok d cx=>
   exact(g _ A).weak λ σ H Q ⟨O,W,R,p⟩=>⟨O,W,R,λ x o s1 n=>l O W H o x Q d cx σ h (R.hid.mono s1) n (p.step s1)⟩
def rr{k:DV->Cl->DV->Cl->Jk Re}(v:∀q,m=some q->PE X a JN)(u:∀q,l=some q->PE X b JN)
  (h:(Re.thn m λ x cx=>Re.thn l λ y cy=>k x cx y cy)=some e)
  (s:∀O W j H x y Q i cx g cy (σ:St),k i cx g cy=some e->Hid O W j H->Got X.D O W j H i cx x->Got X.D O W j H g cy y->Post X.D O W j H Q e->r x y H Q) :
  ∃o n,PE X a o/\PE X b n/\∀σ H Q,dE X.D δ e σ H Q->tOp r o n σ H Q:=by
 cases d:m with
 | none=>rw[d]at h;cases h
 | some q=>
  rw[d]at h;have A:=v q d;cases q with
  | ok i cx=>
   have f:=h;cases c:l with
   | none=>rw[c]at f;cases f
   | some q=>
    rw[c]at f;have B:=u q c;cases q with
    | ok g cy=>
     exact⟨_,_,A,B,λ σ H Q ⟨O,W,R,p⟩=>⟨O,W,R,λ x H1 s1 z=>⟨O,W,R.mono s1,λ y C s2 w=>
      s O W H C x y Q i cx g cy σ f ((R.hid.mono s1).mono s2) (z.mono s2) (w.since s1) (p.step (s1.trans s2))⟩⟩⟩
def kH{k:DV->Cl->DV->Cl->Jk Re}(i:∀g f,PE X a g->PE X b f->PE X e (tOp r g f))(s:∀q,l=some q->PE X a JN)(p:∀q,j=some q->PE X b JN)
  (h:(Re.thn l λ x cx=>Re.thn j λ y cy=>k x cx y cy)=some c)
  (o:∀O W d H x y Q n cx m cy (σ:St),k n cx m cy=some c->Hid O W d H->Got X.D O W d H n cx x->Got X.D O W d H m cy y->Post X.D O W d H Q c->r x y H Q):PE X e (dE X.D δ c):=by
 obtain⟨g,f,A,B,q⟩:=rr s p h o;exact(i _ _ A B).weak q
def dF(d:∀t,PA X es t->PE X e (tCB r t))(i:∀q,c=some q->PA X es (dA X.D δ q))(h:Rs.thn c k=some b)
  (g:∀O W f H vs Q l (σ:St),k l=some b->Hid O W f H->GotL X.D O W f H l vs->Post X.D O W f H Q b->r vs H Q):PE X e (dE X.D δ b):=by
 cases a:c with
 | none=>rw[a]at h;cases h
 | some q=>
  rw[a]at h;have A:=i q a;cases q with
  | ok l=>
   exact(d _ A).weak λ σ H Q ⟨O,W,R,p⟩=>⟨O,W,R,λ vs m s1 j=>g O W H m vs Q l σ h (R.hid.mono s1) j (p.step s1)⟩
def Bk{i:Nat}(k:X.N[i]? = some x)(hv:Vis X.env.scope x)(hd:(x==("__debug__" : Str))=false)(e:(x==("__classdict__" : Str))=false)
  (h:varE δ[i]? = some r):PE X (.Name x pos) (dE X.D δ r):=
 (O1 k hv hd e).weak λ σ H Q ⟨O,W,R,p⟩=>by
  unfold varE at h;split at h
  ·rename_i d q;cases h;obtain⟨v,c,b⟩:=R.val i d q;exact⟨v,c,p v H (Same.refl H) b⟩
  ·rename_i d q;cases h;obtain⟨a,j,ds,g,c,b,f,m⟩:=R.own i d q;subst g;refine⟨.ref a,c,p _ H (Same.refl H) ⟨a,j,rfl,b,?_,m⟩⟩;rw[j9 (R.hid.dj a b)];exact f
  ·rename_i ks vs q;cases h;obtain⟨⟨a,o,⟨L,g,l⟩,c,b,f⟩,_⟩:=R.od i _ q;cases g;subst l;exact⟨.ref a,c,p _ H (Same.refl H) (gu.mpr ⟨a,oeK L,rfl,by rw[j9 (R.hid.dj a b)];exact f,rj L,rm L⟩:Rep X.D _ _ _)⟩
  ·cases h
def Bl:PE X (.Constant (.int i) j pos) (dE X.D δ (JR (.int i))):=jv.weak λ σ H Q ⟨O,W,R,p⟩=>p _ H (Same.refl H) K6
def Bm:PE X (.Constant (.bool i) j pos) (dE X.D δ (JR (.bl i))):=nV.weak λ σ H Q ⟨O,W,R,p⟩=>p _ H (Same.refl H) aD
def Bn(h:i.length<=sizeLine):PE X (.Constant (.str i) j pos) (dE X.D δ (JR (.str i))):=wL.weak λ σ H Q ⟨O,W,R,p⟩=>p _ H (Same.refl H) (dz.mpr ⟨rfl,h⟩:Rep X.D (L2.wo (O++W) H) _ _)
def Bo:PE X (.Constant .none j pos) (dE X.D δ (.ok .non .strong)):=nW.weak λ σ H Q ⟨O,W,R,p⟩=>p _ H (Same.refl H) Bg
section
variable {X:Cx} {δ:on Sv} {a b c e:Jp} {pos:Pos} {ra rb:Jk Re} {re:Re}
def rx{a:Hp}(b:Hid O W a H)(e:Got D O W a H (.int i) h x)(d:Got D O W a H (.int j) f y)(c:C i j)(q:Q (g i j) H):rI C g x y H Q:=
 ⟨i,j,e.int b,d.int b,c,q⟩
def ry{a:Hp}{e:Cl}(b:Hid O W a H)(d:Got D O W a H (.int i) f x)(c:Got D O W a H (.int j) e y)(q:Q (g i j) H):rI0 g x y H Q:=
 ⟨i,j,d.int b,c.int b,q⟩
def rA{b a:Cl}(h:b ≠ .weak)(c:a ≠ .weak):Cl.anew b a=.fresh:=by
 cases b<;>cases a<;>first | rfl | exact absurd rfl h | exact absurd rfl c
def gz(i j:Int):Prop:=CMul i j\/(i.natAbs<2^2000/\j.natAbs<2^2000)
def kJ(h:i.natAbs<2^n):Builtin.Int.intBits i<=n:=by
 unfold Builtin.Int.intBits;by_cases a:i=0
 ·subst a;exact E5 n
 ·rw[g9 (by grind)];have:=λ z=>a (Int.natAbs_eq_zero.mp z)
  exact(fz this).mpr h
theorem gz.ok(h:gz i j):IntMulOk i j:=by
 rcases h with h | ⟨h1,h2⟩
 ·exact h.ok
 ·unfold IntMulOk;have b1:=kJ h1;have b2:=kJ h2;have:Builtin.Int.intTooBig ((Builtin.Int.intBits i:Int)+(Builtin.Int.intBits j:Int))=false:=by
   unfold Builtin.Int.intTooBig;rw[B4];have:((bitsLine:Nat):Int)=134217728:=by decide
   omega
  rw[this,jc];exact B7
def Bp:OpR X (binaryOp .Mult) (rI gz λ i j=>.int (i*j)):=opI λ _ _ _ _ _ _ _ a q=>mul_int q a.ok
def Bq:OpR X (binaryOp .FloorDiv) (rI (λ _ j=>0<j/\j<2^200) λ i j=>.int (i/j)):=opI λ i j _ _ _ _ _ a q=>by
 have h1:=a.1;have b:j.natAbs<2^200:=by have:=a.2;omega
 refine floordiv_int JC (by rw[ng i JC];exact q) (.inl (PyProof.noPylong_of_log2 ?_));exact p9 ((fz JC).mpr b) JD
def Br:OpR X (binaryOp .Pow) (rI (λ i j=>2<=i/\i<64/\1<=j/\j<64) λ i j=>.int (i^j.toNat)):=opI λ i j _ _ _ _ _ a q=>by
 obtain⟨h1,h2,h3,h4⟩:=a;refine PySem.AutoIntOps.pow_4 JC (by simp;omega) (by simp;omega) (by simp;omega) ?_ q;have b1:Builtin.Int.intBits i<=200:=kJ JC;unfold Builtin.Int.intTooBig;rw[B4]
 ·exact B7
 ·have:((bitsLine:Nat):Int)=134217728:=by decide
  have:((Builtin.Int.intBits i:Nat):Int)*j<=200*64:=Int.mul_le_mul JC JC JC JC;omega
def binR(X:Cx):Operator->R2
 | .Add=>λ x y H Q=>rI0 (λ i j=>.int (i+j)) x y H Q\/rCat x y H Q\/pf X.K x y H Q
 | .Sub=>rI0 λ i j=>.int (i - j)
 | .Mult=>λ x y H Q=>rI gz (λ i j=>.int (i*j)) x y H Q\/rRep x y H Q
 | .Mod=>λ x y H Q=>rI (λ _ j=>0<j) (λ i j=>.int (i%j)) x y H Q
 | .FloorDiv=>rI (λ _ j=>0<j/\j<2^200) λ i j=>.int (i/j)
 | .Pow=>rI (λ i j=>2<=i/\i<64/\1<=j/\j<64) λ i j=>.int (i^j.toNat)
 | .LShift=>rI CPow λ i j=>.int (i*2^j.toNat)
 | .RShift=>rI (λ _ j=>0<=j) λ i j=>.int (i/2^j.toNat)
 | .BitAnd=>rI0 λ i j=>.int (Builtin.bitAnd i j)
 | _=>λ _ _ _ _=>False
def Bs{a:Operator}:OpR X (binaryOp a) (binR X a):=by
 cases a with
 | Add=>exact xA.or (yA.or yh)
 | Sub=>exact xB
 | Mult=>exact Bp.or yD
 | Mod=>exact xC
 | FloorDiv=>exact Bq
 | LShift=>exact xD
 | RShift=>exact xE
 | BitAnd=>exact xF
 | BitOr=>exact λ _ _ _ _ _ _ _ _ _ _ _ _ h=>h.elim
 | BitXor=>exact λ _ _ _ _ _ _ _ _ _ _ _ _ h=>h.elim
 | MatMult=>exact λ _ _ _ _ _ _ _ _ _ _ _ _ h=>h.elim
 | Div=>exact λ _ _ _ _ _ _ _ _ _ _ _ _ h=>h.elim
 | Pow=>exact Br
def F7(h:asI d=some i):d=.int i:=by cases d<;>cases h;rfl
def Bt(h:asL d=some i):d=.lst i:=by cases d<;>cases h;rfl
def rB(h:asTp d=some i):d=.tup i:=by cases d<;>cases h;rfl
def Bu(h:binD C I F cx cy=some re)(hd:Hid O W u H)(e:Got X.D O W u H I cx x)(l:Got X.D O W u H F cy y)
  (p:Post X.D O W u H Q re):binR X C x y H Q:=by
 unfold binD at h;cases C
 case Add=>
  dsimp only at h;split at h
  ·rename_i B
   replace h:=r3.mp h
   obtain⟨A,a,h⟩:=h;have a:=F7 a;subst a;cases h;exact .inl (ry hd e l (p _ H (Same.refl H) K6))
  ·rename_i E
   replace h:=r3.mp h
   obtain⟨w,a,h⟩:=h;have a:=Bt a;subst a;split at h
   ·rename_i m;cases h;by_cases f:cx ≠ .weak/\cy ≠ .weak
    ·obtain⟨i,g,b,j,r1⟩:=e.items hd f.1;obtain⟨o,n,a,r,d⟩:=l.items hd f.2;refine .inr (.inl ⟨i,o,g,n,b,a,j,r,by rw[r1.length,d.length];exact S8 m,λ q c=>p _ _ (v9 c) ?_⟩);rw[rA f.1 f.2];exact V5 hd c (r1.append d)
    ·obtain⟨i,g,b,j,r1⟩:=e.lst hd;obtain⟨o,n,a,r,d⟩:=l.lst hd;refine .inr (.inl ⟨i,o,g,n,b,a,j,r,by rw[r1.length,d.length];exact S8 m,λ q c=>p _ _ (v9 c) ?_⟩);have:Cl.anew cx cy=.weak:=(by cases cx<;>cases cy<;>first | rfl | exact absurd ⟨(by intro z;cases z),JL⟩ f);rw[this];exact kB hd c (r1.append d)
   ·cases h
  ·rename_i E
   replace h:=r3.mp h
   obtain⟨w,a,h⟩:=h;have a:=rB a;subst a;split at h
   ·rename_i m;cases h;by_cases f:cx ≠ .weak/\cy ≠ .weak
    ·obtain⟨i,g,b,j,r1⟩:=e.itemsT hd f.1;obtain⟨o,n,a,r,d⟩:=l.itemsT hd f.2;have cl:(Cl.anew cx cy).notF=.strong:=by rw[rA f.1 f.2];rfl
     rw[cl]at p;refine .inr (.inr ⟨i,o,g,n,b,a,j,r,λ z=>m.2 (by have:=r1.length;rw[z]at this;exact Z7.mp this.symm),by rw[r1.length,d.length];exact S8 m.1,λ z=>?_,λ _ q c=>p _ _ (v9 c) (dC hd c (r1.append d))⟩);refine p _ _ (Same.refl _) ?_;have v:w=[]:=by have:=d.length;rw[z]at this;exact Z7.mp this.symm
     subst v;rw[C8];cases cx with
     | weak=>exact absurd rfl f.1
     | top=>rw[←b];exact e
     | strong=>rw[←b];exact e
     | fresh=>obtain⟨_,_,_,_,q,_⟩:=e;cases q
    ·obtain⟨i,g,b,j,r1⟩:=e.tup hd;obtain⟨o,n,a,r,d⟩:=l.tup hd;have cl:(Cl.anew cx cy).notF=.weak:=(by cases cx<;>cases cy<;>first | rfl | exact absurd ⟨(by intro z;cases z),JL⟩ f);rw[cl]at p;refine .inr (.inr ⟨i,o,g,n,b,a,j,r,λ z=>m.2 (by have:=r1.length;rw[z]at this;exact Z7.mp this.symm),by rw[r1.length,d.length];exact S8 m.1,λ z=>?_,λ _ q c=>p _ _ (v9 c) (kC hd c (r1.append d))⟩);refine p _ _ (Same.refl _) ?_;have v:w=[]:=by have:=d.length;rw[z]at this;exact Z7.mp this.symm
     subst v;rw[C8,←b];exact e.weak hd
   ·cases h
  ·cases h
 case Sub | BitAnd=>
  dsimp only at h
  replace h:=r3.mp h
  obtain⟨B,b,h⟩:=h
  replace h:=r3.mp h
  obtain⟨A,a,h⟩:=h;have b:=F7 b;have a:=F7 a;subst b a;cases h;exact ry hd e l (p _ H (Same.refl H) K6)
 case Mult=>
  dsimp only at h;split at h
  ·rename_i B
   replace h:=r3.mp h
   obtain⟨A,a,h⟩:=h;have a:=F7 a;subst a;split at h
   ·rename_i m;cases h;refine .inl (rx hd e l ?_ (p _ H (Same.refl H) K6));unfold Q0 at m;simp only[B5,f9,F3]at m;exact m
   ·cases h
  ·rename_i E
   replace h:=r3.mp h
   obtain⟨k,a,h⟩:=h;have a:=F7 a;subst a;split at h
   ·rename_i m;cases h;obtain⟨i,g,b,j,r1⟩:=e.lstC hd;refine .inr ⟨i,k,g,b,l.int hd,j,m.2.1,m.2.2,by rw[r1.length];exact S8 m.1,λ q c=>p _ _ (v9 c) (bE hd c (r1.rep _))⟩
   ·cases h
  ·cases h
 case Mod | FloorDiv | LShift | Pow | RShift=>
  dsimp only at h
  replace h:=r3.mp h
  obtain⟨B,b,h⟩:=h
  replace h:=r3.mp h
  obtain⟨A,a,h⟩:=h;have b:=F7 b;have a:=F7 a;subst b a;split at h
  ·rename_i m;cases h;exact rx hd e l m (p _ H (Same.refl H) K6)
  ·cases h
 all_goals (dsimp only at h;cases h)
def Bv(f:∀q,ra=some q->PE X a JN)(e:∀q,rb=some q->PE X b JN)(h:(Re.thn ra λ x d=>Re.thn rb λ y c=>binD op x y d c)=some re):PE X (.BinOp a op b pos) (dE X.D δ re):=
 kH (λ _ _=>xx Bs) f e h λ O W H0 H x y Q dx d dy c σ k hd i g p=>Bu k hd i g p
def Bw:atD ds i=L2.atI ds i:=rfl
theorem RepL.atI(h:RepL D H ds xs)(e:atD ds i=some d):∃v,L2.atI xs i=some v/\Rep D H d v:=by
 rw[Bw]at e;unfold L2.atI at e ⊢;rw[h.length];cases q:ixN ds.length i with
 | none=>rw[q]at e;cases e
 | some j=>
  rw[q]at e;exact h.get e
def Bx(h:((ixD A w).map λ d=>Re.ok d cx.item)=some re)(hd:Hid O W k H)(s:Got X.D O W k H A cx x)(r:Got X.D O W k H w cy y)
  (p:Post X.D O W k H Q re):rIx X.K x y H Q:=by
 obtain⟨d,e,F⟩:=B3.mp h;cases F;unfold ixD at e;split at e
 ·rename_i c i;obtain⟨a,g,f⟩:=V4.mp (s.all hd);obtain⟨n,E,C⟩:=B3.mp e;cases C;have q:L2.atI (c.map V.int) i=some (.int n):=by
   unfold L2.atI;rw[i0];have b:((ixN c.length i).bind λ j=>c[j]?)=some n:=E;cases z:ixN c.length i with
   | none=>rw[z]at b;cases b
   | some j=>
    rw[z]at b;have B:c[j]? = some n:=b;show(c.map V.int)[j]? = _;rw[q9,B];rfl
  refine .inl ⟨a,_,i,_,g,r.int hd,f.sq,q,p _ H (Same.refl H) ?_⟩;cases cx<;>exact K6
 ·obtain⟨a,l,g,f,u⟩:=s.lstC hd;obtain⟨v,o,m⟩:=u.atI e;exact .inl ⟨a,l,_,v,g,r.int hd,SqL.of f,o,p _ H (Same.refl H) (Got.item m)⟩
 ·obtain⟨a,l,g,f,u⟩:=s.tupC hd;obtain⟨v,o,m⟩:=u.atI e;exact .inr (.inl ⟨a,l,_,v,g,r.int hd,f,o,p _ H (Same.refl H) (Got.item m)⟩)
 ·cases e
def By(g:∀q,ra=some q->PE X a JN)(f:∀q,rb=some q->PE X b JN)(e:X0 b=false)(h:(Re.thn ra λ x c=>Re.thn rb λ y _=>(ixD x y).map λ d=>.ok d c.item)=some re):PE X (.Subscript a b pos) (dE X.D δ re):=
 kH (λ _ _ j i=>yj yn j i (by cases b<;>first | (intro _ _;rfl) | cases e)) g f h λ O W H0 H x y Q dx c dy cy σ k hd m l p=>Bx k hd m l p
def gA(n d:Nat)(o:Jk Int):slIx n d o=HT.sIx n d o:=by cases o<;>rfl
def RepL.cut(h:RepL D H ds xs)(a b:Jk Int):RepL D H (cutD ds a b) (cutV xs a b):=by
 unfold cutD cutV;rw[gA,gA,←h.length];exact(h.drop _).take _
def rC{e:Jk Int}(h:((slD n e f).map λ d=>Re.ok d (slCl n cx))=some re)(hd:Hid O W o H)(l:Got X.D O W o H n cx x)
  (p:Post X.D O W o H Q re):rSlL X.K x e f H Q\/rSlT X.K x e f H Q:=by
 obtain⟨d,c,s⟩:=B3.mp h;cases s;unfold slD at c;split at c
 ·rename_i r;cases c;obtain⟨a,i,g⟩:=V4.mp (l.all hd);exact .inl ⟨a,_,i,g.sq,λ q b=>p _ _ (v9 b) (V5 hd b ((bC r).cut e f))⟩
 ·cases c;obtain⟨a,k,i,g,j⟩:=l.lstC hd;exact .inl ⟨a,k,i,SqL.of g,λ q b=>p _ _ (v9 b) (bE hd b (j.cut e f))⟩
 ·rename_i ds;split at c
  ·cases c
  ·rename_i m;cases c;obtain⟨a,k,i,g,j⟩:=l.tupC hd;refine .inr ⟨a,k,i,g,?_,λ q b=>p _ _ (v9 b) (rh hd b (j.cut e f))⟩;rw[gA,gA,←j.length]at m;exact m
 ·cases c
def rD:SlR X (λ x a b H Q=>rSlL X.K x a b H Q\/rSlT X.K x a b H Q):=yv.or oZ
def kO(h:PE X b (dE X.D δ (.ok (.int i) cl))):PO X (some b) (λ d H Q=>∃O W,RSt X.D H d δ O W/\∀c,Same H c->Q (some i) c):=λ a s d H Q I ⟨O,W,R,p⟩=>
 oX h a s d H Q I ⟨O,W,R,λ v c s1 g=>⟨i,g.int (R.hid.mono s1),p c s1⟩⟩
def Bz(j:∀q,ra=some q->PE X a JN)(i:∀q,rb=some q->PE X b JN)(h:(Re.thn ra λ x g=>Re.thn rb λ l _=>match l with
  | .int l=>(slD x (some l) none).map λ d=>.ok d (slCl x g) | _=>none)=some re):PE X (.Subscript a (.Slice (some b) none none p2) pos) (dE X.D δ re):=by
 cases e:ra with
 | none=>rw[e]at h;cases h
 | some q=>
  rw[e]at h;have A:=j q e;cases q with
  | ok n g=>
   cases c:rb with
   | none=>rw[c]at h;cases h
   | some q=>
    rw[c]at h;have B:=i q c;cases q with
    | ok m cy=>
     have f:(match(generalizing:=false) m with | .int l=>(slD n _ none).map λ d=>Re.ok d _ | _=>none)=some re:=h;split at f
     ·rename_i l;exact(jE rD A (kO B) oW).weak λ σ H Q ⟨O,W,R,p⟩=>⟨O,W,R,λ x H1 s1 k=>⟨O,W,R.mono s1,λ H2 s2=>rC f ((R.hid.mono s1).mono s2) (k.mono s2) (p.step (s1.trans s2))⟩⟩
     ·cases f
def BA(v:∀q,ra=some q->PE X a JN)(s:∀q,rb=some q->PE X b JN)(r:∀q,j=some q->PE X c JN)(h:(Re.thn ra λ x o=>Re.thn rb λ l _=>match l with
  | .int l=>Re.thn j λ u _=>(match u with
   | .int u=>(slD x (some l) (some u)).map λ d=>.ok d (slCl x o) | _=>none) | _=>none)=some re):PE X (.Subscript a (.Slice (some b) (some c) none p2) pos) (dE X.D δ re):=by
 cases g:ra with
 | none=>rw[g]at h;cases h
 | some q=>
  rw[g]at h;have A:=v q g;cases q with
  | ok n o=>
   cases f:rb with
   | none=>rw[f]at h;cases h
   | some q=>
    rw[f]at h;have B:=s q f;cases q with
    | ok z cy=>
     have i:(match(generalizing:=false) z with | .int l=>Re.thn j λ u _=>(match u with | .int u=>(slD n (some l) (some u)).map λ d=>Re.ok d _ | _=>none) | _=>none)=some re:=h;split at i
     ·rename_i l;cases e:j with
      | none=>rw[e]at i;cases i
      | some q=>
       rw[e]at i;have C:=r q e;cases q with
       | ok y cz=>
        have m:(match(generalizing:=false) y with | .int u=>(slD n (some l) (some u)).map λ d=>Re.ok d (slCl n o) | _=>none)=some re:=i;split at m
        ·rename_i u;exact(jE rD A (kO B) (kO C)).weak λ σ H Q ⟨O,W,R,p⟩=>⟨O,W,R,λ x H1 s1 w=>⟨O,W,R.mono s1,λ H2 s2=>⟨O,W,(R.mono s1).mono s2,λ H3 k=>rC m (((R.hid.mono s1).mono s2).mono k) ((w.mono s2).mono k) (p.step (s1.trans (s2.trans k)))⟩⟩⟩
        ·cases m
     ·cases i
end
section
variable {κ:Type} [DecidableEq κ]
noncomputable def valV(kvs:on (κ×V))(k:κ):Jk V:=(kvs.find? λ kv=>decide (kv.1=k)).map (·.2)
noncomputable def putK(kvs:on (κ×V))(k:κ)(v:V):on (κ×V):=
 if(kvs.any λ kv=>decide (kv.1=k))=true then kvs.map (λ kv=>if kv.1=k then(kv.1,v)else kv)else kvs++[(k,v)]
def gC{k:κ}(e:p.1=k):valV (p::r) k=some p.2:=by simp[valV,aX,e]
def gD{k:κ}(e:¬p.1=k):valV (p::r) k=valV r k:=by simp[valV,aX,e]
theorem kR(k:κ):∀a:on (κ×V),(a.any λ b=>decide (b.1=k))=(valV a k).isSome
 | []=>rfl
 | p::r=>by
  rw[G1];by_cases e:p.1=k
  ·simp only[gC e,D5 e,jp,Option.isSome_some]
  ·rw[gD e,B4 e,fj];exact kR k r
def rE(a:on (κ×V))(k:κ)(v:V):(putK a k v).length<=a.length+1:=by
 unfold putK;split
 ·rw[i0];omega
 ·rw[x4,z7,eW];omega
def RelO.isSome_eq(r:RelO o u):o.isSome=u.isSome:=by
 cases o with
 | none=>cases u with
  | none=>rfl
  | some _=>exact(r).elim
 | some _=>cases u with
  | none=>exact(r).elim
  | some _=>rfl
def KV.val(r:KV a vs)(k:κ):RelO (valV a k) (valueAt vs k):=by
 unfold KV at r
 induction r with
 | nil=>exact True.intro
 | @cons p q ps qs h t ih=>
  obtain⟨d,f⟩:=h;by_cases e:p.1=k
  ·have c:=d.symm.trans e;have b:valueAt (q::qs) k=some q.2:=by simp[valueAt,aX,c]
   rw[gC e,b];exact f
  ·have c:¬q.1=k:=λ z=>e (d.trans z);have b:valueAt (q::qs) k=valueAt qs k:=by simp[valueAt,aX,c]
   rw[gD e,b];exact ih
theorem KV.any(r:KV a vs)(k:κ):(a.any λ b=>decide (b.1=k))=vs.any λ b=>decide (b.1=k):=by
 unfold KV at r
 induction r with
 | nil=>rfl
 | cons h t c=>rw[G1,G1,c,h.1]
def KV.repl(r:KV b vs)(k:κ)(d:RelV y u) :
  KV (b.map λ a=>if a.1=k then(a.1,y)else a) (vs.map λ a=>if a.1=k then(a.1,u)else a):=by
 unfold KV at r ⊢
 induction r with
 | nil=>exact .nil
 | @cons p q ps qs h t ih=>
  rw[A0,A0];refine .cons ?_ ih;obtain⟨c,f⟩:=h;by_cases e:p.1=k
  ·rw[f8 e,f8 (c.symm.trans e)];exact⟨c,d⟩
  ·rw[g9 e,g9 (λ z=>e (c.trans z))];exact⟨c,f⟩
def KV.put(r:KV a vs)(k:κ)(b:RelV y u):KV (putK a k y) (stored vs k u):=by
 unfold putK stored;rw[r.any k];by_cases e:(vs.any λ c=>decide (c.1=k))=true
 ·rw[f8 e,f8 e];exact r.repl k b
 ·rw[g9 e,g9 e];exact Paired.snoc r ⟨rfl,b⟩
theorem KV.length(r:KV a vs):a.length=vs.length:=ff r
end
def kS(r:RelV (kV k) u):(H9 P w).is k u=true:=by
 cases k with
 | inl i=>obtain⟨t,e⟩:=(r);subst e;exact wE P w i t
 | inr x=>obtain⟨t,e⟩:=(r);subst e;exact wF P w x t
theorem gE:∀{ks:on Key} {us:on Jl},Vals (ks.map kV) us->ItemsAre (H9 P w) ks us
 | [],_,r=>by rw[fv]at r;cases r;exact .nil
 | k::ks,_,r=>by
  rw[A0]at r;cases r with
  | cons h t=>exact .cons (kS h) (gE t)
abbrev KT(H:Hp):on (on Key×V)->on (on Key×Jn×Jl)->Prop:=Paired λ p q=>p.1=q.1/\H q.2.1=some (.tup (p.1.map kV))/\RelV p.2 q.2.2
def KT.val(r:KT H a xs)(k:on Key):RelO (valV a k) ((atKey xs k).map (·.2)):=by
 induction r with
 | nil=>exact True.intro
 | @cons p q ps qs h t ih=>
  obtain⟨d,_,f⟩:=h;by_cases e:p.1=k
  ·have c:=d.symm.trans e;have b:atKey (q::qs) k=some q.2:=by simp[atKey,aX,c]
   rw[gC e,b];exact f
  ·have c:¬q.1=k:=λ z=>e (d.trans z);have b:atKey (q::qs) k=atKey qs k:=by simp[atKey,aX,c]
   rw[gD e,b];exact ih
def KT.repl(r:KT H a xs)(k:on Key)(f:RelV y u) :
  KT H (a.map λ c=>if c.1=k then(c.1,y)else c) (xs.map (putAt k u)):=by
 induction r with
 | nil=>exact .nil
 | @cons p q ps qs h t ih=>
  rw[A0,A0];refine .cons ?_ ih;obtain⟨b,d,g⟩:=h;unfold putAt;by_cases e:p.1=k
  ·rw[f8 e,f8 (b.symm.trans e)];exact⟨b,d,f⟩
  ·rw[g9 e,g9 (λ z=>e (b.trans z))];exact⟨b,d,g⟩
def KT.put(r:KT H a xs)(k:on Key)(d:H b=some (.tup (k.map kV)))(c:RelV y u) :
  KT H (putK a k y) (storedH xs k b u):=by
 have e:(a.any λ kv=>decide _)=(atKey xs k).isSome:=(by rw[kR,(r.val k).isSome_eq,Option.isSome_map]);unfold putK storedH;rw[e];by_cases q:(atKey xs k).isSome=true
 ·rw[f8 q,f8 q];exact r.repl k c
 ·rw[g9 q,g9 q];exact Paired.snoc r ⟨rfl,d,c⟩
def KT.keeps(r:KT H a xs)(ht:∀b c,H b=some (.tup c)->d b=some (.tup c)):KT d a xs:=
 Paired.mapP r λ _ _ z=>⟨z.1,ht _ _ z.2.1,z.2.2⟩
def kU(ok:HOk P w H h)(e:Rd H a u):u9 P w H h a u:=e.ok ok
def kW(ok:HOk P w H h)(e:Rd H a (.dK b)):b.length<=sizeLine/\(a==sysModules)=false/\∃vs,KV b vs/\h.DictOf (H9 P w) a vs:=
 show u9 P w H h a (.dK b)from kU ok e
def BB(ok:HOk P w H h)(e:H a=some (.dK b)):b.length<=sizeLine/\(a==sysModules)=false/\∃vs,KV b vs/\h.DictOf (H9 P w) a vs:=kW ok (.inl e)
def kX(ok:HOk P w H h)(e:H a=some (.tup (ks.map kV))):(tupleKind (H9 P w)).is h ks a:=by
 obtain⟨_,b,r,o,f,d,n,c⟩:=(show u9 P w H h a (.tup _)from ok a _ e);exact⟨o,b.toArray,n,f,d.1,c,by simpa using gE r⟩
def bF(ok:HOk P w H h)(e:Rd H a (.dT b)):b.length<=sizeLine/\(a==sysModules)=false /\
  ∃xs,KT H b xs/\h.DictOfH (tupleKind (H9 P w)) a xs:=by
 obtain⟨z,y,xs,r,o,k,n,j,i,g,f,d⟩:=(show u9 P w H h a (.dT b)from kU ok e);refine⟨z,y,xs,r,o,k,n,j,i,g,f,λ x c=>?_,d⟩;have all:∀{l:on _} {m:on _},KT H l m->∀x∈m,(tupleKind (H9 P w)).is h x.1 x.2.1:=by
  intro l m q
  induction q with
  | nil=>intro x c;exact nomatch c
  | @cons p q ps qs hq t ih=>
   intro x c;rcases j0.mp c with e | c
   ·subst e;exact kX ok (by rw[←hq.1];exact hq.2.1)
   ·exact ih x c
 exact all r x c
def BC(ok:HOk P w H h)(e:H a=some (.dT b)):b.length<=sizeLine/\(a==sysModules)=false /\
  ∃xs,KT H b xs/\h.DictOfH (tupleKind (H9 P w)) a xs:=bF ok (.inl e)
def DGet(H:Hp)(a:Jn)(y:V)(r:Jk V):Prop:=
 (∃kvs k,Rd H a (.dK kvs)/\y=kV k/\r=valV kvs k)\/∃kvs k b,Rd H a (.dT kvs)/\y=.ref b/\H b=some (.tup (k.map kV))/\r=valV kvs k
def DPut(H:Hp)(a:Jn)(y v:V)(H':Hp):Prop:=
 (∃kvs k,H a=some (.dK kvs)/\y=kV k/\kvs.length<sizeLine/\H'=upd H a (.dK (putK kvs k v))) \/
 ∃kvs k b,H a=some (.dT kvs)/\y=.ref b/\H b=some (.tup (k.map kV))/\kvs.length<sizeLine/\H'=upd H a (.dT (putK kvs k v))
def DPut.t{k:on Key}(e:H a=some (.dT c))(f:H b=some (.tup (k.map kV)))(d:c.length<sizeLine) :
  DPut H a (.ref b) v (upd H a (.dT (putK c k v))):=.inr ⟨c,k,b,e,rfl,f,d,rfl⟩
def Inv.big(I:JI a):sysModules<s.heap.objs.size:=by
 exact R7 JD ((I.mod.glob.keeps I.bk).lt)
def BD(x:A.units+1<cLine)(I:JI c)(g:DGet H a y (some v))(w:RelV y u)(h:∀i r,Inv X c σ H r->RelV v i->Q i r) :
  wpAny JG A (getItem (.ref a) u) Q E s:=by
 rcases g with⟨j,k,e,o,l⟩ | ⟨j,k,b,e,o,eb,l⟩
 ·subst o;obtain⟨z,hd,vs,f,q⟩:=kW I.hok e;obtain⟨i,m,d⟩:=RelO.some_of (by rw[l];exact f.val k);exact wpAny_getItem_of (kS w) q.mapOf m (h i _ (I.tok _) d)
 ·subst o;cases(w);obtain⟨z,hd,xs,f,q⟩:=bF I.hok e;obtain⟨i,m,d⟩:=RelO.some_of (by rw[l];exact f.val k);obtain⟨p,B,n⟩:=B3.mp m;refine wpAny_getItem_heap (eO x) (kX I.hok eb) q B ?_;rw[n];exact h i _ (I.tok _) d
def rF(I:JI c)(e:Mut (H a))(f:Heap.SameBut a s.heap h')(g:∃q,h'.get? a=some q)(new:u9 X.prog X.w (upd H a d) h' a d) :
  Inv X c σ (upd H a d) {s with heap:=h',toks:=t'}:=
 I.write e (.inl rfl) (λ b q h z=>(f.2 b h).trans z) g new
def BE(z:b.length<=sizeLine)(hd:(a==sysModules)=false)(c:KV b vs)(dd:h'.DictOf (H9 P w) a vs) :
  u9 P w d h' a (.dK b):=⟨z,hd,vs,c,dd⟩
def BF(P:A.units+1<cLine)(I:JI j)(g:DPut H a y v L)(C:RelV y u)(F:RelV v r)(h:∀B,Inv X j σ L B->Q () B) :
  wpAny JG A (setItem (.ref a) u r) Q E s:=by
 rcases g with⟨f,k,e,p,l,w⟩ | ⟨f,k,b,e,p,eb,l,w⟩
 ·subst p w;obtain⟨z,hd,N,d,x⟩:=BB I.hok e;have O:N.length<=sizeLine:=by rw[←d.length];exact z
  have o:(putK f k v).length<=sizeLine:=by have:=rE f k v;omega
  refine wpAny_setItem_pairs (kS C) x λ J i n=>h _ ?_;have R:∃q,J.get? a=some q:=let ⟨q,_,_,m,_⟩:=i;⟨q,m⟩;exact rF I (by rw[e];exact True.intro) n R (BE o hd (d.put k F) i)
 ·subst p w;cases(C);obtain⟨z,hd,M,d,x⟩:=BC I.hok e;have O:M.length<=sizeLine:=by rw[←ff d];exact z
  have o:(putK f k v).length<=sizeLine:=by have:=rE f k v;omega
  refine wpAny_setItem_heap (eO P) (kX I.hok eb) x λ J i n=>h _ ?_;obtain⟨q,Z,ep,m,Y,W,U,_,S⟩:=i;refine rF I (by rw[e];exact True.intro) n ⟨q,m⟩ ⟨o,hd,_,(d.put k eb F).keeps λ c ys K=>?_,q,Z,ep,m,Y,W,U,S⟩;rw[m7 (wG K e (λ z=>nomatch z))];exact K
def NoSl(i:Jp):Prop:=∀ov iv,subscripted i false ov iv=operate [ov,iv] (getItem ov iv)
def BG
  (p:typeLookup (.type T) "__getitem__" = pure (some (.builtin m))) (n:NoSl a)
  (h:wpAny JH A (eval b env) (λ o f=>wpAny JH A (eval a env) (λ i c=>c.TypeIs o T/\wpAny JH A (getItem o i) Q E c) E f) E s) :
  wpAny JH A (eval (.Subscript b a pos) env) Q E s:=by
 refine Subscript_ (A9 h (λ o f j=>A9 j (λ i c d=>?_) λ _ _ x=>x) λ _ _ x=>x);obtain⟨l,d⟩:=d;unfold subscriptTail;refine f0 ?_;rw[getitemInPython_of_ne l.not_modules];refine f0 (wpAny_specialOf l p ?_);have k:wpAny JH A (subscripted a false o i) (λ r e=>wpAny JH A (letTemporaryGo b o r >>= λ _=>pure r) Q E e) E c:=by rw[n o i];exact wpAny_operating (A9 d (λ r e g=>f0 (wpAny_letTemporaryGo (g7 g))) λ _ _ x=>x)
 first
  | exact g7 (f0 k)
  | exact f0 _
  | exact f0 k
def BH(I:JI c)(g:DGet H a y o):s.TypeIs (.ref a) "dict":=by
 rcases g with⟨d,k,e,_,_⟩ | ⟨d,k,b,e,_,_,_⟩
 ·obtain⟨_,_,vs,_,f⟩:=kW I.hok e;exact f.typeIs
 ·obtain⟨_,_,xs,_,f⟩:=bF I.hok e;exact f.typeIs
noncomputable def BI(td ty tv:TE):TS:=λ D σ H=>tv σ H λ v H1=>td σ H1 λ x H2=>ty σ H2 λ y H3=>∃a H4,x=.ref a/\DPut H3 a y v H4/\D.nx σ H4
def rG(w:X.A.units+1<cLine)(A:PE X o f)(B:PE X i ty)(hv:PE X b e)(z:swapsWith b (some (.Subscript o i pos')) pos.line X.env=pure false) :
  PS X (.Assign [.Subscript o i pos'] b pos) (BI f ty e):=by
 intro c s d H D I h;refine wpAny_Assign_Subscript (thn (hv c s d H _ I h) λ r s1 ⟨v,M,J,m,q⟩=>thn (A c s1 d M _ J q) λ u j ⟨x,L,F,l,p⟩=>thn (B c j d L _ F p) λ iv s3 ⟨y,H3,E,k,a,K,ex,g,n⟩=>?_) z;subst ex;obtain rfl:u=Value.ref a:=l;exact BF w E g k m λ s4 C=>⟨d,K,C,n⟩
def BJ(h:Jo)(a:sysModules<h.objs.size):u9 P w H (h.push {cls:=.type "dict",data:=.dict #[]}) h.objs.size (.dT []):=
 ⟨E5 _,y9.mpr (Ne.symm (o9 a)),[],.nil,_,#[],0,q5 _ rfl,⟨rfl,rfl,rfl⟩,rfl,rfl,fb⟩
def BK:TE:=λ _ H Q=>∀p,H p=none->Q (.ref p) (upd H p (.dT []))
def BL:PE X (.Dict [] [] pos) BK:=λ a s σ H Q I h=>
 wpAny_Dict_empty ⟨.ref s.heap.objs.size,_,I.laid (λ _ _ q=>k9 _ q) (i8 _) (BJ s.heap I.big),rfl,h _ (I.hok.fresh (i8 _))⟩
mutual
noncomputable def toP:DV->PyData
 | .non=>.none | .bl b=>.bool b | .int i=>.int i | .str x=>.str x
 | .tup ds=>.tuple (toPs ds) | .lst ds=>.list (toPs ds)
 | _=>.none
noncomputable def toPs:on DV->on PyData
 | []=>[]
 | d::r=>toP d::toPs r
end
mutual
theorem gF:∀(n m:Nat) (d e:DV),d.plain n=true->e.plain m=true->PyData.eqv (toP d) (toP e)=deq d e
 | n,m,.non,e,_,h=>by cases e<;>first | (cases m<;>simp[DV.plain]at h;done) | (simp only[toP,PyData.eqv,deq])
 | n,m,.bl _,e,_,h=>by cases e<;>first | (cases m<;>simp[DV.plain]at h;done) | (simp only[toP,PyData.eqv,deq])
 | n,m,.int _,e,_,h=>by cases e<;>first | (cases m<;>simp[DV.plain]at h;done) | (simp only[toP,PyData.eqv,deq])
 | n,m,.str x,e,_,h=>by
  cases e with
  | str y=>simp only[toP,PyData.eqv,deq];rfl
  | non=>simp only[toP,PyData.eqv,deq]
  | bl _=>simp only[toP,PyData.eqv,deq]
  | int _=>simp only[toP,PyData.eqv,deq]
  | tup _=>simp only[toP,PyData.eqv,deq]
  | lst _=>simp only[toP,PyData.eqv,deq]
  | dct _ _=>cases m<;>simp[DV.plain]at h
  | dcl _ _=>cases m<;>simp[DV.plain]at h
  | fn _=>cases m<;>simp[DV.plain]at h
  | lam _ _=>cases m<;>simp[DV.plain]at h
  | scr _=>cases m<;>simp[DV.plain]at h
 | 0,_,.tup _,_,h,_=>by simp[DV.plain]at h
 | 0,_,.lst _,_,h,_=>by simp[DV.plain]at h
 | n+1,m,.tup ds,e,h,h'=>by
  cases e with
  | tup es=>
   cases m with
   | zero=>simp[DV.plain]at h'
   | succ m=>
    simp only[toP,PyData.eqv,deq];exact kY n m ds es (by simpa[DV.plain]using h) (by simpa[DV.plain]using h')
  | non=>simp only[toP,PyData.eqv,deq]
  | bl _=>simp only[toP,PyData.eqv,deq]
  | int _=>simp only[toP,PyData.eqv,deq]
  | str _=>simp only[toP,PyData.eqv,deq]
  | lst _=>simp only[toP,PyData.eqv,deq]
  | dct _ _=>cases m<;>simp[DV.plain]at h'
  | dcl _ _=>cases m<;>simp[DV.plain]at h'
  | fn _=>cases m<;>simp[DV.plain]at h'
  | lam _ _=>cases m<;>simp[DV.plain]at h'
  | scr _=>cases m<;>simp[DV.plain]at h'
 | n+1,m,.lst ds,e,h,h'=>by
  cases e with
  | lst es=>
   cases m with
   | zero=>simp[DV.plain]at h'
   | succ m=>
    simp only[toP,PyData.eqv,deq];exact kY n m ds es (by simpa[DV.plain]using h) (by simpa[DV.plain]using h')
  | non=>simp only[toP,PyData.eqv,deq]
  | bl _=>simp only[toP,PyData.eqv,deq]
  | int _=>simp only[toP,PyData.eqv,deq]
  | str _=>simp only[toP,PyData.eqv,deq]
  | tup _=>simp only[toP,PyData.eqv,deq]
  | dct _ _=>cases m<;>simp[DV.plain]at h'
  | dcl _ _=>cases m<;>simp[DV.plain]at h'
  | fn _=>cases m<;>simp[DV.plain]at h'
  | lam _ _=>cases m<;>simp[DV.plain]at h'
  | scr _=>cases m<;>simp[DV.plain]at h'
 | n,_,.dct _ _,_,h,_=>by cases n<;>simp[DV.plain]at h
 | n,_,.dcl _ _,_,h,_=>by cases n<;>simp[DV.plain]at h
 | n,_,.fn _,_,h,_=>by cases n<;>simp[DV.plain]at h
 | n,_,.lam _ _,_,h,_=>by cases n<;>simp[DV.plain]at h
 | n,_,.scr _,_,h,_=>by cases n<;>simp[DV.plain]at h
theorem kY:∀(n m:Nat) (ds es:on DV),DV.plains n ds=true->DV.plains m es=true->PyData.eqvAll (toPs ds) (toPs es)=deqs ds es
 | _,_,[],[],_,_=>by simp only[toPs,PyData.eqvAll,deqs]
 | _,_,[],_::_,_,_=>by simp only[toPs,PyData.eqvAll,deqs]
 | _,_,_::_,[],_,_=>by simp only[toPs,PyData.eqvAll,deqs]
 | n,m,d::ds,e::es,h,h'=>by simp only[DV.plains,f9]at h h';simp only[toPs,PyData.eqvAll,deqs,gF n m d e h.1 h'.1,kY n m ds es h.2 h'.2]
end
mutual
theorem kZ:∀(n:Nat) (d:DV),d.plain n=true->(toP d).canLay0=true/\(toP d).depth<=n
 | n,.non,_=>by simp[toP,PyData.canLay0,PyData.depth]
 | n,.bl _,_=>by simp[toP,PyData.canLay0,PyData.depth]
 | n,.int _,_=>by simp[toP,PyData.canLay0,PyData.depth]
 | n,.str x,h=>by
  have h':(x.cps.all (· < 0x110000))=true:=by cases n<;>simpa[DV.plain]using h
  simp only[toP,PyData.canLay0,PyData.depth];exact⟨h',E5 _⟩
 | 0,.tup _,h=>by simp[DV.plain]at h
 | 0,.lst _,h=>by simp[DV.plain]at h
 | n+1,.tup ds,h=>by have q:=gG n ds (by simpa[DV.plain]using h);simp only[toP,PyData.canLay0,PyData.depth,q.1,true_and];have:=q.2;omega
 | n+1,.lst ds,h=>by have q:=gG n ds (by simpa[DV.plain]using h);simp only[toP,PyData.canLay0,PyData.depth,q.1,true_and];have:=q.2;omega
 | n,.dct _ _,h=>by cases n<;>simp[DV.plain]at h
 | n,.dcl _ _,h=>by cases n<;>simp[DV.plain]at h
 | n,.fn _,h=>by cases n<;>simp[DV.plain]at h
 | n,.lam _ _,h=>by cases n<;>simp[DV.plain]at h
 | n,.scr _,h=>by cases n<;>simp[DV.plain]at h
theorem gG:∀(n:Nat) (ds:on DV),DV.plains n ds=true->PyData.canLayAll0 (toPs ds)=true/\PyData.depthAll (toPs ds)<=n
 | _,[],_=>by simp[toPs,PyData.canLayAll0,PyData.depthAll]
 | n,d::ds,h=>by simp only[DV.plains,f9]at h;have q:=kZ n d h.1;have q':=gG n ds h.2;simp only[toPs,PyData.canLayAll0,PyData.depthAll,q.1,q'.1,Bool.and_self,true_and];have a:=q.2;have b:=q'.2;omega
end
section
variable {X:Cx} {pins:on (Jn×Obj)} {σ:St} {H:Hp} {s:Jm}
mutual
theorem aE(I:JI pins):∀(n:Nat) {d:DV} {v:V} {u:Jl},d.plain n=true->Rep X.D H d v->RelV v u->∃as,Reads s.heap u (toP d) as
 | _,.non,_,_,_,h,r=>by rw[V3.mp h]at r;cases r;exact⟨_,Reads.none⟩
 | _,.bl b,_,_,_,h,r=>by rw[X3.mp h]at r;cases r;exact⟨_,Reads.bool b⟩
 | _,.int i,_,_,_,h,r=>by rw[A7.mp h]at r;obtain⟨t,rfl⟩:=r;exact⟨_,Reads.int i t⟩
 | _,.str x,_,_,_,h,r=>by rw[(dz.mp h).1]at r;obtain⟨t,rfl⟩:=r;exact⟨_,Reads.str x t⟩
 | 0,.tup _,_,_,p,_,_=>by simp[DV.plain]at p
 | 0,.lst _,_,_,p,_,_=>by simp[DV.plain]at p
 | n+1,.tup ds,_,_,p,h,r=>by obtain⟨a,xs,e1,e2,e3⟩:=E7.mp h;rw[e1]at r;cases r;obtain⟨its,rv,⟨o,h1,h2,k,h3⟩,_⟩:=I.tuple e2;obtain⟨as,q⟩:=lg I n (by simpa[DV.plain]using p) e3 rv;rw[toP];exact⟨as,Reads.tuple h1 h2 h3 (by simpa using q)⟩
 | n+1,.lst ds,_,_,p,h,r=>by obtain⟨a,xs,e1,e2,e3⟩:=K5.mp h;rw[e1]at r;cases r;obtain⟨_,its,k,rv,_,h1⟩:=I.lstM e2;obtain⟨as,q⟩:=lg I n (by simpa[DV.plain]using p) e3 rv;rw[toP];exact⟨_,Reads.list h1 rfl rfl (by simpa using q)⟩
 | n,.dct _ _,_,_,h,_,_=>by cases n<;>simp[DV.plain]at h
 | n,.dcl _ _,_,_,h,_,_=>by cases n<;>simp[DV.plain]at h
 | n,.fn _,_,_,h,_,_=>by cases n<;>simp[DV.plain]at h
 | n,.lam _ _,_,_,h,_,_=>by cases n<;>simp[DV.plain]at h
 | n,.scr _,_,_,h,_,_=>by cases n<;>simp[DV.plain]at h
theorem lg(I:JI pins):∀(n:Nat) {ds:on DV} {vs:on V} {us:on Jl},DV.plains n ds=true->RepL X.D H ds vs->Vals vs us->∃as,ReadsAll s.heap us (toPs ds) as
 | _,[],_,_,_,h,r=>by rw[B9.mp h]at r;cases r;exact⟨_,ReadsAll.nil⟩
 | n,d::ds,_,_,p,h,r=>by
  simp only[DV.plains,f9]at p;obtain⟨v,vs,e1,e2,e3⟩:=v5.mp h;subst e1;cases r with
  | cons r1 r2=>
   obtain⟨as,q⟩:=aE I n p.1 e2 r1;obtain⟨bs,q'⟩:=lg I n p.2 e3 r2;rw[toPs];exact⟨_,ReadsAll.cons q q'⟩
end
def gH(h:d.plain 60=true):SeqAt.shaped (toP d)=true:=by
 have q:=kZ 60 d h;unfold SeqAt.shaped;rw[q.1,cJ];exact D5 (k6 q.2 JD)
theorem rH(h:d.plain 60=true):∀(a:on DV),DV.plains 60 a=true->((toPs a).any λ y=>PyData.eqv y (toP d))=a.any λ x=>deq x d
 | [],_=>rfl
 | e::a,p=>by simp[DV.plains,f9]at p;rw[toPs,G1,G1,gF 60 60 e d p.1 h,rH h a p.2]
end
section
variable {X:Cx} {δ:on Sv} {a b c e:Jp} {pos:Pos} {ra rb rc:Jk Re} {re:Re}
def cmpR(X:Cx)(op:CmpOp):R2:=λ x y H Q=>∃dx dy k,cmpD op dx dy=some k/\Rep X.D H dx x/\Rep X.D H dy y/\Q (.bl k) H
def BM(r:Rep D H d v):decide (v=.non)=isN d:=by
 cases d with
 | non=>rw[V3.mp r];rfl
 | bl _=>rw[X3.mp r];rfl
 | int _=>rw[A7.mp r];rfl
 | str _=>rw[(dz.mp r).1];rfl
 | tup _=>obtain⟨a,c,e,_⟩:=E7.mp r;rw[e];rfl
 | lst _=>obtain⟨a,c,e,_⟩:=K5.mp r;rw[e];rfl
 | fn _=>obtain⟨a,e,_⟩:=Bf.mp r;rw[e];rfl
 | lam _ _=>obtain⟨a,_,_,_,_,_,_,_,e,_⟩:=kA.mp r;rw[e];rfl
 | scr _=>obtain⟨a,e,_⟩:=V4.mp r;rw[e];rfl
 | dct _ _=>obtain⟨a,o,b,e,_⟩:=aC.mp r;rw[e];rfl
 | dcl _ _=>obtain⟨a,b,e,_⟩:=gu.mp r;rw[e];rfl
def rJ{pins:on (Jn×Obj)}{σ:St}{H:Hp}{s:Jm}{a:Jn}{ks:on Key}(I:JI pins)(e:SqT X.K H a (ks.map kV)):(tupleKind (H9 X.prog X.w)).is s.heap ks a:=by
 rcases e with h | ⟨o,its,n,h1,h2,h3,_,h5⟩
 ·obtain⟨_,its,r,o,h1,h2,n,h3⟩:=(show u9 X.prog X.w H s.heap a (.tup (ks.map kV))from kU I.hok h);exact⟨o,its.toArray,n,h1,h2.1,h3,by simpa using gE r⟩
 ·exact⟨o,its,n,I.kIn a o h1,h2.1,h3,gE h5⟩
def rK(h:keyI y=some k):y=.tup (k.map .int):=by
 obtain⟨ds,b,a⟩:=r3.mp h;cases y<;>cases b;rw[dB a]
def kP_V(k:on Int):(kP k).map kV=k.map V.int:=by
 unfold kP;rw[v7];rfl
def rM(h:Rep D H (.tup (k.map .int)) v):∃p,v=.ref p/\SqT D.K H p ((kP k).map kV):=by
 obtain⟨p,xs,c,a,b⟩:=E7.mp h;rw[gw b]at a;exact⟨p,c,by rw[kP_V];exact a⟩
def BN(a:on (on Key×V))(k:on Key):(valV a k).isSome=decide (DKey.t k∈a.map λ p=>DKey.t p.1):=by
 rw[←kR,iY,U2,P1,m9];constructor
 ·rintro⟨p,c,b⟩;exact⟨p,c,by rw[F3.mp b]⟩
 ·rintro⟨p,c,b⟩;exact⟨p,c,by rw[F3];exact DKey.t.inj b⟩
def bG(K:X.A.units+64<cLine):OpR X (compareOp A) (cmpR X A):=by
 intro d s m H x y v u Q I g f h;obtain⟨dx,dy,k,c,r1,j,q⟩:=h;have i:∀{B:Bool},B=k->EP X d m Q _ s:=λ {B} e=>⟨.bl B,H,I,rfl,by rw[e];exact q⟩
 unfold cmpD at c;cases A
 case Lt | LtE | Gt=>
  dsimp only at c
  replace c:=r3.mp c
  obtain⟨x1,r,c⟩:=c
  replace c:=r3.mp c
  obtain⟨x2,o,c⟩:=c;have r:=F7 r;have o:=F7 o;subst r o;cases c;have E:=A7.mp r1;have C:=A7.mp j
  first | exact xI d s m H x y v u Q I g f ⟨_,_,E,C,q⟩ | exact xJ d s m H x y v u Q I g f ⟨_,_,E,C,q⟩ | exact xK d s m H x y v u Q I g f ⟨_,_,E,C,q⟩
 case Eq=>
  dsimp only at c;split at c
  ·rename_i p;rw[f9]at p;cases c;obtain⟨M,n⟩:=aE I 60 p.1 r1 g;obtain⟨bs,l⟩:=aE I 60 p.2 j f;exact eq_dataH n l (gH p.1) (gH p.2) K (i (gF 60 60 _ _ p.1 p.2))
  ·cases c
 case NotEq=>
  dsimp only at c;split at c
  ·rename_i p;rw[f9]at p;cases c;obtain⟨M,n⟩:=aE I 60 p.1 r1 g;obtain⟨bs,l⟩:=aE I 60 p.2 j f;exact ne_dataH n l (gH p.1) (gH p.2) K (i (by rw[gF 60 60 _ _ p.1 p.2]))
  ·cases c
 case Is=>
  dsimp only at c;split at c
  ·cases c;exact xL d s m H x y v u Q I g f ⟨V3.mp j,by rw[BM r1];exact q⟩
  ·cases c
 case NotIn=>
  dsimp only at c;split at c
  ·rename_i L;split at c
   ·rename_i p;rw[f9]at p;cases c;obtain⟨M,n⟩:=aE I 60 p.1 r1 g;obtain⟨bs,l⟩:=aE I 61 (by simpa[DV.plain]using p.2) j f;rw[toP]at l;have J:=kZ 60 _ p.1;have l3:=J.2;exact SeqAt.notIn_tuple_reads l n (gG 60 L p.2).1 J.1 JC (i (by rw[rH p.1 L p.2]))
   ·cases c
  ·rename_i ks vs;obtain⟨O,r,o⟩:=B3.mp c;cases rK r;obtain⟨b,rfl,R⟩:=rM r1;obtain⟨a,N,rfl,S,P,_⟩:=gu.mp j;subst P;cases(g);cases(f);obtain⟨z,hd,xs,w,U⟩:=bF I.hok (.inl S);refine wpAny_notIn_heap (eO JC) (rJ I R) hd U ?_;have F:=(w.val (kP O)).isSome_eq;rw[Option.isSome_map]at F;exact⟨.bl _,H,I.tok _,rfl,by rw[←F,BN,o];exact q⟩
  ·cases c
 all_goals (cases c)
def lh(h:J3 b=false):behindInMarks op b=false:=by
 cases b<;>first | rfl | cases h
def BO(d:X.A.units+64<cLine)(g:∀q,ra=some q->PE X a JN)(f:∀q,rb=some q->PE X b JN)(e:J3 b=false)
  (h:(Re.thn ra λ x _=>Re.thn rb λ y _=>(cmpD op x y).map λ k=>.ok (.bl k) .strong)=some re):PE X (.Compare a [op] [b] pos) (dE X.D δ re):=
 kH (λ _ _ j i=>xM (bG d) j i (lh e)) g f h λ O W H0 H x y Q s cx r cy σ k hd m l p=>by obtain⟨c,o,n⟩:=B3.mp k;cases n;exact⟨s,r,c,o,m.all hd,l.all hd,p _ H (Same.refl H) aD⟩
def BP(g:∀q,ra=some q->PE X a JN)(f:∀q,rb=some q->PE X b JN)
  (h:(Re.thn ra λ x _=>Re.thn rb λ y _=>(cmpD op x y).map λ k=>.ok (.bl k) .strong)=some re):∃d c,PE X a d/\PE X b c/\∀σ H Q,dE X.D δ re σ H Q->tOp (cmpR X op) d c σ H Q:=
 rr g f h λ O W H0 H x y Q o cx n cy σ k hd j i p=>by obtain⟨e,m,l⟩:=B3.mp k;cases l;exact⟨o,n,e,m,j.all hd,i.all hd,p _ H (Same.refl H) aD⟩
def rN(b:∀d c,re=.ok d c->∃k,d=.bl k)(h:tstD (some re)=some r)(q:dT X.D δ r σ H Q):dE X.D δ re σ H (λ x a=>∃k,x=.bl k/\Q k a):=by
 obtain⟨O,W,R,p⟩:=q;cases re with
 | ok d c=>
  obtain⟨k,rfl⟩:=b d c rfl;cases h;exact⟨O,W,R,λ v a s g=>⟨k,g.bl (R.hid.mono s),p a s⟩⟩
def BQ(h:(Re.thn ra λ x _=>Re.thn rb λ y _=>(cmpD op x y).map λ k=>.ok (.bl k) .strong)=some re):∀d c,re=.ok d c->∃k,d=.bl k:=by
 intro d c e;subst e;cases ra with
 | none=>cases h
 | some q=>
  cases q with
  | ok d c=>
   cases rb with
   | none=>cases h
   | some q=>
    cases q with
    | ok d' c'=>
     obtain⟨k,_,e⟩:=B3.mp (h);cases e;exact⟨k,rfl⟩
def BR(d:X.A.units+64<cLine)(g:∀q,ra=some q->PE X a JN)(f:∀q,rb=some q->PE X b JN)(e:J3 b=false)
  (h:tstD (Re.thn ra λ x _=>Re.thn rb λ y _=>(cmpD op x y).map λ k=>.ok (.bl k) .strong)=some r):PT X (.Compare a [op] [b] pos) (dT X.D δ r):=by
 cases q:(Re.thn ra λ x _=>Re.thn rb λ y _=>(cmpD op x y).map λ k=>Re.ok _ .strong)with
 | none=>rw[q]at h;cases h
 | some re=>
  rw[q]at h;obtain⟨ta,tb,A,B,w⟩:=BP g f q;exact(xN (bG d) A B (lh e)).weak λ c H Q z=>w c H _ (rN (BQ q) h z)
def rO{a:CmpOp}(h:J3 c=false):lastMarks [op,a] [b,c]=false:=by
 show behindInMarks a c=false;exact lh h
def rP{e:CmpOp}(I:∀q,ra=some q->PE X a JN)(F:∀q,rb=some q->PE X b JN)(E:∀q,rc=some q->PE X c JN)
  (h:(Re.thn ra λ x _=>Re.thn rb λ y _=>match cmpD op x y with
   | none=>none
   | some false=>some (JR (.bl false))
   | some true=>Re.thn rc λ z _=>(cmpD e y z).map λ k=>.ok (.bl k) .strong)=some re):∃w v u,PE X a w/\PE X b v/\PE X c u/\(∀σ H Q,dE X.D δ re σ H Q->jA (cmpR X op) (cmpR X e) w v u σ H Q)/\∀d cl,re=.ok d cl->∃k,d=.bl k:=by
 cases i:ra with
 | none=>rw[i]at h;cases h
 | some q=>
  rw[i]at h;have A:=I q i;cases q with
  | ok s cx=>
   cases g:rb with
   | none=>rw[g]at h;cases h
   | some q=>
    rw[g]at h;have B:=F q g;cases q with
    | ok l cy=>
     have j:(match(generalizing:=false) cmpD op s l with
      | none=>none
      | some false=>some (Re.ok (.bl false) .strong)
      | some true=>Re.thn rc λ z _=>(cmpD e l z).map λ k=>.ok (.bl k) .strong)=some re:=h
     split at j
     ·cases j
     ·rename_i r;cases j;exact⟨_,_,_,A,B,dD,λ σ H Q ⟨O,W,R,p⟩=>⟨O,W,R,λ x P s1 o=>⟨O,W,R.mono s1,λ y N s2 n=>
       ⟨s,l,false,r,(o.mono s2).all ((R.hid.mono s1).mono s2),n.all ((R.mono s1).hid.mono s2),false,rfl,by rw[g9 B7];exact p _ _ (s1.trans s2) aD⟩⟩⟩,λ d cl z=>by cases z;exact⟨_,rfl⟩⟩
     ·rename_i r;cases f:rc with
      | none=>rw[f]at j;cases j
      | some q=>
       rw[f]at j;have C:=E q f;cases q with
       | ok M cz=>
        obtain⟨k,L,K⟩:=B3.mp (j);cases K;exact⟨_,_,_,A,B,C,λ σ H Q ⟨O,W,R,p⟩=>⟨O,W,R,λ x P s1 o=>⟨O,W,R.mono s1,λ y N s2 n=>
         ⟨s,l,true,r,(o.mono s2).all ((R.hid.mono s1).mono s2),n.all ((R.mono s1).hid.mono s2),true,rfl,by
          rw[f8 rfl];exact⟨O,W,(R.mono s1).mono s2,λ z H3 m J=>⟨l,M,k,L,(n.mono m).all (((R.mono s1).hid.mono s2).mono m),J.all (((R.mono s1).mono s2).hid.mono m),p _ _ (s1.trans (s2.trans m)) aD⟩⟩⟩⟩⟩,λ d cl z=>by cases z;exact⟨_,rfl⟩⟩
def BS(e:X.A.units+64<cLine)(j:∀q,ra=some q->PE X a JN)(i:∀q,rb=some q->PE X b JN)(g:∀q,rc=some q->PE X c JN)(f:J3 c=false)
  (h:(Re.thn ra λ x _=>Re.thn rb λ y _=>match cmpD op x y with
   | none=>none
   | some false=>some (JR (.bl false))
   | some true=>Re.thn rc λ z _=>(cmpD d y z).map λ k=>.ok (.bl k) .strong)=some re):PE X (.Compare a [op,d] [b,c] pos) (dE X.D δ re):=by
 obtain⟨ta,tb,tc,A,B,C,w,_⟩:=rP j i g h;exact(xO (bG e) (bG e) A B C (rO f)).weak w
def BU(f:X.A.units+64<cLine)(m:∀q,ra=some q->PE X a JN)(l:∀q,rb=some q->PE X b JN)(j:∀q,rc=some q->PE X c JN)(i:J3 c=false)
  (h:tstD (Re.thn ra λ x _=>Re.thn rb λ y _=>match cmpD op x y with
   | none=>none
   | some false=>some (JR (.bl false))
   | some true=>Re.thn rc λ z _=>(cmpD d y z).map λ k=>.ok (.bl k) .strong)=some r):PT X (.Compare a [op,d] [b,c] pos) (dT X.D δ r):=by
 cases q:(Re.thn ra λ x _=>Re.thn rb λ y _=>match cmpD op x y with
   | none=>none
   | some false=>some _
   | some true=>Re.thn rc λ z _=>(cmpD d y z).map λ k=>.ok _ .strong)with
 | none=>rw[q]at h;cases h
 | some re=>
  rw[q]at h;obtain⟨ta,tb,tc,A,B,C,w,e⟩:=rP m l j q;exact(xP (bG f) (bG f) A B C (rO i)).weak λ g H Q z=>w g H _ (rN e h z)
end
def bH(h:L3 d=some k)(r:Rep D H d v):TruV D.K v H k:=by
 cases d with
 | non=>cases h;rw[V3.mp r];rfl
 | bl b=>cases h;rw[X3.mp r];rfl
 | int i=>cases h;rw[A7.mp r];rfl
 | str x=>
  cases h;obtain⟨f,e⟩:=dz.mp r;rw[f];refine⟨e,?_⟩;show(x.cps.size != 0)=(((x.cps.size:Nat):Int) != 0);cases x.cps.size with
  | zero=>rfl
  | succ n=>simp only[bne,Nat.add_eq_zero_iff];rw[iY];simp;omega
 | tup j=>
  cases h;obtain⟨a,c,f,e,g⟩:=E7.mp r;rw[f];refine .inr (.inl ⟨c,e,?_⟩);have:=g.length;cases c<;>cases j<;>first | rfl | cases this
 | lst j=>
  cases h;obtain⟨a,c,f,e,g⟩:=K5.mp r;rw[f];refine .inl ⟨c,SqL.of e,?_⟩;have:=g.length;cases c<;>cases j<;>first | rfl | cases this
 | dct _ _=>cases h
 | dcl _ _=>cases h
 | fn _=>cases h
 | lam _ _=>cases h
 | scr _=>cases h
def BV(g:∀q,c=some q->PE X e JN)(f:∀a,isTrue e X.env a=(do let v ←a;standAt e.pos;holding [v] (truthy v)))(h:tstD c=some r):PT X e (dT X.D δ r):=by
 cases b:c with
 | none=>rw[b]at h;cases h
 | some q=>
  rw[b]at h;have A:=g q b;cases q with
  | ok d cl=>
   obtain⟨k,l,j⟩:=B3.mp (h);cases j;exact(xR A f).weak λ σ H Q ⟨O,W,R,p⟩=>⟨O,W,R,λ x m s1 i=>⟨k,bH l (i.all (R.hid.mono s1)),p m s1⟩⟩
def BW(j:PE X a f):PE X (.UnaryOp .Not a pos) (tUn (λ x H Q=>∃k,TruV X.K x H k/\Q (.bl (!k)) H) f):=by
 intro c s e H Q I h;refine UnaryOp_ (thn (j c s e H _ I h) λ v s1 t0=>?_);obtain⟨x,g,o,i,d⟩:=t0;obtain⟨k,t,d⟩:=d;exact not_of (thn (fG c s1 e g x v (λ b q=>b=k/\q=g) o i ⟨k,t,rfl,rfl⟩) λ b s2 ⟨p,n,m,l⟩=>by
  subst m l;exact⟨.bl (!b),p,n,rfl,d⟩)
def BX(e:∀q,d=some q->PE X a JN)(h:(Re.thn d λ x _=>(L3 x).map λ k=>.ok (.bl (!k)) .strong)=some c):PE X (.UnaryOp .Not a pos) (dE X.D δ c):=
 Bj (λ _=>BW) e h λ O W H0 H x Q dx cx σ k hd f p=>by obtain⟨b,i,g⟩:=B3.mp k;cases g;exact⟨b,bH i (f.all hd),p _ H (Same.refl H) aD⟩
def rQ{X:Cx}{a b:Jp}{es:on Jp}{pos:Pos}{ta tb:TE}(ha:PE X a ta)(hb:PE X (.BoolOp .And (b::es) pos) tb):PE X (.BoolOp .And (a::b::es) pos) (λ σ H Q=>ta σ H λ x H1=>∃k,TruV X.K x H1 k/\if k=true then tb σ H1 Q else Q x H1):=by
 intro pins s σ H Q I h;refine BoolOp_and (thn (ha pins s σ H _ I h) λ v s1 ⟨x,H1,I1,r1,q1⟩=>?_);obtain⟨k,t,q1⟩:=q1;refine thn (fG pins s1 σ H1 x v (λ b H'=>b=k/\H'=H1) I1 r1 ⟨k,t,rfl,rfl⟩) λ c s2 ⟨H2,I2,e1,e2⟩=>?_
 subst e1 e2;cases c with
 | true=>exact hb pins s2 σ H2 Q I2 q1
 | false=>exact⟨x,H2,I2,r1,q1⟩
def rR(p:PE X a i)(o:PE X (.BoolOp .Or (b::es) pos) tb):PE X (.BoolOp .Or (a::b::es) pos) (λ e H Q=>i e H λ x f=>∃k,TruV X.K x f k/\if k=true then Q x f else tb e f Q):=by
 intro d s e H Q I h;refine BoolOp_or (thn (p d s e H _ I h) λ v s1 t0=>?_);obtain⟨x,f,u,j,g⟩:=t0;obtain⟨k,t,g⟩:=g;refine thn (fG d s1 e f x v (λ b w=>b=k/\w=f) u j ⟨k,t,rfl,rfl⟩) λ c n t0=>?_;obtain⟨m,l,r,q⟩:=t0
 subst r q;cases c with
 | false=>exact o d n e m Q l g
 | true=>exact⟨x,m,l,j,g⟩
def BY(o:∀q,k=some q->PE X a JN)(n:∀q,j=some q->PE X (.BoolOp .And (b::es) pos) JN)(h:(Re.thn k λ x c=>andD x c j)=some g):PE X (.BoolOp .And (a::b::es) pos) (dE X.D δ g):=by
 cases e:k with
 | none=>rw[e]at h;cases h
 | some q=>
  rw[e]at h;have A:=o q e;cases q with
  | ok d cl=>
   have f:andD d cl j=some g:=h;unfold andD at f;split at f
   ·cases f
   ·rename_i t;exact(rQ A (n g f)).weak λ m H Q ⟨O,W,R,p⟩=>⟨O,W,R,λ x l s1 i=>⟨true,bH t (i.all (R.hid.mono s1)),iteT ⟨O,W,R.mono s1,p.later s1 s1⟩⟩⟩
   ·rename_i t;cases f;exact(rQ A dD).weak λ m H Q ⟨O,W,R,p⟩=>⟨O,W,R,λ x l s1 i=>⟨false,bH t (i.all (R.hid.mono s1)),iteF (p _ l s1 i)⟩⟩
def BZ(o:∀q,k=some q->PE X a JN)(n:∀q,j=some q->PE X (.BoolOp .Or (b::es) pos) JN)(h:(Re.thn k λ x c=>orD x c j)=some g):PE X (.BoolOp .Or (a::b::es) pos) (dE X.D δ g):=by
 cases e:k with
 | none=>rw[e]at h;cases h
 | some q=>
  rw[e]at h;have A:=o q e;cases q with
  | ok d cl=>
   have f:orD d cl j=some g:=h;unfold orD at f;split at f
   ·cases f
   ·rename_i t;cases f;exact(rR A dD).weak λ m H Q ⟨O,W,R,p⟩=>⟨O,W,R,λ x l s1 i=>⟨true,bH t (i.all (R.hid.mono s1)),iteT (p _ l s1 i)⟩⟩
   ·rename_i t;exact(rR A (n g f)).weak λ m H Q ⟨O,W,R,p⟩=>⟨O,W,R,λ x l s1 i=>⟨false,bH t (i.all (R.hid.mono s1)),iteF ⟨O,W,R.mono s1,p.later s1 s1⟩⟩⟩
def li(h:tstD (Re.thn b k)=some r):∃d c,b=some (.ok d c)/\tstD (k d c)=some r:=by
 cases a:b with
 | none=>rw[a]at h;cases h
 | some q=>
  rw[a]at h;cases q with
  | ok d c=>exact⟨d,c,rfl,h⟩
def rT(h:tstD (some (.ok d c))=some r):∃k,L3 d=some k/\r=.ok k:=by
 obtain⟨k,b,a⟩:=B3.mp (h);exact⟨k,b,a.symm⟩
def Ca(f:∀q,tstD e=some q->PT X a (dT X.D δ q))(h:tstD (Re.thn e λ x _=>(L3 x).map λ k=>.ok (.bl (!k)) .strong)=some r):PT X (.UnaryOp .Not a pos) (dT X.D δ r):=by
 obtain⟨d,c,g,b⟩:=li h
 ·cases t:L3 d with
  | none=>rw[t]at b;cases b
  | some k=>
   rw[t]at b;cases b;have A:=f _ (by rw[g];show(L3 d).map Rt.ok=_;rw[t];rfl);exact(jw A).weak λ σ H Q ⟨O,W,R,p⟩=>⟨O,W,R,λ i s1=>p i s1⟩
def Cb(n:∀q,tstD i=some q->PT X a (dT X.D δ q))(m:∀q,tstD g=some q->PW X (.BoolOp .And (b::es) pos) (dT X.D δ q))(h:tstD (Re.thn i λ x c=>andD x c g)=some r):PW X (.BoolOp .And (a::b::es) pos) (dT X.D δ r):=by
 obtain⟨d,c,o,e⟩:=li h
 ·unfold andD at e;cases t:L3 d with
  | none=>rw[t]at e;cases e
  | some k=>
   rw[t]at e;have A:=n _ (by rw[o];show(L3 d).map Rt.ok=_;rw[t];rfl);cases k with
   | true=>exact(oh A (m r e)).weak λ l H Q ⟨O,W,R,p⟩=>⟨O,W,R,λ j s1=>iteT ⟨O,W,R.mono s1,p.later s1⟩⟩
   | false=>
    obtain⟨k,f,rfl⟩:=rT e;rw[t]at f;cases f;exact(oh A ro).weak λ l H Q ⟨O,W,R,p⟩=>⟨O,W,R,λ j s1=>iteF (p j s1)⟩
def Cc(n:∀q,tstD i=some q->PT X a (dT X.D δ q))(m:∀q,tstD g=some q->PW X (.BoolOp .Or (b::es) pos) (dT X.D δ q))(h:tstD (Re.thn i λ x c=>orD x c g)=some r):PW X (.BoolOp .Or (a::b::es) pos) (dT X.D δ r):=by
 obtain⟨d,c,o,e⟩:=li h
 ·unfold orD at e;cases t:L3 d with
  | none=>rw[t]at e;cases e
  | some k=>
   rw[t]at e;have A:=n _ (by rw[o];show(L3 d).map Rt.ok=_;rw[t];rfl);cases k with
   | false=>exact(fD A (m r e)).weak λ l H Q ⟨O,W,R,p⟩=>⟨O,W,R,λ j s1=>iteF ⟨O,W,R.mono s1,p.later s1⟩⟩
   | true=>
    obtain⟨k,f,rfl⟩:=rT e;rw[t]at f;cases f;exact(fD A ro).weak λ l H Q ⟨O,W,R,p⟩=>⟨O,W,R,λ j s1=>iteT (p j s1)⟩
def rV(l:PT X c g)(n:PT X a t)(m:PT X b u):PT X (.IfExp c a b pos) (λ e H Q=>g e H λ k f=>if k=true then t e f Q else u e f Q):=by
 intro d s e H Q I h;refine isTrue_IfExp (thn (l d s e H _ I h) λ k s1 t0=>?_);obtain⟨f,j,i⟩:=t0;cases k with
 | true=>exact n d s1 e f Q j i
 | false=>exact m d s1 e f Q j i
def Cd(i:∀q,e=some q->PT X c (dT X.D δ q))(l:∀q,tstD f=some q->PT X a (dT X.D δ q))(j:∀q,tstD rb=some q->PT X b (dT X.D δ q))(h:tstD (Rt.thn e λ k=>if k then f else rb)=some r):PT X (.IfExp c a b pos) (dT X.D δ r):=by
 cases d:e with
 | none=>rw[d]at h;cases h
 | some q=>
  rw[d]at h;have C:=i q d;cases q with
  | ok k=>
   cases k with
   | true=>exact(rV C (l r h) rq).weak λ g H Q ⟨O,W,R,p⟩=>⟨O,W,R,λ m s1=>iteT ⟨O,W,R.mono s1,p.later s1⟩⟩
   | false=>exact(rV C rq (j r h)).weak λ g H Q ⟨O,W,R,p⟩=>⟨O,W,R,λ m s1=>iteF ⟨O,W,R.mono s1,p.later s1⟩⟩
def Cf(l:∀q,f=some q->PT X c (dT X.D δ q))(n:∀q,rb=some q->PE X a JN)(m:∀q,i=some q->PE X b JN)
  (h:(Rt.thn f λ k=>if k then rb else i)=some e):PE X (.IfExp c a b pos) (dE X.D δ e):=by
 cases d:f with
 | none=>rw[d]at h;cases h
 | some q=>
  rw[d]at h;have C:=l q d;cases q with
  | ok k=>
   cases k with
   | true=>
    have g:=h;exact(ol C (n e g) dD).weak λ j H Q ⟨O,W,R,p⟩=>⟨O,W,R,λ o s1=>iteT ⟨O,W,R.mono s1,p.later s1 s1⟩⟩
   | false=>
    have g:=h;exact(ol C dD (m e g)).weak λ j H Q ⟨O,W,R,p⟩=>⟨O,W,R,λ o s1=>iteF ⟨O,W,R.mono s1,p.later s1 s1⟩⟩
def z9(h:t9 e=false):starEach (e::es) env=(false,eval e env)::starEach es env:=by
 cases e<;>first | rfl | cases h
def Cg:PA X [] (dA X.D δ (.ok [])):=S5.weak λ σ H Q ⟨O,W,R,p⟩=>p [] H (Same.refl H) .nil
def Ch(i:t9 e=false)(k:∀q,g=some q->PE X e JN)(j:∀q,f=some q->PA X es (dA X.D δ q))
  (h:(match(generalizing:=false) g with | none=>none | some (.ok d c)=>(match(generalizing:=false) f with | none=>none | some (.ok l)=>some (.ok ((d,c)::l))))=some q):PA X (e::es) (dA X.D δ q):=by
 cases b:g with
 | none=>rw[b]at h;cases h
 | some z=>
  rw[b]at h;have A:=k z b;cases z with
  | ok d cl=>
   cases a:f with
   | none=>rw[a]at h;cases h
   | some y=>
    rw[a]at h;have B:=j y a;cases y with
    | ok l=>
     cases h;exact(M7 A B (z9 i)).weak λ σ H Q ⟨O,W,R,p⟩=>⟨O,W,R,λ x H1 s1 n=>⟨O,W,R.mono s1,λ vs o s2 m=>p _ o (s1.trans s2) (.cons (n.mono s2) (m.since s1))⟩⟩
def Ci(d:∀q,b=some q->PA X es (dA X.D δ q))(h:(Rs.thn b λ l=>if l.length<=n5 then some (.ok (.lst (l.map (·.1))) (if stros l then .fresh else .weak))else none)=some c):PE X (.List es pos) (dE X.D δ c):=
 dF (λ _=>xU) d h λ O W H0 H vs Q l σ k hd g p=>by
  split at k
  ·rename_i m;cases k;refine⟨by rw[g.length];exact S8 m,λ q a=>p _ _ (v9 a) ?_⟩;by_cases z:stros l=true
   ·rw[f8 z];exact V5 hd a (g.stros hd z)
   ·rw[g9 z];exact kB hd a (g.repL hd)
  ·cases k
def Cj{X:Cx}{δ:on Sv}{es:on Jp}{pos:Pos}{re:Re}{rs:Jk Rs}{x1:Nat}(ha:∀q,rs=some q->PA X es (dA X.D δ q))(h:(Rs.thn rs λ l=>if l.length<=n5 then some (.ok (.tup (l.map (·.1))) (if stros l then .strong else .weak))else none)=some re):PE X (.Tuple es x1 pos) (dE X.D δ re):=
 dF (r:=λ vs H Q=>vs.length<=sizeLine/\∀p,H p=none->Q (.ref p) (upd H p (.tup vs))) (λ _=>jC) ha h λ O W H0 H vs Q l σ k hd g p=>by
  split at k
  ·rename_i m;cases k;refine⟨by rw[g.length];exact S8 m,λ q hq=>p _ _ (v9 hq) ?_⟩;by_cases z:stros l=true
   ·rw[f8 z];exact dC hd hq (g.stros hd z)
   ·rw[g9 z];exact kC hd hq (g.repL hd)
  ·cases k
def GotR(D:Dm)(O:on Jn)(H0 H:Hp)(d:DV)(fr:Bool)(v:V):Prop:=match fr with
 | false=>Rep D (L2.wo O H) d v
 | true=>∃p xs ds,v=.ref p/\d=.lst ds/\H0 p=none/\H p=some (.lst xs)/\RepL D (L2.wo (p::O) H) ds xs
def spF(D:Dm)(n:Nat)(f:on DV->Jk Ou):Sp:=λ vs H Q E=>∃O ds o,Hdn O H/\ds.length=n/\RepL D (L2.wo O H) ds vs/\f ds=some o /\
 (match o with | .v d fr=>∀v H',Same H H'->GotR D O H H' d fr v->Q v H')
def Ck{ps:on Str}{j:St->Hp->Prop}(M:∀ds o,F f ds=some o->ds.length=ps.length)(C:∀q,n=some q->PA X U (dA X.D δ q)->PE X S (λ σ H Q=>j σ H/\oK (spF X.D ps.length (F f)) [] E0 (dA X.D δ q) σ H Q))(E:∀σ H O W,RSt X.D H σ δ O W->j σ H)(I:∀q,n=some q->PA X U (dA X.D δ q))
  (h:(Rs.thn n λ l=>V1 F f l)=some B):PE X S (dE X.D δ B):=by
 cases c:n with
 | none=>rw[c]at h;cases h
 | some q=>
  rw[c]at h;have A:=I q c
  replace C:=C q c
  cases q with
  | ok l=>
   have r:V1 F f l=some B:=h;unfold V1 at r;split at r
   ·cases r
   ·rename_i d P i;cases r;refine(C A).weak λ σ H Q ⟨O,W,R,p⟩=>⟨E _ _ _ _ R,O,W,R,λ vs Z s1 N=>?_⟩
    have hd:=R.hid.mono s1;show spF X.D ps.length (F f) _ Z Q E0;rw[C8];by_cases z:(l.all λ p=>p.2 == .strong||p.2 == .fresh)=true
    ·rw[f8 z]at p;refine⟨O++W,_,_,hd.hdA,M _ _ i,N.strong hd z,i,λ v K s g=>p v K (s1.trans s) ?_⟩;cases P with
     | false=>exact g
     | true=>
      obtain⟨q,k,ds,i,J,x,w,u⟩:=g;exact⟨q,k,ds,i,J,s1.free x,w,u⟩
    ·rw[g9 z]at p;refine⟨O,_,_,hd.hdO,M _ _ i,N.repL hd,i,λ v K s g=>p v K (s1.trans s) ?_⟩;cases P with
     | false=>exact g
     | true=>
      obtain⟨q,k,ds,L,J,x,w,u⟩:=g;subst J;rw[cJ];cases y:imL (.lst ds)with
      | true=>exact⟨q,k,ds,L,rfl,s1.free x,w,RepL.immut (λ a I=>by obtain⟨o,e,m⟩:=hd.wl a I;exact⟨o,s _ _ (hd.same _ _ e),m⟩) y u⟩
      | false=>
       exact K5.mpr ⟨q,k,L,by rw[j9 (λ z=>hd.ot q (C6 _ z) (s1.free x))];exact w,u.mono (J7 λ b Y=>o4 _ Y)⟩
def Cm(fo:FnOk X.prog X.w X.K X.mg X.base CX0 k c fd ps (spF X.D ps.length (F f)))(n:∀ds o,F f ds=some o->ds.length=ps.length)(m:Room k X.A)(u:Gl X x)(r:X.mg x=some (.ref c))(s:PySem.W.keepIn X.K (.ref c)=true)
  (v:P8 X.K fd ps []) (w:∀q,d=some q->PA X (e::es) (dA X.D δ q)) (b:(x==("__debug__" : Str))=false) (j:t9 e=false) (a:es.any t9=false)
  (h:(Rs.thn d λ l=>V1 F f l)=some g):PE X (.Call (.Name x p) (e::es) [] pos) (dE X.D δ g):=by
 have plain:∀(es:on Jp),es.any t9=false->(backTo pos (starEach es X.env)).any (·.1)=false:=by
  intro es
  induction es with
  | nil=>intro _;rfl
  | cons y ys i=>
   intro q;rw[G1,N6]at q;rw[z9 q.1];show(false||(backTo pos _).any (·.1))=false;rw[i q.2];rfl
 exact Ck n (λ t _ z=>(xW fo m u r s v .nil yJ z b (z9 j) (plain es a)).weak λ σ H Q h=>h.2) (λ _ _ _ _ _=>trivial) w h
section
variable {X:Cx} {δ:on Sv} {e:Jp} {es:on Jp} {pos p:Pos} {re:Re} {rs:Jk Rs}
theorem dH:∀(es:on Jp),es.any t9=false->(backTo pos (starEach es env)).any (·.1)=false
 | [],_=>rfl
 | y::a,q=>by rw[G1,N6]at q;rw[z9 q.1];show(false||(backTo pos _).any (·.1))=false;rw[dH a q.2];rfl
noncomputable def biR(X:Cx)(k:on (DV×Cl)->Jk Re):on V->Hp->VK->Prop:=λ vs H Q=>∃l re O W H0,k l=some re/\Hid O W H0 H/\GotL X.D O W H0 H l vs/\∃d c,re=.ok d c/\∀v H',Same H H'->Got X.D O W H0 H' d c v->Q v H'
def dJ(r:C9 X (.builtin f) (biR X k))(o:Gl X x)(m:X.mg x=none)(hv:bootBuiltins x=some (.builtin f))(j:x ≠ "__name__")(b:(x==("__debug__" : Str))=false)
  (s:∀q,rs=some q->PA X (e::es) (dA X.D δ q)) (i:t9 e=false) (a:es.any t9=false) (h:Rs.thn rs k=some re):PE X (.Call (.Name x p) (e::es) [] pos) (dE X.D δ re):=
 dF (λ _ u=>fH r o m hv u j b (z9 i) (dH es a)) s h λ O W v H vs Q l σ n hd g p=>by obtain⟨d,c⟩:=re;exact⟨l,_,O,W,v,n,hd,g,d,c,rfl,p⟩
def rW(o:C9 X (.type T) (biR X k))(n:Gl X x)(j:X.mg x=none)(hv:bootBuiltins x=some (.type T))(i:x ≠ "__name__")(b:(x==("__debug__" : Str))=false)
  (r:∀q,rs=some q->PA X (e::es) (dA X.D δ q)) (f:t9 e=false) (a:es.any t9=false) (h:Rs.thn rs k=some re):PE X (.Call (.Name x p) (e::es) [] pos) (dE X.D δ re):=
 dF (λ _ s=>oR o n j hv s i b (z9 f) (dH es a)) r h λ O W u H vs Q l σ m hd g p=>by obtain⟨d,c⟩:=re;exact⟨l,_,O,W,u,m,hd,g,d,c,rfl,p⟩
theorem gI:∀{ds:on DV} {b:on Int} {a:on V},ints? ds=some b->RepL D H ds a->a=b.map V.int
 | [],b,a,h,r=>by cases h;exact B9.mp r
 | .int i::ds,b,a,h,r=>by obtain⟨ms,g,f⟩:=B3.mp h;obtain⟨v,vs,e,d,c⟩:=v5.mp r;rw[←f,e,A0,A7.mp d,(gI g c)]
 | .non::ds,b,a,h,_=>by cases h
 | .bl _::ds,b,a,h,_=>by cases h
 | .str _::ds,b,a,h,_=>by cases h
 | .tup _::ds,b,a,h,_=>by cases h
 | .lst _::ds,b,a,h,_=>by cases h
 | .dct _ _::ds,b,a,h,_=>by cases h
 | .dcl _ _::ds,b,a,h,_=>by cases h
 | .fn _::ds,b,a,h,_=>by cases h
 | .lam _ _::ds,b,a,h,_=>by cases h
 | .scr _::ds,b,a,h,_=>by cases h
theorem rX:∀(r:on Int) (m:Int),(maxI m r=m\/maxI m r∈r)/\m<=maxI m r/\∀x∈r,x<=maxI m r
 | [],m=>⟨.inl rfl,U7 _,λ x h=>by cases h⟩
 | y::r,m=>by
  obtain⟨c,b,a⟩:=rX r (if m<y then y else m);unfold maxI;by_cases q:m<y
  ·rw[f8 q]at c b a ⊢;refine⟨.inr ?_,by omega,λ x d=>?_⟩
   ·rcases c with z | z
    ·rw[z];exact o6 ..
    ·exact o4 _ z
   ·rcases j0.mp d with z | z
    ·rw[z];exact b
    ·exact a x z
  ·rw[g9 q]at c b a ⊢;refine⟨c.imp id (o4 _),b,λ x d=>?_⟩;rcases j0.mp d with z | z
   ·rw[z];omega
   ·exact a x z
def Cn(g:M∈n::r)(d:∀x∈n::r,x<=M):M=maxI n r:=by
 obtain⟨a,b,c⟩:=rX r n;have e:=d _ (a.elim (λ z=>by rw[z];exact o6 ..) (o4 _));have f:M<=maxI n r:=by
  rcases j0.mp g with z | z
  ·rw[z];exact b
  ·exact c M z
 omega
theorem lj(x:Int):∀l:on Int,(insI x l).Perm (x::l)
 | []=>.rfl
 | y::r=>by
  unfold insI;split
  ·exact .rfl
  ·exact(List.Perm.cons y (lj x r)).trans (List.Perm.swap x y r)
theorem rY:∀l:on Int,(L4 l).Perm l
 | []=>.rfl
 | x::r=>(lj x _).trans (List.Perm.cons x (rY r))
theorem rZ(x:Int):∀{l:on Int},l.Pairwise (· <= ·)->(insI x l).Pairwise (· <= ·)
 | [],_=>List.pairwise_singleton _ _
 | y::r,h=>by
  obtain⟨b,c⟩:=K9.mp h;unfold insI;split
  ·rename_i q;refine K9.mpr ⟨λ z a=>?_,h⟩;rcases j0.mp a with e | e
   ·omega
   ·have:=b z e;omega
  ·rename_i q;refine K9.mpr ⟨λ z a=>?_,rZ x c⟩;rcases j0.mp ((lj x r).mem_iff.mp a)with e | e
   ·omega
   ·exact b z e
theorem se:∀l:on Int,(L4 l).Pairwise (· <= ·)
 | []=>.nil
 | x::r=>rZ x (se r)
theorem sh:∀{a b:on Int},a.Perm b->a.Pairwise (· <= ·)->b.Pairwise (· <= ·)->a=b
 | [],b,p,_,_=>(List.Perm.nil_eq p)
 | x::a,b,p,f,d=>by
  cases b with
  | nil=>exact absurd p.length_eq JK
  | cons y b=>
   obtain⟨j,i⟩:=K9.mp f;obtain⟨h,g⟩:=K9.mp d;have e:x=y:=by
    rcases j0.mp (p.mem_iff.mp (o6)) with z | z
    ·exact z
    ·rcases j0.mp (p.mem_iff.mpr (o6)) with c | c
     ·exact c.symm
     ·have:=j y c;have:=h x z;omega
   subst e;rw[sh (List.Perm.cons_inv p) i g]
def Co:C9 X (.builtin "len") (biR X lenD):=by
 intro b s k H xs n Q I r h;obtain⟨l,re,O,W,H0,e,o,g,d,c,rfl,p⟩:=h;unfold lenD at e;split at e
 ·cases e;obtain⟨v,rfl,f⟩:=g.one;obtain⟨a,m,j,i,q⟩:=f.lst o;exact jG b s k H _ n Q I r ⟨a,m,by rw[j],.inl (SqL.of i),by rw[q.length];exact p _ H (Same.refl H) K6⟩
 ·cases e;obtain⟨v,rfl,f⟩:=g.one;obtain⟨a,m,j,i,q⟩:=f.tup o;exact jG b s k H _ n Q I r ⟨a,m,by rw[j],.inr i,by rw[q.length];exact p _ H (Same.refl H) K6⟩
 ·cases e;obtain⟨v,rfl,f⟩:=g.one;obtain⟨a,j,i⟩:=V4.mp (f.all o);exact jG b s k H _ n Q I r ⟨a,_,by rw[j],.inl i.sq,by rw[i0];exact p _ H (Same.refl H) K6⟩
 ·cases e
theorem si:∀{ds:on DV} {ps:on (Int×Int×Int×Int)} {e:on V},quads? ds=some ps->RepL D H ds e->QdsV D.K H e ps
 | [],ps,e,h,r=>by cases h;rw[B9.mp r];exact trivial
 | d0::ds,ps,e,h,r=>by
  unfold quads? at h;split at h
  ·rename_i q;cases q
  ·rename_i a b c d r' q;cases q;obtain⟨ms,F,E⟩:=B3.mp h;obtain⟨v,vs,C,B,A⟩:=v5.mp r;obtain⟨I,ys,z,j,y⟩:=E7.mp B;obtain⟨v1,l1,x,w,u⟩:=v5.mp y;obtain⟨v2,l2,p,o,n⟩:=v5.mp u;obtain⟨v3,l3,m,l,k⟩:=v5.mp n;obtain⟨v4,l4,i,g,f⟩:=v5.mp k;rw[←E,C];refine⟨⟨I,z,?_⟩,(si F A)⟩;rw[x,p,m,i,B9.mp f,A7.mp w,A7.mp o,A7.mp l,A7.mp g]at j;exact j
  ·cases h
theorem QdsV.le{K:Jw}(e:Same H b):∀{vs:on V} {ps:on (Int×Int×Int×Int)},QdsV K H vs ps->QdsV K b vs ps
 | [],[],_=>trivial
 | _::_,_::_,x=>by obtain⟨⟨a,f,d⟩,c⟩:=x;exact⟨⟨a,f,e.tseq d⟩,c.le e⟩
 | [],_::_,x=>x.elim
 | _::_,[],x=>x.elim
def Cp(j:X.calm=true)(hu:X.A.units+1<cLine):C9 X (.builtin "min") (biR X minD):=by
 intro a s f H xs i Q I r h;obtain⟨l,re,O,W,H0,b,hd,g,d,c,rfl,p⟩:=h;unfold minD at b;split at b
 ·cases b;obtain⟨v,v',rfl,k,e⟩:=g.two;exact xT j a s f H _ i Q I r ⟨_,_,by rw[k.int hd,e.int hd],p _ H (Same.refl H) K6⟩
 ·cases b
def Cq(m:X.calm=true):C9 X (.builtin "max") (biR X maxD):=by
 intro b s j H xs k Q I r h;obtain⟨l,re,O,W,H0,e,hd,g,d,c,rfl,p⟩:=h;unfold maxD at e;split at e
 ·cases e;obtain⟨v,v',rfl,i,f⟩:=g.two;exact xS m b s j H _ k Q I r ⟨_,_,by rw[i.int hd,f.int hd],p _ H (Same.refl H) K6⟩
 ·split at e
  ·rename_i n o u;cases e;obtain⟨v,rfl,i⟩:=g.one;obtain⟨a,ys,z,y,x⟩:=i.lst hd;have w:=gI u x;subst w;exact zW m b s j H _ k Q I r ⟨a,n::o,by rw[z],SqL.of y,by simp,λ M q m2=>by rw[Cn q m2];exact p _ H (Same.refl H) K6⟩
  ·cases e
 ·cases e
def Cr(o:X.calm=true):C9 X (.builtin "sum") (biR X sumD):=by
 intro b s i H xs j Q I r h;obtain⟨l,re,O,W,H0,f,n,g,d,c,rfl,p⟩:=h;unfold sumD at f;split at f
 ·obtain⟨k,m,e⟩:=B3.mp f;cases e;obtain⟨v,rfl,q⟩:=g.one;obtain⟨a,ys,y,x,w⟩:=q.lst n;have u:=gI m w;subst u;exact Aj o b s i H _ j Q I r ⟨a,k,by rw[y],SqL.of x,p _ H (Same.refl H) K6⟩
 ·cases f
def Cs:bootBuiltins "sum" = some (.builtin "sum"):=by decide +kernel
def sj:bootBuiltins "sorted" = some (.builtin "sorted"):=by decide +kernel
def Cu:bootBuiltins "set" = some (.type "set"):=by decide +kernel
def Cv{p':Pos}{pos':Pos}(hc:X.calm=true)(hg:Gl X "sorted")(hm:X.mg "sorted" = none)(hg':Gl X "set")(hm':X.mg "set" = none)
  (ha:∀q,rs=some q->PA X [e] (dA X.D δ q)) (hs:t9 e=false) (h:Rs.thn rs fM=some re):PE X (.Call (.Name "sorted" p) [.Call (.Name "set" p') [e] [] pos'] [] pos) (dE X.D δ re):=
 dF (r:=λ vs H Q=>(∃(a:Jn) (ns:on Int),vs=[.ref a]/\SqL X.K H a (ns.map V.int)/\ns.length<4000/\∀p,H p=none->∃(p1:Jn) (ks:on Int),[V.ref p]=[.ref p1]/\upd H p (setO X.prog X.w p (ns.foldl dk [])) p1=some (setO X.prog X.w p1 ks)/\ks.length<64 /\
   ∀(q:Jn) (ms:on Int),upd H p (setO X.prog X.w p (ns.foldl dk [])) q=none->ms.Perm ks->ms.Pairwise (· <= ·)->Q (.ref q) (upd (upd H p (setO X.prog X.w p (ns.foldl dk []))) q (.lst (ms.map V.int)))))
  (λ t hA=>by
   have q1:=oR (p:=p') (pos:=pos') (Aa hc) hg' hm' Cu hA JD JD (z9 hs) rfl;have q2:=fH (p:=p) (pos:=pos) (Ab hc) hg hm sj (M7 q1 S5) JD JD rfl rfl;exact q2.weak λ σ H Q h=>h) ha h λ O W H0 H vs Q l σ hl hd g pp=>by
  unfold fM at hl;split at hl
  ·split at hl
   ·rename_i ds c ns hq;split at hl
    ·rename_i hb;cases hl;obtain⟨v,rfl,gv⟩:=g.one;obtain⟨a,ys,e1,e2,e3⟩:=gv.lst hd;have e4:=gI hq e3;subst e4;refine⟨a,ns,by rw[e1],SqL.of e2,hb.1,λ p1 hp1=>⟨p1,_,rfl,z8,hb.2,λ q ms hq1 pm pw=>?_⟩⟩;have e5:ms=L4 (ns.foldl dk []):=sh (pm.trans (rY _).symm) pw (se _);subst e5;have s1:Same H (upd H p1 (setO X.prog X.w p1 (ns.foldl dk []))):=v9 hp1;exact pp _ _ (s1.trans (v9 hq1)) (V5 (hd.mono s1) hq1 (bC _))
    ·cases hl
   ·cases hl
  ·cases hl
def Cw:C9 X (.type "list") (biR X jQ):=by
 intro b s n H xs u Q I r h;obtain⟨l,re,O,W,H0,i,f,g,d,c,rfl,p⟩:=h;unfold jQ at i;split at i
 ·cases i;obtain⟨v,rfl,j⟩:=g.one;obtain⟨a,m,k⟩:=V4.mp (j.all f);exact jH b s n H _ u Q I r ⟨a,_,by rw[m],.inl k.sq,λ q e=>p _ _ (v9 e) (V5 f e (bC _))⟩
 ·cases i;obtain⟨v,rfl,j⟩:=g.one;obtain⟨a,o,m,k,w⟩:=j.lstC f;exact jH b s n H _ u Q I r ⟨a,o,by rw[m],.inl (SqL.of k),λ q e=>p _ _ (v9 e) (bE f e w)⟩
 ·cases i;obtain⟨v,rfl,j⟩:=g.one;obtain⟨a,o,m,k,w⟩:=j.tupC f;exact jH b s n H _ u Q I r ⟨a,o,by rw[m],.inr k,λ q e=>p _ _ (v9 e) (bE f e w)⟩
 ·cases i
def Cy:C9 X (.builtin "sorted") (biR X jP):=by
 intro e s j H xs n Q I r h;obtain⟨l,re,O,W,H0,b,hd,g,d,c,rfl,p⟩:=h;unfold jP at b;split at b
 ·split at b
  ·rename_i ps f;split at b
   ·rename_i m;cases b;obtain⟨v,rfl,o⟩:=g.one;obtain⟨a,k,w,u,i⟩:=o.lstC hd;exact Ai e s j H _ n Q I r ⟨a,k,ps,by rw[w],SqL.of u,(si f i).le A2,m.1,m.2,λ q f=>p _ _ (v9 f) (bE hd f i)⟩
   ·cases b
  ·cases b
 ·cases b
def Cz:C9 X (.type "tuple") (biR X jR):=by
 intro b s n H xs o Q I r h;obtain⟨l,re,O,W,H0,e,i,g,d,c,rfl,p⟩:=h;unfold jR at e;split at e
 ·cases e;obtain⟨v,rfl,j⟩:=g.one;obtain⟨a,f,m,k,w⟩:=j.lstC i;exact pj b s n H _ o Q I r ⟨a,f,by rw[m],.inl ⟨SqL.of k,λ q u=>p _ _ (v9 u) (rh i u w)⟩⟩
 ·cases e;obtain⟨v,rfl,j⟩:=g.one;obtain⟨a,f,m,k,w⟩:=j.tupC i;exact pj b s n H _ o Q I r ⟨a,f,by rw[m],.inr ⟨k,p _ _ (Same.refl H) (by grind)⟩⟩
 ·cases e
end
noncomputable def tyS:DV->Jk JB
 | .non=>some "NoneType" | .bl _=>some "bool" | .int _=>some "int" | .str _=>some "str" | .tup _=>some "tuple" | .lst _=>some "list" | .dct _ _=>some "dict"
 | _=>none
noncomputable def so(T t:JB):Jk Bool:=if(Value.type T==Value.type t)=true then some true else if PySem.W.kitMeta t=true then(fastBuiltinMro T).map (·.contains (.type t))else none
def CA:(["NoneType","bool","int","str","tuple","list","dict"]:on JB).all (λ T=>(["int","bool","str","list","tuple","dict"]:on JB).all λ t=>so T t==some (T==t||(T == "bool" && t == "int")))=true:=by decide +kernel
def aF{K:Jw}(T t:JB)(b:T∈["NoneType","bool","int","str","tuple","list","dict"])(a:t∈["int","bool","str","list","tuple","dict"]) :
  PySem.W.kitOne K (.type T) (.type t)=some (T==t||(T == "bool" && t == "int")):=by
 exact(show so T t=_ from by simpa using (G8.mp (G8.mp CA T b) t a))
section
variable {X:Cx} {δ:on Sv} {e e':Jp} {pos p p':Pos} {re:Re} {ra:Jk Re}
def CB(I:JI f)(r:Rep X.D H d v)(c:RelV v u)(e:tyS d=some T)(ht:t∈["int","bool","str","list","tuple","dict"])
  (h:∀tk,Q (.bool (T==t||(T == "bool" && t == "int"))) {s with toks:=tk}):wpAny JG X.A (call (.builtin "isinstance") [u,.type t]) Q y s:=by
 cases d with
 | non=>cases e;rw[V3.mp r]at c;cases c;exact af PySem.W.kitx_none I.kIn True.intro (aF _ _ JK ht) (λ z=>nomatch z) h
 | bl b=>cases e;rw[X3.mp r]at c;cases c;exact af PySem.W.kitx_bool I.kIn True.intro (aF _ _ JK ht) (λ z=>nomatch z) h
 | int b=>cases e;rw[A7.mp r]at c;obtain⟨tk,rfl⟩:=c;exact af PySem.W.kitx_int I.kIn True.intro (aF _ _ JK ht) (λ z=>nomatch z) h
 | str b=>cases e;rw[(dz.mp r).1]at c;obtain⟨tk,rfl⟩:=c;exact af PySem.W.kitx_str I.kIn True.intro (aF _ _ JK ht) (λ z=>nomatch z) h
 | tup x=>
  cases e;obtain⟨a,m,j,i,w⟩:=E7.mp r;rw[j]at c;cases c;obtain⟨k,_,⟨o,g,l,_⟩,_⟩:=I.tuple i;exact af PySem.W.kitx_tuple I.kIn ⟨o,g,l⟩ (aF _ _ JK ht) (λ z=>nomatch z) h
 | lst x=>
  cases e;obtain⟨a,m,j,i,w⟩:=K5.mp r;rw[j]at c;cases c;obtain⟨_,k,n,_,_,g⟩:=I.lstM i;exact af PySem.W.kitx_list I.kIn ⟨_,g,rfl⟩ (aF _ _ JK ht) (λ z=>nomatch z) h
 | dct ks vs=>
  cases e;obtain⟨a,p,q,j,i,_⟩:=aC.mp r;rw[j]at c;cases c;obtain⟨_,_,_,_,_,o,_,_,g,l,_⟩:=(show u9 X.prog X.w H s.heap a (.frz p _)from I.hok a _ i);exact af PySem.W.kitx_dict I.kIn ⟨o,g,l.1⟩ (aF _ _ JK ht) (λ z=>nomatch z) h
 | fn _=>cases e
 | dcl _ _=>cases e
 | lam _ _=>cases e
 | scr _=>cases e
def rIsi(X:Cx):on V->Hp->VK->Prop:=λ xs H Q=>∃d T t x,xs=[x,.ty t]/\Rep X.D H d x/\tyS d=some T/\t∈["int","bool","str","list","tuple","dict"]/\Q (.bl (T==t||(T == "bool" && t == "int"))) H
def CC:C9 X (.builtin "isinstance") (rIsi X):=by
 intro b s σ H xs us Q I r h;obtain⟨d,T,t,x,rfl,f,i,g,q⟩:=h;obtain⟨u,w',rfl,e,a⟩:=ap r;cases a;exact CB I f e i g λ c=>⟨.bl _,H,I.tok c,rfl,q⟩
noncomputable def bI:Str->Jk JB:=λ x=>(["int","bool","str","list","tuple","dict"]:on JB).find? λ t=>Str.ofString t==x
def sr(h:bI x=some t):bootBuiltins x=some (.type t)/\t∈["int","bool","str","list","tuple","dict"]/\Str.ofString t=x:=by
 unfold bI at h;have a:=io h;have b:Str.ofString t=x:=by simpa using (iZ h)
 refine⟨?_,a,b⟩;subst b;simp[j0,P5,P7]at a;rcases a with rfl | rfl | rfl | rfl | rfl | rfl
 ·exact boot_int
 ·exact boot_bool
 ·exact boot_str
 ·exact boot_list
 ·exact boot_tuple
 ·exact boot_dict
noncomputable def sw:JB->on Str
 | "NoneType"=>["NoneType"] | "bool"=>["bool","int"] | "int"=>["int"] | "str"=>["str"] | "tuple"=>["tuple"] | "list"=>["list"] | "dict"=>["dict"]
 | _=>[]
def CD:(["NoneType","bool","int","str","tuple","list","dict"]:on JB).all (λ T=>(["int","bool","str","list","tuple","dict"]:on JB).all λ t=>(sw T).contains (Str.ofString t)==(T==t||(T == "bool" && t == "int")))=true:=by decide +kernel
def CF(h:bI x=some t)(b:tyS d=some T):(tyOf d).contains x=(T==t||(T == "bool" && t == "int")):=by
 obtain⟨_,e,c⟩:=sr h;subst c;have a:∀T∈_,(sw T).contains _=(T==t||_):=λ T b=>by have q:=G8.mp (G8.mp CD T b) t e;simpa using q
 cases d<;>cases b
 ·exact a "NoneType" JK
 ·exact a "bool" JK
 ·exact a "int" JK
 ·exact a "str" JK
 ·exact a "tuple" JK
 ·exact a "list" JK
 ·exact a "dict" JK
def CG(m:bI x=some t)(z:Gl X "isinstance")(u:X.mg "isinstance" = none)(i:Gl X x)(g:X.mg x=none)(f:x ≠ "__name__")(j:(x==("__debug__" : Str))=false)
  (B:∀q,ra=some q->PE X e JN) (n:t9 e=false) (h:(Re.thn ra λ y _=>(isiD G y [x]).map λ k=>.ok (.bl k) .strong)=some re):PE X (.Call (.Name "isinstance" p) [e,.Name x p'] [] pos) (dE X.D δ re):=by
 obtain⟨K,l,J⟩:=sr m;have T:PE X (.Name x p') (tC (.ty t)):=nY i g K rfl f j;have C:=λ r (E:PE X e r)=>fH (p:=p) (pos:=pos) CC z u boot_isinstance (M7 E (M7 T S5) (z9 n)) JD JD (z9 n)
 cases a:ra with
 | none=>rw[a]at h;cases h
 | some q=>
  rw[a]at h;have A:=B q a;cases q with
  | ok d cl=>
   obtain⟨k,b,I⟩:=B3.mp (h);cases I;have c:∃T,tyS d=some T/\k=(tyOf d).contains x:=by
    unfold isiD at b;have s:W6.contains x=true:=by
     rw[←J];simp only[j0,P5,P7]at l;rcases l with rfl | rfl | rfl | rfl | rfl | rfl<;>decide +kernel
    cases d<;>first
     | (simp only[s,if_true]at b;cases b;exact⟨_,rfl,rfl⟩)
     | cases b
   obtain⟨T,o,w⟩:=c;exact(C _ A).weak λ σ H Q ⟨O,W,R,p⟩=>⟨O,W,R,λ v L s1 F=>⟨d,T,t,v,rfl,F.all (R.hid.mono s1),o,l,by rw[←CF m o,←w];exact p _ L s1 aD⟩⟩
end
def CH(a:Str):M6 (a ++ "<lambda>")=false:=by
 have c:∀b:Str,b.cps.toList.getLast? = some 102->(a++_==b)=false:=λ b d=>by
  rw[y9];intro z;rw[←z]at d;have e:(a++("<lambda>" : Str)).cps.toList.getLast? = some 62:=by show(a.cps++("<lambda>" : Str).cps).toList.getLast? = _;rw[cq,List.getLast?_append];rfl
  rw[e]at d;cases d
 unfold M6;rw[c _ rfl,c _ rfl];rfl
theorem ll:∀(l:on Jl),TriplesOk l->(∃i t,a=.int i t)->(∃i t,b=.int i t)->codeAmong pos' (l++[a,b,c])=some cv->codeAmong pos' l=some cv\/cv=c
 | [],_,⟨i,t,k⟩,⟨j,u,g⟩,h=>by
  subst k g;have d:(if i==pos'.line&&j==pos'.col then some c else codeAmong pos' [])=some cv:=h;split at d
  ·exact .inr (B8 d).symm
  ·cases d
 | .int i t :: .int j u::x::r,ok,f,e,h=>by
  have d:(if i==pos'.line&&j==pos'.col then some x else codeAmong pos' _)=some cv:=h;show(if i==pos'.line&&j==pos'.col then some x else codeAmong pos' r)=some cv\/cv=c;split at d
  ·rename_i z;rw[f8 z];exact .inl d
  ·rename_i z;rw[g9 z];exact ll r ok f e d
theorem lm(e:∃i t,a=.int i t)(d:∃i t,b=.int i t):∀(l:on Jl),TriplesOk l->TriplesOk (l++[a,b,c])
 | [],_=>by obtain⟨i,t,rfl⟩:=e;obtain⟨j,u,rfl⟩:=d;exact trivial
 | .int i t :: .int j u::x::r,ok=>lm e d r ok
structure LamAt(X:Cx)(scope:Scope)(c P:Addr):Prop where
 code:X.env.code=.ref c
 hd:∀{pins:List (Addr×Obj)} {σ:List (Option V)} {H:Hp} {s:Shared},Inv X pins σ H s->PySem.W.CodeHd s.heap c P
 tab:∀{pins:List (Addr×Obj)} {σ:List (Option V)} {H:Hp} {s:Shared},Inv X pins σ H s->H P=some (.tbl (X.env.qual ++ "<lambda>"))
 fre:∀y∈scope.names,y.2=NameKind.free->X.env.kindOf y.1=some .cell\/X.env.kindOf y.1=some .free
theorem LamAt.has(L:LamAt X scope c P)(ok:X.Ok):∀y∈scope.names,y.2=NameKind.free->∃a,X.env.cells.lookup y.1=some a:=λ y b d=>ok.has y.1 (L.fre y b d)
def CI(I:JI r)(L:LamAt X scope c P)(a3:defaultsOf g X.env=([],[]))
  (h:∀f k s',Inv X r σ k s'->Same H k->H f=none->O9 k (X.env.qual ++ "<lambda>") g body scope (o8 X.env.cells scope.names []) f->Q (.ref f) s') :
  wpAny M A (eval (.Lambda g body scope pos) X.env) Q E s:=by
 refine PySem.W.kla_eval a3 ?_;have hP:=L.tab I;obtain⟨ps,hp,ht,x⟩:=I.hok _ _ hP;have a5:=fI (scope:=scope) (env:=X.env) (L.has I.ok);have hg:s.heap.Ns mainGlobals X.mg:=I.ok.mod.glob.keeps I.bk;have c0:mainGlobals≠P:=λ z=>by obtain⟨o,es,ep,e,d,_⟩:=hg;rw[z,hp]at e;cases e;cases d
 obtain⟨bm,ob,b1,b2,b3,b4,b5,b6⟩:=I.ok.mod.bmod;have p:=I.bs _ _ b3;have c1:bm≠P:=λ z=>by rw[z,hP]at p;cases p.2
 have c3:bm≠mainGlobals:=λ z=>by obtain⟨o,es,ep,e,d,_⟩:=hg;rw[←z,p.1]at e;cases e;rw[b6]at d;cases d
 have hb:s.heap.BuiltinsAt X.mg P:=⟨bm,ob,b1,b2,c3,c1,p.1,b4,b5,b6⟩;have C:=L.hd I;cases hf:codeAmong pos ps.toList with
 | some cv=>
  obtain⟨j,N,u,vs,t,e1,e2,e3,e4⟩:=x pos cv hf;subst e1;refine PySem.W.kla_makeFunctionHit (mg:=X.mg) a5 I.ok.glob hg L.code C hp ht hf hb λ m i tk hk W=>?_
  have hn:H i.objs.size=none:=I.hok.fresh W;refine h _ (upd H i.objs.size (.frz _ (.own i.objs.size))) _ (I.laid (t':=tk) (λ b u e=>k9 _ (hk b u e)) W ⟨q5 _ rfl,_,q5 _ rfl⟩) (v9 hn) hn ?_;refine⟨j,N,u,vs,t,_,m,z8,?_,e3,e4.1⟩;rw[m7 (B1 e2 hn)];exact e2
 | none=>
  refine PySem.W.kla_makeFunction (mg:=X.mg) a5 I.ok.glob hg L.code C hp ht hf c0 hb λ j m i tk hx l B Y U=>?_;obtain⟨c5,N,vs,t,e2,Z,hd,hv⟩:=Y;cases e2;have b9:H j=none:=I.hok.fresh l;have a0:H i.objs.size=none:=I.hok.fresh (k6 l (M3 B));have S:∀{b:Jn} {u:HO},H b=some u->b≠j/\b≠i.objs.size:=λ e=>⟨B1 e b9,B1 e a0⟩;have v:∀{b:Jn} {o:Obj},s.heap.get? b=some o->b≠j/\b≠i.objs.size:=λ {b o} e=>⟨o9 (p9 (k8 e) l),o9 (p9 (k8 e) (k6 l (M3 B)))⟩;generalize a2:PySem.W.kla_obj "<lambda>" (X.env.qual ++ "<lambda>") g body scope _ _ j m=fo;have a1:fo.isFreed=false:=by rw[←a2];rfl
  generalize F:upd (upd H j (.frz N (.own j))) i.objs.size (.frz fo (.own i.objs.size))=k;have a8:k i.objs.size=some (.frz fo (.own i.objs.size)):=by rw[←F];exact z8
  have at2:k j=some (.frz N (.own j)):=by rw[←F,m7 (o9 B)];exact z8
  have K:∀{b:Jn},b≠j->b≠i.objs.size->k b=H b:=λ h1 h2=>by rw[←F,m7 h2,m7 h1]
  have sm:Same H k:=λ b o e=>by rw[K (S e).1 (S e).2];exact e
  have kp:∀b o,b≠P->s.heap.get? b=some o->(i.push fo).get? b=some o:=λ b o hb e=>k9 _ (hx b o hb e);have a6:∀b,H b=none->b≠P:=λ b n z=>by rw[z,hP]at n;cases n
  have un:Un X.fs [] H k s.heap (i.push fo):=by
   refine⟨λ b o e n _ _=>kp b o (a6 b n) e,λ b o e n _ _=>⟨o.slots,kp b o (a6 b n) e⟩,λ b o e n _=>by rw[K (v e).1 (v e).2];exact n,λ b o e _=>?_,λ b xs e=>sm _ _ e,λ b o u e=>sm _ _ e,λ b q e=>sm _ _ e⟩;by_cases z:b=P
   ·subst z;exact⟨_,k9 _ U⟩
   ·exact⟨o,kp b o z e⟩
  have b8:HOk X.prog X.w k (i.push fo):=λ b u e=>by
   by_cases z1:b=i.objs.size
   ·subst z1;rw[a8]at e;cases e;exact⟨q5 _ a1,_,q5 _ a1⟩
   ·by_cases z2:b=j
    ·subst z2;rw[at2]at e;cases e;exact⟨k9 _ Z,_,k9 _ Z⟩
    ·rw[K z2 z1]at e;by_cases z3:b=P
     ·subst z3;rw[hP]at e;cases e;refine⟨_,k9 _ U,?_,λ R cv a4=>?_⟩
      ·rw[cq];exact lm ⟨_,_,rfl⟩ ⟨_,_,rfl⟩ _ ht
      ·rw[cq]at a4;rcases ll (a:=rawInt pos.line) (b:=rawInt pos.col) (c:=.ref j) ps.toList ht ⟨_,_,rfl⟩ ⟨_,_,rfl⟩ a4 with w | w
       ·obtain⟨c2,b0,u2,a9,t2,f1,f2,f3,f4⟩:=x R cv w;refine⟨c2,b0,u2,a9,t2,f1,sm _ _ f2,f3,f4.1,λ y=>?_⟩;obtain⟨y0,T,a7,tf,J,tg,b7,O,tt,y1,y2,y3,y4,y5,y6,y7,y8⟩:=f4.2 y;exact⟨y0,T,a7,tf,J,tg,b7,O,tt,y1,y2,y3,y4,y5,y6,y7,sm _ _ y8⟩
       ·exact⟨j,N,_,vs,t,w,at2,hd,hv,λ y=>by rw[show M6 (X.env.qual ++ "<lambda>")=false from CH _]at y;cases y⟩
     ·refine(I.hok b u e).stay (λ b' u' c4 q=>kp b' u' ?_ q) (λ b' q=>sm _ _ q) (λ b' xs q=>sm _ _ q) (λ b' xs q=>sm _ _ q) λ b' _ _ _ _ q=>sm _ _ q;rcases c4 with w | w
      ·rw[w];exact z3
      ·intro z;rw[z,hP]at w;cases w
  refine h i.objs.size k _ (I.un (t':=tk) un b8) sm a0 ⟨j,N,_,vs,t,(X.mg "__name__").getD .none,m,by rw[a8,←a2],at2,hd,hv⟩
end L2
namespace L2
open PySem PySem.Spec PyProof.Rows
noncomputable def trC(l:on Jn)(h:Jo)(H:Hp):Hp:=λ b=>if b∈l then(h.get? b).map λ o=>HO.frz o (.own b)else H b
def X5(a:b∈l)(e:h.get? b=some o):trC l h H b=some (.frz o (.own b)):=by
 unfold trC;rw[f8 a,e];rfl
def aG(a:b∉l):trC l h H b=H b:=g9 a
structure Cells(l:List Addr)(h:Heap)(H:Hp):Prop where
 none:∀c∈l,H c=none
 cel:∀c∈l,∃o v,h.get? c=some o/\o.data=.cell v
section
variable {P:Js} {w:Jr} {K:Jw} {mg:Str->Jk Jl} {base:Jo} {A:Ju} {outer:on Env} {s s':Jm} {H:Hp} {l:on Jn} {Q Q':VK} {u:Jl}
def Cells.same(C:Cells l s.heap H):Same H (trC l s.heap H):=λ b o e=>by
 rw[aG λ z=>by rw[C.none b z]at e;cases e];exact e
theorem HOk.trC(C:Cells l s.heap H)(x:HOk P w H s.heap):HOk P w (trC l s.heap H) s.heap:=λ b u e=>by
 by_cases hb:b∈l
 ·obtain⟨o,v,g,_⟩:=C.cel b hb;rw[X5 hb g]at e;cases e;exact⟨g,o,g⟩
 ·rw[aG hb]at e;exact(x b u e).stay (λ _ _ _ q=>q) (λ _ q=>C.same _ _ q) (λ _ _ q=>C.same _ _ q) (λ _ _ q=>C.same _ _ q) λ _ _ _ _ _ q=>C.same _ _ q
theorem Env0.trC(C:Cells l s.heap H)(hb:∀c∈l,base.get? c=none)(hf:∀c∈l,c∉frs outer)(e:Env0 P w K mg base A outer s H):Env0 P w K mg base A outer s (trC l s.heap H):=
 ⟨e.frames,e.mod,λ b o q=>⟨(e.bs b o q).1,by rw[aG λ z=>by rw[hb b z]at q;cases q];exact(e.bs b o q).2⟩,e.bsz,e.funs,⟨λ b q=>by rw[aG λ z=>hf b z q];exact e.frf.1 b q,λ p hp=>C.same _ _ (e.frf.2 p hp)⟩,HOk.trC C e.hok,e.bare⟩
theorem CE.trC(C:Cells l s.heap H)(h:CE outer P w (trC l s.heap H) s Q' u s')(hq:∀v H',Same (trC l s.heap H) H'->Q' v H'->Q v (L2.wo l H'))(hs:∀v H',Q' v H'->Same (trC l s.heap H) H'):CE outer P w H s Q u s':=by
 obtain⟨v,H',os,bare,un,hok,r,q⟩:=h;have at1:∀{b:Jn},b∈l->∃o v,s.heap.get? b=some o/\o.data=.cell v/\H' b=some (.frz o (.own b))/\s'.heap.get? b=some o:=λ {b} hb=>by obtain⟨o,v,g,d⟩:=C.cel b hb;have z:=un.frzs b o _ (X5 hb g);exact⟨o,v,g,d,z,(hok b _ z).1⟩
 refine⟨v,L2.wo l H',os,bare,⟨λ b o e n hf hx=>?_,λ b o e n hf hx=>?_,λ b o e n hx=>?_,un.there,λ b xs e=>?_,λ b o x e=>?_,λ b x e=>?_⟩,λ b x e=>?_,r,hq v H' (hs v H' q) q⟩
 ·by_cases hb:b∈l
  ·obtain⟨o',_,g,_,_,g'⟩:=at1 hb;rw[e]at g;cases g;exact g'
  ·exact un.keep b o e (by rw[aG hb];exact n) hf hx
 ·by_cases hb:b∈l
  ·obtain⟨o',_,g,_,_,g'⟩:=at1 hb;rw[e]at g;cases g;exact⟨o.slots,g'⟩
  ·exact un.slot b o e (by rw[aG hb];exact n) hf hx
 ·by_cases hb:b∈l
  ·exact X4 hb
  ·rw[j9 hb];exact un.free b o e (by rw[aG hb];exact n) hx
 ·rw[j9 λ z=>by rw[C.none b z]at e;cases e];exact un.tups b xs (C.same _ _ e)
 ·rw[j9 λ z=>by rw[C.none b z]at e;cases e];exact un.frzs b o x (C.same _ _ e)
 ·rw[j9 λ z=>by rw[C.none b z]at e;cases e];exact un.tbls b x (C.same _ _ e)
 ·obtain⟨hb,e⟩:=D6 e;refine(hok b x e).stay (λ _ _ _ q=>q) (λ b' q=>?_) (λ b' _ q=>?_) (λ b' _ q=>?_) λ b' o' _ vs d q=>?_
  ·rw[j9 λ z=>by obtain⟨_,_,_,_,g,_⟩:=at1 z;rw[q]at g;cases g];exact q
  ·rw[j9 λ z=>by obtain⟨_,_,_,_,g,_⟩:=at1 z;rw[q]at g;cases g];exact q
  ·rw[j9 λ z=>by obtain⟨_,_,_,_,g,_⟩:=at1 z;rw[q]at g;cases g];exact q
  ·rw[j9 λ z=>by obtain⟨_,_,_,d',g,_⟩:=at1 z;rw[q]at g;cases g;rw[d]at d';cases d'];exact q
structure CellsT(l:List Addr)(h:Heap)(H:Hp):Prop where
 at_:∀c∈l,∃o v,H c=some (.frz o (.own c))/\h.get? c=some o/\o.data=.cell v
noncomputable def ov(l:on Jn)(H H':Hp):Hp:=λ b=>if b∈l then H b else H' b
def gJ(h:b∈l):ov l H a b=H b:=f8 h
def S9(h:b∉l):ov l H a b=a b:=g9 h
def HOk.woC(C:CellsT l s.heap H)(x:HOk P w H s.heap):HOk P w (L2.wo l H) s.heap:=λ b u e=>by
 obtain⟨hb,e⟩:=D6 e;refine(x b u e).stay (λ _ _ _ q=>q) (λ a q=>?_) (λ a _ q=>?_) (λ a _ q=>?_) λ a o' _ vs d q=>?_
 ·rw[j9 λ z=>by obtain⟨_,_,g,_⟩:=C.at_ _ z;rw[q]at g;cases g];exact q
 ·rw[j9 λ z=>by obtain⟨_,_,g,_⟩:=C.at_ _ z;rw[q]at g;cases g];exact q
 ·rw[j9 λ z=>by obtain⟨_,_,g,_⟩:=C.at_ _ z;rw[q]at g;cases g];exact q
 ·rw[j9 λ z=>by obtain⟨_,_,g,_,c⟩:=C.at_ _ z;rw[q]at g;cases g;rw[d]at c;cases c];exact q
def CE.woC(C:CellsT l s.heap H)(m:∀b∈frs outer,H b=none)(h:CE outer P w (L2.wo l H) s Q' u s')(J:∀v i,(∀c∈l,i c=none)->Q' v i->Q v (ov l H i)):CE outer P w H s Q u s':=by
 obtain⟨v,i,F,p,un,A,r,q⟩:=h;have I:∀c∈l,c∉frs outer:=λ c y z=>by obtain⟨_,_,g,_⟩:=C.at_ c y;rw[m c z]at g;cases g
 have f:∀c∈l,i c=none:=λ c y=>by obtain⟨o,_,_,g,_⟩:=C.at_ c y;exact un.free c o g (X4 y) JK
 refine⟨v,ov l H i,F,p,⟨λ b o e n m j=>?_,λ b o e n m j=>?_,λ b o e n j=>?_,un.there,λ b E e=>?_,λ b o x e=>?_,λ b x e=>?_⟩,λ b x e=>?_,r,J v i f q⟩
 ·have a:b∉l:=λ z=>by obtain⟨_,_,g,_⟩:=C.at_ b z;rw[n]at g;cases g
  exact un.keep b o e (by rw[j9 a];exact n) m j
 ·have a:b∉l:=λ z=>by obtain⟨_,_,g,_⟩:=C.at_ b z;rw[n]at g;cases g
  exact un.slot b o e (by rw[j9 a];exact n) m j
 ·have a:b∉l:=λ z=>by obtain⟨_,_,g,_⟩:=C.at_ b z;rw[n]at g;cases g
  rw[S9 a];exact un.free b o e (by rw[j9 a];exact n) j
 ·have a:b∉l:=λ z=>by obtain⟨_,_,g,_⟩:=C.at_ b z;rw[e]at g;cases g
  rw[S9 a];exact un.tups b E (by rw[j9 a];exact e)
 ·by_cases a:b∈l
  ·rw[gJ a];exact e
  ·rw[S9 a];exact un.frzs b o x (by rw[j9 a];exact e)
 ·have a:b∉l:=λ z=>by obtain⟨_,_,g,_⟩:=C.at_ b z;rw[e]at g;cases g
  rw[S9 a];exact un.tbls b x (by rw[j9 a];exact e)
 ·by_cases a:b∈l
  ·rw[gJ a]at e;obtain⟨o,_,g,K,_⟩:=C.at_ b a;rw[g]at e;cases e;have k:=un.keep b o K (X4 a) (I b a) JK;exact⟨k,o,k⟩
  ·rw[S9 a]at e;refine(A b x e).stay (λ _ _ _ q=>q) (λ B q=>?_) (λ B _ q=>?_) (λ B _ q=>?_) λ B o' _ vs d q=>?_
   all_goals (rw[S9 λ z=>by rw[f _ z]at q;cases q];exact q)
end
end L2
end
noncomputable section
namespace L2
open PySem PySem.Spec PyProof.Rows
noncomputable def dL(P:Js)(w:Jr)(K:Jw)(mg:Str->Jk Jl)(base:Jo)(N:on Str)(qual:Str)(scope:Jx)(f:Jn)(cd:Jl)(cl:on (Str×Jn))(A:Ju)(outer:on Env)(s:Jm)(H:Hp):Cx where
 prog:=P
 w:=w
 K:=K
 mg:=mg
 base:=base
 A:=A.deeper (PySem.W.envX qual scope s.heap.objs.size f cd cl)
 N:=N
 s₀:=s
 H₀:=H
 env:=PySem.W.envX qual scope s.heap.objs.size f cd cl
 outer:=outer
 stack:=PySem.W.envX qual scope s.heap.objs.size f cd cl::outer
 ex:=[]
 calm:=true
 fn:=λ _=>false
 pn:=[]
 xe:=λ _ _=>False
def CJ{P:Js}{w:Jr}{K:Jw}{mg:Str->Jk Jl}{base:Jo}{A:Ju}{outer:on Env}{s:Jm}{H:Hp}{l:on Jn}{N ps:on Str}{q:Str}{scope:Jx}{cl:on (Str×Jn)}{f:Jn}{us:on Jl}{vs ws:on V}{cd:Jl}{h₁:Jo}{tk:Nat}(S:LamScope N ps scope cl l)(C:CellsT l s.heap H)(hd:A.handled=none)(e0:Env0 P w K mg base A outer s H)(hl:vs.length=ps.length)(r:Vals vs us)(hlen:N.length=ps.length+ws.length)
  (hw:∀i x v,N[ps.length+i]? = some x->ws[i]? = some v->∃c u,cl.lookup x=some c/\s.heap.IsCell c (some u)/\RelV v u)
  (hns:h₁.Ns s.heap.objs.size (λ x=>(ps.zip us).reverse.lookup x)) (hk:∀b o,s.heap.get? b=some o->h₁.get? b=some o) :
  Inv (dL P w K mg base N q scope f cd cl A outer s (L2.wo l H)) [] ((vs++ws).map some) (L2.wo l H) {s with heap:=h₁,toks:=tk}:=by
 have nl:∀{b:Jn},H b=none->b∉l:=λ {b} n z=>by obtain⟨_,_,g,_⟩:=C.at_ b z;rw[n]at g;cases g
 have noA:∀b:Jn,b∉(dL P w K mg base N q scope f cd cl A outer s (L2.wo l H)).ex:=λ b z=>absurd (show b∈([]:on Jn)from z) JK;have wn:∀{b:Jn},H b=none->L2.wo l H b=none:=λ {b} n=>by rw[j9 (nl n)];exact n
 have cellAt:∀x c,cl.lookup x=some c->∃v,h₁.IsCell c v:=λ x c e=>by obtain⟨o,v,_,g,d⟩:=C.at_ c (S.mem x c e);exact⟨v,o,hk _ _ g,d⟩
 refine⟨⟨e0.mod,S.kind,rfl,rfl,i8 _,S.inj,λ y hy=>?_,λ y c z=>(nomatch z),λ _=>hd,iC e0.frames,.inr ⟨rfl,rfl⟩,λ b z=>absurd z (noA b),λ b o e=>⟨(e0.bs b o e).1,wn (e0.bs b o e).2⟩,e0.bsz,λ b _ _=>noA b,λ b z=>absurd z (noA b),e0.funs,λ b hb=>wn (e0.frf.1 b hb),λ p hp=>?_⟩,
  rfl,e0.bare,Un.kept hk,⟨_,hns,λ i y v h1 h2 h3=>?_⟩,cellAt,?_,λ y c h=>X4 (S.mem y c h),λ p hp=>absurd (show p∈([]:on (Jn×Obj))from hp) JK,(HOk.woC C e0.hok).kept hk,?_⟩
 ·have hy:scope.names.lookup y=some .cell\/scope.names.lookup y=some .free:=hy;rcases hy with hy | hy
  ·exact absurd rfl (S.nocell _ (A4 hy))
  ·exact S.has y hy
 ·have z:=e0.frf.2 p hp;show L2.wo l H p.1=_;rw[j9 λ m=>by obtain⟨_,_,g,_⟩:=C.at_ _ m;rw[z]at g;cases g];exact z
 ·have h1:N[i]? = some y:=h1;rw[q9]at h2;have h2':(vs++ws)[i]? = some v:=by
   cases z:(vs++ws)[i]? with
   | none=>rw[z]at h2;cases h2
   | some a=>rw[z]at h2;exact congrArg some (B8 (B8 h2))
  by_cases hi:i<ps.length
  ·rw[Z6 JC]at h2';obtain⟨u,hu,rv⟩:=r.get h2';have hp:ps[i]? = some y:=by rw[←S.pre,aM hi];exact h1
   have ndP:ps.Nodup:=by rw[←S.pre];exact S.nd.sublist (iK _ _)
   refine⟨u,rv,.inl ⟨S.par y (M1 hp),?_⟩⟩;show(ps.zip us).reverse.lookup y=some u;have nd2:((ps.zip us).reverse.map (·.1)).Nodup:=by rw[List.map_reverse,List.map_fst_zip (by have:=r.length;omega)];exact List.pairwise_reverse.mpr (List.Pairwise.imp (λ h=>Ne.symm h) ndP)
   refine V0 nd2 (List.mem_reverse.mpr ?_);have hz:(ps.zip us)[i]? = some (y,u):=by rw[ip];exact⟨hp,hu⟩
   exact M1 hz
  ·rw[aL JC]at h2';obtain⟨c,u,e1,e2,e3⟩:=hw (i - vs.length) y v (by rw[show ps.length+(i - vs.length)=i by omega];exact h1) h2';exact⟨u,e3,.inr ⟨.inr (S.fre i y JC h1),c,e1,e2.keeps hk⟩⟩
 ·show L2.wo l H s.heap.objs.size=none;exact wn (e0.hok.fresh (i8 _))
 ·show((vs++ws).map some).length=N.length;rw[i0,x4];omega
def CK{K:Jw}(S:LamScope N ps scope cl l)(C:CellsT l s.heap H)(M:A.depth<recursionLimit/\A.handled=none)(m:Env0 P w K mg base A outer s H)(hf:O9 H q params body scope cl f)
  (h:∀B a j,bindArgs (PySem.W.kla_fn "<lambda>" q params body scope cl B (.ref a) j) ⟨us,[]⟩=pure (ps.zip us)) (hl:vs.length=ps.length) (r:Vals vs us) (p:N.length=ps.length+ws.length)
  (Y:∀i x v,N[ps.length+i]? = some x->ws[i]? = some v->∃c u,cl.lookup x=some c/\s.heap.IsCell c (some u)/\RelV v u)
  (g:∀a,∃t,PE (dL P w K mg base N q scope f (.ref a) cl A outer s (L2.wo l H)) body t/\t ((vs++ws).map some) (L2.wo l H) (λ v k=>(∀c∈l,k c=none)->Q v (ov l H k))) :
  codeAny (model P w) A (.call (.ref f) ⟨us,[]⟩) (CR CX outer P w H s Q E) s:=by
 obtain⟨a,W,u,y,t,B,j,h1,h2,h3,h4⟩:=hf;refine PySem.W.kla_callFunE M.1 ((m.hok f _ h1).1) rfl S.co S.gen rfl ⟨a,W,y,t,rfl,((m.hok a _ h2).1),h3,h4⟩ ?_;show wpAny _ _ _ _ _ s;rw[h B a j];refine g7 (wpAny_newFunctionEnv S.nocell (λ x X=>S.par x.1 (eV X).1) (λ L I n=>⟨(m.mod.nolimit.keeps λ b o e=>(m.bs b o e).1).fresh _ n,?_⟩) S.kind);show codeAny _ _ _ _ _;obtain⟨t,Z,hq⟩:=g a;exact PySem.W.kla_codeExpr (A9 (Z [] _ _ _ _ (CJ S C M.2 m hl r p Y I (λ b o e=>n.extBut b o (o9 (k8 e)) (k9 _ e))) hq) (λ v R ⟨O,k,J,U,z⟩=>CE.woC (Q':=λ v k=>(∀c∈l,k c=none)->Q v (ov l H k)) C m.frf.1 ⟨O,k,J.os,J.bare,J.base,J.hok,U,z⟩ λ _ _ z q=>q z) λ e R z=>(z:False).elim)
open PySem.Calls
def CL(F:closureFor sc env=pure cl)(B:env.globals=mainGlobals)(L:s.heap.Ns mainGlobals mg)(hc:env.code=.ref c)(C:PySem.W.CodeHd s.heap c P)(N:s.heap.get? P=some (PySem.W.tabObj ps))(ht:TriplesOk ps.toList)(hn:codeAmong pos ps.toList=none)(u:mainGlobals≠P)(hb:s.heap.BuiltinsAt mg P)
  (h:∀a T K I h' tk,Heap.ExtBut P s.heap h'->s.heap.objs.size<=a->a<h'.objs.size->s.heap.objs.size<=T->h'.IsCode a T #[]->h'.TableAt a T #[]->h'.CodeRec (.ref a) p->h'.get? P=some (PySem.W.tabObj (ps ++ #[rawInt pos.line,rawInt pos.col,.ref a])) ->
   Q (.ref h'.objs.size) {s with heap:=h'.push (PySem.W.fnMade nm p y bd sc cl I ((mg "__name__").getD .none) a K),toks:=tk}) :
  wpAny M A (makeFunction nm p y (.stmts bd) sc env [] [] [] pos R) Q E s:=by
 obtain⟨bm,ob,b1,Z,_,Y,X,W,U,S⟩:=hb;have O:∀(s1:Jm),(∀b o,s.heap.get? b=some o->s1.heap.get? b=some o)->s.heap.objs.size<=s1.heap.objs.size->s1.gens=s.gens->s1.drawn=s.drawn->s1.os=s.os ->
   wpAny M A (functionCode env pos R nm p y sc (.stmts bd)) (λ J w=>∃a T h' tk,J=.ref a/\w = {s with heap:=h',toks:=tk} /\ Heap.ExtBut P s.heap h'/\s.heap.objs.size<=a/\a<h'.objs.size/\s.heap.objs.size<=T/\h'.IsCode a T #[]/\h'.TableAt a T #[]/\h'.CodeRec (.ref a) p/\h'.get? P=some (PySem.W.tabObj (ps ++ #[rawInt pos.line,rawInt pos.col,.ref a]))) E s1:=λ s1 k z g1 g2 g3=>by
  have C1:=C.keeps k;refine wpAny_functionCodeX hc (C1.code (k _ _ N) ht) (C1.tab (k _ _ N)) hn λ a h' tk d n m _ l j x6=>?_
  obtain⟨T,i,g,f⟩:=x6;refine⟨a,T,h',tk,rfl,by rw[g1,g2,g3],λ b o H e=>d b o H (k b o e),k6 z n,m,k6 z i,g,f,l,j.2⟩
 rw[makeFunction_eq];simp only[List.zip_nil_right,List.filterMap_nil,iT,if_true,pure_bind];unfold makeTail;rw[F,B];refine f0 (g7 ?_);cases cl with
 | nil=>
  simp only[iT,if_true];refine f0 (g7 (f0 (A9 (O s (λ _ _ e=>e) (i8 _) rfl rfl rfl) (λ J w q=>?_) λ _ _ x=>x)));obtain⟨a,T,h',tk,rfl,rfl,d,n,m,i,g,f,l,j⟩:=q;have v:=L.extBut d u;refine f0 (wpAny_builtinsFor v b1 Z (d _ _ Y X) W U S (f0 (wpAny_nsGet v ?_)));cases hd:docOf bd with
  | none=>exact f0 (g7 (E3 (h a T _ _ h' tk d n m i g f l j) (by size_fits)))
  | some t=>exact f0 (js (E3 (h a T _ _ h' _ d n m i g f l j) (by size_fits)))
 | cons q r=>
  simp only[List.isEmpty_cons,W0,if_false];refine f0 (wpAny_newTextTuple (f0 (A9 (O _ (λ b o e=>k9 _ e) (by rw[G0];omega) rfl rfl rfl) (λ J w q=>?_) λ _ _ x=>x)));obtain⟨a,T,h',tk,rfl,rfl,d,n,m,i,g,f,l,j⟩:=q;have v:=L.extBut d u;refine f0 (wpAny_builtinsFor v b1 Z (d _ _ Y X) W U S (f0 (wpAny_nsGet v ?_)));cases hd:docOf bd with
  | none=>exact f0 (g7 (E3 (h a T _ _ h' tk d n m i g f l j) (by size_fits)))
  | some t=>exact f0 (js (E3 (h a T _ _ h' _ d n m i g f l j) (by size_fits)))
structure DefAt(X:Cx)(scope:Scope)(c P:Addr)(q:Str):Prop where
 code:X.env.code=.ref c
 hd:∀h:Heap,X.K.In h->PySem.W.CodeHd h c P
 tab:(P,q)∈A5 X.K
 fre:∀y∈scope.names,y.2=NameKind.free->X.env.kindOf y.1=some .cell
 dq:M6 q=true
def K7(H:Hp)(nm q:Str)(pr:Jy)(bd:on Jv)(sc:Jx)(cl:on (Str×Jn))(f:Jn):Prop:=
 ∃(c':Jn) (oc:Obj) (u:HO) (vs:Jq Jl) (t:Tok) (doc pm ctv:Jl) (T:Jn),H f=some (.frz (PySem.W.fnMade nm q pr bd sc cl doc pm c' ctv) (.own f))/\H c'=some (.frz oc u)/\oc.data=.fields vs/\vs[1]? = some (.str q t)/\H T=some (.tbl (q ++ ".<locals>." ++ "<lambda>")) /\
  ∀h:Jo,h.get? c'=some oc->PySem.W.CodeHd h c' T
def K7.mono(e:Same H d)(h:K7 H nm q c bd sc cl f):K7 d nm q c bd sc cl f:=by
 obtain⟨p,j,u,g,t,a,i,b,T,o,n,m,l,k,r⟩:=h;exact⟨p,j,u,g,t,a,i,b,T,e _ _ o,e _ _ n,m,l,e _ _ k,r⟩
def CM(I:JI U)(L:DefAt X sc c P q)
  (h:∀f r s',Inv X U σ r s'->Same H r->H f=none->K7 r nm q pr bd sc (o8 X.env.cells sc.names []) f->Q (.ref f) s') :
  wpAny M A (makeFunction nm q pr (.stmts bd) sc X.env [] [] [] pos fl) Q E s:=by
 have hP:=I.tabs _ L.tab;obtain⟨ps,hp,ht,Y⟩:=I.hok _ _ hP;have a9:=fI (scope:=sc) (env:=X.env) λ y hy hf=>I.ok.has y.1 (.inl (L.fre y hy hf));have hg:s.heap.Ns mainGlobals X.mg:=I.ok.mod.glob.keeps I.bk;have c9:mainGlobals≠P:=λ z=>by obtain⟨o,es,ep,e,d,_⟩:=hg;rw[z,hp]at e;cases e;cases d
 obtain⟨bm,ob,b1,b2,b3,b4,b5,b6⟩:=I.ok.mod.bmod;have R:=I.bs _ _ b3;have d0:bm≠P:=λ z=>by rw[z,hP]at R;cases R.2
 have e0:bm≠mainGlobals:=λ z=>by obtain⟨o,es,ep,e,d,_⟩:=hg;rw[←z,R.1]at e;cases e;rw[b6]at d;cases d
 have hb:s.heap.BuiltinsAt X.mg P:=⟨bm,ob,b1,b2,e0,d0,R.1,b4,b5,b6⟩;have C:=L.hd s.heap I.kIn;have W:∀{l:Jn} {x:Obj} {p:Jq Jl} {T:Jn} {j:Str} {tf:Tok} {g:Int} {tg:Tok} {m:Bool} {i:Int} {tt:Tok},x.data=.fields p->x.cls=.type "code" -> p[11]? = some (.ref T)->p.getD 11 .none=.ref T->p.getD 18 .none=.str j tf->p.getD 7 .none=.int g tg->p.getD 9 .none=.bool m->p.getD 10 .none=.int i tt->l≠T ->
   ∀h:Jo,h.get? l=some x->PySem.W.CodeHd h l T:=λ d1 d2 d3 d4 d5 d6 d7 d8 d9 h e=>⟨_,_,_,_,_,_,_,_,_,e,d2,d1,d3,d4,d5,d6,d7,d8,d9⟩
 cases hf:codeAmong pos ps.toList with
 | some cv=>
  obtain⟨l,x,u,p,t,e1,e2,e3,e4,e5⟩:=Y pos cv hf;subst e1;obtain⟨y0,T,j,tf,g,tg,m,i,tt,y1,y2,y3,y4,y5,y6,y7,y8⟩:=e5 L.dq;refine PySem.W.makeFunction_hit (mg:=X.mg) a9 I.ok.glob hg L.code C hp ht hf hb λ O N k tk hk a4=>?_
  have hn:H k.objs.size=none:=I.hok.fresh a4;refine h _ (upd H k.objs.size (.frz _ (.own k.objs.size))) _ (I.laid (t':=tk) (λ b u e=>k9 _ (hk b u e)) a4 ⟨q5 _ rfl,_,q5 _ rfl⟩) (v9 hn) hn ?_;refine⟨l,x,u,p,t,N,_,O,T,z8,?_,e3,e4,?_,W e3 y0 y1 y2 y3 y4 y5 y6 y7⟩
  ·rw[m7 (B1 e2 hn)];exact e2
  ·rw[m7 (B1 y8 hn)];exact y8
 | none=>
  refine CL (mg:=X.mg) a9 I.ok.glob hg L.code C hp ht hf c9 hb λ l T O N k tk hx F a0 b0 c8 c4 a5 a3=>?_;obtain⟨e9,x,p,t,e2,B,hd,hv⟩:=a5;cases e2;obtain⟨⟨o1,c1,g1,g2,g3,g4⟩,b7⟩:=c4;rw[B]at g1;cases g1;rw[hd]at g3;cases g3;obtain⟨o1,c1,j,tf,g,tg,m,i,tt,op,j1,j2,j3,j4,j5,j6,j7,_,_,_,j8⟩:=c8;rw[B]at j1;cases j1;rw[hd]at j2;cases j2;have c6:H l=none:=I.hok.fresh F;have c7:H T=none:=I.hok.fresh b0;have a6:H k.objs.size=none:=I.hok.fresh (k6 F (M3 a0));have e7:T<k.objs.size:=k8 b7;have e8:T≠k.objs.size:=o9 e7;have Z:∀{b:Jn} {u:HO},H b=some u->b≠l/\b≠T/\b≠k.objs.size:=λ e=>⟨B1 e c6,B1 e c7,B1 e a6⟩;have v:∀{b:Jn} {o:Obj},s.heap.get? b=some o->b≠l/\b≠T/\b≠k.objs.size:=λ {b o} e=>⟨o9 (p9 (k8 e) F),o9 (p9 (k8 e) b0),o9 (p9 (k8 e) (k6 F (M3 a0)))⟩;generalize a8:PySem.W.fnMade nm q pr bd sc _ N _ l O=fo;have a7:fo.isFreed=false:=by rw[←a8];rfl
  generalize K:upd (upd (upd H l (.frz x (.own l))) T (.tbl (q ++ ".<locals>." ++ "<lambda>"))) k.objs.size (.frz fo (.own k.objs.size))=r;have b9:r k.objs.size=some (.frz fo (.own k.objs.size)):=by rw[←K];exact z8
  have a1:r T=some (.tbl (q ++ ".<locals>." ++ "<lambda>")):=by rw[←K,m7 e8];exact z8
  have at2:r l=some (.frz x (.own l)):=by rw[←K,m7 (o9 a0),m7 j8];exact z8
  have a2:∀{b:Jn},b≠l->b≠T->b≠k.objs.size->r b=H b:=λ h1 h2 h3=>by rw[←K,m7 h3,m7 h2,m7 h1]
  have sm:Same H r:=λ b o e=>by rw[a2 (Z e).1 (Z e).2.1 (Z e).2.2];exact e
  have kp:∀b o,b≠P->s.heap.get? b=some o->(k.push fo).get? b=some o:=λ b o hb e=>k9 _ (hx b o hb e);have b8:∀b,H b=none->b≠P:=λ b n z=>by rw[z,hP]at n;cases n
  have un:Un X.fs [] H r s.heap (k.push fo):=by
   refine⟨λ b o e n _ _=>kp b o (b8 b n) e,λ b o e n _ _=>⟨o.slots,kp b o (b8 b n) e⟩,λ b o e n _=>by rw[a2 (v e).1 (v e).2.1 (v e).2.2];exact n,λ b o e _=>?_,λ b xs e=>sm _ _ e,λ b o u e=>sm _ _ e,λ b q e=>sm _ _ e⟩;by_cases z:b=P
   ·subst z;exact⟨_,k9 _ a3⟩
   ·exact⟨o,kp b o z e⟩
  have c5:HOk X.prog X.w r (k.push fo):=λ b u e=>by
   by_cases z1:b=k.objs.size
   ·subst z1;rw[b9]at e;cases e;exact⟨q5 _ a7,_,q5 _ a7⟩
   ·by_cases z0:b=T
    ·subst z0;rw[a1]at e;cases e;exact⟨#[],k9 _ b7,trivial,λ S cv J=>by cases J⟩
    ·by_cases z2:b=l
     ·subst z2;rw[at2]at e;cases e;exact⟨k9 _ B,_,k9 _ B⟩
     ·rw[a2 z2 z0 z1]at e;by_cases z3:b=P
      ·subst z3;rw[hP]at e;cases e;refine⟨_,k9 _ a3,?_,λ S cv J=>?_⟩
       ·rw[cq];exact lm ⟨_,_,rfl⟩ ⟨_,_,rfl⟩ _ ht
       ·rw[cq]at J;rcases ll (a:=rawInt pos.line) (b:=rawInt pos.col) (c:=.ref l) ps.toList ht ⟨_,_,rfl⟩ ⟨_,_,rfl⟩ J with w | w
        ·obtain⟨c2,c3,u2,c0,t2,f1,f2,f3,f4⟩:=Y S cv w;refine⟨c2,c3,u2,c0,t2,f1,sm _ _ f2,f3,f4.1,λ y=>?_⟩;obtain⟨y0,T2,j,tf,g,tg,m,i,tt,y1,y2,y3,y4,y5,y6,y7,y8⟩:=f4.2 y;exact⟨y0,T2,j,tf,g,tg,m,i,tt,y1,y2,y3,y4,y5,y6,y7,sm _ _ y8⟩
        ·exact⟨l,x,_,p,t,w,at2,hd,hv,λ _=>⟨g2,T,j,tf,g,tg,m,i,tt,g4,j3,j4,j5,j6,j7,j8,a1⟩⟩
      ·refine(I.hok b u e).stay (λ b' u' e6 q=>kp b' u' ?_ q) (λ b' q=>sm _ _ q) (λ b' xs q=>sm _ _ q) (λ b' xs q=>sm _ _ q) λ b' _ _ _ _ q=>sm _ _ q;rcases e6 with w | w
       ·rw[w];exact z3
       ·intro z;rw[z,hP]at w;cases w
  exact h k.objs.size r _ (I.un (t':=tk) un c5) sm a6 ⟨l,x,_,p,t,N,(X.mg "__name__").getD .none,O,T,by rw[b9,←a8],at2,hd,hv,a1,W hd g2 g4 j3 j4 j5 j6 j7 j8⟩
structure CloScope(N:List Str)(x y:Str)(n:Nat)(sc:Scope)(cl:List (Str×Addr))(l:List Addr):Prop where
 kind:sc.kind=.function
 co:sc.isCoroutine=false
 gen:sc.isGenerator=false
 nd:N.Nodup
 n0:N[0]? = some x
 n1:N[1]? = some y
 hx:sc.names.lookup x=some .local
 hy:sc.names.lookup y=some .cell
 snd:(sc.names.map (·.1)).Nodup
 fre:∀i z,2<=i->i<2+n->N[i]? = some z->sc.names.lookup z=some .free
 has:∀z,sc.names.lookup z=some .free->∃c,cl.lookup z=some c
 inj:∀z z' c,cl.lookup z=some c->cl.lookup z'=some c->z=z'
 mem:∀z c,cl.lookup z=some c->c∈l
 fr:∀z c,cl.lookup z=some c->sc.names.lookup z=some .free
abbrev ownC(s:Jm)(sc:Jx):on (Str×Jn):=cellsFrom (s.heap.objs.size+1) sc.names []
def bJ(P:Js)(w:Jr)(K:Jw)(mg:Str->Jk Jl)(base:Jo)(N:on Str)(q:Str)(sc:Jx)(f:Jn)(cd:Jl)(cl:on (Str×Jn))(A:Ju)(outer:on Env)(s:Jm)(H:Hp):Cx:=
 {dL P w K mg base N q sc f cd (ownC s sc++cl) A outer s H with fn:=λ z=>sc.names.lookup z==some .cell}
theorem CloScope.free(S:CloScope N x y n scope cl l)(h:scope.names.lookup z=some .free):(ownC s scope).lookup z=none:=jK λ c a=>by
 have:=V0 S.snd (fL a);rw[h]at this;cases this
def CloScope.at(S:CloScope N x y n scope cl l)(h:scope.names.lookup z=some .free):(ownC s scope++cl).lookup z=cl.lookup z:=by
 rw[O3,S.free h];rfl
def CN{K:Jl}(P:scope.kind=.function)(R:scope.names.lookup x=some .local)(O:scope.names.lookup y=some .cell)
  (h:∀d tk m,(∀b o,s.heap.get? b=some o->d.get? b=some o)->d.Ns s.heap.objs.size m->m x=some L->(ownC s scope).Pairwise (λ a b=>a.2≠b.2)->(∀z c,(z,c)∈ownC s scope->s.heap.objs.size<c/\∃w,d.IsCell c w/\((ownC s scope).lookup y=some c->w=some K)) ->
   Q (newEnv scope s.heap.objs.size g (ownC s scope++cl) q (some f) cd none b) {s with heap:=d,toks:=tk}) :
  wpAny M A (newFunctionEnv scope g cl [(x,L),(y,K)] q (some f) cd none b) Q U s:=by
 simp only[newFunctionEnv,Option.isSome_none,W0,if_false];refine f0 (wpAny_alloc ?_);refine f0 (wpAny_layCells _ (λ N l H=>by cases C:l==NameKind.cell<;>simp[C]) _ _ _ _ ?_);have ok:=jm scope.names (s.heap.push {cls:=.type "frame",data:=.dict #[]}) _ [] ⟨λ _ _ i=>(nomatch i),List.Pairwise.nil⟩ (by rw[G0];exact i8 _);rw[G0]at ok;rw[show({s with heap:=s.heap.push {cls:=.type "frame",data:=.dict #[]}}:Jm).heap.objs.size=s.heap.objs.size+1 from G0 ..,bo];obtain⟨c,F⟩:=bj O;have u:=(Heap.Ns.new s.heap (.type "frame")).keeps (cC scope.names _);rw[iW];refine f0 (f0 (f0 (nP R u (λ h' B n=>g7 ?_) (by show(scope.kind == .class||_)=false;rw[P];rfl))));dsimp only;rw[iW];have r:=λ z c i=>(ok.empty z c i).2
 have p:=λ z c i=>(ok.empty z c i).1.sameBut n (M4 (r z c i));have v:=λ b o e=>n.extBut b o (o9 (k8 e)) ((λ b o e=>cC _ _ b o (k9 _ e)) b o e);have k:=A4 F;refine f0 (f0 (wpAny_storeName_cell (c:=c) P O (by show(ownC s scope++cl).lookup y=some c;rw[O3];show((ownC s scope).lookup y).or _=_;rw[F];rfl) (p y c k) λ S E j=>g7 ?_));dsimp only;rw[List.forIn_nil];refine g7 (g7 (h S _ _ (λ b o e=>j.extBut b o (o9 (R7 (k8 e) (r y c k))) (v b o e)) (B.sameBut j (o9 (r y c k))) (f8 rfl) ok.apart λ z I i=>⟨r z I i,?_⟩));by_cases e:I=c
 ·subst e;exact⟨_,E,λ _=>rfl⟩
 ·refine⟨_,(p z I i).sameBut j e,λ w=>?_⟩;have J:=w;rw[F]at J;cases J;exact absurd rfl e
def CO{P:Js}{w:Jr}{K:Jw}{mg:Str->Jk Jl}{base:Jo}{A:Ju}{outer:on Env}{s:Jm}{H:Hp}{l:on Jn}{N:on Str}{x y q:Str}{scope:Jx}{cl:on (Str×Jn)}{f:Jn}{u1 u2:Jl}{v1 v2:V}{ws:on V}{cd:Jl}{h₁:Jo}{tk n:Nat}{m:Str->Jk Jl}(S:CloScope N x y ws.length scope cl l)(C:CellsT l s.heap H)(hd:A.handled=none)(e0:Env0 P w K mg base A outer s H)(r1:RelV v1 u1)(r2:RelV v2 u2)(hlen:N.length=2+ws.length+n)
  (hw:∀i z v,N[2+i]? = some z->ws[i]? = some v->∃c u,cl.lookup z=some c/\s.heap.IsCell c (some u)/\RelV v u)
  (hk:∀b o,s.heap.get? b=some o->h₁.get? b=some o) (hns:h₁.Ns s.heap.objs.size m) (hm:m x=some u1) (hap:(ownC s scope).Pairwise (λ a b=>a.2≠b.2)) (hc:∀z c,(z,c)∈ownC s scope->s.heap.objs.size<c/\∃w,h₁.IsCell c w/\((ownC s scope).lookup y=some c->w=some u2)) :
  Inv (bJ P w K mg base N q scope f cd cl A outer s (L2.wo l H)) [] ((v1::v2::ws).map some++List.replicate n none) (L2.wo l H) {s with heap:=h₁,toks:=tk}:=by
 have nl:∀{b:Jn},H b=none->b∉l:=λ {b} n z=>by obtain⟨_,_,g,_⟩:=C.at_ b z;rw[n]at g;cases g
 have noA:∀b:Jn,b∉(bJ P w K mg base N q scope f cd cl A outer s (L2.wo l H)).ex:=λ b z=>absurd (show b∈([]:on Jn)from z) JK;have wn:∀{b:Jn},H b=none->L2.wo l H b=none:=λ {b} n=>by rw[j9 (nl n)];exact n
 have L1:∀z c,(ownC s scope++cl).lookup z=some c->(ownC s scope).lookup z=some c\/cl.lookup z=some c:=λ z c e=>by
  rw[O3]at e;cases q:(ownC s scope).lookup z with
  | some c'=>rw[q]at e;exact .inl e
  | none=>rw[q]at e;exact .inr e
 have clt:∀{z:Str} {c:Nat},cl.lookup z=some c->@LT.lt Nat _ c s.heap.objs.size:=λ e=>by obtain⟨o,v,_,g,_⟩:=C.at_ _ (S.mem _ _ e);exact k8 g
 have ogt:∀{z:Str} {c:Nat},(ownC s scope).lookup z=some c->@LT.lt Nat _ s.heap.objs.size c:=λ e=>(hc _ _ (A4 e)).1;refine⟨⟨e0.mod,S.kind,rfl,rfl,i8 _,λ z z' c h1 h2=>?_,λ z hz=>?_,λ z c hz h=>?_,λ _=>hd,iC e0.frames,.inr ⟨rfl,rfl⟩,λ b z=>absurd z (noA b),λ b o e=>⟨(e0.bs b o e).1,wn (e0.bs b o e).2⟩,e0.bsz,λ b _ _=>noA b,λ b z=>absurd z (noA b),e0.funs,λ b hb=>wn (e0.frf.1 b hb),λ p hp=>?_⟩,
  rfl,e0.bare,Un.kept hk,⟨_,hns,λ i z v h1 h2 h3=>?_⟩,λ z c e=>?_,?_,λ z c h=>?_,λ p hp=>absurd (show p∈([]:on (Jn×Obj))from hp) JK,(HOk.woC C e0.hok).kept hk,?_⟩
 ·rcases L1 z c h1 with a | a<;>rcases L1 z' c h2 with b | b
  ·exact jj hap (A4 a) (A4 b)
  ·exact absurd (R7 (clt b) (ogt a)) (L0 _)
  ·exact absurd (R7 (clt a) (ogt b)) (L0 _)
  ·exact S.inj z z' c a b
 ·have hz:scope.names.lookup z=some .cell\/scope.names.lookup z=some .free:=hz;show ∃c,(ownC s scope++cl).lookup z=some c;rcases hz with hz | hz
  ·obtain⟨c,e⟩:=bj (n:=s.heap.objs.size+1) hz;exact⟨c,by rw[O3];show((ownC s scope).lookup z).or _=_;rw[e];rfl⟩
  ·rw[S.at hz];exact S.has z hz
 ·have hz:(scope.names.lookup z==some .cell)=true:=hz;rcases L1 z c h with a | a
  ·exact M3 (ogt a)
  ·obtain⟨c',e⟩:=bj (n:=s.heap.objs.size+1) (i5.mp hz);have h':(ownC s scope++cl).lookup z=some c:=h;rw[O3,show(ownC s scope).lookup z=some c' from e]at h';cases h';exact M3 (ogt e)
 ·have z:=e0.frf.2 p hp;show L2.wo l H p.1=_;rw[j9 λ m=>by obtain⟨_,_,g,_⟩:=C.at_ _ m;rw[z]at g;cases g];exact z
 ·have h1:N[i]? = some z:=h1;have hi2:i<(v1::v2::ws).length:=by
   by_cases w:i<(v1::v2::ws).length
   ·exact w
   ·rw[aL (by rw[i0];omega),cg]at h2;split at h2<;>cases h2
  rw[Z6 (by rw[i0];exact hi2),q9]at h2;have h2':(v1::v2::ws)[i]? = some v:=by
   cases q:(v1::v2::ws)[i]? with
   | none=>rw[q]at h2;cases h2
   | some a=>rw[q]at h2;exact congrArg some (B8 (B8 h2))
  match i,h1,h2',hi2 with
  | 0,h1,h2',_=>
   rw[S.n0]at h1;cases h1;cases h2';exact⟨u1,r1,.inl ⟨S.hx,hm⟩⟩
  | 1,h1,h2',_=>
   rw[S.n1]at h1;cases h1;cases h2';obtain⟨c,e⟩:=bj (n:=s.heap.objs.size+1) S.hy;obtain⟨_,w,e1,e2⟩:=hc _ _ (A4 e);rw[e2 e]at e1;exact⟨u2,r2,.inr ⟨.inl S.hy,c,by show(ownC s scope++cl).lookup y=some c;rw[O3];show((ownC s scope).lookup y).or _=_;rw[e];rfl,e1⟩⟩
  | i+2,h1,h2',hi2=>
   obtain⟨c,u,e1,e2,e3⟩:=hw i z v (by rw[jl];exact h1) h2';have hf:=S.fre (i+2) z JC (by have:i+2<ws.length+1+1:=hi2;omega) h1;exact⟨u,e3,.inr ⟨.inr hf,c,by show(ownC s scope++cl).lookup z=some c;rw[S.at hf];exact e1,e2.keeps hk⟩⟩
 ·rcases L1 z c e with a | a
  ·obtain⟨_,w,e1,_⟩:=hc _ _ (A4 a);exact⟨w,e1⟩
  ·obtain⟨o,v,_,g,d⟩:=C.at_ c (S.mem z c a);exact⟨v,o,hk _ _ g,d⟩
 ·exact wn (e0.hok.fresh (i8 _))
 ·rcases L1 z c h with a | a
  ·exact wn (e0.hok.fresh (M3 (ogt a)))
  ·exact X4 (S.mem z c a)
 ·show((v1::v2::ws).map some++List.replicate n none).length=N.length;rw[x4,i0,cj,z7,z7];omega
def CP{P:Js}{w:Jr}{K:Jw}{mg:Str->Jk Jl}{base:Jo}{A:Ju}{outer:on Env}{s:Jm}{H:Hp}{l:on Jn}{Q:VK}{E:XK}{CX:CXT}{N:on Str}{x y nm q:Str}{params:Jy}{body:on Jv}{scope:Jx}{cl:on (Str×Jn)}{f:Jn}{u1 u2:Jl}{v1 v2:V}{ws:on V}{n:Nat}(S:CloScope N x y ws.length scope cl l)(C:CellsT l s.heap H)(hr:A.depth<recursionLimit/\A.handled=none)(e0:Env0 P w K mg base A outer s H)(hf:K7 H nm q params body scope cl f)
  (hbind:∀doc pm c' ctv,bindArgs (PySem.W.fnX nm q params body scope cl .none .none doc pm none (.ref c') ctv) ⟨[u1,u2],[]⟩=pure [(x,u1),(y,u2)]) (r1:RelV v1 u1) (r2:RelV v2 u2) (hlen:N.length=2+ws.length+n)
  (hw:∀i z v,N[2+i]? = some z->ws[i]? = some v->∃c u,cl.lookup z=some c/\s.heap.IsCell c (some u)/\RelV v u)
  (hbody:∀c' oc u T,H c'=some (.frz oc u)->H T=some (.tbl (q ++ ".<locals>." ++ "<lambda>"))->(∀h:Jo,h.get? c'=some oc->PySem.W.CodeHd h c' T)->∃t,PSs (bJ P w K mg base N q scope f (.ref c') cl A outer s (L2.wo l H)) body t/\t {nx:=λ _ _=>False,rt:=λ v H'=>(∀c∈l,H' c=none)->Q v (ov l H H')} ((v1::v2::ws).map some++List.replicate n none) (L2.wo l H)) :
  codeAny (model P w) A (.call (.ref f) ⟨[u1,u2],[]⟩) (CR CX outer P w H s Q E) s:=by
 obtain⟨c',oc,u,vs',t,doc,pm,ctv,T,h1,h2,h3,h4,h5,h6⟩:=hf;have ho:=(e0.hok f _ h1).1;have hoc:=(e0.hok c' _ h2).1;have lim:s.heap.NoLimit:=e0.mod.nolimit.keeps λ b o e=>(e0.bs b o e).1
 refine nR hr.1 ho rfl S.co S.gen rfl ⟨c',oc,vs',t,rfl,hoc,h3,h4⟩ ?_
 show wpAny _ _ (bindArgs (PySem.W.fnX nm q params body scope cl .none .none doc pm none (.ref c') ctv) ⟨[u1,u2],[]⟩) _ _ s;rw[hbind doc pm c' ctv];refine g7 (CN S.kind S.hx S.hy λ h₁ tk m hk hns hm hap hc=>⟨lim.keeps hk,?_⟩);obtain⟨t,ht,hq⟩:=hbody c' oc u T h2 h5 h6;have I:=CO (q:=q) (f:=f) (cd:=.ref c') (tk:=tk) S C hr.2 e0 r1 r2 hlen hw hk hns hm hap hc;refine codeAny_func (A9 (ht [] _ _ _ _ I hq) (λ fl s' hs=>?_) λ e s' z=>(z:False).elim)
 cases fl with
 | ret u=>
  obtain⟨v',σ',H',J,rv,z⟩:=hs;exact CE.woC (Q':=λ v H'=>(∀c∈l,H' c=none)->Q v (ov l H H')) C e0.frf.1 ⟨v',H',J.os,J.bare,J.base,J.hok,rv,z⟩ λ _ _ z q=>q z
 | next=>obtain⟨_,_,_,z⟩:=hs;exact False.elim z
 | brk=>obtain⟨_,_,_,z⟩:=hs;exact False.elim z
 | cont=>obtain⟨_,_,_,z⟩:=hs;exact False.elim z
def CQ{P:Js}{w:Jr}{K:Jw}{mg:Str->Jk Jl}{base:Jo}{A:Ju}{outer:on Env}{s:Jm}{H:Hp}{l:on Jn}{N:on Str}{q:Str}{scope:Jx}{cl:on (Str×Jn)}{f:Jn}{c' T:Jn}{oc:Obj}{u:HO}(C:CellsT l s.heap H)(h1:H c'=some (.frz oc u))(hd:∀v,oc.data ≠ .cell v)(h2:H T=some (.tbl (q ++ ".<locals>." ++ "<lambda>")))(h3:∀h:Jo,h.get? c'=some oc->PySem.W.CodeHd h c' T){pins:on (Jn×Obj)}{σ:on (Jk V)}{H1:Hp}{s1:Jm}(I:Inv (bJ P w K mg base N q scope f (.ref c') cl A outer s (L2.wo l H)) pins σ H1 s1):PySem.W.CodeHd s1.heap c' T/\H1 T=some (.tbl (q ++ ".<locals>." ++ "<lambda>")):=by
 refine⟨?_,I.base.tbls _ _ (show L2.wo l H T=_ by
  rw[j9 λ z=>by obtain⟨o,v,g,_,d⟩:=C.at_ _ z;rw[h2]at g;cases g];exact h2)⟩
 have e:L2.wo l H c'=some (.frz oc u):=(by rw[j9 λ z=>by obtain⟨o,v,g,_,d⟩:=C.at_ _ z;rw[h1]at g;cases g;exact hd v d];exact h1);exact h3 _ (I.hok _ _ (I.base.frzs _ _ _ e)).1
structure RoomL(k:Nat)(A:Around):Prop where
 hd:A.handled=none
 dp:A.depth+3*k+5<recursionLimit
 un:A.units+16*k+198<cLine
def Room.toL(r:Room k A):RoomL k A:=⟨r.hd,r.dp,by have:=r.un;omega⟩
theorem RoomL.deeper(r:RoomL (k+1) A)(env:Env):Room k (A.deeper env):=
 ⟨r.hd,by have:=r.dp;show A.depth+1+3*k+5<_;omega,by have:=r.un;show A.units+3+16*k+200<_;omega⟩
def RoomL.ok(r:RoomL k A):A.depth<recursionLimit/\A.handled=none:=⟨by have:=r.dp;omega,r.hd⟩
def X6(P:Js)(w:Jr)(K:Jw)(mg:Str->Jk Jl)(base:Jo)(fn bl cl:on Str)(k:Nat)(Fl:on DV->Jk Ou):Prop:=
 ∀(A:Ju) (outer:on Env) (s:Jm) (H:Hp) (us:on Jl) (vs:on V) (Q:VK) (E:XK) (O:on Jn) (f:Jn) (m:LamD) (cs ds:on DV) (d:DV),RoomL k A->Env0 P w K mg base A outer s H->Vals vs us->Hdn O H->m.fn=fn->m.bl=bl->m.cl=cl ->
  Rep ⟨K,mg⟩ (L2.wo O H) (.lam m cs) (.ref f)->RepL ⟨K,mg⟩ (L2.wo O H) ds vs->Fl (.lam m cs::ds)=some (.v d false)->(∀v H',Same H H'->Rep ⟨K,mg⟩ (L2.wo O H') d v->Q v H') ->
  codeAny (model P w) A (.call (.ref f) ⟨us,[]⟩) (CR CX0 outer P w H s Q E) s
section
variable {D:Dm} {O l:on Jn} {H:Hp}
def dM(d:∀c∈l,∃o,H c=some (.frz o (.own c)))(h:L2.wo O H b=some u)(a:∀o c,u ≠ .frz o (.own c)):L2.wo O (L2.wo l H) b=some u:=by
 obtain⟨f,e⟩:=D6 h;rw[j9 f,j9 λ z=>by obtain⟨o,g⟩:=d b z;rw[e]at g;cases g;exact a _ _ rfl];exact e
mutual
theorem sx(hl:∀c∈l,∃o,H c=some (.frz o (.own c))):∀{d:DV} {v:V},d.nolam=true->Rep D (L2.wo O H) d v->Rep D (L2.wo O (L2.wo l H)) d v
 | .non,_,_,h=>by unfold Rep at h ⊢;exact h
 | .bl _,_,_,h=>by unfold Rep at h ⊢;exact h
 | .int _,_,_,h=>by unfold Rep at h ⊢;exact h
 | .str _,_,_,h=>by unfold Rep at h ⊢;exact h
 | .tup ds,_,m,h=>by
  unfold Rep at h ⊢;obtain⟨a,xs,e1,e2,e3⟩:=h;unfold DV.nolam at m;refine⟨a,xs,e1,?_,X7 hl m e3⟩;rcases e2 with(h | ⟨o,h⟩) | h
  ·exact .inl (.inl (dM hl h (by intro o c z;cases z)))
  ·exact .inl (.inr ⟨o,dM hl h (by intro o c z;cases z)⟩)
  ·exact .inr h
 | .lst ds,_,m,h=>by unfold Rep at h ⊢;obtain⟨a,xs,e1,e2,e3⟩:=h;unfold DV.nolam at m;exact⟨a,xs,e1,dM hl e2 (by intro o c z;cases z),X7 hl m e3⟩
 | .dct _ _,_,m,h=>by unfold Rep at h ⊢;unfold DV.nolam at m;obtain⟨a,ob,kvs,e1,e2,e3,e4⟩:=h;exact⟨a,ob,kvs,e1,dM hl e2 (by intro o c z;cases z),e3,X7 hl m e4⟩
 | .dcl _ _,_,m,_=>by unfold DV.nolam at m;cases m
 | .fn _,_,_,h=>by unfold Rep at h ⊢;exact h
 | .lam _ _,_,m,_=>by unfold DV.nolam at m;cases m
 | .scr _,_,_,h=>by
  unfold Rep at h ⊢;obtain⟨a,e1,e2⟩:=h;refine⟨a,e1,?_⟩;rcases e2 with⟨o,h⟩ | h
  ·exact .inl ⟨o,dM hl h (by intro o c z;cases z)⟩
  ·exact .inr h
theorem X7(hl:∀c∈l,∃o,H c=some (.frz o (.own c))):∀{ds:on DV} {xs:on V},DV.nolams ds=true->RepL D (L2.wo O H) ds xs->RepL D (L2.wo O (L2.wo l H)) ds xs
 | [],_,_,h=>by unfold RepL at h ⊢;exact h
 | d::ds,_,m,h=>by unfold RepL at h ⊢;obtain⟨v,vs,e1,e2,e3⟩:=h;unfold DV.nolams at m;rw[f9]at m;exact⟨v,vs,e1,sx hl m.1 e2,X7 hl m.2 e3⟩
end
end
section
variable {X:Cx} {pins:on (Jn×Obj)} {σ:St} {H:Hp} {s:Jm} {sc:Jx} {N ps:on Str}
def aH(d:∀y∈sc.names,y.2=NameKind.free->∃a,b.lookup y.1=some a)(h:(o8 b sc.names []).lookup x=some c):b.lookup x=some c/\(x,NameKind.free)∈sc.names:=by
 rcases bn d (A4 h)with z | z
 ·cases z
 ·exact z
def dN(g:∀y∈sc.names,y.2=NameKind.free->∃a,b.lookup y.1=some a)(f:(x,NameKind.free)∈sc.names)(d:b.lookup x=some c):(o8 b sc.names []).lookup x=some c:=by
 obtain⟨c',e⟩:=jL (fK f d);have:=(aH g e).1;rw[d]at this;cases this;exact e
structure LamTx(N ps:List Str)(sc:Scope):Prop where
 kind:sc.kind=.function
 co:sc.isCoroutine=false
 gen:sc.isGenerator=false
 nd:N.Nodup
 pre:N.take ps.length=ps
 par:∀x∈ps,sc.names.lookup x=some .local
 nocell:∀y∈sc.names,y.2 ≠ .cell
 fre:∀i x,ps.length<=i->N[i]? = some x->sc.names.lookup x=some .free
def LamTx.full(T:LamTx N ps sc)(I:JI pins)(b:∀y∈sc.names,y.2=NameKind.free->∃a,X.env.cells.lookup y.1=some a):LamScope N ps sc (o8 X.env.cells sc.names []) ((o8 X.env.cells sc.names []).map (·.2)) where
 kind:=T.kind
 co:=T.co
 gen:=T.gen
 nd:=T.nd
 pre:=T.pre
 par:=T.par
 nocell:=T.nocell
 fre:=T.fre
 has:=λ x h=>by have d:=A4 h;obtain⟨c,e⟩:=b _ d rfl;exact⟨c,dN b d e⟩
 inj:=λ x y c g f=>I.ok.inj x y c (aH b g).1 (aH b f).1
 mem:=λ x c h=>m9.mpr ⟨_,A4 h,rfl⟩
def gK(I:JI pins)(d:∀y∈sc.names,y.2=NameKind.free->∃a,X.env.cells.lookup y.1=some a):∀c∈(o8 X.env.cells sc.names []).map (·.2),∃x,X.env.cells.lookup x=some c/\(x,NameKind.free)∈sc.names:=λ c e=>by
 obtain⟨⟨x,c'⟩,b,rfl⟩:=m9.mp e;rcases bn d b with z | z
 ·cases z
 ·exact⟨x,z.1,z.2⟩
def Cells.of(I:JI pins)(f:∀y∈sc.names,y.2=NameKind.free->∃a,X.env.cells.lookup y.1=some a):Cells ((o8 X.env.cells sc.names []).map (·.2)) s.heap H where
 none:=λ c b=>by obtain⟨x,e,_⟩:=gK I f c b;exact I.freeC x c e
 cel:=λ c b=>by obtain⟨x,e,_⟩:=gK I f c b;obtain⟨v,o,g,d⟩:=I.cell x c e;exact⟨o,v,g,d⟩
def sy(I:JI pins)(hw:X.fn x=true)(e:X.env.cells.lookup x=some c):X.base.get? c=none/\c∉frs X.stack:=by
 have a:=I.ok.cab x c hw e;refine⟨aN (k6 I.ok.bsz a),λ z=>?_⟩;rcases j0.mp (I.stkSub c z)with w | w
 ·exact I.cne x c e w
 ·obtain⟨_,o,b,_⟩:=I.ok.funs.mem w
  exact absurd (p9 (k8 b) a) (L0 _)
def CS(I:JI pins)(d:∀y∈sc.names,y.2=NameKind.free->∃a,X.env.cells.lookup y.1=some a)(hw:∀y∈sc.names,y.2=NameKind.free->X.fn y.1=true):∀c∈(o8 X.env.cells sc.names []).map (·.2),X.base.get? c=none/\c∉frs X.stack:=λ c f=>by
 obtain⟨x,e,b⟩:=gK I d c f;exact sy I (hw _ b rfl) e
end
section
variable {X:Cx} {δ:on Sv} {ea eb bd:Jp} {pos p lp:Pos} {re:Re} {k:Nat} {x:Str} {pr:Jy} {sc:Jx} {c P:Jn} {m:LamD} {cs:on DV} {fr:on Nat}
def tLam(X:Cx)(pr:Jy)(bd:Jp)(sc:Jx):TE:=λ _ H Q=>∀f H',Same H H'->H f=none->O9 H' (X.env.qual ++ "<lambda>") pr bd sc (o8 X.env.cells sc.names []) f->Q (.ref f) H'
def CT(L:LamAt X sc c P)(a:defaultsOf pr X.env=([],[])):PE X (.Lambda pr bd sc lp) (tLam X pr bd sc):=by
 intro b s σ H Q I h;exact CI I L a λ f d s' g sm e lf=>⟨.ref f,d,g,rfl,h f d sm e lf⟩
theorem lq(R:RSt D H σ δ O W):∀{b:on Nat} {cs:on DV},capD δ b=some cs->∃a:on V,a.length=b.length/\RepL D (L2.wo (O++W) H) cs a/\∀(j i:Nat) v,b[j]? = some i->a[j]? = some v->σ[i]? = some (some v)
 | [],cs,h=>by cases h;exact⟨[],rfl,by unfold RepL;rfl,λ j i v h=>by cases h⟩
 | i::r,cs,h=>by
  unfold capD at h;split at h
  ·rename_i d ds q p;split at h
   ·cases h;obtain⟨a,l,k,g⟩:=lq R p;obtain⟨v,o,n⟩:=R.val i d q;refine⟨v::a,by rw[z7,z7,l],v5.mpr ⟨v,a,rfl,n,k⟩,λ j m f e c=>?_⟩;cases j with
    | zero=>cases e;cases c;exact o
    | succ j=>exact g j m f e c
   ·cases h
  ·cases h
end
structure Wk(D:Dm)(J:It)(ds:List DV)(Oc Oi:List Addr)(H1:Hp):Prop where
 go:∀i H,Same (L2.wo Oc H1) (L2.wo Oc H)->i<ds.length->J.go i H
 same:∀i H x H',J.yld i H x H'->Same H H'
 yld:∀i H x H' d O2,Same (L2.wo Oc H1) (L2.wo Oc H)->Same (L2.wo Oi H1) (L2.wo Oi H)->J.yld i H x H'->ds[i]? = some d->(∀a∈O2,H a≠none/\(a∈Oi\/H1 a=none))->Rep D (L2.wo O2 H') d x
 stop:∀H,Same (L2.wo Oc H1) (L2.wo Oc H)->J.stop ds.length H
def hidW(O W:on Jn):Cl->on Jn
 | .top=>O
 | .weak=>O
 | _=>O++W
def CU(D:Dm)(O W:on Jn)(H:Hp)(R:It->Hp->Prop):Ri->Prop
 | .ok ds c=>∀J H',Same H H'->Wk D J ds (hidW O W c) (L8 O W c) H'->R J H'
def dI(D:Dm)(δ:on Sv)(r:Ri):TI:=λ σ H R=>∃O W,RSt D H σ δ O W/\CU D O W H R r
def PI.weak(h:PI X tg a t)(k:∀b H R,t' b H R->t b H R):PI X tg a t':=λ c s b H R I q=>h c s b H R I (k b H R q)
def lr(s:Same (L2.wo O c) (L2.wo O H))(h:∀a∈d,H a≠none/\(a∈O\/c a=none)):Same (L2.wo O c) (L2.wo d H):=λ b o e=>by
 have q:=s b o e;obtain⟨f,e⟩:=D6 e;obtain⟨_,q⟩:=D6 q;rw[j9 λ z=>?_]
 ·exact q
 ·rcases(h b z).2 with w | w
  ·exact f w
  ·rw[w]at e;cases e
def Wk.list(h:SqL D.K (L2.wo f b) a xs)(r:RepL D (L2.wo c b) ds xs):Wk D (Itl D.K a) ds f c b where
 go:=λ i H s hi=>⟨xs,xs[i]'(by rwa [r.length]),A2.seq (s.seq h),p8 _⟩
 same:=λ i H x n y=>by rw[y.1];exact Same.refl _
 yld:=λ i H x n d O2 s g y e l=>by obtain⟨m,y⟩:=y;subst m;obtain⟨v,k,j⟩:=r.get e;have:=y xs (A2.seq (s.seq h));rw[k]at this;cases this;exact j.mono (lr g l)
 stop:=λ H s=>⟨xs,A2.seq (s.seq h),by rw[r.length];exact i8 _⟩
def Wk.tup(h:SqT D.K (L2.wo f b) a xs)(r:RepL D (L2.wo c b) ds xs):Wk D (Itt D.K a) ds f c b where
 go:=λ i H s hi=>⟨xs,xs[i]'(by rwa [r.length]),A2.tseq (s.tseq h),p8 _⟩
 same:=λ i H x n y=>by rw[y.1];exact Same.refl _
 yld:=λ i H x n d O2 s g y e l=>by obtain⟨m,y⟩:=y;subst m;obtain⟨v,k,j⟩:=r.get e;have:=y xs (A2.tseq (s.tseq h));rw[k]at this;cases this;exact j.mono (lr g l)
 stop:=λ H s=>⟨xs,A2.tseq (s.tseq h),by rw[r.length];exact i8 _⟩
def ls(a:Int)(n:Nat):(upTo a n).length=n:=by unfold upTo;rw[i0,A8]
def CV(h:(upTo a n)[i]? = some d):i<n/\d=.int (a+i):=by
 have b:i<n:=by have:=(w6.mp h).1;rw[ls]at this;exact this
 unfold upTo at h;rw[q9,aO b]at h;cases h;exact⟨b,rfl⟩
def Wk.range(a:Int)(n:Nat):Wk D (Itr a n) (upTo a n) h g j where
 go:=λ i H s b=>by rw[ls]at b;exact b
 same:=λ i H x k y=>by rw[y.1];exact Same.refl _
 yld:=λ i H x k d O2 s s' y e ho=>by obtain⟨f,y⟩:=y;subst f;obtain⟨_,c⟩:=CV e;subst c;exact A7.mpr y
 stop:=λ H s=>by rw[ls];exact i8 _
def Got.walkL(g:Got D O W f H (.lst ds) c v)(hd:Hid O W f H):∃a xs,v=.ref a/\SqL D.K (L2.wo (hidW O W c) H) a xs/\RepL D (L2.wo (L8 O W c) H) ds xs:=by
 cases c with
 | weak=>obtain⟨a,xs,e,d,b⟩:=K5.mp g;exact⟨a,xs,e,SqL.of d,b⟩
 | top=>obtain⟨a,xs,e,e0,d,b⟩:=g;exact⟨a,xs,e,SqL.of d,b⟩
 | strong=>obtain⟨a,xs,e,d,b⟩:=K5.mp g;exact⟨a,xs,e,SqL.of d,b⟩
 | fresh=>obtain⟨a,xs,e,d,b⟩:=K5.mp (g.strong hd);exact⟨a,xs,e,SqL.of d,b⟩
def Got.walkT(g:Got D O W b H (.tup ds) c v)(hd:Hid O W b H):∃a xs,v=.ref a/\SqT D.K (L2.wo (hidW O W c) H) a xs/\RepL D (L2.wo (L8 O W c) H) ds xs:=by
 cases c with
 | weak=>exact E7.mp g
 | top=>
  obtain⟨a,xs,f,e,d⟩:=E7.mp (g);exact⟨a,xs,f,(J7 bD).tseq e,d⟩
 | strong=>exact E7.mp g
 | fresh=>obtain⟨_,_,_,_,q,_⟩:=g;cases q
def Got.walkS{D:Dm}{O W:on Jn}{H0 H:Hp}{ns:on Int}{c:Cl}{v:V}(g:Got D O W H0 H (.scr ns) c v)(hd:Hid O W H0 H):∃a,v=.ref a/\SqL D.K (L2.wo (hidW O W c) H) a (ns.map V.int):=by
 cases c with
 | weak=>obtain⟨a,e1,e2⟩:=V4.mp g;exact⟨a,e1,e2.sq⟩
 | top=>obtain⟨a,e1,e2⟩:=V4.mp (show Rep D (L2.wo (O++W) H) (.scr ns) v from g);exact⟨a,e1,(J7 bD).seq e2.sq⟩
 | strong=>obtain⟨a,e1,e2⟩:=V4.mp g;exact⟨a,e1,e2.sq⟩
 | fresh=>obtain⟨_,_,_,_,q,_⟩:=g;cases q
def sA(s:∀q,l=some q->PE X e JN)(h:p7 l=some o):PI X tg e (dI X.D δ o):=by
 cases g:l with
 | none=>rw[g]at h;cases h
 | some q=>
  rw[g]at h;have A:=s q g;cases q with
  | ok d c=>
   obtain⟨ds,b,f⟩:=B3.mp (h);cases f;unfold seqD at b;split at b
   ·cases b;exact(oA A).weak λ n H r ⟨O,W,R,p⟩=>⟨O,W,R,λ v j s1 i=>by
     obtain⟨a,b,f⟩:=i.walkS (R.hid.mono s1);exact⟨a,b,⟨_,A2.seq f⟩,p _ j s1 (.list f (bC _))⟩⟩
   ·cases b;exact(oA A).weak λ n H r ⟨O,W,R,p⟩=>⟨O,W,R,λ v j s1 i=>by
     obtain⟨a,k,b,f,m⟩:=i.walkL (R.hid.mono s1);exact⟨a,b,⟨k,A2.seq f⟩,p _ j s1 (.list f m)⟩⟩
   ·cases b;exact(xp A).weak λ n H r ⟨O,W,R,p⟩=>⟨O,W,R,λ v j s1 i=>by
     obtain⟨a,k,b,f,m⟩:=i.walkT (R.hid.mono s1);exact⟨a,b,⟨k,A2.tseq f⟩,p _ j s1 (.tup f m)⟩⟩
   ·cases b
def lu(h:J0 i=true) : -(2^62)<=i/\i<2^62:=by
 unfold J0 at h;simpa[f9]using h
def sB(h:p7 (o.map λ a=>Re.ok (.lst a) .fresh)=some b):∃a,o=some a/\b=.ok a .fresh:=by
 cases o with
 | none=>cases h
 | some a=>cases h;exact⟨a,rfl,rfl⟩
def CW(r:Gl X "range")(n:X.mg "range" = none)(s:∀q,d=some q->PA X [e] (dA X.D δ q))(k:t9 e=false)(h:p7 (Rs.thn d λ l=>(rngD l).map λ g=>Re.ok (.lst g) .fresh)=some f)(o:∀l,d=some (.ok l)->l.length=1) :
  PI X tg (.Call (.Name "range" p) [e] [] pos) (dI X.D δ f):=by
 cases a:d with
 | none=>rw[a]at h;cases h
 | some q=>
  rw[a]at h;have A:=s q a;cases q with
  | ok l=>
   have i:=o l a;obtain⟨g,b,y⟩:=sB (h);cases y;unfold rngD at b;split at b
   ·rename_i j c;split at b
    ·rename_i m;cases b;rw[f9]at m;have q:=lu m.1;exact((λ t (u:PA X [e] t)=>xt r n u (z9 k)) _ A).weak λ σ H R' ⟨O,W,R,p⟩=>⟨O,W,R,λ vs z s1 x=>by
      obtain⟨v,rfl,w⟩:=x.one;exact⟨j,by rw[w.int (R.hid.mono s1)],q.1,q.2,p _ z s1 (.range _ _)⟩⟩
    ·cases b
   ·cases i
   ·cases b
def CY(y:Gl X "range")(w:X.mg "range" = none)(z:∀q,f=some q->PA X [e,g] (dA X.D δ q))(u:t9 e=false)(d:t9 g=false)(h:p7 (Rs.thn f λ l=>(rngD l).map λ r=>Re.ok (.lst r) .fresh)=some n)(x:∀l,f=some (.ok l)->l.length=2) :
  PI X tg (.Call (.Name "range" p) [e,g] [] pos) (dI X.D δ n):=by
 cases a:f with
 | none=>rw[a]at h;cases h
 | some q=>
  rw[a]at h;have A:=z q a;cases q with
  | ok l=>
   have s:=x l a;obtain⟨r,b,F⟩:=sB (h);cases F;unfold rngD at b;split at b
   ·cases s
   ·rename_i i c j c';split at b
    ·rename_i m;cases b;rw[f9,f9]at m;have q:=lu m.1.1;have o:=lu m.1.2;exact((λ t (B:PA X [e,g] t)=>xu y w B (by rw[z9 u,z9 d];rfl) (z9 d)) _ A).weak λ σ H R' ⟨O,W,R,p⟩=>⟨O,W,R,λ vs I s1 E=>by
      obtain⟨v,v',rfl,C,k⟩:=E.two;exact⟨i,j,by rw[C.int (R.hid.mono s1),k.int (R.hid.mono s1)],⟨q.1,q.2,o.1,o.2⟩,p _ I s1 (.range _ _)⟩⟩
    ·cases b
   ·cases b
def gL:on Nat->TGs
 | []=>gNil
 | i::is=>oy (cT i) (gL is)
def gT(K:Jw):Tg->TG
 | .one i=>cT i
 | .many is=>gTup K is.length (gL is)
def RSt.setVal(R:RSt D H σ δ O W)(r:Rep D (L2.wo (O++W) H) d v)(i:Nat):RSt D H (σ.set i (some v)) (δ.set i (.val d)) O W where
 val:=λ j u h=>by
  by_cases e:j=i
  ·subst e;have c:=(by have:=(w6.mp h).1;rw[D4]at this;exact this);rw[J8 c]at h;cases h;exact⟨v,J8 (by rw[R.len];exact c),r⟩
  ·rw[v6 (Ne.symm e)]at h ⊢;exact R.val j u h
 own:=λ j l h=>by
  by_cases e:j=i
  ·subst e;have c:=(by have:=(w6.mp h).1;rw[D4]at this;exact this);rw[J8 c]at h;cases h
  ·rw[v6 (Ne.symm e)]at h ⊢;exact R.own j l h
 inj:=λ j k a f q b g n m=>by
  have ne:∀{j:Nat} {f:DV},(δ.set i (.val d))[j]? = some (.own f)->j≠i:=λ {j f} b z=>by
   subst z;have c:j<δ.length:=by have:=(w6.mp b).1;rw[D4]at this;exact this
   rw[J8 c]at b;cases b
  have p:=ne b;have o:=ne g;rw[v6 (Ne.symm p)]at b n;rw[v6 (Ne.symm o)]at g m;exact R.inj j k a f q b g n m
 od:=R.od.step (kF _ (by intro d z;cases z)) (λ _ h _=>h) (λ _ _ _ h _=>h)
 len:=by rw[D4,D4];exact R.len
 hid:=R.hid
theorem sC:∀{g:on Nat} {j:on DV} {f:on V} {c:St} {e a:on Sv},RSt D H c e O W->RepL D (L2.wo (O++W) H) j f->bq e g j=some a->(∀b,RSt D H b a O W->Q b H)->gL g f c H Q
 | [],[],f,c,e,a,R,r,h,q=>by cases h;exact⟨B9.mp r,q c R⟩
 | i::g,d::j,f,c,e,a,R,r,h,q=>by obtain⟨v,k,n,m,l⟩:=v5.mp r;exact⟨v,k,n,sC (R.setVal m i) l h q⟩
 | [],_::_,_,_,_,_,_,_,h,_=>by cases h
 | _::_,[],_,_,_,_,_,_,h,_=>by cases h
theorem lw:∀{is:on Nat} {f:on DV} {e c:on Sv},bq e is f=some c->is.length=f.length/\c.length=e.length
 | [],[],_,_,h=>by cases h;exact⟨rfl,rfl⟩
 | i::is,d::f,e,c,h=>by obtain⟨a,b⟩:=lw (is:=is) h;exact⟨by rw[z7,z7,a],by rw[b,D4]⟩
 | [],_::_,_,_,h=>by cases h
 | _::_,[],_,_,h=>by cases h
def lx{D:Dm}{H:Hp}{O W:on Jn}{Q:St->Hp->Prop}{tg:Tg}{d:DV}{x:V}{σ:St}{δ δ':on Sv}(R:RSt D H σ δ O W)(r:Rep D (L2.wo (O++W) H) d x)(h:tg.bind d δ=some δ')(q:∀σ',RSt D H σ' δ' O W->Q σ' H):gT D.K tg x σ H Q:=by
 cases tg with
 | one i=>cases h;exact q _ (R.setVal r i)
 | many is=>
  unfold Tg.bind at h;dsimp only at h;split at h
  ·rename_i ds;obtain⟨a,xs,e1,e2,e3⟩:=E7.mp r;exact⟨a,xs,e1,A2.tseq e2,by rw[e3.length,(lw h).1],sC R e3 h q⟩
  ·cases h
def RSt.less{D:Dm}{H:Hp}{σ:St}{δ δ':on Sv}{O W:on Jn}(R:RSt D H σ δ' O W)(hl:δ.length=δ'.length)(h:∀(i:Nat) sv,δ[i]? = some sv->sv=.no\/δ'[i]? = some sv):RSt D H σ δ O W where
 val:=λ i d e=>by
  rcases h i _ e with z | z
  ·cases z
  ·exact R.val i d z
 own:=λ i d e=>by
  rcases h i _ e with z | z
  ·cases z
  ·exact R.own i d z
 inj:=λ i j a d d' e e'=>by
  rcases h i _ e with z | z
  ·cases z
  ·rcases h j _ e' with y | y
   ·cases y
   ·exact R.inj i j a d d' z y
 od:=R.od.step (λ j d e=>by
  rcases h j _ e with z | z
  ·cases z
  ·exact⟨z,rfl⟩) (λ _ h _=>h) (λ _ _ _ h _=>h)
 len:=by rw[hl];exact R.len
 hid:=R.hid
def CZ:∀{is:on Nat} {f:on DV} {b a:on Sv},bq b is f=some a->(∀i∈is,b[i]? = some .no\/b[i]? = none)->∀(i:Nat) sv,b[i]? = some sv->sv=.no\/a[i]? = some sv
 | [],[],_,_,h,_,i,sv,e=>by cases h;exact .inr e
 | j::is,d::f,b,a,h,p,i,sv,e=>by
  by_cases c:i∈j::is
  ·rcases p i c with z | z
   ·rw[z]at e;cases e;exact .inl rfl
   ·rw[z]at e;cases e
  ·have o:j≠i:=λ z=>c (by rw[z];exact o6);have n:=λ z=>c (o4 _ z);have g:∀{is:on Nat} {f:on DV} {b a:on Sv},bq b is f=some a->i∉is->b[i]? = some sv->a[i]? = some sv:=by
    intro is
    induction is with
    | nil=>intro f b a h _ e;cases f with
     | nil=>cases h;exact e
     | cons _ _=>cases h
    | cons k is m=>intro f b a h l e;cases f with
     | nil=>cases h
     | cons d f=>
      refine m h (λ z=>l (o4 _ z)) ?_;rw[v6 (λ z=>l (by rw[z];exact o6))];exact e
   exact .inr (g h c e)
 | [],_::_,_,_,h,_,_,_,_=>by cases h
 | _::_,[],_,_,h,_,_,_,_=>by cases h
def sD(h:tg.bind d δ=some δ')(b:∀i∈az tg,δ[i]? = some .no\/δ[i]? = none):δ.length=δ'.length/\∀(i:Nat) sv,δ[i]? = some sv->sv=.no\/δ'[i]? = some sv:=by
 cases tg with
 | one j=>
  cases h;refine⟨(D4 ..).symm,λ i sv e=>?_⟩;by_cases a:i=j
  ·subst a;rcases b i (by simp[az])with z | z
   ·rw[z]at e;cases e;exact .inl rfl
   ·rw[z]at e;cases e
  ·exact .inr (by rw[v6 (Ne.symm a)];exact e)
 | many is=>
  unfold Tg.bind at h;dsimp only at h;split at h
  ·exact⟨(lw h).2.symm,CZ h b⟩
  ·cases h
theorem RSt.inner(R:RSt D H σ δ O W)(fr:on (Jk Nat))(B:∀(j k i:Nat),fr[j]? = some (some i)->fr[k]? = some (some i)->j=k):RSt D H (L2.inner fr σ) (A6 fr δ) O W:=by
 have c:∀(j:Nat) x,(A6 fr δ)[j]? = some x->x ≠ .no->∃i,fr[j]? = some _/\δ[i]? = some x:=λ j x h L=>by
  unfold A6 at h;rw[q9]at h;cases q:fr[j]? with
  | none=>rw[q]at h;cases h
  | some o=>
   rw[q]at h;cases o with
   | none=>cases h;exact absurd rfl L
   | some i=>
    refine⟨i,rfl,?_⟩;have C:δ.getD i .no=x:=by simpa using h
    rw[D1]at C;cases z:δ[i]? with
    | none=>rw[z]at C;exact absurd C.symm L
    | some P=>
     rw[z]at C;exact congrArg some C
 have f:∀(j i:Nat) (v:V),fr[j]? = some (some i)->σ[i]? = some (some v)->(L2.inner fr σ)[j]? = some (some v):=λ j i v q e=>by unfold L2.inner;rw[q9,q];simp[e]
 refine⟨λ j d h=>?_,λ j d h=>?_,λ j k a d E S Q r p=>?_,λ j d h=>?_,?_,R.hid⟩
 ·obtain⟨i,m,n⟩:=c j _ h JL;obtain⟨v,r,p⟩:=R.val i d n;exact⟨v,f j i v m r,p⟩
 ·obtain⟨i,m,n⟩:=c j _ h JL;obtain⟨a,K,M,F,r,p⟩:=R.own i d n;exact⟨a,K,M,F,f j i _ m r,p⟩
 ·obtain⟨i,m,n⟩:=c j _ S JL;obtain⟨A,g,l⟩:=c k _ Q JL;obtain⟨b,K,M,_,I,_⟩:=R.own i d n;obtain⟨b',N,U,_,w,_⟩:=R.own A E l;have y:=f j i _ m I;have J:=f k A _ g w;rw[r]at y;rw[p]at J;cases y;cases J;have:=R.inj i A a d E n l I w;subst this;exact B j k i m g
 ·obtain⟨i,m,n⟩:=c j _ h JL;obtain⟨⟨a,o,F,r,p⟩,u⟩:=R.od i d n;refine⟨⟨a,o,F,f j i _ m r,p⟩,λ k E z=>?_⟩;obtain⟨A,g,l⟩:=c k _ z JL;rw[u A E l]at g;exact B k j i g m
 ·unfold L2.inner A6;rw[i0,i0]
section
variable {X:Cx} {δ:on Sv} {iter elt tgE:Jp} {ifs:on Jp} {pos:Pos} {N':on Str} {scope:Jx} {fr:on (Jk Nat)} {tg:Tg} {ri:Jk Ri} {re:Re}
def ly{Q:VK}(w:Wk D J ds (hidW O W c) (L8 O W c) F)(X:Hid O W H H)(hc:c ≠ .weak)(R:RSt D F σ o O W)
  (hn:∀i∈az tg,o[i]? = some .no\/o[i]? = none) (hz:ds.length<=sizeLine) (hx:w4 g ds=some xs) (s1:Same H F)
  (step:∀d S,d∈ds->g d=some S->∃b,tg.bind d o=some b/\∀j l,Same F l->RSt D l j b O W->∀K:Bool->Hp->Prop,(S=.skip->∀m,Same l m->K false m)->(∀x,S=.item x->∀m,Same l m->K true m)->tc j l K)
  (C:∀d x,d∈ds->g d=some (.item x)->∀b,tg.bind d o=some b->∀j l,Same F l->RSt D l j b O W->∀K:VK,(∀v m,Same l m->Rep D (L2.wo (O++W) m) x v->K v m)->te j l K)
  (Y:∀v r,Same H r->Got D O W H r (.lst xs) .fresh v->Q v r) :
  jN J (gT D.K tg) tc te (λ M r=>∀p,r p=none->Q (.ref p) (upd r p (.lst M))) σ F:=by
 have ci:L8 O W c=O++W:=by cases c<;>first | rfl | exact absurd rfl hc
 rw[ci]at w;refine⟨λ i n M j r=>n=ds.length - i/\i<=ds.length/\M.length<=i/\RSt D r j o O W/\Same F r/\∃f rest,w4 g (ds.drop i)=some rest/\f++rest=xs/\RepL D (L2.wo (O++W) r) f M,
  ⟨ds.length,rfl,E5 _,E5 _,R,Same.refl _,[],xs,hx,rfl,B9.mpr rfl⟩,?_⟩
 rintro i n M σ2 l ⟨rfl,hi',hy,R2,s2,f,rest,h1,h2,r2⟩
 by_cases k:i<ds.length
 ·refine .inr ⟨w.go i l s2.wo k,T9 hy (p9 k hz),λ N m y=>?_⟩;have A:=w.same i l N m y;have y3:=w.yld i l N m _ (O++W) s2.wo s2.wo y (p8 k) λ a ha=>⟨R2.hid.ot a ha,.inl ha⟩;rw[nj k]at h1;have U:=U1 k;unfold w4 at h1;split at h1
  ·cases h1
  ·rename_i q;obtain⟨b,I,Z⟩:=step _ _ U q;refine lx (R2.mono A) y3 I λ u L=>?_
   have h:=sD I hn;refine Z u m (s2.trans A) L _ (λ _ H4 B=>?_) (λ x z=>nomatch z);show if false=true then _ else _
   rw[g9 B7];exact⟨ds.length - (i+1),by omega,rfl,k,Nat.le_succ_of_le hy,(L.less h.1 h.2).mono B,(s2.trans A).trans B,f,rest,h1,h2,r2.mono (A.trans B).wo⟩
  ·rename_i x q;split at h1
   ·cases h1
   ·rename_i E q';cases h1;obtain⟨b,I,Z⟩:=step _ _ U q;refine lx (R2.mono A) y3 I λ u L=>?_
    have h:=sD I hn;refine Z u m (s2.trans A) L _ (λ z=>nomatch z) (λ N z H4 B=>?_);cases z;show if true=true then _ else _
    rw[f8 rfl];refine C _ x U q b I u H4 ((s2.trans A).trans B) (L.mono B) _ λ v H5 P rv=>?_
    exact⟨ds.length - (i+1),by omega,rfl,k,by rw[x4,iA];omega,(L.less h.1 h.2).mono (B.trans P),((s2.trans A).trans B).trans P,f++[x],E,q',by rw[N7];exact h2,
     (r2.mono ((A.trans B).trans P).wo).append (RepL.one rv)⟩
 ·have e:i=ds.length:=by omega
  subst e;rw[List.drop_length]at h1;cases h1;rw[C8]at h2;subst h2;have s0:=s1.trans s2;refine .inl ⟨w.stop l s2.wo,λ p hp=>Y _ _ (s0.trans (v9 hp)) ?_⟩;exact V5 (X.mono s0) hp r2
def PE.any{t:ι->TE}(h:∀k,PE Y e (t k)):PE Y e (λ b H Q=>∃k,t k b H Q):=λ a s b H Q I ⟨k,q⟩=>h k a s b H Q I q
def PTs.any{t:ι->TT}(h:∀k,PTs Y es (t k)):PTs Y es (λ b H Q=>∃k,t k b H Q):=λ a s b H Q I ⟨k,q⟩=>h k a s b H Q I q
def Rc.of_item(h:Rc.of r=some (.item x)):∃c,r=some (.ok x c)/\stro x c=true:=by
 unfold Rc.of at h;split at h
 ·rename_i d c;split at h
  ·rename_i m;cases h;exact⟨c,rfl,m⟩
  ·cases h
 ·cases h
def Rc.of_skip(h:Rc.of r=some .skip):False:=by
 unfold Rc.of at h;split at h
 ·split at h<;>cases h
 ·cases h
def lz{i:Nat}(h:fr[i]? = some none):(A6 fr δ)[i]? = some .no:=by
 unfold A6;rw[q9,h];rfl
def X8(X:Cx)(δ:on Sv)(tgE iter:Jp)(ifs:on Jp)(elt:Jp)(scope:Jx)(N':on Str)(fr:on (Jk Nat))(tg:Tg)(re:Re):Prop:=
 ∃(wi:TI) (tc:TT) (te:TE),PI X tgE iter wi/\(∀C cells s₂ H₂ fp,PTs (u6 X scope N' C cells s₂ H₂ fp) ifs tc)/\(∀C cells s₂ H₂ fp,PE (u6 X scope N' C cells s₂ H₂ fp) elt te) /\
  ∀σ H Q,dE X.D δ re σ H Q->jO fr wi (gT X.K tg) tc te σ H Q
def gM(b:J3 a=false):∀x,foldedSetIterable a env x=pure x:=by cases a<;>first | (intro _;rfl) | cases b
def X8.pe(P:X8 X δ tgE iter ifs elt scope N' fr tg re)(S:CompScope X.N N' scope X.env.scope fr)(e:X.calm=true)(f:∀C a b d fp,PG (u6 X scope N' C a b d fp) tgE (gT X.K tg))(c:J3 iter=false) :
  PE X (.ListComp elt [⟨tgE,iter,ifs,0⟩] scope pos) (dE X.D δ re):=by
 obtain⟨wi,tc,te,j,i,h,g⟩:=P;exact(pE S e j f i h (gM c)).weak g
def RSt.noNames(R:RSt D H σ δ O W)(fr:on (Jk Nat)):RSt D H (L2.inner fr σ) (A6 fr []) O []:=by
 have c:∀(j:Nat) e,(A6 fr [])[j]? = some e->e=.no:=λ j e h=>by
  unfold A6 at h;rw[q9]at h;cases q:fr[j]? with
  | none=>rw[q]at h;cases h
  | some o=>
   rw[q]at h;cases o with
   | none=>cases h;rfl
   | some i=>cases h;rfl
 refine⟨λ j d h=>(by cases c j _ h),λ j d h=>(by cases c j _ h),λ j k a d d' f h2 e1 e2=>(by cases c j _ f),λ j d h=>(by cases c j _ h),?_,?_⟩
 ·unfold L2.inner A6;rw[i0,i0]
 ·exact⟨λ a b=>R.hid.ot a (by rw[C8]at b;exact C6 _ b),Same.refl _,λ a b=>(nomatch b),λ a b=>(nomatch b),R.hid.om⟩
def Da{a:on Sv->Jk Re}(S:CompScope X.N N' scope X.env.scope fr)(hc:X.calm=true)(P:∀(j k i:Nat),fr[j]? = some (some i)->fr[k]? = some (some i)->j=k)(B:∀i∈az tg,fr[i]? = some none)(E:∀q,ri=some q->PI X tgE iter (dI X.D δ q))
  (hG:∀C b e f fp,PG (u6 X scope N' C b e f fp) tgE (gT X.K tg)) (he:∀δ' r,a δ'=some r->∀C b e f fp,PE (u6 X scope N' C b e f fp) elt (dE X.D δ' r))
  (h:(Ri.thn ri λ n c=>if c=.weak\/n5<n.length then(if c=.weak/\n.length<=n5 then fO (w4 (λ d=>(tg.bind d (A6 fr [])).bind λ δ'=>Rc.of (a δ')) n)else none)else W7 (w4 (λ d=>(tg.bind d (A6 fr δ)).bind λ δ'=>Rc.of (a δ')) n))=some re):X8 X δ tgE iter [] elt scope N' fr tg re:=by
 cases u:ri with
 | none=>rw[u]at h;cases h
 | some q=>
  rw[u]at h;have A:=E q u;refine⟨_,_,_,A,(λ C b e f fp=>pC),(λ C b e f fp=>PE.any (ι:={p:on Sv×Re // a p.1=some p.2}) (t:=λ k=>dE X.D k.1.1 k.1.2) λ k=>he k.1.1 k.1.2 k.2 C b e f fp),?_⟩;cases q with
  | ok n c=>
   have l:(if c=.weak\/n5<n.length then(if c=.weak/\n.length<=n5 then fO (w4 (λ d=>(tg.bind d (A6 fr [])).bind λ δ'=>Rc.of (a δ')) n)else none)else W7 (w4 (λ d=>(tg.bind d (A6 fr δ)).bind λ δ'=>Rc.of (a δ')) n))=some re:=h;split at l
   ·split at l
    ·rename_i m;obtain⟨rfl,ml⟩:=m;unfold fO at l;split at l
     ·cases l
     ·rename_i xs N;cases l;refine λ σ H Q ⟨O,W,R,p⟩=>⟨O,W,R,λ J H1 s1 w=>?_⟩
      have w':Wk X.D J n (hidW O [] .strong) (L8 O [] .strong) H1:=(by show Wk X.D J n (O++[]) (O++[]) H1;rw[C8];exact w);have F:Hid O [] H H:=(R.noNames fr).hid;refine ly (tg:=tg) (D:=X.D) (O:=O) (W:=[]) w' F JL ((R.mono s1).noNames fr) (λ i E=>.inl (lz (B i E))) (S8 JC) N s1 (λ d L U g=>?_) (λ d x U g δ' o s I s2 R2 K Y=>?_) (λ v H' s' g'=>p v H' s' ?_)
      ·cases o:tg.bind d (A6 fr [])with
       | none=>rw[o]at g;cases g
       | some δ'=>
        rw[o]at g;refine⟨δ',rfl,λ s I s2 R2 K k1 M=>?_⟩;cases L with
        | skip=>exact(Rc.of_skip g).elim
        | item x=>exact M x rfl I (Same.refl _)
      ·rw[o]at g;obtain⟨cl,e1,e2⟩:=Rc.of_item g;exact⟨⟨⟨δ',.ok x cl⟩,e1⟩,O,[],R2,λ v H3 y Z=>Y v H3 y (Z.stro (R2.hid.mono y) e2)⟩
      ·show Rep X.D (L2.wo O H') _ v;have:=Got.strong g' (F.mono s');rw[C8]at this;exact this
    ·cases l
   ·rename_i m;rw[not_or]at m;unfold W7 at l;split at l
    ·cases l
    ·rename_i xs N;cases l;refine λ σ H Q ⟨O,W,R,p⟩=>⟨O,W,R,λ J H1 s1 w=>?_⟩
     refine ly (tg:=tg) (D:=X.D) w R.hid m.1 ((R.mono s1).inner fr P) (λ i E=>.inl (lz (B i E))) (S8 JC) N s1 (λ d L U g=>?_) (λ d x U g δ' o s I s2 R2 K Y=>?_) p
     ·cases o:tg.bind d (A6 fr δ)with
      | none=>rw[o]at g;cases g
      | some δ'=>
       rw[o]at g;refine⟨δ',rfl,λ s I s2 R2 K k1 M=>?_⟩;cases L with
       | skip=>exact(Rc.of_skip g).elim
       | item x=>exact M x rfl I (Same.refl _)
     ·rw[o]at g;obtain⟨cl,e1,e2⟩:=Rc.of_item g;exact⟨⟨⟨δ',.ok x cl⟩,e1⟩,O,W,R2,λ v H3 y Z=>Y v H3 y (Z.stro (R2.hid.mono y) e2)⟩
def Db{f:on Sv->Jk Re}{l:on Sv->Jk Rt}(S:CompScope X.N N' scope X.env.scope fr)(hc:X.calm=true)(I:∀(j k i:Nat),fr[j]? = some (some i)->fr[k]? = some (some i)->j=k)(F:∀i∈az tg,fr[i]? = some none)(L:∀q,ri=some q->PI X tgE iter (dI X.D δ q))
  (hG:∀C a b e fp,PG (u6 X scope N' C a b e fp) tgE (gT X.K tg)) (he:∀δ' r,f δ'=some r->∀C a b e fp,PE (u6 X scope N' C a b e fp) elt (dE X.D δ' r))
  (Y:∀δ' r,l δ'=some r->∀C a b e fp,PT (u6 X scope N' C a b e fp) n (dT X.D δ' r))
  (h:(Ri.thn ri λ z c=>if c=.weak\/n5<z.length then none else W7 (w4 (λ d=>(tg.bind d (A6 fr δ)).bind λ δ'=>Rc.test (l δ') (Rc.of (f δ'))) z))=some re):X8 X δ tgE iter [n] elt scope N' fr tg re:=by
 cases o:ri with
 | none=>rw[o]at h;cases h
 | some q=>
  rw[o]at h;refine⟨_,_,_,(L q o),(λ C a b e fp=>PTs.any (ι:={p:on Sv×Rt // l p.1=some p.2}) (t:=λ k=>dT X.D k.1.1 k.1.2) λ k=>yN (Y k.1.1 k.1.2 k.2 C a b e fp)),
   (λ C a b e fp=>PE.any (ι:={p:on Sv×Re // f p.1=some p.2}) (t:=λ k=>dE X.D k.1.1 k.1.2) λ k=>he k.1.1 k.1.2 k.2 C a b e fp),?_⟩
  cases q with
  | ok z c=>
   have y:(if c=.weak\/n5<z.length then none else W7 (w4 (λ d=>(tg.bind d (A6 fr δ)).bind λ δ'=>Rc.test (l δ') (Rc.of (f δ'))) z))=some re:=h;split at y
   ·cases y
   ·rename_i m;rw[not_or]at m;unfold W7 at y;split at y
    ·cases y
    ·rename_i xs U;cases y;refine λ σ H Q ⟨O,W,R,p⟩=>⟨O,W,R,λ J H1 s1 w=>?_⟩
     refine ly w R.hid m.1 ((R.mono s1).inner fr I) (λ i L=>.inl (lz (F i L))) (S8 JC) U s1 (λ d M Z s=>?_) (λ d x Z s δ' B E H2 s2 R2 K hK=>?_) p
     ·cases B:tg.bind d (A6 fr δ)with
      | none=>rw[B]at s;cases s
      | some δ'=>
       rw[B]at s;have g:Rc.test (l δ') (Rc.of (f δ'))=some M:=s;refine⟨δ',rfl,λ E H2 s2 R2 K P N=>?_⟩;unfold Rc.test at g;split at g
       ·rename_i q;refine⟨⟨⟨δ',.ok true⟩,q⟩,O,W,R2,λ A u=>?_⟩;cases M with
        | skip=>exact(Rc.of_skip g).elim
        | item x=>exact N x rfl A u
       ·rename_i q;cases g;exact⟨⟨⟨δ',.ok false⟩,q⟩,O,W,R2,λ A u=>P rfl A u⟩
       ·cases g
     ·rw[B]at s;have g:Rc.test (l δ') (Rc.of (f δ'))=some (.item x):=s;unfold Rc.test at g;split at g
      ·obtain⟨cl,e1,e2⟩:=Rc.of_item g;exact⟨⟨⟨δ',.ok x cl⟩,e1⟩,O,W,R2,λ v A u g3=>hK v A u (g3.stro (R2.hid.mono u) e2)⟩
      ·cases g
      ·cases g
end
def Inv.turnedL{ch:on Jn}(I:JI a)(k:∀b o,b∉ch->s.heap.get? b=some o->h'.get? b=some o)(g:∀b∈ch,FpOk X a H b):Inv X a σ H {s with heap:=h',toks:=t'}:=by
 have f:∀b u,H b=some u->b∉ch:=λ b u e z=>by rw[(g b z).1]at e;cases e
 refine I.step (ch:=ch) (λ b j=>?_) (λ b o _ _ d e _=>k b o d e) (λ b o _ _ d e _=>⟨o.slots,k b o d e⟩) (λ _ _ _ _ n=>n)
  (λ b o d e=>⟨o,k b o d e⟩) (λ _ _ e=>e) (λ _ _ _ e=>e) (λ _ _ e=>e) (λ m i=>?_) (λ b u e=>?_) I.bare
 ·obtain⟨_,x,_,w,p,l⟩:=g b j;exact⟨w,x,p,l⟩
 ·obtain⟨o,y,A,h,r⟩:=i;exact⟨o,y,A,k _ o (λ z=>(g _ z).2.1 rfl) h,r⟩
 ·refine(I.hok b u e).stay (λ c v d q=>k c v ?_ q) (λ _ q=>q) (λ _ _ q=>q) (λ _ _ q=>q) λ _ _ _ _ _ q=>q;rcases d with z | z
  ·rw[z];exact f b u e
  ·exact f c _ z
def SqD(t:Bool)(K:Jw)(H:Hp)(a:Jn)(xs:on V):Prop:=match t with | false=>SqL K H a xs | true=>SqT K H a xs
def Same.sqd{K:Jw}(e:Same H b)(h:SqD t K H a xs):SqD t K b a xs:=by
 cases t
 ·exact e.seq h
 ·exact e.tseq h
def Inv.sqd(I:JI c)(h:SqD t X.K H a xs):∃b:on Jl,Vals xs b/\SqK t s.heap a b.toArray:=by
 cases t
 ·obtain⟨b,d,p,_⟩:=I.list h;exact⟨b,d,p.isList⟩
 ·obtain⟨b,d,p,_⟩:=I.tuple h;exact⟨b,d,p⟩
def Inv.sqd_inj(I:JI b)(h:SqD t X.K H a xs)(d:SqD t X.K H a c):xs=c:=by
 cases t
 ·exact I.list_inj h d
 ·exact I.tuple_inj h d
def itK(t:Bool)(h:Jo)(ia la:Jn)(k:Nat):Prop:=match t with | false=>h.IsListIter ia la k | true=>h.IsTupleIter ia la k
def sE(p:itK t h b a k)(q:SqK t h a vs):sK t b a vs k h:=by
 cases t<;>exact⟨p,q⟩
def sF(p:sK t b a vs k h):itK t h b a k:=by
 cases t<;>exact p.1
def sG{t:Bool}{ia la:Jn}{k:Nat}{h h':Jo}(p:itK t h ia la k)(e:∀o,h.get? ia=some o->h'.get? ia=some o):itK t h' ia la k:=by
 cases t
 ·exact Heap.IsListIter.at p e
 ·obtain⟨o,z,r⟩:=p;exact⟨o,e o z,r⟩
def sH(p:itK t h a c k):∃o b,h.get? a=some o/\o.data=.fields b:=by
 cases t
 ·obtain⟨o,e,_,d⟩:=p;exact⟨o,_,e,d⟩
 ·obtain⟨o,e,_,d⟩:=p;exact⟨o,_,e,d⟩
def SqK.lt(p:SqK t h a vs):a<h.objs.size:=by
 cases t
 ·obtain⟨o,e,_⟩:=p;exact k8 e
 ·obtain⟨o,e,_⟩:=p;exact k8 e
def Dc:∀b∈hidW O W (Cl.meet c d),b∈hidW O W c:=by
 cases c<;>cases d<;>intro b a<;>first | exact a | exact C6 _ a
def Dd:∀b∈L8 O W (Cl.meet c d),b∈L8 O W c:=by
 cases c<;>cases d<;>intro b a<;>first | exact a | exact C6 _ a
def De(k:aq d=some (t,ds))(g:Got D O W f H d c v)(e:Hid O W f H):∃a b,v=.ref a/\SqD t D.K (L2.wo (hidW O W c) H) a b/\RepL D (L2.wo (L8 O W c) H) ds b:=by
 cases d<;>cases k
 ·exact g.walkT e
 ·exact g.walkL e
section
variable {P:Js} {w:Jr} {A:Ju} {E:Jl->Jm->Prop} {s:Jm} {n c l:Jn} {k:Nat} {vs:Jq Jl} {S:Nat->Jo->Prop} {x old:Jl}
abbrev sI(s:Jm)(h':Jo)(n c:Jn)(k:Nat)(x:Jl)(S:Nat->Jo->Prop):Prop:=
 IsEnumOut h' n c ((k:Int)+1) x s.heap.objs.size/\S (k+1) h'/\h'.get? s.heap.objs.size=some {cls:=.type "tuple",data:=.seq #[.int k s.toks,x]} /\ h'.objs.size=s.heap.objs.size+1/\(∀b o,b≠n->b≠c->s.heap.get? b=some o->h'.get? b=some o)
def Df{Q:Jl->Jm->Prop}(R:Src P w c l vs S)(X:IsEnum s.heap n c k old)(hS:S k s.heap)(hx:vs[k]? = some x)(J:n≠c)(d2:l≠n)(hQ:∀h',sI s h' n c k x S->Q (.ref s.heap.objs.size) {s with heap:=h',toks:=s.toks+1}) :
  wpAny (model P w) A (Builtin.«enumerate.__next__» ⟨[.ref n],[]⟩) (λ Z s'=>∃v,Z=.done (.ret v)/\Q v s') E s:=by
 obtain⟨f,i,j,a,h⟩:=s;show wpAny _ _ (field (.ref n) 2 >>= _) _ _ _;refine f0 (G2 X rfl (x:=.ref c) rfl (f0 (R.step k x hS hx λ m r1 r=>?_)))
 replace r:Heap.SameBut c f m:=r
 have W:IsEnum m n c k old:=(r.2 n J).trans X;show wpAny _ _ (field (.ref n) 3 >>= _) _ _ ⟨m,i,j,a,h⟩;refine f0 (G2 W rfl (x:=rawInt k) rfl ?_);show wpAny _ _ (field (.ref n) 4 >>= _) _ _ ⟨m,i,j,a,h⟩;refine f0 (G2 W rfl (x:=.none) rfl ?_);show wpAny _ _ (mkInt k >>= _) _ _ ⟨m,i,j,a,h⟩;refine f0 (wpAny_mkInt ?_);show wpAny _ _ (setField (.ref n) 3 (rawInt ((k:Int)+1)) >>= _) _ _ ⟨m,i,j,a+1,h⟩;refine f0 (P2 W JK λ I U q=>?_)
 replace q:Heap.SameBut n m I:=q
 replace U:IsEnum I n c ((k:Int)+1) old:=U
 show wpAny _ _ (setField (.ref n) 4 .none >>= _) _ _ ⟨I,i,j,a+1,h⟩;refine f0 (P2 U JK λ d O p=>?_)
 replace p:Heap.SameBut n I d:=p
 replace O:IsEnum d n c ((k:Int)+1) old:=O
 show wpAny _ _ (newTuple [.int k a,x] >>= _) _ _ ⟨d,i,j,a+1,h⟩;refine f0 (jd ?_);have C:IsEnum (d.push {cls:=.type "tuple",data:=.seq #[.int k a,x]}) n c ((k:Int)+1) old:=k9 _ O;have K:d.objs.size=f.objs.size:=by rw[p.1,q.1,r.1]
 have q4:(d.push {cls:=.type "tuple",data:=.seq #[.int k a,x]}).get? f.objs.size=some {cls:=.type "tuple",data:=.seq #[.int k a,x]}:=by rw[←K];exact q5 _ rfl
 have z4:(d.push {cls:=.type "tuple",data:=.seq #[.int k a,x]}).objs.size=f.objs.size+1:=by rw[G0,K]
 have k4:∀b o,b≠n->b≠c->f.get? b=some o->(d.push {cls:=.type "tuple",data:=.seq #[.int k a,x]}).get? b=some o:=λ b o g b2 e=>
  k9 _ (p.extBut b o g (q.extBut b o g (r.extBut b o b2 e)))
 have r4:S (k+1) (d.push {cls:=.type "tuple",data:=.seq #[.int k a,x]}):=
  R.keep _ _ _ (R.ext (R.ext r1 q.extBut (Ne.symm J) d2) p.extBut (Ne.symm J) d2) (λ o e=>k9 _ e) (λ o e=>k9 _ e)
 generalize (d.push {cls:=.type "tuple",data:=.seq #[.int k a,x]})=g4 at C q4 z4 k4 r4 ⊢;have lt:n<f.objs.size:=k8 X;show wpAny _ _ (Builtin.SmallTypes.ownedTupleIsFree (.ref n) >>= _) _ _ ⟨g4,i,j,a+1,h⟩;rw[K];refine f0 ?_;unfold Builtin.SmallTypes.ownedTupleIsFree;refine f0 (G2 C rfl (x:=.none) rfl (g7 ?_));simp only[if_true];refine f0 (cN (f0 (G2 C rfl (x:=old) rfl (f0 (P2 C JK λ H N B=>?_)))))
 replace B:Heap.SameBut n g4 H:=B
 replace N:IsEnum H n c ((k:Int)+1) x:=N
 show wpAny _ _ (Builtin.SmallTypes.ownedTupleHandOut (.ref n) (.ref f.objs.size) >>= _) _ _ ⟨H,i,j,a+1,h⟩;refine f0 ?_;unfold Builtin.SmallTypes.ownedTupleHandOut;refine f0 (P2 N JK λ Y M z=>?_)
 replace z:Heap.SameBut n H Y:=z
 replace M:IsEnumOut Y n c ((k:Int)+1) x f.objs.size:=M
 refine P2 M JK λ F L y=>?_
 replace y:Heap.SameBut n Y F:=y
 replace L:IsEnumOut F n c ((k:Int)+1) x f.objs.size:=L
 have u:∀b o,b≠n->g4.get? b=some o->F.get? b=some o:=λ b o g e=>y.extBut b o g (z.extBut b o g (B.extBut b o g e));exact f0 (ba (g7 ⟨_,rfl,hQ F ⟨L,R.keep _ _ _ r4 (λ o e=>u _ o (Ne.symm J) e) (λ o e=>u _ o d2 e),u _ _ (M4 lt) q4,by rw[y.1,z.1,B.1,z4],λ b o g b2 e=>u b o g (k4 b o g b2 e)⟩⟩))
def Dg(R:Src P w c l vs S)(d:IsEnum s.heap n c k old)(f:S k s.heap)(e:vs[k]? = some x)(i:n≠c)(h:l≠n)(g:∀b,sI s b n c k x S->Q (some (.ref s.heap.objs.size)) {s with heap:=b,toks:=s.toks+1}) :
  wpAny (model P w) A (pyNext (.ref n)) Q E s:=by
 have T:s.TypeIs (.ref n) "enumerate":=⟨_,d,rfl⟩;unfold pyNext;exact f0 (U4 (Q6 T eJ (G7 eJ T nN (Df R d f e i h λ b a=>g7 (g b a)) (nE _))))
def Dh(i:A.handled=none)(R:Src P w c l vs S)(a:IsEnum s.heap n c k old)(m:S k s.heap)(h:vs[k]? = none)(p:∀b,Heap.ExtBut c s.heap b->Q none {s with heap:=b}) :
  wpAny (model P w) A (pyNext (.ref n)) Q E s:=by
 have T:s.TypeIs (.ref n) "enumerate":=⟨_,a,rfl⟩;unfold pyNext;refine f0 (U4 (Q6 T eJ (G7 eJ T nN ?_ (nE _))));show wpAny _ _ (field _ 2 >>= _) _ _ _;refine f0 (G2 a rfl rfl (f0 (R.stop k i m h λ g1 e d j=>?_)));obtain⟨o,g,f⟩:=j;exact f0 (cw ⟨o,g,f⟩ eZ (g7 (p _ d)))
end
open AutoSeq1 (wpAny_loadPart') in
def Di(l:Jn)(vs:Jq Jl)(m:Nat)(dc:Jk Jn)(sl:Jq (Jk Jl)):Meets (Builtin.«enumerate.__new__» ⟨[.type "enumerate",.ref l],[]⟩) (λ _ R s=>s.heap.get? l=some {cls:=.type "tuple",dict:=dc,data:=.seq vs m,slots:=sl} /\
  R (.ok (.ret (.ref (zH1 s.heap true l).objs.size))) {s with heap:=(zH1 s.heap true l).push {cls:=.type "enumerate",data:=.fields #[.none,.bool false,.ref s.heap.objs.size,rawInt 0,.none,.none]}}):=
 .of_wp λ P w A R s h=>by
  obtain⟨g0,gg,gd,gt,go⟩:=s;obtain⟨q,h⟩:=h;have hsub:=sub_enumerate;have qT:Heap.IsTuple (Shared.heap ⟨g0,gg,gd,gt,go⟩) l vs:=⟨_,q,rfl,m,rfl⟩
  wp_walk using eM q
  refine wpAny_stack_any λ st=>g7 ?_;split
  ·rename_i y _ _ _ _ _;cases(y==Value.type "enumerate")
   ·wp_walk using eM q,eN qT
    exact⟨_,rfl,h⟩
   ·wp_walk using eM q,eN qT
    exact⟨_,rfl,h⟩
  ·wp_walk using eM q,eN qT
   exact⟨_,rfl,h⟩
def Dj         (t : Bool) (q : SqK t s.heap l vs)
    (h : ∀ a, IsEnum a (s.heap.objs.size + 1) s.heap.objs.size 0 .none -> sK t s.heap.objs.size l vs 0 a -> a.objs.size = s.heap.objs.size + 2 -> (∀ b o, s.heap.get? b = some o -> a.get? b = some o) -> Q (.ref (s.heap.objs.size + 1)) { s with heap := a }) :
    wpAny (model P w) A (call (.type "enumerate") [.ref l]) Q E s := by
  cases t with
  | false => exact call_enumerate_list (q) λ a z x v k => h a z ⟨x, Heap.IsList.at (q) λ o e => k _ o e⟩ v k
  | true =>
    obtain⟨⟨y, u, r, n⟩, p, d, m, c⟩ := id (q)
    replace d : y = .type "tuple" := d
    replace c : r = .seq vs m := c
    subst d c;refine callType_new F.called_enumerate JD (F.typeCall_enumerate_1 _) (F.newCall_enumerate_1 _) (λ f => F.args_object_init_2 f _) F.entry_enumerate_new (Di l vs m u n) ⟨p, ?_⟩;have g : (zH1 s.heap true l).objs.size = s.heap.objs.size + 1 := G0 ..;have i := q5 (zH1 s.heap true l) (o := { cls := .type "enumerate", data := .fields #[.none, .bool false, .ref s.heap.objs.size, rawInt 0, .none, .none] }) rfl;have j : ∀ b o, s.heap.get? b = some o -> ((zH1 s.heap true l).push { cls := .type "enumerate", data := .fields #[.none, .bool false, .ref s.heap.objs.size, rawInt 0, .none, .none] }).get? b = some o := λ b o e => k9 _ (k9 _ e)
    rw [g] at i;show _ /\ _;rw [g];exact ⟨⟨_, i, rfl⟩, h _ i (yU (k9 _ (q5 _ rfl)) q j) (by rw [G0, g]) j⟩
def Ite(K:Jw)(t:Bool)(a:Jn):It:=
  ⟨λ i H=>∃xs x,SqD t K H a xs/\xs[i]? = some x,
   λ i H x H'=>∃p v,x=.ref p/\H p=none/\(∀xs,SqD t K H a xs->xs[i]? = some v)/\H'=upd H p (.tup [.int i,v]),
   λ i H=>∃xs,SqD t K H a xs/\xs.length<=i⟩
def Dk{K:Jw}(t:Bool)(d1:n≠c)(d2:l≠n)(d3:l≠c) :
  Turn P w K (.Tuple elts k pos) (Ite K t l) [n,c] n (λ i h=>(∃f,IsEnum h n c (i:Nat) f)/\itK t h c l i) where
 mem:=by simp
 obj:=λ i h st b g=>by
  obtain⟨⟨f,m⟩,r⟩:=st;simp only[j0,P5,P7]at g;rcases g with rfl | rfl
  ·exact⟨_,m,λ v q=>by cases q⟩
  ·obtain⟨o,Y,e,d⟩:=sH r;exact⟨o,e,λ v q=>by rw[d]at q;cases q⟩
 keep:=λ i h h' st q=>by obtain⟨⟨f,m⟩,r⟩:=st;exact⟨⟨f,q n JK _ m⟩,sG r λ o e=>q c JK o e⟩
 item:=by
  intro X R N S Z i j s C H E I B st Q;subst R N S;obtain⟨⟨f,m⟩,r⟩:=st;obtain⟨Y,x,A,M⟩:=Q;obtain⟨L,J,p⟩:=I.sqd A;obtain⟨u,hu,ru⟩:=J.get M;refine Dg (pF t d3) m (sE r p) (x:=u) (by simpa using hu) d1 d2 λ h' a=>⟨_,rfl,?_⟩
  obtain⟨a1,a2,a3,a4,a5⟩:=a;refine wpAny_letOwnedTupleGo_enum a1 λ U O F=>?_
  have z:s.heap.objs.size≠n:=M4 (k8 m);have keep:∀b o,b∉[n,c]->s.heap.get? b=some o->U.get? b=some o:=λ b o g e=>F.extBut _ _ (λ q=>g (by simp[q])) (a5 b o (λ q=>g (by simp[q])) (λ q=>g (by simp[q])) e);have I1:Inv X j C H {s with heap:=U,toks:=s.toks+1}:=I.turnedL (t':=s.toks+1) keep B;have y:H s.heap.objs.size=none:=I.hok.fresh (i8 _);have W:=I.fpOk (i8 _) y;have h0:X.s₀.heap.get? s.heap.objs.size=none:=aN I.sz;have I2:Inv X j C (upd H s.heap.objs.size (.tup [.int i,x])) {s with heap:=U,toks:=s.toks+1}:=I1.track y h0 W.2.1 (λ n c e=>W.2.2.2.2.1 n c e) (λ q hq=>W.2.2.2.2.2 q hq)
   ⟨by show(2:Nat)<=sizeLine;decide,[.int i s.toks,u],.cons ⟨_,rfl⟩ (.cons ru .nil),_,(F.extBut _ _ z a3),⟨rfl,rfl⟩,_,rfl⟩
  refine⟨.ref s.heap.objs.size,_,I2,rfl,⟨_,x,rfl,y,λ xs' e=>by rw[I.sqd_inj e A];exact M,rfl⟩,⟨⟨_,by simpa using O⟩,sG (sF a2) λ o e=>F.extBut _ _ (Ne.symm d1) e⟩,λ b g=>?_⟩;have lt:b≠s.heap.objs.size:=by
   simp only[j0,P5,P7]at g;rcases g with rfl | rfl
   ·exact Ne.symm z
   ·obtain⟨o,_,e,_⟩:=sH r;exact o9 (k8 e)
  rw[m7 lt];exact(B b g).1
 done:=by
  intro X R N S Z i j s C H E I B st Q;subst R N S;obtain⟨⟨f,m⟩,r⟩:=st;obtain⟨Y,A,M⟩:=Q;obtain⟨L,J,p⟩:=I.sqd A;have e1:=J.length;exact Dh (I.ok.hd Z) (pF t d3) m (sE r p) (by simp;omega) λ h' a=>⟨rfl,I.turnedL (t':=s.toks) (ch:=[n,c]) (λ b o g e=>a b o (λ q=>g (by simp[q])) e) B⟩
 self:=λ _ _ _ _ _ st h=>by obtain⟨⟨f,m⟩,_⟩:=st;exact wpAny_pyIter_enum m h
theorem lA:∀(k:Nat) (a:on DV),(enuD k a).length=a.length
 | _,[]=>rfl
 | k,x::a=>by rw[enuD,z7,lA _ a,z7]
theorem sJ:∀{k:Nat} {a:on DV} {i:Nat} {d:DV},(enuD k a)[i]? = some d->∃x,a[i]? = some x/\d=.tup [.int ((k+i:Nat):Int),x]
 | _,[],_,_,h=>by simp[enuD]at h
 | k,x::a,0,d,h=>by simp[enuD]at h;exact⟨x,rfl,h.symm⟩
 | k,x::a,i+1,d,h=>by rw[enuD,List.getElem?_cons_succ]at h;obtain⟨y,c,b⟩:=sJ h;exact⟨y,by simpa using c,by rw[b,show k+1+i=k+(i+1)from by omega]⟩
def Wk.enum(h:SqD t D.K (L2.wo k c) a xs)(r:RepL D (L2.wo j c) ds xs):Wk D (Ite D.K t a) (enuD 0 ds) k j c where
 go:=λ i H s u=>by rw[lA]at u;exact⟨xs,xs[i]'(by rw[r.length];omega),A2.sqd (s.sqd h),p8 _⟩
 same:=λ i H x A y=>by obtain⟨p,v,_,b,_,e⟩:=y;rw[e];exact v9 b
 yld:=λ i H x A d O2 s o y e g=>by obtain⟨p,v,ex,b,n,w⟩:=y;obtain⟨d1,q,rfl⟩:=sJ e;obtain⟨v1,m,l⟩:=r.get q;have f:=n xs (A2.sqd (s.sqd h));rw[m]at f;cases f;subst w;refine E7.mpr ⟨p,_,ex,SqT.of (by rw[j9 (λ z=>(g p z).1 b)];exact z8),?_⟩;exact v5.mpr ⟨_,_,rfl,A7.mpr (by rw[cK]),RepL.one (l.mono ((lr o g).trans (v9 b).wo))⟩
 stop:=λ H s=>⟨xs,A2.sqd (s.sqd h),by rw[lA,r.length];exact i8 _⟩
def lB(h:a<n):n+1≠n/\a≠n+1/\a≠n:=by omega
def Dl:bootBuiltins "enumerate" = some (.type "enumerate"):=by decide +kernel
def Do(E:Gl X "enumerate")(C:X.mg "enumerate" = none)(F:PA X [e] o)(hs:t9 e=false) :
  PI X (.Tuple elts k tpos) (.Call (.Name "enumerate" p) [e] [] pos) (λ i H R=>o i H λ n g=>∃t a,n=[.ref a]/\(∃m,SqD t X.K g a m)/\R (Ite X.K t a) g):=by
 intro b s i H R I h;refine Call_ (am I E C Dl (eD (thn (F pos b s i H _ I h) λ us s1 ⟨n,g,f,y,z⟩=>?_) (by rw[z9 hs]) (dH [] JK)));obtain⟨t,a,J,⟨m,B⟩,q⟩:=z;subst J;obtain⟨u,rfl,x⟩:=y.one;cases x;obtain⟨A,rv,p1⟩:=f.sqd B;have j:=p1.lt;refine Dj t p1 λ h' l w z6 v=>?_
 refine wpAny_pyIter_enum l ⟨s1.heap.objs.size+1,[s1.heap.objs.size+1,s1.heap.objs.size],_,_,g,rfl,(f.kept v),
  Dk t (lB j).1 (lB j).2.1 (lB j).2.2,⟨⟨_,l⟩,sF w⟩,λ c r=>?_,q⟩
 have d:s1.heap.objs.size<=c:=by
  simp[j0,P5,P7]at r;rcases r with rfl | rfl
  ·exact P4 ..
  ·exact i8 _
 exact f.fpOk d (f.hok.fresh d)
def Dp(u:Gl X "enumerate")(s:X.mg "enumerate" = none)(j:t9 e=false)(v:∀q,i=some q->PE X e JN)
  (h:p7 (Re.thn i λ x c=>fN x c)=some g):PI X (.Tuple elts k d) (.Call (.Name "enumerate" p) [e] [] pos) (dI X.D δ g):=by
 cases b:i with
 | none=>rw[b]at h;cases h
 | some q=>
  rw[b]at h;have A:=v q b;cases q with
  | ok C F=>
   have f:p7 (fN C F)=some g:=h;unfold fN at f;split at f
   ·rename_i o E r;cases f;exact((λ n (w:PE X e n)=>Do u s (M7 w S5 (z9 j)) j) _ A).weak λ σ H R' ⟨O,W,R,p⟩=>⟨O,W,R,λ x I s1 y=>by
     obtain⟨a,m,B,l,z⟩:=De r y (R.hid.mono s1);exact⟨o,a,by rw[B],⟨m,A2.sqd l⟩,p _ I s1 (.enum ((J7 Dc).sqd l) (z.mono (J7 Dd)))⟩⟩
   ·cases f
def X9(f:FpOk X a H b)(h:c b=none):FpOk X a c b:=⟨h,f.2⟩
def Dq{p:on Int}(hh:A.handled=none)(b6:p.length=vs.length)(a5:l≠J)(O:S≠J)(hlS:l≠S)
  (turn:∀(i:Nat) (v:V) (u:Jl) (k:Int),vs[i]? = some v->RelV v u->p[i]? = some k->∀y q n,Inv X y σ n q->Same H n->wpAny JG A.in1 (call (.ref f) [u]) (EP X y σ (λ w b5=>w=.int k/\Same n b5)) (λ _ _=>False) q)
  (hR:∀i v u q n,vs[i]? = some v->RelV v u->(∀j,j<vs.length->p.getD i 0 ≥ p.getD j 0/\(j<i->p.getD i 0>p.getD j 0))->Inv X g σ n q->Same H n->R (.ok (.ret u)) q) :
  ∀(r j i:Nat) (q:Jm) (n:Hp) (P:Jl) (v:V) (Z:Tok) (c:Nat),vs.length - (j+1)=r->j+1<=vs.length->Inv X g σ n q->Same H n->FpOk X g n S->FpOk X g n J->SqL X.K n l vs ->
   q.heap.get? S=some (seqObj "list" #[P,.int (p.getD i 0) Z] c)->q.heap.IsListIter J l (j+1)->vs[i]? = some v->RelV v P->i<=j->(∀s,s<=j->p.getD i 0 ≥ p.getD s 0/\(s<i->p.getD i 0>p.getD s 0)) ->
   codeAny JG A (.builtin "max.loop" ⟨[.ref J,.ref f,.ref S],[]⟩) R q:=by
 have ml : "max.loop" = (toString "max" ++ toString ".loop" : JB):=by decide
 intro r
 induction r with
 | zero=>
  intro j i q n P v Z c hr hj I sm Q U hq gS N hv rv b3 m;obtain⟨Y,ru,pl,zl⟩:=I.list hq;have b0:=ru.length;have W:=fB (prog:=X.prog) (w:=X.w) (A:=A.in1) hh J l a5 Y.toArray;refine R5 iy ?_;rw[V8 Z8 _];show wpAny _ A.in1 _ _ _ _;refine f0 (ag gS rfl ?_);show wpAny _ A.in1 _ _ _ _;refine f0 (aY (W.done _ _ _ ⟨by rw[t7,show Y.length=j+1 by omega];exact N,pl.isList⟩ λ h1 B hk=>?_));have C:=hk S _ (by simpa using O) gS;have s1:=M2 h1 S (Obj.mapSeq λ _=>(#[]:Jq Jl));show wpAny _ A.in1 _ _ _ _;refine f0 (cE C rfl (f0 (ba (g7 ?_))));have I9:Inv X g σ n {q with heap:=h1.update S (Obj.mapSeq λ _=>(#[]:Jq Jl)),toks:=B}:=by
   refine I.turnedL (t':=B) (ch:=[J,S]) (λ b o d e=>?_) λ b d=>?_
   ·rw[s1.2 b λ z=>d (by rw[z];simp)];exact hk b o (λ z=>d (by rw[C2.mp z];simp)) e
   ·rcases j0.mp d with rfl | d
    ·exact U
    ·rw[C2.mp d];exact Q
  exact hR i v P _ n hv rv (λ s a7=>m s JC) I9 sm
 | succ r ih=>
  intro j i q n P v Z c hr hj I sm Q U hq gS N hv rv b3 m;have M:j+1<vs.length:=by omega
  obtain⟨Y,ru,pl,zl⟩:=I.list hq;have b0:=ru.length;have W:=fB (prog:=X.prog) (w:=X.w) (A:=A.in1) hh J l a5 Y.toArray;refine R5 iy ?_;rw[V8 Z8 _];show wpAny _ A.in1 (seqItems? (.ref S) >>= _) _ _ _;refine f0 (ag gS rfl ?_);show wpAny _ A.in1 _ _ _ _;refine f0 (aY (W.item (j+1) _ _ _ (by rw[t7];omega) ⟨N,pl.isList⟩ λ u h1 B hP b2 hk=>?_));have hu:Y[j+1]? = some u:=by simpa using hP
  obtain⟨oJ,a4,a3,L⟩:=id b2.1;have C:=hk S _ (by simpa using O) gS;obtain⟨v1,K⟩:∃v1,vs[j+1]? = some v1:=⟨_,p8 M⟩;obtain⟨u',a1,a0⟩:=ru.get K;rw[hu]at a1;cases a1;obtain⟨F,a6⟩:∃F,p[j+1]? = some F:=⟨_,p8 JC⟩;have a9:p.getD (j+1) 0=F:=by rw[D1,a6];rfl
  have I1:Inv X g σ n {q with heap:=h1,toks:=B}:=I.turnedL (ch:=[J]) (λ b o d e=>hk b o d e) λ b d=>by rw[C2.mp d];exact U
  have Ip:=I1.pinned (fp:=[S,J]) (λ b d=>by
   rcases j0.mp d with rfl | d
   ·exact Q
   ·rw[C2.mp d];exact U) (λ b d=>by
   rcases j0.mp d with rfl | d
   ·exact⟨_,C,λ v z=>by cases z⟩
   ·rw[C2.mp d];exact⟨_,a4,λ v z=>by rw[L]at z;cases z⟩)
  show wpAny _ A.in1 _ _ _ _;refine f0 (aY (F4 (A9 (turn (j+1) v1 u F K a0 a6 _ _ n Ip sm) (λ x s2 he=>?_) λ _ _ hF=>hF.elim)));obtain⟨w2,H2,I2,r2,rfl,sm2⟩:=he;obtain⟨t2,rfl⟩:=r2;obtain⟨qS,nS,_⟩:=I2.pin _ (x9 _ (x9 _ (W4 (o6 ..) C)));obtain⟨qJ,nJ,_⟩:=I2.pin _ (x9 _ (x9 _ (W4 (o4 _ (o6 ..)) a4)));have I3:=I2.unpinned;have a2:SqL X.K H2 l vs:=sm2.seq hq;show wpAny _ A.in1 _ _ _ _;refine f0 (aY (F4 (f0 (CmpOf.ints_gt (prog:=X.prog) (w:=X.w) (A:=A.in1) (λ i=>p.getD i 0) (λ i v h=>h) (j+1) i _ _ _ _ _ ⟨t2,by rw[a9]⟩ ⟨Z,rfl⟩ ?_))));refine f0 (F4 (Q9 (f0 (ba (g7 ?_)))));by_cases a8:p.getD (j+1) 0>p.getD i 0
  ·have s1:=M2 s2.heap S (Obj.mapSeq λ _=>#[u,.int F t2]);obtain⟨c2,b4⟩:∃c2,(s2.heap.update S (Obj.mapSeq λ _=>#[u,.int F t2])).get? S=some _:=⟨_,get?_update_seq qS λ _=>#[u,.int F t2]⟩;simp only[a8,decide_true,if_true];refine f0 (cE qS rfl (f0 (ba ?_)));rw[←ml];refine g7 ⟨U3 Z8 _,ih (j+1) (j+1) _ H2 u v1 t2 c2 JC M (I3.turnedL (t':=s2.toks) (ch:=[S]) (λ b o d e=>by rw[s1.2 b λ z=>d (by rw[z];simp)];exact e) λ b d=>by rw[C2.mp d];exact X9 Q nS) (sm.trans sm2) (X9 Q nS) (X9 U nJ) a2 (by rw[a9];exact b4) ⟨oJ,(s1.2 J O.symm).trans qJ,a3,L⟩ K a0 (i8 _) λ s a7=>?_⟩;by_cases e:s=j+1
   ·subst e;exact⟨by omega,λ _=>by omega⟩
   ·have b1:=(m s JC).1;exact⟨by omega,λ _=>by omega⟩
  ·simp only[a8,decide_false,W0,if_false];refine f0 (ba ?_);rw[←ml];refine g7 ⟨U3 Z8 _,ih (j+1) i _ H2 P v Z c JC M I3 (sm.trans sm2) (X9 Q nS) (X9 U nJ) a2 qS ⟨oJ,qJ,a3,L⟩ hv rv JC λ s a7=>?_⟩;by_cases e:s=j+1
   ·subst e;exact⟨by omega,λ _=>by omega⟩
   ·exact m s JC
def Dr{p:on Int}(I:JI d)(hh:X.A.handled=none)(hq:SqL X.K H l vs)(N:0<vs.length)(O:p.length=vs.length)
  (turn:∀(i:Nat) (v:V) (u:Jl) (k:Int),vs[i]? = some v->RelV v u->p[i]? = some k->∀m s' n,Inv X m σ n s'->Same H n->wpAny JG X.A.in1 (call (.ref f) [u]) (EP X m σ (λ w a7=>w=.int k/\Same n a7)) (λ _ _=>False) s')
  (h:∀i v n,vs[i]? = some v->(∀j,j<vs.length->p.getD i 0 ≥ p.getD j 0/\(j<i->p.getD i 0>p.getD j 0))->Same H n->Q v n):wpAny JG X.A (call (.builtin "max") [.ref l] [(Str.ofString "key",.ref f)]) (EP X d σ Q) E s:=by
 have ml : "max.loop" = (toString "max" ++ toString ".loop" : JB):=by decide
 obtain⟨us,ru,pl,zl⟩:=I.list hq;have a1:=ru.length;have y:l<s.heap.objs.size:=by obtain⟨o,e,_⟩:=pl.isList;exact k8 e
 refine kmk_tree PySem.F.kind_max PySem.F.plain_max PySem.F.entry_max (kmk_max_key _ _) ?_;show wpAny _ X.A.in1 _ _ _ s;refine f0 (aZ (a:=[some (.ref f),none]) rfl (f0 (g7 (f0 (iJ pl.isList (f0 (fh ?_ (E5 _))))))));rw[←ml];generalize hJ:s.heap.objs.size=J at y;generalize B:s.heap.push {cls:=.type "list_iterator",data:=.fields #[.ref l,.int 0 0]} = g0;have z0:g0.objs.size=J+1:=by rw[←B,be,hJ]
 have gS:(g0.push (seqObj "list" #[] 0)).get? (J+1)=some (seqObj "list" #[] 0):=by rw[←z0];exact q5 _ rfl
 have I0:Inv X d σ H {s with heap:=g0.push (seqObj "list" #[] 0)}:=I.kept (t':=s.toks) λ b o e=>by rw[←B];exact k9 _ (k9 _ e)
 have fJ:FpOk X d H J:=I.fpOk JC (I.hok.fresh JC);have fS:FpOk X d H (J+1):=I.fpOk JC (I.hok.fresh JC);refine g7 ⟨U3 Z8 _,?_⟩;show codeAny JG X.A _ _ {s with heap:=g0.push (seqObj "list" #[] 0)};rw[z0];have P:l≠J:=o9 y;have C:J+1≠J:=M4 (cu _);have a4:l≠J+1:=o9 (P3 y);obtain⟨us,ru,pl,zl⟩:=I0.list hq;have a1:=ru.length;have W:=fB (prog:=X.prog) (w:=X.w) (A:=X.A.in1) hh J l P us.toArray;refine R5 iy ?_;rw[V8 Z8 _];show wpAny _ X.A.in1 _ _ _ _;refine f0 (ag gS rfl ?_);show wpAny _ X.A.in1 _ _ _ _;refine f0 (aY (W.item 0 _ _ _ (by rw[t7];omega) ⟨⟨_,((by rw[←B,←hJ];exact k9 _ (q5 _ rfl))),rfl,rfl⟩,pl.isList⟩ λ u h1 a0 hP a2 hk=>?_));have hu:us[0]? = some u:=by simpa using hP
 obtain⟨oJ,M,a3,L⟩:=id a2.1;have S:=hk (J+1) _ (by simpa using C) gS;obtain⟨Y,r⟩:∃Y,vs[0]? = some Y:=⟨_,p8 N⟩;obtain⟨u',K,F⟩:=ru.get r;rw[hu]at K;cases K;obtain⟨q,R⟩:∃q,p[0]? = some q:=⟨_,p8 JC⟩;have a6:p.getD 0 0=q:=by rw[D1,R];rfl
 have I1:=I0.turnedL (h':=h1) (t':=a0) (ch:=[J]) (λ b o g e=>hk b o g e) λ b g=>by rw[C2.mp g];exact fJ
 have Ip:=I1.pinned (fp:=[J+1,J]) (λ b g=>by
  rcases j0.mp g with rfl | g
  ·exact fS
  ·rw[C2.mp g];exact fJ) (λ b g=>by
  rcases j0.mp g with rfl | g
  ·exact⟨_,S,λ v z=>by cases z⟩
  ·rw[C2.mp g];exact⟨_,M,λ v z=>by rw[L]at z;cases z⟩)
 show wpAny _ X.A.in1 _ _ _ _;refine f0 (aY (F4 (A9 (turn 0 Y u q r F R _ _ H Ip (Same.refl H)) (λ x s2 he=>?_) λ _ _ hF=>hF.elim)));obtain⟨w2,H2,I2,r2,rfl,sm2⟩:=he;obtain⟨Z,rfl⟩:=r2;obtain⟨qS,nS,_⟩:=I2.pin _ (x9 _ (x9 _ (W4 (o6 ..) S)));obtain⟨qJ,nJ,_⟩:=I2.pin _ (x9 _ (x9 _ (W4 (o4 _ (o6 ..)) M)));have I3:=I2.unpinned;have s1:=M2 s2.heap (J+1) (Obj.mapSeq λ _=>#[u,.int q Z]);obtain⟨c2,a5⟩:∃c2,(s2.heap.update (J+1) (Obj.mapSeq λ _=>#[u,.int q Z])).get? (J+1)=some _:=⟨_,get?_update_seq qS λ _=>#[u,.int q Z]⟩;show wpAny _ X.A.in1 _ _ _ _;refine f0 (cE qS rfl ?_);rw[←ml];refine g7 ⟨U3 Z8 _,Dq (H:=H) hh O P C a4 turn (λ i v u s' n e1 e2 e3 e4 e5=>⟨v,n,e4,e2,h i v n e1 e3 e5⟩) _ 0 0 _ H2 u Y Z c2 rfl N (I3.turnedL (t':=s2.toks) (ch:=[J+1]) (λ b o g e=>by rw[s1.2 b λ z=>g (by rw[z];simp)];exact e) λ b g=>by rw[C2.mp g];exact X9 fS nS) sm2 (X9 fS nS) (X9 fJ nJ) (sm2.seq hq) (by rw[a6];exact a5) ⟨oJ,(s1.2 J C.symm).trans qJ,a3,L⟩ r F (i8 _) λ j' hj'=>?_⟩;have e:j'=0:=by omega
 subst e;exact⟨by omega,λ h=>absurd h (L0 _)⟩
def Ds{X:Cx}{δ:on Sv}{bd:Jp}{pr:Jy}{sc:Jx}{c P:Jn}{m:LamD}{cs:on DV}{fr:on Nat}{pins:on (Jn×Obj)}{σ:St}{H:Hp}{s:Jm}{O W:on Jn}{f:Jn}(I:JI pins)(L:LamAt X sc c P)(T:LamTx m.N (m.N.take m.np) sc)(hcor:X2 m pr bd sc=true)(hN:m.N.length=m.np+fr.length)(hslot:∀(j i:Nat),fr[j]? = some i->∃y,m.N[m.np+j]? = some y/\X.N[i]? = some y/\(X.env.kindOf y=some .cell\/X.env.kindOf y=some .free))
  (hcap:capD δ fr=some cs) (R:RSt X.D H σ δ O W) (lf:O9 H (X.env.qual ++ "<lambda>") pr bd sc (o8 X.env.cells sc.names []) f):Rep X.D (L2.wo (O++W) (trC ((o8 X.env.cells sc.names []).map (·.2)) s.heap H)) (.lam m cs) (.ref f):=by
 generalize hl:(o8 X.env.cells sc.names []).map (·.2)=l;have Ce:=Cells.of (sc:=sc) I (L.has I.ok);rw[hl]at Ce;have S:=T.full I (L.has I.ok);rw[hl]at S;obtain⟨ws,w1,w2,w3⟩:=lq R hcap;have same:=Ce.same;have hdA:=R.hid.hdA;have ou:∀{b:Jn} {o:Obj} {u:HO},H b=some (.frz o u)->b∉O++W:=λ {b o u} e z=>by obtain⟨o',q1,q2⟩:=hdA b z;rw[e]at q1;cases q1;cases q2
 have oc:∀{b:Jn},b∈l->b∉O++W:=λ {b} hb z=>by obtain⟨o',q1,q2⟩:=hdA b z;rw[Ce.none b hb]at q1;cases q1
 refine kA.mpr ⟨f,pr,bd,sc,X.env.qual ++ "<lambda>",o8 X.env.cells sc.names [],l,ws,rfl,?_,hcor,S,w2.mono same.wo,by rw[hN,w1],λ c hc=>?_,λ i y v h1 h2=>?_⟩
 ·obtain⟨c',oc',u,vs,t,pm,ctv,h1,h2,h3⟩:=lf;exact⟨c',oc',u,vs,t,pm,ctv,by rw[j9 (ou h1)];exact same _ _ h1,by rw[j9 (ou h2)];exact same _ _ h2,h3⟩
 ·obtain⟨o,v,g,d'⟩:=Ce.cel c hc;exact⟨o,v,by rw[j9 (oc hc)];exact X5 hc g,d'⟩
 ·have hi:i<fr.length:=by rw[←w1];exact(w6.mp h2).1
  have hj:fr[i]? = some fr[i]:=p8 hi;obtain⟨y',q1,q2,q3⟩:=hslot i _ hj;rw[h1]at q1;cases q1;have hv:=w3 i _ v hj h2;obtain⟨mm,hn',hl'⟩:=I.loc;obtain⟨u,rv,lk⟩:=hl' _ y v q2 hv (.inr q3);rcases lk with⟨k1,_⟩ | ⟨k1,cc,k2,o,k3,k4⟩
  ·have k1:X.env.kindOf y=some .local:=k1;rcases q3 with q3 | q3<;>(rw[q3]at k1;cases k1)
  ·have hfre:(y,NameKind.free)∈sc.names:=A4 (T.fre (m.np+i) y (by rw[W1];exact k6 (Nat.min_le_left _ _) (P4 _ _)) h1);have hcl:=dN (L.has I.ok) hfre k2;have hcc:cc∈l:=S.mem y cc hcl;exact⟨cc,o,u,hcl,by rw[j9 (oc hcc)];exact X5 hcc k3,k4,rv⟩
def Dt{F:Nat->on DV->Jk Ou}(I:JI h)(lo:X6 X.prog X.w X.K X.mg X.base fn bl cl k (F G3))(hr:RoomL k A)(hA:A.frames=X.A.frames)(h1:m.fn=fn)(h2:m.bl=bl)(h3:m.cl=cl)
  (L:LamAt X sc c P) (T:LamTx m.N (m.N.take m.np) sc) (B:∀{h:on (Jn×Obj)} {σ:on (Jk V)} {H:Hp} {s:Jm},Inv X h σ H s->∀c∈(o8 X.env.cells sc.names []).map (·.2),X.base.get? c=none/\c∉frs X.stack) (C:X2 m S bd sc=true) (hN:m.N.length=m.np+fr.length) (x:∀(j i:Nat),fr[j]? = some i->∃y,m.N[m.np+j]? = some y/\X.N[i]? = some y/\(X.env.kindOf y=some .cell\/X.env.kindOf y=some .free))
  (E:capD δ fr=some cs) (R:RSt X.D H σ δ O W) (lf:O9 H (X.env.qual ++ "<lambda>") S bd sc (o8 X.env.cells sc.names []) f) (Z:Rep X.D (L2.wo (O++W) H) d v) (Y:RelV v u) (hF:F G3 [.lam m cs,d]=some (.v (.int n) false)) :
  wpAny JG A (call (.ref f) [u]) (EP X h σ (λ w Q=>w=.int n/\Same H Q)) (λ _ _=>False) s:=by
 have lamR:=Ds I L T C hN x E R lf;generalize U:(o8 X.env.cells sc.names []).map (·.2)=l at lamR;have J:=Cells.of I (L.has I.ok);rw[U]at J;have M:=B I;rw[U]at M;have same:=J.same;have q:=I.env0;have e1:Env0 X.prog X.w X.K X.mg X.base A X.stack s H:=⟨hA.trans q.frames,q.mod,q.bs,q.bsz,q.funs,q.frf,q.hok,q.bare⟩;refine cM (R6 (lo A X.stack s _ [u] [v] (λ v K=>Same (trC l s.heap H) K/\v=.int n) (λ _ _ _=>False) (O++W) f m cs [d] _ hr (Env0.trC J (λ c N=>(M c N).1) (λ c N=>(M c N).2) e1) (.cons Y .nil) (λ a ha=>?_) h1 h2 h3 lamR (RepL.one (Z.mono same.wo)) hF λ v K sm g=>⟨sm,A7.mp g⟩) λ r s' p=>?_)
 ·obtain⟨o,q1,q2⟩:=R.hid.hdA a ha;exact⟨o,same _ _ q1,q2⟩
 ·cases r with
  | error e=>exact(p:False).elim
  | ok fl=>
   cases fl with
   | ret u=>
    refine I.after (CE.trC J p (λ v K sm z=>⟨z.2,λ b o e=>?_⟩) λ v K z=>z.1);rw[j9 λ w=>by rw[J.none b w]at e;cases e];exact sm _ _ (same _ _ e)
   | next=>exact False.elim p
   | brk=>exact False.elim p
   | cont=>exact False.elim p
theorem sM:∀{b:on DV} {a:on Int},S6 F mm b=some a->a.length=b.length/\∀(i:Nat) d n,b[i]? = some d->a[i]? = some n->F G3 [mm,d]=some (.v (.int n) false)
 | [],a,h=>by cases h;exact⟨rfl,λ i d n h=>by cases h⟩
 | d::r,a,h=>by
  unfold S6 at h;split at h
  ·rename_i n e;obtain⟨l,m,rfl⟩:=B3.mp h;obtain⟨j,g⟩:=sM m;refine⟨by rw[z7,z7,j],λ i o k f c=>?_⟩;cases i with
   | zero=>cases f;cases c;exact e
   | succ i=>exact g i o k f c
  ·cases h
def Room.toL1(r:Room k A):RoomL k A.in1:=⟨r.hd,r.dp,by have:=r.un;show A.units+1+16*k+198<_;omega⟩
def Du(h:O4 ks=some i)(d:c<ks.length)(h':∀j,j<ks.length->ks.getD c 0 ≥ ks.getD j 0/\(j<c->ks.getD c 0>ks.getD j 0)):c=i:=by
 unfold O4 at h;have f:=io h;have e:=iZ h;rw[x5]at f;simp only[G8,x5,f9,B5,F3]at e;have a:=e c d;have b:=h' i f;rcases Nat.lt_trichotomy i c with z | z | z
 ·have:=b.2 z;omega
 ·exact z.symm
 ·have:=a.2;omega
section
variable {X:Cx} {δ:on Sv} {ea bd:Jp} {pos p lp kp:Pos} {re:Re} {k:Nat} {x:Str} {pr:Jy} {sc:Jx} {c P:Jn} {m:LamD} {cs:on DV} {fr:on Nat} {pins:on (Jn×Obj)} {σ:St} {H:Hp} {s:Jm} {O W:on Jn} {f:Jn}
def QM(X:Cx)(δ:on Sv)(F:Nat->on DV->Jk Ou)(m:LamD)(cs:on DV)(pr:Jy)(bd:Jp)(sc:Jx)(σ:St)(Q:VK):on V->Hp->Prop:=λ vs H1=>∃va,vs=[va]/\∀f H2,Same H1 H2->H1 f=none->O9 H2 (X.env.qual ++ "<lambda>") pr bd sc (o8 X.env.cells sc.names []) f ->
 ∃O W a xs ds ks i,va=V.ref a/\RSt X.D H2 σ δ O W/\SqL X.K H2 a xs/\RepL X.D (L2.wo (O++W) H2) ds xs/\0<ds.length/\S6 F (.lam m cs) ds=some ks/\O4 ks=some i/\∀H' v,Same H2 H'->xs[i]? = some v->Q v H'
def Dv(lo:X6 X.prog X.w X.K X.mg X.base fn bl cl k (F G3))(hr:Room k X.A)(h1:m.fn=fn)(h2:m.bl=bl)(h3:m.cl=cl)(hg:Gl X "max")(hm:X.mg "max" = none)(B:t9 ea=false)
  (L:LamAt X sc c P) (Y:defaultsOf pr X.env=([],[])) (T:LamTx m.N (m.N.take m.np) sc) (U:∀{b:on (Jn×Obj)} {l:on (Jk V)} {H:Hp} {s:Jm},Inv X b l H s->∀c∈(o8 X.env.cells sc.names []).map (·.2),X.base.get? c=none/\c∉frs X.stack) (Z:X2 m pr bd sc=true) (hN:m.N.length=m.np+fr.length) (w:∀(j i:Nat),fr[j]? = some i->∃y,m.N[m.np+j]? = some y/\X.N[i]? = some y/\(X.env.kindOf y=some .cell\/X.env.kindOf y=some .free))
  (a0:capD δ fr=some cs) (ha:PE X ea (dE X.D δ ra)) (h:(Re.thn (some ra) λ x cx=>mxkL F (.lam m cs) x cx)=some re):PE X (.Call (.Name "max" p) [ea] [⟨some "key",.Lambda pr bd sc lp,kp⟩] pos) (dE X.D δ re):=by
 have C:∀{ta:TE},PE X ea ta->PE X (.Call (.Name "max" p) [ea] [⟨some "key",.Lambda pr bd sc lp,kp⟩] pos) (λ l H Q=>jB ta tNil l H (QM X δ F m cs pr bd sc l Q)):=λ {ta} A=>by
  intro b s l H Q I h;refine aQ (am I hg hm boot_max ?_ JD JD);refine PyProof.Rows.callWith_kw (thn (M7 A (S5 (X:=X)) (z9 B) pos b s l H _ I h) λ us s1 ⟨vs,H1,I1,r1,M⟩=>?_) (by rw[z9 B];rfl) (by rw[z9 B];rfl);obtain⟨va,rfl,M⟩:=M;refine thn (xY (nm:=some "key") (kpos:=kp) (CT (bd:=bd) (lp:=lp) L Y) (xX (X:=X)) pos b s1 l H1 (λ ws o=>∃f,ws=[.ref f]/\O9 o (X.env.qual ++ "<lambda>") pr bd sc (o8 X.env.cells sc.names []) f/\∃O W a r q ks i,va=V.ref a/\RSt X.D o l δ O W/\SqL X.K o a r/\RepL X.D (L2.wo (O++W) o) q r/\0<q.length/\S6 F (.lam m cs) q=some ks/\O4 ks=some i/\∀J v,Same o J->r[i]? = some v->Q v J) I1
   (λ f o sm hn S=>⟨f,rfl,S,M f o sm hn S⟩)) λ ws s2 B0=>?_
  obtain⟨zs,o,I2,rz,f,e,S,O,W,a,r,q,ks,ix,e',R,sq,K,a5,hk,E,hq⟩:=B0;subst e e';obtain⟨u1,rfl,a3⟩:=S4 r1;obtain⟨u2,rfl,a2⟩:=S4 rz;obtain rfl:u1=Value.ref a:=a3;obtain rfl:u2=Value.ref f:=a2;show wpAny _ X.A _ _ X.xe s2;obtain⟨k1,k2⟩:=sM hk;refine Dr I2 hr.hd sq (by rw[K.length];exact a5) (by rw[k1,K.length]) (λ i v u n hv ru hn a4 s' J I' sm=>?_) λ i v J hv hb sm=>?_
  ·have hi:i<q.length:=by rw[←K.length];exact(w6.mp hv).1
   have hd:=p8 hi;obtain⟨v',e1,rp⟩:=K.get hd;rw[hv]at e1;cases e1;exact Dt I' lo hr.toL1 rfl h1 h2 h3 L T U Z hN w a0 (R.mono sm) (S.mono sm) (rp.mono sm.wo) ru (k2 i _ n hd hn)
  ·have hi:i<ks.length:=by rw[k1,←K.length];exact(w6.mp hv).1
   have:=Du E hi λ j hj=>hb j (by rw[K.length,←k1];exact hj);subst this;exact hq J v sm hv
 cases ra with
 | ok dx cx=>
  have g:mxkL F (.lam m cs) dx cx=some re:=h;unfold mxkL at g;split at g
  ·rename_i q;split at g
   ·rename_i z;obtain⟨ks,hk,g⟩:=r3.mp g;obtain⟨ix,E,g⟩:=r3.mp g;obtain⟨d,hd,rfl⟩:=B3.mp g;refine(C ha).weak λ l H Q ⟨O,W,R,p⟩=>⟨O,W,R,λ va H1 s1 g1=>⟨va,rfl,λ f o s2 hn S=>?_⟩⟩
    have N:=s1.trans s2;obtain⟨a,r,e1,e2,e3⟩:=g1.lstC (R.hid.mono s1);have a1:RepL X.D (L2.wo (O++W) H1) q r:=by
     cases cx with
     | strong=>exact e3
     | fresh=>exact e3
     | weak=>cases z
     | top=>exact e3
    refine⟨O,W,a,r,q,ks,ix,e1,R.mono N,SqL.of (s2 _ _ e2),a1.mono s2.wo,T9 (E5 _) (w6.mp hd).1,hk,E,λ J v sm hv=>p _ _ (N.trans sm) ?_⟩;obtain⟨v',M,q2⟩:=a1.get hd;rw[hv]at M;cases M;exact(q2.mono (s2.trans sm).wo:Rep X.D (L2.wo (O++W) J) d v)
   ·cases g
  ·cases g
end
noncomputable def dEnd(D:Dm)(H0:Hp)(O:on Jn)(Dn:Ends):Out->Prop
 | .nx δ=>∀σ H W,RSt D H σ δ O W->(∀a∈W,H0 a=none)->Same H0 H->Dn.nx σ H
 | .rt d fr=>∀v H,Same H0 H->GotR D O H0 H d fr v->Dn.rt v H
def dS(D:Dm)(δ:on Sv)(o:Out):TS:=λ Dn σ H=>∃H0 O W,RSt D H σ δ O W/\(∀a∈W,H0 a=none)/\(∀a∈O,H0 a≠none)/\Same H0 H/\dEnd D H0 O Dn o
def Dw:PSs X [] (dS X.D δ (.nx δ)):=ow.weak λ Dn a H ⟨H0,O,W,R,b,fo,sm,k⟩=>k a H W R b sm
def Dx{X:Cx}{δ δ1:on Sv}{st:Jv}{rest:on Jv}{o:Out}(h1:PS X st (dS X.D δ (.nx δ1)))(h2:PSs X rest (dS X.D δ1 o)):PSs X (st::rest) (dS X.D δ o):=
 (U9 h1 h2).weak λ Dn σ H ⟨H0,O,W,R,fr,fo,sm,k⟩=>⟨H0,O,W,R,fr,fo,sm,λ σ' H' W' R' fr' sm'=>⟨H0,O,W',R',fr',fo,sm',k⟩⟩
def Dy{X:Cx}{δ:on Sv}{st:Jv}{rest:on Jv}{d:DV}{fr:Bool}(h1:PS X st (dS X.D δ (.rt d fr))):PSs X (st::rest) (dS X.D δ (.rt d fr)):=
 (U9 h1 fE).weak λ Dn σ H ⟨H0,O,W,R,fr,fo,sm,k⟩=>⟨H0,O,W,R,fr,fo,sm,k⟩
def Dz(n:∀q,e=some q->PT X c (dT X.D δ q))(r:∀q,l=some q->PSs X body (dS X.D δ q))(p:∀q,j=some q->PSs X d (dS X.D δ q))(h:(Rt.thnS δ e λ k=>if k then l else j)=some o):PS X (.If c body d pos) (dS X.D δ o):=by
 cases a:e with
 | none=>rw[a]at h;cases h
 | some q=>
  rw[a]at h;have C:=n q a;cases q with
  | ok b=>
   cases b with
   | true=>
    have f:=h;exact(cS C (r o f) fE).weak λ u m H ⟨i,O,W,R,g,fo,sm,k⟩=>⟨O,W,R,λ s s1=>iteT ⟨i,O,W,R.mono s1,g,fo,sm.trans s1,k⟩⟩
   | false=>
    have f:=h;exact(cS C fE (p o f)).weak λ u m H ⟨i,O,W,R,g,fo,sm,k⟩=>⟨O,W,R,λ s s1=>iteF ⟨i,O,W,R.mono s1,g,fo,sm.trans s1,k⟩⟩
def DA(w:∀q,j=some q->PE X e JN)(h:(Re.thnS δ j λ d c=>some (retD d c))=some o):PS X (.Return (some e) pos) (dS X.D δ o):=by
 cases f:j with
 | none=>rw[f]at h;cases h
 | some q=>
  rw[f]at h;have A:=w q f;cases q with
  | ok d cl=>
   have x:=h;cases x;refine(bg A).weak λ J σ H ⟨I,O,W,R,y,fo,sm,k⟩=>⟨O,W,R,λ v F s1 g=>(k:dEnd X.D I O J _) v F (sm.trans s1) ?_⟩;cases l:frD d cl with
   | false=>exact g.weak (R.hid.mono s1)
   | true=>
    unfold frD at l;split at l
    ·obtain⟨p,i,E,s,r,n,C,B⟩:=g;exact⟨p,i,E,s,r,sm.free n,C,B.mono (J7 λ b m=>by rcases j0.mp m with z | z;exact j0.mpr (.inl z);exact o4 _ (C6 _ z))⟩
    ·obtain⟨a,i,s,u,r,n⟩:=g;exact⟨a,i,_,s,rfl,y a u,A2 _ _ r,n.mono (J7 λ b m=>by rcases j0.mp m with z | z;rw[z];exact x9 _ u;exact C6 _ z)⟩
    ·cases l
def bK(h:S7 v=false):swapsWith v t l env=pure false:=by
 cases v<;>first | rfl | cases h
def DB(i:∀q,b=some q->PE X e JN)(f:S7 e=false)(h:(Re.thnS δ b λ _ _=>some (.nx δ))=some o):PS X (.Expr e pos) (dS X.D δ o):=by
 cases a:b with
 | none=>rw[a]at h;cases h
 | some q=>
  rw[a]at h;have A:=i q a;cases q with
  | ok d cl=>cases h;exact(cR A (bK f)).weak λ Dn c H ⟨H0,O,W,R,j,fo,sm,k⟩=>⟨O,W,R,λ v l s1 g=>k c l W (R.mono s1) j (sm.trans s1)⟩
def dO:b∈O++p::W↔b∈p::(O++W):=by
 simp[C7,j0];constructor
 ·rintro(h | h | h)
  ·exact .inr (.inl h)
  ·exact .inl h
  ·exact .inr (.inr h)
 ·rintro(h | h | h)
  ·exact .inr (.inl h)
  ·exact .inl h
  ·exact .inr (.inr h)
def N2{l:on c}(h:(l.set i a)[j]? = some b)(d:a≠b):j≠i:=λ z=>by
 subst z;have e:j<l.length:=by have:=(w6.mp h).1;rw[D4]at this;exact this
 rw[J8 e]at h;exact d (B8 h)
def Y0{l:on c}(h:(l.set i a)[i]? = some b):i<l.length/\a=b:=by
 have d:=(by have:=(w6.mp h).1;rw[D4]at this;exact this);rw[J8 d]at h;exact⟨d,B8 h⟩
def RSt.alloc(R:RSt D H σ δ O W)(s:Same H A)(F:H p=none)(f:A p=some (.lst xs))(r:RepL D (L2.wo (p::(O++W)) A) ds xs)(i:Nat) :
  RSt D A (σ.set i (some (.ref p))) (δ.set i (.own (.lst ds))) O (p::W):=by
 have l:Same (L2.wo (O++W) H) (L2.wo (O++p::W) A):=λ b o e=>by obtain⟨I,e⟩:=D6 e;rw[j9 (λ z=>by rcases j0.mp (dO.mp z)with z | z;exact B1 e F z;exact I z)];exact s b o e
 refine⟨λ j d h=>?_,λ j J h=>?_,λ j k a g d2 U S x w=>?_,R.od.step (kF _ (by intro d z;cases z)) (λ _ h _=>o4 _ h) (λ a P _ h _=>s _ _ h),by rw[D4,D4];exact R.len,⟨λ a u=>?_,Same.refl _,λ a u=>?_,λ a u=>?_,R.hid.omS s⟩⟩
 ·have c:=N2 h JL;rw[v6 (Ne.symm c)]at h ⊢;obtain⟨v,x,w⟩:=R.val j d h;exact⟨v,x,w.mono l⟩
 ·by_cases c:j=i
  ·subst c;obtain⟨Q,e⟩:=Y0 h;cases e;exact⟨p,xs,ds,rfl,J8 (by rw[R.len];exact Q),o6,f,r.mono (J7 λ b I=>dO.mp I)⟩
  ·rw[v6 (Ne.symm c)]at h ⊢;obtain⟨a,B,y,Z,x,w,Y,X⟩:=R.own j J h;exact⟨a,B,y,Z,x,o4 _ w,s _ _ Y,X.mono l⟩
 ·have n:∀{j:Nat} {g:DV},(δ.set i (.own (.lst ds)))[j]? = some (.own g)->(σ.set i (some (.ref p)))[j]? = some (some (V.ref a))->(j=i/\a=p)\/(j≠i/\δ[j]? = some (.own g)/\σ[j]? = some (some (V.ref a))/\a≠p):=λ {j g} h e=>by
   by_cases c:j=i
   ·subst c;obtain⟨_,z⟩:=Y0 e;cases z;exact .inl ⟨rfl,rfl⟩
   ·rw[v6 (Ne.symm c)]at h e;refine .inr ⟨c,h,e,λ z=>?_⟩;obtain⟨a',B,y,_,N,_,M,_⟩:=R.own j g h;rw[e]at N;cases N;rw[z,F]at M;cases M
  rcases n U x with⟨K,C⟩ | ⟨K,C,z3,z4⟩<;>rcases n S w with⟨L,E⟩ | ⟨L,E,y3,y4⟩
  ·rw[K,L]
  ·exact absurd C y4
  ·exact absurd E z4
  ·exact R.inj j k a g d2 C E z3 y3
 ·rcases j0.mp (dO.mp u)with z | z
  ·rw[z,f];intro q;cases q
  ·intro q;exact R.hid.ot a z (s.free q)
 ·rcases j0.mp u with z | z
  ·exact⟨_,by rw[z];exact f,rfl⟩
  ·obtain⟨B,q,m⟩:=R.hid.wl a z;exact⟨B,s _ _ q,m⟩
 ·rcases j0.mp u with z | z
  ·intro q;exact R.hid.ot p (C6 _ (by rw[←z];exact q)) F
  ·exact R.hid.dj a z
def sN(h:noOt i δ=true)(q:δ[j]? = some (.od d)):j=i:=by
 unfold noOt at h;rw[G8]at h;have:=h j (x5.mpr ((w6.mp q).1));rw[q]at this;simpa using this
def RSt.write(R:RSt D H σ δ O W)(A:δ[i]? = some (.own (.lst ds)))(C:σ[i]? = some (some (.ref a)))(r:RepL D (L2.wo (O++W) H) g f) :
  RSt D (upd H a (.lst f)) σ (δ.set i (.own (.lst g))) O W:=by
 obtain⟨a',xs,ds0,e0,L,K,Z,e4⟩:=R.own i _ A;rw[C]at L;cases L;have p:Same _ (L2.wo (O++W) (upd H a (.lst f))):=λ b o e=>by obtain⟨w,e⟩:=D6 e;rw[j9 w,m7 λ z=>w (by rw[z];exact x9 _ K)];exact e
 have hl:=(w6.mp A).1;refine⟨λ j d h=>?_,λ j n h=>?_,λ j k b J d2 Y X u x=>?_,R.od.step (rn (by intro d z;cases z)) (λ _ h _=>h) (λ b U _ h m=>by rw[m7 (λ z=>by rw[z,Z]at h;cases h;cases m)];exact h),by rw[D4];exact R.len,⟨λ b w q=>?_,Same.refl _,λ b w=>?_,R.hid.dj,R.hid.omW (by assumption)⟩⟩
 ·have l:=N2 h JL;rw[v6 (Ne.symm l)]at h;obtain⟨v,u,x⟩:=R.val j d h;exact⟨v,u,x.mono p⟩
 ·by_cases l:j=i
  ·subst l;obtain⟨_,e⟩:=Y0 h;cases e;exact⟨a,f,g,rfl,C,K,z8,r.mono p⟩
  ·rw[v6 (Ne.symm l)]at h;obtain⟨b,B,E,S,u,x,Q,P⟩:=R.own j n h;refine⟨b,B,E,S,u,x,?_,P.mono p⟩;rw[m7 λ z=>l (R.inj j i a n _ h A (by rw[←z];exact u) C)];exact Q
 ·have y:∀{j:Nat} {J:DV},(δ.set i (.own (.lst g)))[j]? = some _->∃d0,δ[j]? = some (.own d0):=λ {j J} h=>by
   by_cases l:j=i
   ·subst l;exact⟨_,A⟩
   ·rw[v6 (Ne.symm l)]at h;exact⟨J,h⟩
  obtain⟨I,N⟩:=y Y;obtain⟨F,M⟩:=y X;exact R.inj j k b I F N M u x
 ·by_cases c:b=a
  ·rw[c,z8]at q;cases q
  ·rw[m7 c]at q;exact R.hid.ot b w q
 ·by_cases c:b=a
  ·exact⟨_,by rw[c];exact z8,rfl⟩
  ·obtain⟨B,q,m⟩:=R.hid.wl b w;exact⟨B,by rw[m7 c];exact q,m⟩
def Y1(h:Same c H)(d:c a=none):Same c (upd H a o):=λ b u e=>by
 rw[m7 (B1 e d)];exact h b u e
def sO{own:Bool}(h:(if own then cY i δ d cl else(if stro d cl then some (.nx (δ.set i (.val d)))else none))=some o)
  (R:RSt D H σ δ O W) (fr:∀a∈W,c a=none) (sm:Same c H) (k:dEnd D c O j o):∀v e,Same H e->Got D O W H e d cl v->j.nx (σ.set i (some v)) e:=λ v b s1 g=>by
 cases own with
 | true=>
  simp only[if_true]at h;unfold cY at h;split at h
  ·cases h;obtain⟨p,xs,ds,s,r,f,q,n⟩:=g;subst s r;exact k _ b (p::W) (R.alloc s1 f q n i) (λ a l=>by
    rcases j0.mp l with z | z
    ·rw[z];exact sm.free f
    ·exact fr a z) (sm.trans s1)
  ·split at h
   ·cases h;exact k _ b W ((R.mono s1).setVal (V3.mpr (V3.mp (g.weak (R.hid.mono s1)))) i) fr (sm.trans s1)
   ·cases h
 | false=>
  simp only[W0,if_false]at h;split at h
  ·rename_i m;cases h;exact k _ b W ((R.mono s1).setVal (g.stro (R.hid.mono s1) m) i) fr (sm.trans s1)
  ·cases h
def sP{X:Cx}{δ:on Sv}{o:Out}{e:Jp}{pos pos':Pos}{ra:Jk Re}{i:Nat}{x:Str}{own:Bool}(hN:X.N.Nodup)(hi:X.N[i]? = some x)(hx:Loc X.env.scope x)(hf:X.fn x=true\/X.env.scope.names.lookup x=some .local)(ha:∀q,ra=some q->PE X e JN)(hc:swapsWith e (some (.Name x pos')) pos.line X.env=pure false)
  (h:(Re.thnS δ ra λ d c=>if own then cY i δ d c else(if stro d c then some (.nx (δ.set i (.val d)))else none))=some o):PS X (.Assign [.Name x pos'] e pos) (dS X.D δ o):=by
 cases hra:ra with
 | none=>rw[hra]at h;cases h
 | some q=>
  rw[hra]at h;have A:=ha q hra;cases q with
  | ok d cl=>exact(cU hN hi hx A hc hf).weak λ Dn σ H ⟨H0,O,W,R,fr,fo,sm,k⟩=>⟨O,W,R,sO h R fr sm k⟩
def DC{X:Cx}{δ:on Sv}{o:Out}{pos pos':Pos}{i:Nat}{x:Str}{own:Bool}{tgE iter elt:Jp}{ifs:on Jp}{scope:Jx}{N':on Str}{fr:on (Jk Nat)}{tg:Tg}{re:Re}(S:CompScope X.N N' scope X.env.scope fr)(hc:X.calm=true)(hN:X.N.Nodup)(hi:X.N[i]? = some x)(hx:X.env.scope.names.lookup x=some .local)
  (P:X8 X δ tgE iter ifs elt scope N' fr tg re) (hG:∀C cells s₂ H₂ fp,PG (u6 X scope N' C cells s₂ H₂ fp) tgE (gT X.K tg)) (hset:J3 iter=false) {cpos:Pos} (hsw:swapsWith (.ListComp elt [⟨tgE,iter,ifs,0⟩] scope cpos) (some (.Name x pos')) pos.line X.env=pure true)
  (h:(Re.thnS δ (some re) λ d c=>if own then cY i δ d c else(if stro d c then some (.nx (δ.set i (.val d)))else none))=some o):PS X (.Assign [.Name x pos'] (.ListComp elt [⟨tgE,iter,ifs,0⟩] scope cpos) pos) (dS X.D δ o):=by
 obtain⟨wi,tc,te,h1,h2,h3,h4⟩:=P;refine(yO S hc hN hi hx h1 hG h2 h3 hsw (gM hset)).weak λ Dn σ H ⟨H0,O,W,R,fr,fo,sm,k⟩=>?_
 unfold tAsg;refine h4 σ H _ ⟨O,W,R,?_⟩;cases re with
 | ok d cl=>exact sO h R fr sm k
def DD(hv:PE X (.Name x b) (tVar i))(e:(d.endLine==c.line)=true)
  (h:(match δ[i]? with
   | some (.own (.lst _))=>some (Out.nx (δ.set i (.own (.lst []))))
   | _=>none)=some o):PS X (.Expr (.Call (.Attribute (.Name x b) "clear" d) [] [] c) pos) (dS X.D δ o):=by
 split at h
 ·rename_i ds g;cases h;exact(cR (pq iu PySem.F.slot_list_clear PySem.F.type_list_clear yz hv rfl e) rfl).weak λ Dn n H ⟨H0,O,W,R,j,fo,sm,k⟩=>by obtain⟨a,f,r,q,m,p,l,e4⟩:=R.own i _ g;cases q;refine⟨.ref a,m,.inl ⟨rfl,f,SqL.of l⟩,a,f,rfl,rfl,l,?_⟩;exact k n _ W (R.write g m (B9.mpr rfl)) j (Y1 sm (j a p))
 ·cases h
def DE(hv:PE X (.Name x b) (tVar i))(I:∀q,r=some q->PE X e JN)(s:t9 e=false)(n:(j.endLine==f.line)=true)
  (h:(match δ[i]? with
   | some (.own (.lst p))=>Re.thnS δ r λ d c=>if stro d c/\p.length<n5 then some (.nx (δ.set i (.own (.lst (p++[d])))))else none
   | _=>none)=some o):PS X (.Expr (.Call (.Attribute (.Name x b) "append" j) [e] [] f) pos) (dS X.D δ o):=by
 split at h
 ·rename_i p y;cases l:r with
  | none=>rw[l]at h;cases h
  | some q=>
   rw[l]at h;have A:=I q l;cases q with
   | ok d cl=>
    have u:(if stro d cl/\p.length<n5 then some (Out.nx (δ.set i (.own (.lst (p++[d])))))else none)=some o:=h;split at u
    ·rename_i m;cases u;exact((λ t (J:PE X e t)=>cR (pu iu PySem.F.slot_list_append PySem.F.type_list_append yx hv (M7 J S5 (z9 s)) rfl (by rw[z9 s];rfl) n (z9 s) rfl) rfl) _ A).weak λ Dn F H ⟨H0,O,W,R,z,fo,sm,k⟩=>by obtain⟨a,w,M,L,E,K,C,B⟩:=R.own i _ y;cases L;refine⟨.ref a,E,.inl ⟨rfl,w,SqL.of C⟩,O,W,R,λ v H1 s1 g=>?_⟩;refine⟨a,w,v,rfl,rfl,s1 _ _ C,by rw[B.length];exact p9 m.2 JD,?_⟩;exact k F _ W ((R.mono s1).write y E ((B.mono s1.wo).append (RepL.one (g.stro (R.hid.mono s1) m.1)))) z (Y1 (sm.trans s1) (z a K))
    ·cases u
 ·cases h
def DF(hv:PE X (.Name x b) (tVar i))(U:∀q,z=some q->PE X e JN)(Q:∀q,w=some q->PE X l JN)(E:X0 l=false)
  (h:(match δ[i]? with
   | some (.own (.lst s))=>Re.thnS δ z λ d c=>Re.thnS δ w λ k _=>(match k with
    | .int k=>(match D7 s.length k with
     | some j=>if stro d c then some (.nx (δ.set i (.own (.lst (s.set j d)))))else none
     | none=>none)
    | _=>none)
   | _=>none)=some o):PS X (.Assign [.Subscript (.Name x b) l f] e pos) (dS X.D δ o):=by
 have sub:∀v,assign (.Subscript (.Name x b) l f) X.env v=(do
   let ov ←holding [v] (eval (.Name x b) X.env)
   let iv ←holding [v,ov] (eval l X.env)
   standAt f
   holding [v,ov,iv] (setItem ov iv v)
   release [v,ov,iv] []):=by cases l<;>first | (intro _;rfl) | cases E
 have C:=λ t N (Z:PE X e t) (Y:PE X l N)=>xc (pos:=pos) Z (xb hv Y pi sub) (by cases e<;>rfl) (by cases e<;>rfl) rfl;split at h
 ·rename_i s F;cases p:z with
  | none=>rw[p]at h;cases h
  | some q=>
   rw[p]at h;have A:=U q p;cases q with
   | ok d cl=>
    cases n:w with
    | none=>rw[n]at h;cases h
    | some q=>
     rw[n]at h;have B:=Q q n;cases q with
     | ok dk ck=>
      have r:(match(generalizing:=false) dk with
       | .int k=>(match D7 s.length k with
        | some j=>if stro d cl then some (Out.nx (δ.set i (.own (.lst (s.set j d)))))else none
        | none=>none)
       | _=>none)=some o:=h
      split at r
      ·rename_i P;split at r
       ·rename_i j S;split at r
        ·rename_i m;cases r;exact(C _ _ A B).weak λ Dn L H ⟨H0,O,W,R,I,fo,sm,k⟩=>⟨O,W,R,λ v H1 s1 g=>by
          have u:=R.mono s1;obtain⟨a,M,ds0,e0,K,e2,e3,J⟩:=u.own i _ F;cases e0;refine⟨.ref a,K,O,W,u,λ y H2 s2 g2=>?_⟩;have R2:=u.mono s2;refine⟨a,M,P,j,rfl,g2.int (u.hid.mono s2),s2 _ _ e3,by rw[J.length];exact S,?_⟩;exact k L _ W (R2.write F K (RepL.set ((g.mono s2).stro ((R.hid.mono s1).mono s2) m) j (J.mono s2.wo))) I (Y1 ((sm.trans s1).trans s2) (I a e2))⟩
        ·cases r
       ·cases r
      ·cases r
 ·cases h
def RSt.freeze(R:RSt D H σ δ O W)(o:δ[i]? = some (.own d)):∃x,(∀a∈x,a∈W)/\RSt D H σ (δ.set i (.val d)) O x:=by
 obtain⟨a,A,ds,M,w,L,u,K⟩:=R.own i d o;subst M;have hl:=(w6.mp o).1;have sub:∀b∈O++W.filter (λ b=>decide (b≠a)),b∈O++W:=λ b c=>by
  rcases C7.mp c with z | z
  ·exact C6 _ z
  ·exact x9 _ (E4.mp z).1
 have p:a∉O++W.filter (λ b=>decide (b≠a)):=λ z=>by
  rcases C7.mp z with z | z
  ·exact R.hid.dj a L z
  ·exact absurd rfl (iP (E4.mp z).2)
 refine⟨W.filter λ b=>decide (b≠a),λ b c=>(E4.mp c).1,⟨λ j d h=>?_,λ j n h=>?_,λ j k b P N r q f g=>?_,R.od.step (rn (by intro d z;cases z)) (λ b c ⟨J,h,m⟩=>E4.mpr ⟨c,D5 λ z=>by rw[z,u]at h;cases h;cases m⟩) (λ _ _ _ h _=>h),by rw[D4];exact R.len,
  ⟨λ b c=>R.hid.ot b (sub b c),Same.refl _,λ b c=>R.hid.wl b (E4.mp c).1,λ b c=>R.hid.dj b (E4.mp c).1,R.hid.om⟩⟩⟩
 ·by_cases l:j=i
  ·subst l;obtain⟨_,e⟩:=Y0 h;cases e;exact⟨.ref a,w,K5.mpr ⟨a,A,rfl,by rw[j9 p];exact u,K.mono (J7 sub)⟩⟩
  ·rw[v6 (Ne.symm l)]at h;obtain⟨v,f,g⟩:=R.val j d h;exact⟨v,f,g.mono (J7 sub)⟩
 ·have l:=N2 h JL;rw[v6 (Ne.symm l)]at h;obtain⟨b,y,s,E,f,g,C,B⟩:=R.own j n h;refine⟨b,y,s,E,f,E4.mpr ⟨g,D5 λ z=>l (R.inj j i a n _ h o (by rw[←z];exact f) w)⟩,C,B.mono (J7 sub)⟩
 ·have I:=N2 r JL;have F:=N2 q JL;rw[v6 (Ne.symm I)]at r;rw[v6 (Ne.symm F)]at q;exact R.inj j k b P N r q f g
def DG{rest:on Jv}(c:δ[i]? = some (.own d))(h:PSs X rest (dS X.D (δ.set i (.val d)) o)):PSs X rest (dS X.D δ o):=h.weak λ Dn σ H ⟨l,O,W,R,f,fo,sm,k⟩=>by
 obtain⟨g,b,j⟩:=R.freeze c;exact⟨l,O,g,j,λ a e=>f a (b a e),fo,sm,k⟩
section
variable {X:Cx} {δ:on Sv} {x:Str} {i:Nat} {e ix:Jp} {ra rb:Jk Re} {o:Out} {pos npos spos:Pos}
noncomputable def DH(X:Cx):V->V->Hp->VK->Prop:=λ o i H Q=>∃p xs k v,o=.ref p/\i=.int k/\0<=k/\SqL X.K H p xs/\xs[k.toNat]? = some v/\Q v H
def DI:PGet X (DH X):=by
 intro b s σ H o i ov iv Q I c d h;obtain⟨p,xs,k,v,rfl,rfl,j,g,hv,q⟩:=h;cases c;obtain⟨t,rfl⟩:=d;obtain⟨f,r,e,hz⟩:=I.list g;obtain⟨w,l,a⟩:=r.get hv;have hl:=r.length;have hn:=ao;have hk:=(w6.mp hv).1;exact wpAny_getItem_list e.isList j JC (by simpa using l) ⟨v,H,I,a,q⟩
def DJ(hv:PE X (.Name x npos) (tVar i))(Z:∀q,ra=some q->PE X e JN)(S:∀q,rb=some q->PE X ix JN)(U:∀ov l new,augStore ix ov l new=(do holding [new,ov,l] (setItem ov l new);release [new,ov,l] [];pure .next))
  (h:fQ δ i rb ra δ[i]? = some o):PS X (.AugAssign (.Subscript (.Name x npos) ix spos) .Add e pos) (dS X.D δ o):=by
 unfold fQ at h;split at h
 ·rename_i ds v;cases b:rb with
  | none=>rw[b]at h;cases h
  | some q=>
   rw[b]at h;have B:=S q b;cases q with
   | ok dk ck=>
    obtain⟨m,P,h⟩:=r3.mp (h);obtain⟨j,f,h⟩:=r3.mp h;obtain⟨d0,N,h⟩:=r3.mp h;obtain⟨J,M,h⟩:=r3.mp h;cases F7 P;cases F7 M;cases c:ra with
    | none=>rw[c]at h;cases h
    | some q=>
     rw[c]at h;have A:=Z q c;cases q with
     | ok d cl=>
      obtain⟨b0,L,h⟩:=r3.mp (show((asI d).bind _)=some o from h);cases F7 L;split at h
      ·rename_i w;cases h;refine((λ t Q (hA:PE X e t) (hK:PE X ix Q)=>xi hv hK DI hA oz pi U) _ _ A B).weak λ Dn K H t0=>?_;obtain⟨H0,O,W,R,E,fo,sm,k⟩:=t0
       obtain⟨a,u,ds0,e0,I,e2,F,p⟩:=R.own i _ v;cases e0;refine⟨.ref a,I,O,W,R,λ y H1 s1 C=>?_⟩;have r:=R.mono s1;obtain⟨v0,g3,n⟩:=p.get N;have n:=A7.mp n;subst n;have Y:m.toNat=j:=by
        unfold D7 at f;rw[f8 w]at f;split at f
        ·exact B8 f
        ·cases f
       refine⟨a,u,m,.int J,rfl,C.int (R.hid.mono s1),w,SqL.of (s1 _ _ F),by rw[Y];exact g3,O,W,r,λ z H2 g g2=>?_⟩;refine⟨J,b0,rfl,g2.int (r.hid.mono g),a,u,m,j,rfl,C.int (R.hid.mono s1),g _ _ (s1 _ _ F),by rw[p.length];exact f,?_⟩;exact k K _ W ((r.mono g).write v I (RepL.set (A7.mpr rfl) j (p.mono (s1.trans g).wo))) E (Y1 ((sm.trans s1).trans g) (E a e2))
      ·cases h
 ·cases h
end
def Got.seq(g:Got D O W n H d c v)(m:Hid O W n H)(o:c=.strong\/c=.fresh)(f:aq d=some (b,k)):∃a e,v=.ref a/\(SqL D.K H a e\/SqT D.K H a e)/\RepL D (L2.wo (O++W) H) k e:=by
 have l:c ≠ .weak:=by rcases o with z | z<;>(rw[z];intro q;cases q)
 unfold aq at f;split at f
 ·cases f;obtain⟨a,e,j,i,h⟩:=g.items m l;exact⟨a,e,j,.inl (SqL.of i),h⟩
 ·cases f;obtain⟨a,e,j,i,h⟩:=g.itemsT m l;exact⟨a,e,j,.inr i,h⟩
 ·cases f
def DK(hv:PE X (.Name x f) (tVar i))(P:∀q,y=some q->PE X e JN)(z:t9 e=false)(p:(l.endLine==j.line)=true)
  (h:(match δ[i]? with
   | some (.own (.lst u))=>Re.thnS δ y λ d c=>if c=.strong\/c=.fresh then(match aq d with
    | some (_,s)=>if u.length+s.length<=n5 then some (.nx (δ.set i (.own (.lst (u++s)))))else none
    | none=>none)else none
   | _=>none)=some o):PS X (.Expr (.Call (.Attribute (.Name x f) "extend" l) [e] [] j) pos) (dS X.D δ o):=by
 split at h
 ·rename_i u E;cases n:y with
  | none=>rw[n]at h;cases h
  | some q=>
   rw[n]at h;have A:=P q n;cases q with
   | ok d cl=>
    have r:(if cl=.strong\/cl=.fresh then(match aq d with
     | some (_,s)=>if u.length+s.length<=n5 then some (Out.nx (δ.set i (.own (.lst (u++s)))))else none
     | none=>none)else none)=some o:=h
    split at r
    ·rename_i B;split at r
     ·rename_i b s N;split at r
      ·rename_i m;cases r;exact((λ t (Q:PE X e t)=>cR (pu iu PySem.F.slot_list_extend PySem.F.type_list_extend zV hv (M7 Q S5 (z9 z)) rfl (by rw[z9 z];rfl) p (z9 z) rfl) rfl) _ A).weak λ Dn M H ⟨H0,O,W,R,F,fo,sm,k⟩=>by obtain⟨a,C,ds0,Z,L,Y,K,J⟩:=R.own i _ E;cases Z;refine⟨.ref a,L,.inl ⟨rfl,C,SqL.of K⟩,O,W,R,λ v H1 s1 g=>?_⟩;obtain⟨a2,w,U,S,I⟩:=g.seq (R.hid.mono s1) B N;refine⟨a,a2,C,w,rfl,by rw[U],s1 _ _ K,S,by rw[J.length,I.length];exact k6 m JD,?_⟩;exact k M _ W ((R.mono s1).write E L ((J.mono s1.wo).append I)) F (Y1 (sm.trans s1) (F a Y))
      ·cases r
     ·cases r
    ·cases r
 ·cases h
def DL(h:asIv o=some a):o=some (.val (.int a)):=by
 cases o with
 | none=>cases h
 | some sv=>cases sv with
  | val d=>rw[F7 h]
  | _=>cases h
def DM(s:X.N.Nodup)(m:X.N[i]? = some x)(l:Loc X.env.scope x)(n:X.fn x=true\/X.env.scope.names.lookup x=some .local)(p:∀q,f=some q->PE X e JN)(hv:δ[i]? = some (JE a))(h:(Re.thnS δ f λ d _=>(asI d).bind λ b=>some (Out.nx (δ.set i (JE (a+b)))))=some o):PS X (.AugAssign (.Name x pos') .Add e pos) (dS X.D δ o):=by
 cases c:f with
 | none=>rw[c]at h;cases h
 | some q=>
  rw[c]at h;have A:=xg (pos:=pos) (pos':=pos') s m l (p q c) oz n;cases q with
  | ok d cl=>
   obtain⟨b,r,h⟩:=r3.mp (h);obtain rfl:=F7 r;cases h;refine A.weak λ Dn σ H t0=>?_;obtain⟨H0,O,W,R,u,fo,sm,k⟩:=t0
   obtain⟨v,j,w⟩:=R.val i _ hv;rw[A7.mp w]at j;exact⟨.int a,j,O,W,R,λ v y s1 g=>by
     have:=g.int (R.hid.mono s1);subst this;exact⟨a,b,rfl,rfl,k _ y W ((R.mono s1).setVal (A7.mpr rfl) i) u (sm.trans s1)⟩⟩
def PSs.any{t:ι->TS}(h:∀k,PSs X body (t k)):PSs X body (λ D b H=>∃k,t k D b H):=λ a s b H D I ⟨k,q⟩=>h k a s b H D I q
def PT.any{t:ι->TT}(h:∀k,PT X e (t k)):PT X e (λ b H Q=>∃k,t k b H Q):=λ a s b H Q I ⟨k,q⟩=>h k a s b H Q I q
structure Lp(H0 H1:Hp)(O W:List Addr):Prop where
 out:∀{H:Hp},Same (L2.wo W H1) H->Same H0 H
 outW:∀{a:Addr},L2.wo W H1 a=none->H0 a=none
 in1:∀a∈W,L2.wo W H1 a=none
 in2:∀a∈O,L2.wo W H1 a≠none
 wsame:∀{H:Hp},Same (L2.wo W H1) H->Same (L2.wo (O++W) H1) (L2.wo (O++W) H)
def Lp.mk'(fr:∀a∈W,d a=none)(fo:∀a∈O,d a≠none)(sm:Same d g):Lp d g O W where
 out:=λ {H} s b u e=>s b u (by
  rw[j9 λ z=>by rw[fr b z]at e;cases e];exact sm b u e)
 outW:=λ {a} q=>by
  by_cases z:a∈W
  ·exact fr a z
  ·rw[j9 z]at q;exact sm.free q
 in1:=λ a c=>X4 c
 in2:=λ a c=>by rw[j9 λ z=>fo a c (fr a z)];intro q;exact fo a c (sm.free q)
 wsame:=λ {H} s b u e=>by obtain⟨f,e⟩:=D6 e;rw[j9 f];exact s b u (by rwa [j9 λ z=>f (x9 _ z)])
def Lp.gotR(L:Lp b a O W)(g:GotR D O (L2.wo W a) H d fr v):GotR D O b H d fr v:=by
 cases fr with
 | false=>exact g
 | true=>
  obtain⟨p,c,k,j,i,h,f,e⟩:=g;exact⟨p,c,k,j,i,L.outW h,f,e⟩
def DN(hp:PassesOwn JG X.A X.env X.xe)(hc:X.calm=true)(hi:∀q,ri=some q->PI X u j (dI X.D δ q))(hG:PG X u (gT X.K tg))(hb:∀δ' o,f δ'=some o->PSs X body (dS X.D δ' o))(M:J3 j=false)
  (h:(Ri.thnS δ ri λ l c=>if c=.strong\/c=.fresh then t6 tg f l δ else none)=some o):PS X (.For u j body [] pos) (dS X.D δ o):=by
 have B:PSs X body (λ D E H=>∃k:{p:on Sv×Out // f p.1=some p.2},dS X.D k.1.1 k.1.2 D E H):=PSs.any λ k=>hb k.1.1 k.1.2 k.2;cases C:ri with
 | none=>rw[C]at h;cases h
 | some q=>
  rw[C]at h;have A:=hi q C;cases q with
  | ok l c=>
   have h':(if c=.strong\/c=.fresh then t6 tg f l δ else none)=some o:=h;split at h'
   ·rename_i m;refine(xw hp hc A hG B (gM M)).weak λ Dn E H ⟨H0,O,W,R,fr,fo,sm,k⟩=>⟨O,W,R,λ J I s1 w=>?_⟩
    have R1:=R.mono s1;have L:=Lp.mk' fr fo (sm.trans s1);have w:Wk X.D J l (O++W) (O++W) I:=(by rcases m with m | m<;>subst m<;>exact w);refine⟨λ i n E H=>n=l.length - i/\i<=l.length/\∃b F,t6 tg f (l.drop i) b=some o/\RSt X.D H E b O F/\(∀a∈F,L2.wo W I a=none)/\Same (L2.wo W I) H,
     ⟨l.length,rfl,E5 _,δ,W,h',R1,L.in1,A2⟩,?_⟩
    rintro i n S P ⟨rfl,hi,b,W2,hgo,R2,b1,b2⟩
    by_cases s:i<l.length
    ·refine .inr ⟨w.go i P (L.wsame b2) s,λ E H=>∃b F,t6 tg f _ b=some o/\RSt X.D H E b O F/\_/\Same (L2.wo W I) H,
      λ U H' q=>⟨l.length - (i+1),by omega,rfl,s,q⟩,λ x H3 y=>?_⟩
     have Y:=w.same i P x H3 y;have y3:=w.yld i P x H3 _ (O++W2) (L.wsame b2) (L.wsame b2) y (p8 s) λ a Q=>⟨R2.hid.ot a Q,by
      rcases C7.mp Q with z | z
      ·exact .inl (C6 _ z)
      ·have q:=b1 a z;by_cases hw:a∈W
       ·exact .inl (x9 _ hw)
       ·rw[j9 hw]at q;exact .inr q⟩
     rw[nj s]at hgo;unfold t6 at hgo;split at hgo
     ·cases hgo
     ·rename_i K a2;refine lx (R2.mono Y) y3 a2 λ σ3 R3=>?_
      split at hgo
      ·rename_i r a1;exact⟨⟨⟨K,.nx r⟩,a1⟩,L2.wo W I,O,W2,R3,b1,L.in2,b2.trans Y,λ U H' F R' N Z=>⟨r,F,hgo,R',N,Z⟩⟩
      ·rename_i a0;refine⟨⟨⟨K,o⟩,hgo⟩,L2.wo W I,O,W2,R3,b1,L.in2,b2.trans Y,?_⟩;cases o with
       | nx r=>exact absurd hgo (a0 r)
       | rt d N=>exact λ v H' s' g=>k v H' (L.out s') (L.gotR g)
    ·have e:i=l.length:=by omega
     subst e;rw[List.drop_length]at hgo;cases hgo;exact .inl ⟨w.stop P (L.wsame b2),k S P W2 R2 (λ a Q=>L.outW (b1 a Q)) (L.out b2)⟩
   ·cases h'
def DO(J:PassesOwn JG X.A X.env X.xe)(K:∀δ' r,e δ'=some r->PT X c (dT X.D δ' r))(M:∀δ' o,f δ'=some o->PSs X body (dS X.D δ' o))(h:J1 e f n δ=some o):PS X (.While c body [] pos) (dS X.D δ o):=by
 have B:PSs X body (λ D j H=>∃k:{p:on Sv×Out // f p.1=some p.2},dS X.D k.1.1 k.1.2 D j H):=PSs.any λ k=>M k.1.1 k.1.2 k.2;have T:PT X c (λ j H Q=>∃k:{p:on Sv×Rt // e p.1=some p.2},dT X.D k.1.1 k.1.2 j H Q):=PT.any λ k=>K k.1.1 k.1.2 k.2;refine(xk J T B).weak λ Dn j H t0=>?_;obtain⟨H0,O,W,R,P,fo,sm,k⟩:=t0;have L:=Lp.mk' P fo sm;refine⟨λ m j w=>∃b u,J1 e f m b=some o/\RSt X.D w j b O u/\(∀a∈u,L2.wo W H a=none)/\Same (L2.wo W H) w,⟨n,δ,W,h,R,L.in1,A2⟩,?_⟩
 rintro m A w ⟨b,W2,hgo,R2,b1,b2⟩
 cases m with
 | zero=>cases hgo
 | succ m=>
  unfold J1 at hgo;split at hgo
  ·cases hgo
  ·rename_i l;cases hgo;refine⟨⟨⟨b,.ok false⟩,l⟩,O,W2,R2,λ x s=>iteF ?_⟩;exact k A x W2 (R2.mono s) (λ a N=>L.outW (b1 a N)) (L.out (b2.trans s))
  ·rename_i l;refine⟨⟨⟨b,.ok true⟩,l⟩,O,W2,R2,λ x s=>iteT ?_⟩;refine⟨λ j w=>∃b u,J1 e f m b=some o/\RSt X.D w j b O u/\_/\Same _ w,λ C x q=>⟨m,cu m,q⟩,?_⟩;split at hgo
   ·rename_i i y;exact⟨⟨⟨b,.nx i⟩,y⟩,L2.wo W H,O,W2,R2.mono s,b1,L.in2,b2.trans s,λ C x u S z E=>⟨i,u,hgo,S,z,E⟩⟩
   ·rename_i F;refine⟨⟨⟨b,o⟩,hgo⟩,L2.wo W H,O,W2,R2.mono s,b1,L.in2,b2.trans s,?_⟩;cases o with
    | nx i=>exact absurd hgo (F i)
    | rt d z=>exact λ v x I g=>k v x (L.out I) (L.gotR g)
def RSt.anyNo(R:RSt D H σ δ O W)(n:δ[i]? = some .no)(x:Jk V):RSt D H (σ.set i x) δ O W:=by
 have ne:∀{j:Nat} {s:Sv},δ[j]? = some s->s ≠ .no->j≠i:=λ {j s} h l z=>by subst z;rw[n]at h;cases h;exact l rfl
 have b:∀{j:Nat},j≠i->(σ.set i x)[j]? = σ[j]?:=λ {j} m=>v6 (Ne.symm m);refine⟨λ j d h=>?_,λ j d h=>?_,λ j k a p o e c g f=>?_,R.od.step (λ j d h=>⟨h,b (ne h JL)⟩) (λ _ h _=>h) (λ _ _ _ h _=>h),by rw[D4];exact R.len,R.hid⟩
 ·rw[b (ne h JL)];exact R.val j d h
 ·rw[b (ne h JL)];exact R.own j d h
 ·rw[b (ne e JL)]at g;rw[b (ne c JL)]at f;exact R.inj j k a p o e c g f
def RSt.growD(R:RSt D H σ δ O W)(k:H p=none)(u:mutO i=true):RSt D (upd H p i) σ δ O (p::W):=by
 have s:Same H (upd H p i):=v9 k;have c:Same _ (L2.wo (O++(p::W)) _):=λ b o e=>by
  obtain⟨w,e⟩:=D6 e;rw[j9 λ z=>?_]
  ·exact s b o e
  ·rcases j0.mp (dO.mp z)with z | z
   ·rw[z,k]at e;cases e
   ·exact w z
 refine⟨λ j d h=>?_,λ j d h=>?_,R.inj,R.od.step (λ j d h=>⟨h,rfl⟩) (λ _ h _=>o4 _ h) (λ a _ _ h _=>s _ _ h),R.len,⟨λ a f=>?_,Same.refl _,λ a f=>?_,λ a f=>?_,R.hid.omS s⟩⟩
 ·obtain⟨v,n,l⟩:=R.val j d h;exact⟨v,n,l.mono c⟩
 ·obtain⟨a,g,r,A,n,l,y,x⟩:=R.own j d h;exact⟨a,g,r,A,n,o4 _ l,s _ _ y,x.mono c⟩
 ·rcases j0.mp (dO.mp f)with z | z
  ·rw[z,z8];intro q;cases q
  ·intro q;exact R.hid.ot a z (s.free q)
 ·rcases j0.mp f with z | z
  ·exact⟨_,by rw[z];exact z8,u⟩
  ·obtain⟨g,q,m⟩:=R.hid.wl a z;exact⟨g,s _ _ q,m⟩
 ·rcases j0.mp f with z | z
  ·intro q;exact R.hid.ot p (C6 _ (by rw[←z];exact q)) k
  ·exact R.hid.dj a z
def RSt.setOd(R:RSt D H σ δ O W)(x:p∈W)(m:OdOk u p l)(A:H p=some l)(c:noOt i δ=true):RSt D H (σ.set i (some (.ref p))) (δ.set i (.od u)) O W:=by
 refine⟨λ j d h=>?_,λ j d h=>?_,λ j k a C B g f r o=>?_,λ j d h=>?_,by rw[D4,D4];exact R.len,R.hid⟩
 ·have b:=N2 h JL;rw[v6 (Ne.symm b)]at h ⊢;exact R.val j d h
 ·have b:=N2 h JL;rw[v6 (Ne.symm b)]at h ⊢;exact R.own j d h
 ·have w:=N2 g JL;have v:=N2 f JL;rw[v6 (Ne.symm w)]at g r;rw[v6 (Ne.symm v)]at f o;exact R.inj j k a C B g f r o
 ·have b:j=i:=by
   by_cases b:j=i
   ·exact b
   ·rw[v6 (Ne.symm b)]at h;exact sN c h
  subst b;obtain⟨y,e⟩:=Y0 h;cases e;refine⟨⟨p,l,m,J8 (by rw[R.len];exact y),x,A⟩,λ k d' q=>?_⟩;by_cases n:k=j
  ·exact n
  ·rw[v6 (Ne.symm n)]at q;exact sN c q
def RSt.writeOd(R:RSt D H σ δ O W)(K:δ[i]? = some (.od d))(P:σ[i]? = some (some (.ref p)))(B:p∈W)(Q:H p=some I)(C:dicO I=true)(w:OdOk y p x):RSt D (upd H p x) σ (δ.set i (.od y)) O W:=by
 have u:Same _ (L2.wo (O++W) (upd H p x)):=λ b o e=>by obtain⟨r,e⟩:=D6 e;rw[j9 r,m7 λ z=>r (by rw[z];exact x9 _ B)];exact e
 have A:∀{b:Jn} {n:on V},H b=some (.lst n)->b≠p:=λ {b n} h z=>by rw[z,Q]at h;cases h;cases C
 refine⟨λ j d h=>?_,λ j d h=>?_,λ j k a y X l g U S=>?_,λ j d h=>?_,by rw[D4];exact R.len,⟨λ b r q=>?_,Same.refl _,λ b r=>?_,R.hid.dj,R.hid.omW B⟩⟩
 ·have f:=N2 h JL;rw[v6 (Ne.symm f)]at h;obtain⟨v,l,g⟩:=R.val j d h;exact⟨v,l,g.mono u⟩
 ·have f:=N2 h JL;rw[v6 (Ne.symm f)]at h;obtain⟨b,n,E,M,l,g,F,L⟩:=R.own j d h;exact⟨b,n,E,M,l,g,by rw[m7 (A F)];exact F,L.mono u⟩
 ·have N:=N2 l JL;rw[v6 (Ne.symm N)]at l;rw[v6 (Ne.symm (N2 g JL))]at g;exact R.inj j k a y X l g U S
 ·have f:j=i:=by
   by_cases f:j=i
   ·exact f
   ·rw[v6 (Ne.symm f)]at h;exact(R.od i _ K).2 j _ h
  subst f;obtain⟨hl,e⟩:=Y0 h;cases e;refine⟨⟨p,x,w,P,B,z8⟩,λ k d' q=>?_⟩;by_cases J:k=j
  ·exact J
  ·rw[v6 (Ne.symm J)]at q;exact(R.od j _ K).2 k _ q
 ·by_cases c:b=p
  ·rw[c,z8]at q;cases q
  ·rw[m7 c]at q;exact R.hid.ot b r q
 ·by_cases c:b=p
  ·exact⟨_,by rw[c];exact z8,w.mut⟩
  ·obtain⟨n,q,m⟩:=R.hid.wl b r;exact⟨n,by rw[m7 c];exact q,m⟩
section
variable {X:Cx} {δ:on Sv} {o:Out} {e ek ed ea:Jp} {pos pos' npos spos apos cpos:Pos} {ra rb rc:Jk Re} {i:Nat} {x:Str} {re:Re}
def dkO:HO->Bool
 | .dK _=>true
 | .dT _=>true
 | _=>false
def DP(hv:PE X (.Name x npos) (tVar i)):PE X (.Name x npos) (λ k H Q=>∃a o,k[i]? = some (some (.ref a))/\H a=some o/\dkO o=true/\∀c,Q (.ref a) (upd H a (.frz c o))):=by
 intro g s k H Q I h;obtain⟨a,o,y,f,d,q⟩:=h;refine thn (hv g s k H (λ v j=>v=.ref a/\j=H) I ⟨_,y,rfl,rfl⟩) λ u s1 t0=>?_;obtain⟨v,j,n,r1,w,r⟩:=t0
 subst w r;have ok:=n.hok _ _ f;obtain⟨c,z5⟩:∃c,s1.heap.get? a=some c:=by
  cases o with
  | dK m=>obtain⟨_,_,_,_,c,_,_,e,_⟩:=ok;exact⟨c,e⟩
  | dT m=>obtain⟨_,_,_,_,c,_,_,e,_⟩:=ok;exact⟨c,e⟩
  | _=>cases d
 have l:u9 X.prog X.w (upd j a (.frz c o)) s1.heap a o:=by
  refine ok.stay (λ _ _ _ e=>e) (λ b e=>?_) (λ b p e=>?_) (λ b p e=>?_) λ b _ _ _ _ e=>?_
  ·rw[m7 λ z=>by rw[z,f]at e;cases e;cases d];exact e
  ·rw[m7 λ z=>by rw[z,f]at e;cases e;cases d];exact e
  ·rw[m7 λ z=>by rw[z,f]at e;cases e;cases d];exact e
  ·rw[m7 λ z=>by rw[z,f]at e;cases e;cases d];exact e
 exact⟨.ref a,upd j a (.frz c o),n.write (by rw[f];cases o<;>first | trivial | cases d) (.inl rfl) (λ b u hb e=>e) ⟨c,z5⟩ ⟨z5,l⟩,r1,q c⟩
def lC(h:asOd a=some p):a=some (.od (.dcl p.1 p.2)):=by
 unfold asOd at h;split at h
 ·cases h;rfl
 ·cases h
def DQ(hv:PE X (.Name x npos) (tVar i))(h:((asOd δ[i]?).bind λ p=>some (Out.rt (.dct p.1 p.2) false))=some o):PS X (.Return (some (.Name x npos)) pos) (dS X.D δ o):=by
 obtain⟨⟨ks,vs⟩,e,h⟩:=r3.mp h;cases h;refine(bg (DP hv)).weak λ Dn σ H t0=>?_;obtain⟨H0,O,W,R,f,fo,sm,k⟩:=t0
 obtain⟨⟨p,ob,l,j,a,g⟩,u⟩:=R.od i _ (lC e);obtain⟨L,c,b⟩:=l;cases c;subst b;refine⟨p,_,j,g,rfl,λ d=>k _ _ (Y1 sm (f p a)) ?_⟩;show Rep X.D _ _ _;exact aC.mpr ⟨p,d,oeK L,rfl,by rw[j9 (R.hid.dj p a)];exact z8,rj L,rm L⟩
def DR(h:X0 ek=false):NoSl ek:=λ ov iv=>by cases ek<;>first | rfl | cases h
theorem sQ:∀{a:on (on Key×V)} {b:on DV},RepL D H b (a.map (·.2))->W5 (.t k) (a.map λ p=>DKey.t p.1) b=some (.int v)->valV a k=some (.int v)
 | [],b,r,h=>by cases b<;>cases h
 | _::a,[],r,h=>by cases h
 | (g,f)::a,d::b,r,h=>by
  obtain⟨w,ws,l,j,i⟩:=v5.mp r;cases l;have c:(if DKey.t g=.t k then some d else W5 (.t k) _ b)=some _:=h;by_cases e:g=k
  ·subst e;rw[f8 rfl]at c;cases c;rw[gC rfl];show some f=_;rw[show f=.int v from A7.mp j]
  ·rw[g9 (λ z=>e (DKey.t.inj z))]at c;rw[gD e];exact sQ i c
def lD(K:Jw)(H:Hp)(a:Jn)(y:V)(r:Jk V):Prop:=DGet H a y r\/∃kvs k b,Rd H a (.dT kvs)/\y=.ref b/\SqT K H b (k.map kV)/\r=valV kvs k
def DS{E:Jl->Jm->Prop}(o:A.units+1<cLine)(I:JI c)(g:lD X.K H a y (some v))(n:RelV y u)(h:∀d m,Inv X c σ H m->RelV v d->Q d m) :
  wpAny JG A (getItem (.ref a) u) Q E s:=by
 rcases g with g | ⟨kvs,k,b,e,ey,eb,l⟩
 ·exact BD o I g n h
 ·subst ey;cases(n);obtain⟨z,hd,xs,i,w⟩:=bF I.hok e;obtain⟨d,q,f⟩:=RelO.some_of (by rw[l];exact i.val k);obtain⟨p,r,j⟩:=B3.mp q;refine wpAny_getItem_heap (eO o) (rJ I eb) w r ?_;rw[j];exact h d _ (I.tok _) f
def DT{o:Jk V}(I:JI c)(g:lD X.K H a y o):s.TypeIs (.ref a) "dict":=by
 rcases g with g | ⟨kvs,k,b,e,ey,eb,l⟩
 ·exact BH I g
 ·obtain⟨_,_,xs,_,d⟩:=bF I.hok e;exact d.typeIs
noncomputable def DU(K:Jw)(td ty:TE):TE:=λ σ H Q=>td σ H λ x H1=>ty σ H1 λ y H2=>∃a v,x=.ref a/\lD K H2 a y (some v)/\Q v H2
def DW{e:TE}(m:X.A.units+1<cLine)(o:PE X ea e)(p:PE X ek ty)(n:NoSl ek):PE X (.Subscript ea ek pos) (DU X.K e ty):=by
 intro b s d H Q I h;refine BG PySem.F.slot_dict_getitem.lookup n (thn (o b s d H _ I h) λ u s1 ⟨x,z,r,j,l⟩=>thn (p b s1 d z _ r l) λ iv s2 t0=>?_);obtain⟨y,w,f,i,a,v,ex,g,k⟩:=t0;subst ex;obtain rfl:u=Value.ref a:=j;exact⟨DT f g,DS m f g i λ w' s3 q c=>⟨v,w,q,c,k⟩⟩
def DX(K:X.A.units+1<cLine)(N:∀q,ra=some q->PE X ea JN)(M:∀q,rb=some q->PE X ek JN)(L:X0 ek=false)
  (h:(Re.thn ra λ x _=>Re.thn rb λ y _=>dixD x y)=some re):PE X (.Subscript ea ek pos) (dE X.D δ re):=by
 cases e:ra with
 | none=>rw[e]at h;cases h
 | some q=>
  rw[e]at h;have A:=N q e;cases q with
  | ok Y cx=>
   cases c:rb with
   | none=>rw[c]at h;cases h
   | some l=>
    rw[c]at h;have B:=M l c;cases l with
    | ok dk ck=>
     obtain⟨⟨ks,w⟩,m,f⟩:=r3.mp (h);obtain⟨k0,l,f⟩:=r3.mp f;obtain⟨d,I,f⟩:=r3.mp f;obtain⟨C,F,f⟩:=r3.mp f;cases f;cases rK l;cases F7 F;refine((λ t E (S:PE X ea t) (P:PE X ek E)=>DW K S P (DR L)) _ _ A B).weak λ σ H Q ⟨O,W,R,p⟩=>⟨O,W,R,λ v u s1 g=>⟨O,W,R.mono s1,λ v2 Z s2 U=>?_⟩⟩
     obtain⟨J,r,o⟩:=rM (U.all ((R.mono s1).hid.mono s2));obtain⟨a,b,k,j,i,e4⟩:∃a b,v=.ref a/\Rd u a (.dT b)/\b.map _=ks/\RepL X.D u w (b.map (·.2)):=by
      have s:=g.all (R.hid.mono s1);cases Y with
      | dct _ _=>cases m;obtain⟨a,n,b,k,j,i⟩:=aC.mp s;exact⟨a,b,k,.inr ⟨n,j⟩,i⟩
      | dcl _ _=>cases m;obtain⟨a,b,k,j,i⟩:=gu.mp s;exact⟨a,b,k,.inl j,i⟩
      | _=>cases m
     subst i;exact⟨a,.int C,k,.inr ⟨b,_,J,j.imp (s2 _ _) λ ⟨n,z⟩=>⟨n,s2 _ _ z⟩,r,o,(sQ e4 I).symm⟩,p _ Z (s1.trans s2) K6⟩
end
def lE(h:kP p=kP q):p=q:=by
 have:=congrArg unP h;have u:∀k,unP (kP k)=some k:=λ k=>by
  induction k with
  | nil=>rfl
  | cons a r b=>show(unP (kP r)).map _=_;rw[b];rfl
 rw[u,u]at this;exact B8 this
noncomputable def putP(L:on (on Int×Int))(k:on Int)(z:Int):on (on Int×Int):=if(L.any λ p=>decide (p.1=k))=true then L.map (λ p=>if p.1=k then(p.1,z)else p)else L++[(k,z)]
def sR(L:on (on Int×Int))(k:on Int)(z:Int):putK (oeK L) (kP k) (.int z)=oeK (putP L k z):=by
 have e:((oeK L).any λ a=>decide (a.1=kP k))=L.any λ p=>decide (p.1=k):=by
  unfold oeK;rw[jt]
  congr 1
  funext p
  show decide (kP p.1=kP k)=decide _;by_cases h:p.1=k
  ·rw[D5 (by rw[h]),D5 h]
  ·rw[B4 (λ z=>h (lE z)),B4 h]
 unfold putK putP;rw[e];split
 ·unfold oeK;rw[v7,v7];apply Q8;intro p _;show(if kP p.1=kP k then(kP p.1,V.int z)else(kP p.1,V.int p.2))=(kP (if p.1=k then(p.1,z)else p).1,V.int (if p.1=k then(p.1,z)else p).2);by_cases h:p.1=k
  ·rw[f8 (by rw[h]),f8 h]
  ·rw[g9 (λ z=>h (lE z)),g9 h]
 ·unfold oeK;rw[C3];rfl
def sU(h:kD p=kD q):p=q:=lE (DKey.t.inj h)
def sV(L:on (on Int×Int))(k:on Int)(z:Int):putD (kD k) (.int z) (L.map λ p=>kD p.1) (L.map λ p=>.int p.2)=((putP L k z).map (λ p=>kD p.1),(putP L k z).map (λ p=>.int p.2)):=by
 have e:(kD k∈L.map λ p=>kD p.1)↔(L.any λ p=>decide (p.1=k))=true:=by
  rw[m9,U2];constructor
  ·rintro⟨p,c,b⟩;exact⟨p,c,by rw[F3];exact sU b⟩
  ·rintro⟨p,c,b⟩;exact⟨p,c,by rw[F3.mp b]⟩
 unfold putD putP;by_cases h:(L.any λ p=>decide (p.1=k))=true
 ·rw[f8 (e.mpr h),f8 h,v7,v7];refine Prod.ext ?_ ?_
  ·apply Q8;intro p _;show kD p.1=kD (if p.1=k then(p.1,z)else p).1;split<;>rfl
  ·show List.map _ _=_;rw[List.zip_map_left,List.zip_map_right];have:∀(L:on (on Int×Int)),List.zip L L=L.map λ p=>(p,p):=by
    intro L
    induction L with
    | nil=>rfl
    | cons a r d=>rw[List.zip_cons_cons,d];rfl
   rw[this,v7,v7,v7];apply Q8;intro p _;show(if kD p.1=kD k then DV.int z else DV.int p.2)=DV.int (if p.1=k then(p.1,z)else p).2;by_cases h:p.1=k
   ·rw[f8 (by rw[h]),f8 h]
   ·rw[g9 (λ z=>h (sU z)),g9 h]
 ·rw[g9 (λ z=>h (e.mp z)),g9 h,C3,C3];rfl
def DY(l:X.N.Nodup)(f:X.N[i]? = some x)(e:Loc X.env.scope x)(g:X.fn x=true\/X.env.scope.names.lookup x=some .local)(h:(if noOt i δ then some (Out.nx (δ.set i (.od (.dcl [] []))))else none)=some o):PS X (.Assign [.Name x b] (.Dict [] [] pos') pos) (dS X.D δ o):=by
 split at h
 ·rename_i d;cases h;refine(cU l f e BL rfl g).weak λ Dn σ H ⟨H0,O,W,R,m,fo,sm,k⟩=>λ p c=>?_
  exact k _ _ _ ((R.growD c rfl).setOd (o6 ..) ⟨[],rfl,rfl⟩ z8 d) (λ a j=>by
   rcases j0.mp j with z | z
   ·rw[z];exact sm.free c
   ·exact m a z) (sm.trans (v9 c))
 ·cases h
def jD(h:n<=m):HT.sIx m m (some (n:Int))=n:=by
 unfold HT.sIx;simp only[];split<;>omega
def Ea{n:Nat}(h:n<=xs.length):cutV xs none (some (n:Int))=xs.take n:=by
 unfold cutV;rw[jD h];show(xs.drop 0).take (n - 0)=xs.take n;rw[List.drop_zero,Nat.sub_zero]
def Eb(hu:X.A.units+1<cLine)(hv:PE X (.Name x a) (tVar i))(he:∀q,J=some q->PE X e JN)(hk:∀q,I=some q->PE X M JN)(hc:S7 e=false)
  (h:((asOd δ[i]?).bind λ p=>Re.thnS δ J λ d _=>Re.thnS δ I λ y _=>dpvD i δ p y l d)=some o):PS X (.Assign [.Subscript (.Name x a) (.Subscript M (.Slice none (some (.Constant (.int l) jn p2)) none p3) p4) m] e pos) (dS X.D δ o):=by
 obtain⟨⟨ks,vs⟩,E,h⟩:=r3.mp h;have E:=lC E;cases f:J with
 | none=>rw[f]at h;cases h
 | some q=>
  rw[f]at h;have A:=he q f;cases q with
  | ok d cl=>
   cases c:I with
   | none=>rw[c]at h;cases h
   | some Q=>
    rw[c]at h;have B:=hk Q c;cases Q with
    | ok dy cy=>
     obtain⟨ds,w0,j⟩:=r3.mp (h);obtain⟨C,P,j⟩:=r3.mp j;obtain⟨z,w2,j⟩:=r3.mp j;cases rB w0;cases F7 w2;split at j
     ·rename_i hl;cases j;refine((λ t t' (hA:PE X e t) (hB:PE X M t')=>rG hu hv (jE oZ hB oW (oX (jv))) hA (bK hc)) _ _ A B).weak λ Dn σ H ⟨H0,O,W,R,S,fo,sm,k⟩=>⟨O,W,R,λ v H1 s1 g=>?_⟩
      obtain⟨⟨p,ob,e0,Y,U,e3⟩,u⟩:=R.od i _ E;obtain⟨L,N,eo⟩:=e0;cases N;subst eo;refine⟨.ref p,Y,O,W,R.mono s1,λ y Z w g2=>?_⟩;have K:=g.int (R.hid.mono s1);subst K;obtain⟨b,xs,f1,f2,f3⟩:=E7.mp (g2.all ((R.mono s1).hid.mono w));have ex:=gw (by rw[←dB P];exact f3);subst ex;have hds:ds.length=C.length:=by rw[dB P,i0]
      refine⟨l,rfl,b,_,f1,f2,?_,λ q hq=>?_⟩
      ·rw[i0,jD JC];omega
      have F:Same Z (upd Z q (.tup (cutV (C.map V.int) none (some (l:Int))))):=v9 hq;have r:=F _ _ (w _ _ (s1 _ _ e3));have n:=hl.2.2.1;rw[i0]at n;refine⟨p,_,rfl,DPut.t (k:=kP (C.take l)) r (by rw[kP_V,jg,←Ea (by rw[i0];omega)];exact z8) (by unfold oeK;rw[i0];exact p9 n JD),?_⟩;rw[sR];have pe:=sV L (C.take l) z;unfold kD at pe k;rw[pe]at k;exact k σ _ W ((((R.mono s1).mono w).mono F).writeOd E Y U r rfl ⟨_,rfl,rfl⟩) S (Y1 (((sm.trans s1).trans w).trans F) (S p U))
     ·cases j
def Ec(hu:X.A.units+1<cLine)(hv:PE X (.Name x a) (tVar i))(he:∀q,C=some q->PE X e JN)(hk:∀q,y=some q->PA X es (dA X.D δ q))(hc:S7 e=false)
  (h:((asOd δ[i]?).bind λ p=>Re.thnS δ C λ d _=>Rs.thnS δ y λ l=>(dppD i δ p l d).map Out.nx)=some o):PS X (.Assign [.Subscript (.Name x a) (.Tuple es x1 j) m] e pos) (dS X.D δ o):=by
 obtain⟨⟨ks,vs⟩,s,h⟩:=r3.mp h;have s:=lC s;cases c:C with
 | none=>rw[c]at h;cases h
 | some q=>
  rw[c]at h;have A:=he q c;cases q with
  | ok d cl=>
   cases b:y with
   | none=>rw[b]at h;cases h
   | some I=>
    rw[b]at h;have B:=hk I b;cases I with
    | ok l=>
     obtain⟨U,f,h2⟩:=B3.mp h;cases h2;obtain⟨J,Z,f⟩:=r3.mp f;obtain⟨z,Y,f⟩:=r3.mp f;cases F7 Y;split at f
     ·rename_i K;cases f;refine((λ t t' (hA:PE X e t) (hB:PA X es t')=>rG hu hv (jC hB) hA (bK hc)) _ _ A B).weak λ Dn S H ⟨H0,O,W,R,M,fo,sm,k⟩=>⟨O,W,R,λ v H1 s1 g=>?_⟩
      obtain⟨⟨p,ob,e0,P,N,e3⟩,u⟩:=R.od i _ s;obtain⟨L,F,eo⟩:=e0;cases F;subst eo;refine⟨.ref p,P,O,W,R.mono s1,λ vs2 Q s2 g2=>?_⟩;have E:=g.int (R.hid.mono s1);have ew:=gw (by rw[←dB Z];exact g2.repL ((R.mono s1).hid.mono s2));subst E ew;refine⟨by rw[i0];exact k6 K.2 JD,λ q hq=>?_⟩;have w:Same Q (upd Q q (.tup (J.map V.int))):=v9 hq;have r:=w _ _ (s2 _ _ (s1 _ _ e3));have n:=K.1;rw[i0]at n;refine⟨p,_,rfl,DPut.t r (by rw[kP_V];exact z8) (by unfold oeK;rw[i0];exact p9 n JD),?_⟩;rw[sR];have pe:=sV L J z;unfold kD at pe k;rw[pe]at k;exact k S _ W ((((R.mono s1).mono s2).mono w).writeOd s P N r rfl ⟨_,rfl,rfl⟩) M (Y1 (((sm.trans s1).trans s2).trans w) (M p N))
     ·cases f
def Kp(a:Jn)(h h':Jo):Prop:=∀b o,b≠a->h.get? b=some o->h'.get? b=some o
def Kp.of{a:Jn}{h h':Jo}(x:Heap.SameBut a h h'):Kp a h h':=λ b o n e=>x.extBut b o n e
def Kp.trans(x:Kp a h h')(y:Kp a h' c):Kp a h c:=λ b o n e=>y b o n (x b o n e)
theorem Kp.push{a:Jn}{h h':Jo}(x:Kp a h h')(o':Obj):Kp a h (h'.push o'):=λ b o n e=>k9 _ (x b o n e)
def Ed(hd:(d==sysModules)=false):MeetsIn prog w (Builtin.«dict.items» ⟨[.ref d],[]⟩) (λ _ R s=>s.TypeIs (.ref d) "dict" /\
  R (.ok (.ret (.ref s.heap.objs.size))) {s with heap:=s.heap.push {cls:=.type "dict_items",data:=.fields #[.ref d]}}):=.of_wp λ A R s q=>by
 have a:¬((d==sysModules)=true):=by rw[hd];exact B7
 unfold Builtin.«dict.items» Builtin.Dict.noArgs Builtin.Dict.showsAll;refine f0 (f0 (wpAny_notOrdered_dict q.1 (g7 ?_)));show wpAny _ _ _ _ _ s;rw[g9 a];exact f0 (g7 (f0 (E3 (g7 ⟨_,rfl,q.2⟩))))
def Ee(hv:s.heap.IsItemsView v d)(c:s.heap.get? d=some b)(a:b.data=.dict es ep)
  (q:Q (.ref s.heap.objs.size) {s with heap:=s.heap.push {cls:=.type "dict_itemiterator",data:=.fields #[.none,.bool false,.ref d,.int 0 0,.int es.size 0,.int ep 0,.none,.none]}}):wpAny JH A (pyIter (.ref v)) Q E s:=by
 obtain⟨_,f,_,e⟩:=id hv;refine iO hv.typeIs nO (G7 nO hv.typeIs F.entry_dict_items_iter ?_ (F.args_dict_items_iter_1 _));unfold Builtin.«dict_items.__iter__» Builtin.Dict_items.dictOf Builtin.Dict_items.newIterator;refine f0 (g7 (f0 (f0 (G2 f e rfl (g7 (f0 (f0 (wpAny_dictEntries c a (f0 (wpAny_dictEpoch c a ?_))))))))));rw[show Builtin.Dict_items.ownsTuple "dict_itemiterator" = true from by decide];exact E3 (g7 ⟨_,rfl,"dict_itemiterator",_,⟨_,q5 _ rfl,rfl⟩,F.slot_dict_itemiterator_next.lookup,q⟩) (by show(8:Nat)<=_;rw[P6];omega)
def sW{ov:Jl}(P:A.handled=none)(c:IsItemIter s.heap it d i es.size ep ok ov)(g:s.heap.get? d=some u)(k:u.data=.dict es ep)
  (e:∀en h',es[i]? = some en->IsItemIterOut h' it d (i+1) es.size ep en.key en.val s.heap.objs.size->h'.get? s.heap.objs.size=some {cls:=.type "tuple",data:=.seq #[en.key,en.val]} -> Kp it s.heap h'->Q (some (.ref s.heap.objs.size)) {s with heap:=h'})
  (f:∀h',es[i]? = none->Kp it s.heap h'->Q none {s with heap:=h'}):wpAny JH A (pyNext (.ref it)) Q E s:=by
 have ty:∀{h:Jo} {j:Nat} {x y:Jl},IsItemIter h it d j es.size ep x y->Shared.TypeIs {s with heap:=h} (.ref it) "dict_itemiterator":=λ z=>⟨_,z,rfl⟩;have o:Builtin.Dict_items.ownsTuple "dict_itemiterator" = true:=by decide
 have O:¬((Value.ref d==Value.none)=true):=B7;unfold pyNext;refine f0 (U4 (Q6 (ty c) mV (G7 mV (ty c) F.entry_dict_itemiterator_next ?_ (F.args_dict_itemiterator_next_1 _))));refine f0 (g7 (f0 (f0 (f0 (im (ty c) (g7 (f0 (cG c rfl ?_))))))));simp only[o,if_true];show wpAny _ _ (if(Value.ref d==Value.none)=true then _ else _) _ _ s;rw[g9 O];refine f0 (g7 (f0 (wpAny_dictEntries g k ?_)));rw[g9 JK];refine f0 (g7 (f0 (wpAny_dictEpoch g k ?_)));rw[g9 JK];refine g7 ?_;dsimp only;rw[g9 (show ¬((i:Int)<0) by omega),D3];cases B:es[i]? with
 | none=>
  dsimp only;refine f0 (f0 (im (ty c) (g7 ?_)));simp only[o,if_true];refine f0 (P2 c JK λ l r s1=>f0 ?_);unfold newExc newTuple;refine f0 (E3 (f0 (m:=firstArgMember _ _) (aZ (a:=Value.none) (by first | rfl | (simp only[firstArgMember];rfl)) (E3 (wpAny_raiseNew_none P (f0 (cw (T:="StopIteration") (b:=true) ⟨_,q5 _ rfl,rfl⟩ eZ (g7 ?_)))) (by size_fits)))) (by size_fits));exact f _ B (((Kp.of s1).push _).push _)
 | some en=>
  dsimp only;refine f0 (f0 (im (ty c) (g7 (f0 (iz (ty c) ?_)))));simp only[o,if_true];refine f0 (P2 c JK λ l r s1=>?_);have p:IsItemIter l it d (i+1) es.size ep ok ov:=by unfold IsItemIter;rw[show((i+1:Nat):Int)=(i:Int)+1 by omega];exact r
  refine f0 (F4 (f0 (iz (ty p) (f0 (iz (ty p) ?_)))));show wpAny _ _ _ _ _ {s with heap:=l};unfold Builtin.Dict_items.pairFromOwner Builtin.Dict_items.ownedTupleIsFree;have sz:=s1.1;have n:IsItemIter (l.push {cls:=.type "tuple",data:=.seq #[en.key,en.val]}) it d (i+1) es.size ep ok ov:=k9 _ p;have J:(l.push {cls:=.type "tuple",data:=.seq #[en.key,en.val]}).get? s.heap.objs.size=some {cls:=.type "tuple",data:=.seq #[en.key,en.val]}:=by rw[←sz];exact q5 _ rfl
  refine f0 (jd (f0 (f0 (G2 n rfl (x:=.none) rfl (g7 ?_)))));simp only[if_true];refine f0 (G2 n rfl (x:=ok) rfl (f0 (G2 n rfl (x:=ov) rfl ?_)));refine f0 (P2 n JK λ h3 I N=>f0 (P2 I JK λ h4 H M=>f0 (P2 H JK λ h5 C L=>f0 (P2 C JK λ R q K=>?_))));have v:=(((Kp.of N).trans (.of M)).trans (.of L)).trans (.of K);refine f0 (ba (g7 (g7 ⟨_,rfl,g7 ?_⟩)));rw[sz]at q ⊢;exact e en R B q (v _ _ (Ne.symm (o9 (k8 c))) J) (((Kp.of s1).push _).trans v)
def ItP(a:Jn)(ob:Obj)(qs:on Jn)(kvs:on (on Key×V)):It:=
  ⟨λ i H=>H a=some (.frz ob (.dT kvs))/\∃k v,kvs[i]? = some (k,v),
   λ i H x H'=>∃p q k v,x=.ref p/\H p=none/\kvs[i]? = some (k,v)/\qs[i]? = some q/\H q=some (.tup (k.map kV))/\H'=upd H p (.tup [.ref q,v]),
   λ i H=>H a=some (.frz ob (.dT kvs))/\kvs.length<=i⟩
def Ef(r:KT H c xs):∀{i:Nat} {k:on Key} {v:V},c[i]? = some (k,v)->∃b u,xs[i]? = some (k,b,u)/\H b=some (.tup (k.map kV))/\RelV v u:=by
 induction r with
 | nil=>intro i k v h;cases h
 | cons p t e=>
  intro i k v h;cases i with
  | zero=>
   obtain⟨p1,p2,p3⟩:=p;rename_i a b _ _;obtain⟨a1,a2⟩:=a;obtain⟨b1,g,f⟩:=b;cases h;have d:=p1;subst d;exact⟨g,f,rfl,p2,p3⟩
  | succ i=>exact e h
theorem KT.length(r:KT H a xs):a.length=xs.length:=by
 induction r with
 | nil=>rfl
 | cons _ _ b=>rw[z7,z7,b]
def lF(I:JI b)(h:H a=some (.frz c (.dT d)))(hd:c.data=.dict es ep) :
  s.heap.get? a=some c/\(a==sysModules)=false/\c.ExactDict/\∃xs,KT H d xs/\es.toList=xs.map (entryOfKey (tupleKind (H9 X.prog X.w))):=by
 obtain⟨e,z1,j,xs,i,o,m,n,g,l,f,k,y5⟩:=(show u9 X.prog X.w H s.heap a (.frz c _)from I.hok _ _ h);rw[e]at g;cases g;rw[hd]at f;cases f;exact⟨e,j,l,xs,i,k⟩
def sX(es:Jq DictEntry)(qs:on Jn):Prop:=es.toList.map (·.key)=qs.map Value.ref
def Eg{K:Jw}(hd:ob.data=.dict es ep)(M:sX es C) :
  Turn P w K (.Tuple elts k pos) (ItP a ob C F) [it] it (λ i h=>∃ok ov,IsItemIter h it a i es.size ep ok ov) where
 mem:=by simp
 obj:=λ i h st b d=>by obtain⟨ok,ov,g⟩:=st;rw[C2]at d;subst d;exact⟨_,g,λ v q=>by cases q⟩
 keep:=λ i h y st q=>by obtain⟨ok,ov,g⟩:=st;exact⟨ok,ov,q it JK _ g⟩
 item:=by
  intro X S J U R i j s Z H E I x st O;subst S J U;obtain⟨ok,ov,g⟩:=st;obtain⟨W,k0,v0,r⟩:=O;obtain⟨B,z2,z4,xs,A,z⟩:=lF I W hd;obtain⟨b,u,hu,d,ru⟩:=Ef A r;have Q:es[i]? = some (entryOfKey (tupleKind (H9 X.prog X.w)) (k0,b,u)):=by rw[entry_at z,hu];rfl
  have L:C[i]? = some b:=by
   have h1:(es.toList.map (·.key))[i]? = some (.ref b):=by rw[q9,L9,Q];rfl
   rw[M,q9]at h1;obtain⟨c,e1,e2⟩:=B3.mp h1;cases e2;exact e1
  refine sW (I.ok.hd R) g B hd (λ en y f b2 b3 b5=>?_) (λ y p _=>by rw[Q]at p;cases p);rw[Q]at f;cases f;refine⟨_,rfl,?_⟩;refine wpAny_letOwnedTupleGo_items b2 λ h2 N t2=>?_;have m:=M4 (k8 g);have I1:=I.turnedL (t':=s.toks) (λ b o d e=>t2.extBut _ _ (λ q=>d (by simp[q])) (b5 b o (λ q=>d (by simp[q])) e)) x;have l:=I.hok.fresh (i8 _);have Y:=I.fpOk (i8 _) l;have I2:Inv X j Z (upd H s.heap.objs.size (.tup [.ref b,v0])) {s with heap:=h2}:=I1.track l (aN I.sz) Y.2.1 (λ n c e=>Y.2.2.2.2.1 n c e) (λ q M=>Y.2.2.2.2.2 q M)
   ⟨by show(2:Nat)<=sizeLine;decide,[.ref b,u],.cons rfl (.cons ru .nil),_,(t2.extBut _ _ m b3),⟨rfl,rfl⟩,_,rfl⟩
  refine⟨.ref s.heap.objs.size,_,I2,rfl,⟨_,b,k0,v0,rfl,l,r,L,d,rfl⟩,⟨_,_,N⟩,λ b d=>?_⟩;rw[C2]at d;subst d;rw[m7 (Ne.symm m)];exact(x b JK).1
 done:=by
  intro X S J U R i j s Z H E I x st O;subst S J U;obtain⟨ok,ov,g⟩:=st;obtain⟨W,r⟩:=O;obtain⟨B,z2,z4,xs,A,z⟩:=lF I W hd;have hl:es.size<=i:=by rw[size_of_entries z,←A.length];exact r
  exact sW (I.ok.hd R) g B hd (λ en y f _ _ _=>by rw[T8 hl]at f;cases f) λ y _ a=>⟨rfl,I.turnedL (t':=s.toks) (ch:=[it]) (λ b o d e=>a b o (λ q=>d (by simp[q])) e) x⟩
 self:=λ _ _ _ _ _ st h=>by obtain⟨ok,ov,g⟩:=st;exact PySem.W.kcp_self g h
def Wk.itemsP{K:on Jn}(h:L2.wo K g a=some (.frz C (.dT b)))(e:b=oeK L)(P:∀q∈B,∃n,g q=some (.tup n))(R:Hdn J g):Wk D (ItP a C B b) (L.map λ p=>.tup [.tup (p.1.map .int),.int p.2]) K J g:=by
 subst e;have Q:(oeK L).length=L.length:=by unfold oeK;rw[i0]
 have c:∀(i:Nat),(oeK L)[i]? = (L[i]?).map λ p=>_:=λ i=>by unfold oeK;rw[q9]
 refine⟨λ i H s I=>?_,λ i H x U y=>?_,λ i H x U d M s s' y e F=>?_,λ H s=>?_⟩
 ·rw[i0]at I;exact⟨A2 _ _ (s _ _ h),kP L[i].1,.int L[i].2,by rw[c,p8 I];rfl⟩
 ·obtain⟨p,q,k,v,_,f,_,_,_,e⟩:=y;rw[e];exact v9 f
 ·obtain⟨p,q,k,v,ex,f,j,N,r,S⟩:=y;rw[q9]at e;rw[c]at j;cases E:L[i]? with
  | none=>rw[E]at e;cases e
  | some O=>
   rw[E]at e j;cases e;cases j;have l:q∉M:=λ z=>by
    obtain⟨n,w⟩:=P q (M1 N);rcases(F q z).2 with u | u
    ·obtain⟨o,A,m⟩:=R q u;rw[w]at A;cases A;cases m
    ·rw[w]at u;cases u
   subst S;have r1:Rep D (L2.wo M (upd H p (.tup [.ref q,.int O.2]))) _ _:=
    E7.mpr ⟨q,_,rfl,SqT.of (by rw[j9 l,m7 (B1 r f)];exact r),by rw[kP_V];exact bC _⟩
   exact E7.mpr ⟨p,_,ex,SqT.of (by rw[j9 (λ z=>(F p z).1 f)];exact z8),v5.mpr ⟨_,_,rfl,r1,RepL.one (A7.mpr rfl)⟩⟩
 ·exact⟨A2 _ _ (s _ _ h),by rw[i0,Q];exact i8 _⟩
def sY(he:PE X e S)(n:attributeBase e "items" X.env (eval e X.env)=eval e X.env)(j:(apos.endLine==pos.line)=true) :
  PI X (.Tuple elts k tpos) (.Call (.Attribute e "items" apos) [] [] pos) (λ C H R=>S C H λ x g=>∃a f d,x=.ref a/\g a=some (.frz f (.dT d))/\∀U:on Jn,(∀q∈U,∃F,g q=some (.tup F))->R (ItP a f U d) g):=by
 intro u s C H R I h;refine ny n j (thn (he u s C H _ I h) λ v s1 t0=>?_);obtain⟨x,g,B,r1,a,f,d,e1,L,q⟩:=t0;subst e1;cases r1;obtain⟨i,w,A,N,E⟩:∃i w A,s1.heap.get? a=some i/\i.data=.dict w A:=by obtain⟨r,z1,Q,xs,P,o,w,A,y1,y2,y3,y4⟩:=(show u9 X.prog X.w g s1.heap a (.frz f (.dT d))from B.hok _ _ L);exact⟨o,w,A,y1,y3⟩
 have yo:i=f:=(by obtain⟨r,_⟩:=(show u9 X.prog X.w g s1.heap a (.frz f (.dT d))from B.hok _ _ L);rw[r]at N;cases N;rfl);subst yo;obtain⟨r,Q,O,xs,P,Z⟩:=lF B L E;have J:s1.TypeIs (.ref a) "dict":=⟨i,r,O.1⟩;have nD:∀b,Value.ref a=.ref b->∃f,s1.heap.get? b=some f/\f.dict=none:=λ b q=>by cases q;exact⟨i,r,O.2.1⟩
 refine⟨"dict","dict.items",PySem.F.plainAttrs_dict,nF,PySem.F.type_dict_items,J,nD,iw rfl (PySem.evalArgs_none ?_)⟩;refine call_meetsIn nF J PySem.F.entry_dict_items (PySem.F.args_dict_items_1 _) (Ed Q) ⟨J,?_⟩;have W:∀b o,s1.heap.get? b=some o->(s1.heap.push {cls:=.type "dict_items",data:=.fields #[.ref a]}).get? b=some o:=λ b o e=>k9 _ e;have M:=B.kept (t':=s1.toks) W;refine Ee ⟨_,q5 _ rfl,rfl,rfl⟩ (W _ _ r) E ?_;refine⟨_,[_],_,ItP a i _ d,g,rfl,M.kept (t':=s1.toks) λ b o e=>k9 _ e,Eg (elts:=elts) (k:=k) (pos:=tpos) E ((by unfold sX;rw[Z,v7,v7];rfl)),⟨.none,.none,q5 _ rfl⟩,λ c Y=>?_,q _ λ b hb=>?_⟩
 ·rw[C2]at Y;subst Y;exact M.fpOk (i8 _) (M.hok.fresh (i8 _))
 ·obtain⟨y,hy,rfl⟩:=m9.mp hb;have all:∀{l:on (on Key×V)} {m:on _},KT g l m->∀x∈m,∃F,g x.2.1=some (.tup F):=by
   intro l m q
   induction q with
   | nil=>intro x K;exact nomatch K
   | cons p t ih=>
    intro x K;rcases j0.mp K with z | z
    ·rw[z];exact⟨_,p.2.1⟩
    ·exact ih x z
  exact all P y hy
theorem sZ:∀{l:on (Sum Int Str)} {k:on Int},unP l=some k->l=kP k
 | [],k,h=>by cases h;rfl
 | .inl a::r,k,h=>by obtain⟨k',c,b⟩:=B3.mp (h);rw[←b,sZ c];rfl
 | .inr _::_,_,h=>by cases h
def Eh:∀{ks:on DKey} {b:on DV} {L:on (on Int×Int)},kvp? ks b=some L->∀{D:Dm} {H:Hp} {a:on (on Key×V)},a.map (λ p=>DKey.t p.1)=ks->RepL D H b (a.map (·.2))->a=oeK L:=by
 intro ks
 induction ks with
 | nil=>
  intro b L h D H a e r;cases a with
  | nil=>cases b with
   | nil=>cases h;rfl
   | cons _ _=>cases h
  | cons _ _=>cases e
 | cons j ks m=>
  intro b L h D H a e r;unfold kvp? at h;split at h
  ·exact absurd (by assumption:j::ks=[]) (List.cons_ne_nil _ _)
  ·rename_i l g v d q;cases q;obtain⟨k,s,h⟩:=r3.mp h;obtain⟨L',o,n⟩:=B3.mp h;subst n;cases a with
   | nil=>cases e
   | cons p a=>
    obtain⟨i,f⟩:=p;obtain⟨w,ws,y,x,u⟩:=v5.mp r;cases y;have c:=List.cons.inj e;rw[m o c.2 u,show i=kP k from(DKey.t.inj c.1).trans (sZ s),show f=.int v from A7.mp x];rfl
  ·cases h
def Ei(i:attributeBase e "items" X.env (eval e X.env)=eval e X.env)(g:(d.endLine==pos.line)=true)(B:∀q,m=some q->PE X e JN)
  (h:p7 (Re.thn m λ x c=>itmD x c)=some l):PI X (.Tuple elts k j) (.Call (.Attribute e "items" d) [] [] pos) (dI X.D δ l):=by
 cases f:m with
 | none=>rw[f]at h;cases h
 | some q=>
  rw[f]at h;have A:=B q f;cases q with
  | ok K M=>
   have b:p7 (itmD K M)=some l:=h;unfold itmD at b;split at b
   ·rename_i ks u;split at b
    ·rename_i r;obtain⟨rfl,z⟩:=r;cases o:kvp? ks u with
     | none=>rw[o]at b;cases b
     | some L=>
      rw[o]at b;cases b;exact((λ v (C:PE X e v)=>sY C i g) _ A).weak λ σ H R' ⟨O,W,R,p⟩=>⟨O,W,R,λ x N s1 E=>by
       obtain⟨a,w,n,J,s,I,F⟩:=aC.mp (E);exact⟨a,w,n,J,A2 _ _ s,λ qs y=>p _ N s1 (Wk.itemsP s (Eh o I F) y (R.hid.mono s1).hdA)⟩⟩
    ·cases b
   ·cases b
def Ej(h:du pr ps=true):bindArgs (PySem.W.fnX nm q pr b sc cl .none .none a pm none cd e) ⟨[d,c],[]⟩=pure [(("part" : Str),d),(("left" : Str),c)]:=ky h λ _ _=>rfl
structure CloTx(C:CloD)(sc:Scope):Prop where
 kind:sc.kind=.function
 co:sc.isCoroutine=false
 gen:sc.isGenerator=false
 nd:C.N.Nodup
 np:C.np=2
 len:2+C.nc<=C.N.length
 n0:C.N[0]? = some ("part" : Str)
 n1:C.N[1]? = some ("left" : Str)
 hx:sc.names.lookup ("part" : Str)=some .local
 hy:sc.names.lookup ("left" : Str)=some .cell
 snd:(sc.names.map (·.1)).Nodup
 fre:∀i x,2<=i->i<2+C.nc->C.N[i]? = some x->sc.names.lookup x=some .free
 slf:sc.names.lookup n7=some .free
theorem lH:∀{l:on Str},O8 l=true->l.Nodup
 | [],_=>fb
 | x::r,h=>by unfold O8 at h;rw[f9]at h;refine R4.mpr ⟨λ z=>?_,lH h.2⟩;have:=h.1;rw[N5.mpr z]at this;cases this
def tj(h:X1 C fn bl cl pr bd sc d=true):du pr (C.N.take C.np)=true/\CloTx C sc/\d=(C.N.drop 2).take C.nc/\C5 ⟨C.N,sc.names,fn,bl,cl,false,true,noCo⟩ C.body bd=true:=by
 unfold X1 at h;simp only[f9,i5,u5,G8,ak,ne_eq,F3]at h;obtain⟨⟨⟨⟨⟨⟨⟨⟨⟨⟨⟨⟨⟨k,l⟩,u⟩,s⟩,r⟩,q⟩,p⟩,o⟩,n⟩,m⟩,c⟩,j⟩,g⟩,f⟩:=h;have ht:C.N.take 2=(["part","left"]:on Str):=by
  rw[l]at k;exact ky k λ _ _=>rfl
 refine⟨k,⟨u,s,r,lH q,l,p,?_,?_,n,m,lH o,λ i x a b e=>j x ?_,g⟩,c,f⟩
 ·have:=congrArg (·[0]?) ht;rw[aM JD]at this;exact this
 ·have:=congrArg (·[1]?) ht;rw[aM JD]at this;exact this
 rw[c];refine M1 (i:=i - 2) ?_;rw[aM JC,aT,show 2+_=i by omega];exact e
def tm(D:Dm)(base:Jo)(outer:on Env)(O:on Jn)(H:Hp)(C:CloD)(fn bl cl:on Str)(cs:on DV)(f:Jn):Prop:=
 ∃q pr bd sc cap cc l ws c o,K7 H n7 q pr bd sc cc f/\X1 C fn bl cl pr bd sc cap=true/\CloScope C.N "part" "left" C.nc sc cc l/\RepL D (L2.wo O H) cs ws/\ws.length=C.nc/\(∀c∈l,∃o v,H c=some (.frz o (.own c))/\o.data=.cell v) /\
  (∀(i:Nat) x v,C.N[2+i]? = some x->ws[i]? = some v->∃c o u,cc.lookup x=some c/\H c=some (.frz o (.own c))/\o.data=.cell (some u)/\RelV v u) /\
  (∀c∈l,∃x,cc.lookup x=some c)/\(cc.lookup n7=some c/\H c=some (.frz o (.own c))/\o.data=.cell (some (.ref f)))/\∀c∈l,base.get? c=none/\c∉frs outer
def Y2(P:Js)(w:Jr)(K:Jw)(mg:Str->Jk Jl)(base:Jo)(C:CloD)(fn bl cl:on Str)(k:Nat)(Fc:on DV->Jk Ou):Prop:=
 ∀(A:Ju) (outer:on Env) (s:Jm) (H:Hp) (us:on Jl) (vs:on V) (Q:VK) (E:XK) (O:on Jn) (f:Jn) (cs ds:on DV) (d:DV),RoomL k A->Env0 P w K mg base A outer s H->Vals vs us->Hdn O H ->
  tm ⟨K,mg⟩ base outer O H C fn bl cl cs f->ds.length=C.np->RepL ⟨K,mg⟩ (L2.wo O H) ds vs->Fc (ds++cs)=some (.v d false)->(∀v H',Same H H'->Rep ⟨K,mg⟩ (L2.wo O H') d v->Q v H') ->
  codeAny (model P w) A (.call (.ref f) ⟨us,[]⟩) (CR CX0 outer P w H s Q E) s
section
variable {X:Cx} {δ:on Sv} {pos p:Pos} {re:Re} {k:Nat} {x:Str} {pr:Jy} {bd:on Jv} {sc:Jx} {C:CloD} {fn bl cl cap:on Str} {cs:on DV} {fr:on Nat} {pins:on (Jn×Obj)} {σ:St} {H:Hp} {s:Jm} {O W:on Jn} {f:Jn} {q:Str} {cc:on (Str×Jn)} {l:on Jn} {F:on DV->Jk Ou}
def Ek(I:JI pins)(co:Y2 X.prog X.w X.K X.mg X.base C fn bl cl k F)(hr:RoomL k X.A)(df:K7 H n7 q pr bd sc cc f)(P:X1 C fn bl cl pr bd sc cap=true)(S:CloScope C.N "part" "left" C.nc sc cc l)
  (E:∀x c,cc.lookup x=some c->X.env.cells.lookup x=some c) (hl:∀c∈l,∃x,cc.lookup x=some c) (n:∀c∈l,X.base.get? c=none/\c∉frs X.stack) (M:cc.lookup n7=some c0) (a0:s.heap.IsCell c0 (some (.ref f)))
  (a4:fr.length=C.nc) (B:∀(j i:Nat),fr[j]? = some i->∃y,C.N[2+j]? = some y/\X.N[i]? = some y/\(X.env.kindOf y=some .cell\/X.env.kindOf y=some .free)) (U:capD δ fr=some cs) (R:RSt X.D H σ δ O W)
  (a1:ds.length=C.np) (rl:RepL X.D (L2.wo (O++W) H) ds vs) (ru:Vals vs Z) (hF:F (ds++cs)=some (.v d false)) (hd:d.nolam=true) (hQ:∀v p,Same H p->Rep X.D (L2.wo (O++W) p) d v->Q v p) :
  wpAny JG X.A (call (.ref f) Z) (EP X pins σ Q) EE s:=by
 have J:Cells l s.heap H:=⟨λ c h=>by obtain⟨x,e⟩:=hl c h;exact I.freeC x c (E x c e),λ c h=>by
  obtain⟨x,e⟩:=hl c h;obtain⟨v,o,g,d⟩:=I.cell x c (E x c e);exact⟨o,v,g,d⟩⟩
 have same:=J.same;have hdA:=R.hid.hdA;obtain⟨ws,w1,w2,w3⟩:=lq R U;have oc:∀{b:Jn},b∈l->b∉O++W:=λ {b} hb z=>by obtain⟨o',A,Y⟩:=hdA b z;rw[J.none b hb]at A;cases A
 obtain⟨o0,g0,d0⟩:=a0;have ca:tm X.D X.base X.stack (O++W) (trC l s.heap H) C fn bl cl cs f:=by
  refine⟨q,pr,bd,sc,cap,cc,l,ws,c0,o0,df.mono same,P,S,w2.mono same.wo,by rw[w1,a4],λ c h=>?_,λ i y v h1 h2=>?_,hl,⟨M,X5 (S.mem _ _ M) g0,d0⟩,n⟩
  ·obtain⟨o,v,g,d'⟩:=J.cel c h;exact⟨o,v,X5 h g,d'⟩
  ·have hi:i<fr.length:=by rw[←w1];exact(w6.mp h2).1
   have hj:=p8 hi;obtain⟨y',A,Y,K⟩:=B i _ hj;rw[h1]at A;cases A;obtain⟨mm,hn',a3⟩:=I.loc;obtain⟨u,rv,lk⟩:=a3 _ y v Y (w3 i _ v hj h2) (.inr K);rcases lk with⟨L,_⟩ | ⟨L,cx,k2,o,k3,k4⟩
   ·have L:=L;rcases K with K | K<;>(rw[K]at L;cases L)
   ·have N:=S.fre (2+i) y JC JC h1;obtain⟨c2,e2⟩:=S.has y N;have:=E y c2 e2;rw[k2]at this;cases this;exact⟨cx,o,u,e2,X5 (S.mem y cx e2) k3,k4,rv⟩
 have e0:=I.env0;refine cM (R6 (co X.A X.stack s _ Z vs (λ v p=>Same (trC l s.heap H) p/\Rep X.D (L2.wo (O++W) p) d v) (λ _ _ _=>False) (O++W) f cs ds d hr (Env0.trC J (λ c h=>(n c h).1) (λ c h=>(n c h).2) e0) ru (λ a ha=>?_) ca a1 (rl.mono same.wo) hF λ v p sm g=>⟨sm,g⟩) λ r s' m=>?_)
 ·obtain⟨o,A,Y⟩:=hdA a ha;exact⟨o,same _ _ A,Y⟩
 ·cases r with
  | error e=>exact(m:False).elim
  | ok fl=>
   cases fl with
   | ret u=>
    refine I.after (Q:=Q) (CE.trC (Q:=Q) J m (λ v p sm z=>?_) λ v p z=>z.1);have a2:∀c∈l,∃o,p c=some (.frz o (.own c)):=λ c h=>by obtain⟨o,v,g,_⟩:=J.cel c h;exact⟨o,sm _ _ (X5 h g)⟩
    refine hQ v _ (λ b o e=>?_) (sx a2 hd z.2);rw[j9 λ w=>by rw[J.none b w]at e;cases e];exact sm _ _ (same _ _ e)
   | next=>exact False.elim m
   | brk=>exact False.elim m
   | cont=>exact False.elim m
def tq(I:JI pins)(h:K7 H n7 q pr bd sc cc f):PySem.W.FnAt f s.heap:=by
 obtain⟨c',oc,u,vs,t,b,pm,c,T,a,_⟩:=h;exact⟨_,_,_,_,(I.hok _ _ a).1⟩
def tu{l:on (DV×Cl)}(h:O5 a np cs l=some re):∃d,(l.all λ p=>p.2 == .strong||p.2 == .fresh)=true/\(l.map (·.1)).length=np/\a E9 (l.map (·.1)++cs)=some (.v d false)/\d.nolam=true/\re=.ok d .strong:=by
 unfold O5 at h;split at h
 ·rename_i z;split at h
  ·rename_i d b;split at h
   ·rename_i nl;cases h;exact⟨d,z.1,by rw[i0];exact z.2,b,nl,rfl⟩
   ·cases h
  ·cases h
 ·cases h
def tClo(X:Cx)(δ:on Sv)(F:Nat->on DV->Jk Ou)(C:CloD)(cs:on DV)(ta:TA)(at_:St->Hp->Jn->Prop):TE:=λ σ H Q=>∃f O W,at_ σ H f/\RSt X.D H σ δ O W/\ta σ H λ vs H1=>Same H H1/\∃ds d,RepL X.D (L2.wo (O++W) H1) ds vs/\ds.length=C.np/\F E9 (ds++cs)=some (.v d false)/\d.nolam=true/\∀v H',Same H1 H'->Rep X.D (L2.wo (O++W) H') d v->Q v H'
def tw(co:Y2 X.prog X.w X.K X.mg X.base C fn bl cl k (FF E9))(hr:Room k X.A)(o:X1 C fn bl cl pr bd sc cap=true)(S:X.Ok->CloScope C.N "part" "left" C.nc sc cc l/\(∀x c,cc.lookup x=some c->X.env.cells.lookup x=some c)/\∀c∈l,∃x,cc.lookup x=some c)(m:∀{a:on (Jn×Obj)} {b:on (Jk V)} {H:Hp} {s:Jm},Inv X a b H s->∀c∈l,X.base.get? c=none/\c∉frs X.stack)
  (z:∀{a:on (Jn×Obj)} {b:on (Jk V)} {H H':Hp} {s:Jm} {f:Jn},Inv X a b H' s->Same H H'->at_ b H f->K7 H' n7 q pr bd sc cc f/\∃c0,cc.lookup n7=some c0/\s.heap.IsCell c0 (some (.ref f))) (n:X.env.kindOf n7=some .cell\/X.env.kindOf n7=some .free)
  (L:fr.length=C.nc) (g:∀(j i:Nat),fr[j]? = some i->∃y,C.N[2+j]? = some y/\X.N[i]? = some y/\(X.env.kindOf y=some .cell\/X.env.kindOf y=some .free)) (w:capD δ fr=some cs)
  (A:PA X (e::es) P) (hs:t9 e=false) (K:es.any t9=false):PE X (.Call (.Name n7 p) (e::es) [] pos) (tClo X δ FF C cs P at_):=by
 intro a s b H Q I h;obtain⟨f,O,W,U,R,h⟩:=h;obtain⟨df,c0,M,Y⟩:=z I (Same.refl H) U;obtain⟨S,v,hl⟩:=S I.ok;have B:=v _ _ M;have J:wpAny JG X.A (eval (.Name n7 p) X.env) (λ u s1=>u=.ref f/\Inv X a b H s1) X.xe s:=by
  rcases n with n | n
  ·exact cL (iG I.ok.kind n B Y ⟨rfl,I⟩) JD
  ·exact cL (wpAny_loadName_free I.ok.kind n B Y ⟨rfl,I⟩ JD) JD
 refine aQ (thn J λ u s1 t0=>?_);obtain⟨eu,Z⟩:=t0;subst eu;refine PySem.W.callWith_F (tq Z df) (thn (A pos a s1 b H _ Z h) λ us s2 B0=>?_) (z9 hs) (dH es K);obtain⟨vs,H2,F,r,sm,ds,d,g1,g2,g3,g4,g5⟩:=B0;obtain⟨E,c2,N,y2⟩:=z F sm U;rw[M]at N;cases N;refine⟨tq F E,?_⟩;exact Ek F co hr.toL E o S v hl (m F) M y2 L g w (R.mono sm) g2 g1 r g3 g4 g5
def K7.un(u:Un fs ex H c h h')(d:K7 H nm q pr bd sc cc f):K7 c nm q pr bd sc cc f:=by
 obtain⟨p,i,o,e,t,a,g,b,T,n,m,l,k,j,r⟩:=d;exact⟨p,i,o,e,t,a,g,b,T,u.frzs _ _ _ n,u.frzs _ _ _ m,l,k,u.tbls _ _ j,r⟩
def El(T:CloTx C sc)(ok:X.Ok)(b:∀y∈sc.names,y.2=NameKind.free->∃a,X.env.cells.lookup y.1=some a):CloScope C.N "part" "left" C.nc sc (o8 X.env.cells sc.names []) ((o8 X.env.cells sc.names []).map (·.2))/\(∀x c,(o8 X.env.cells sc.names []).lookup x=some c->X.env.cells.lookup x=some c)/\∀c∈(o8 X.env.cells sc.names []).map (·.2),∃x,(o8 X.env.cells sc.names []).lookup x=some c:=by
 refine⟨⟨T.kind,T.co,T.gen,T.nd,T.n0,T.n1,T.hx,T.hy,T.snd,T.fre,λ x h=>?_,λ x y c i g=>ok.inj x y c (aH b i).1 (aH b g).1,λ x c h=>m9.mpr ⟨_,A4 h,rfl⟩,λ x c h=>V0 T.snd (aH b h).2⟩,λ x c h=>(aH b h).1,λ c f=>?_⟩
 ·have d:=A4 h;obtain⟨c,e⟩:=b _ d rfl;exact⟨c,dN b d e⟩
 ·obtain⟨⟨x,c'⟩,d,rfl⟩:=m9.mp f;rcases bn b d with z | z
  ·cases z
  ·exact⟨x,dN b z.2 z.1⟩
def tz(P:∀{c:TA},PA X (e::es) c->PE X (.Call (.Name n7 p) (e::es) [] pos) (tClo X δ i C cs c at_))(A:PA X (e::es) (dA X.D δ b))(h:(Rs.thn (some b) λ l=>O5 i C.np cs l)=some re) :
  PE X (.Call (.Name n7 p) (e::es) [] pos) (λ a H Q=>∃f,at_ a H f/\dE X.D δ re a H Q):=by
 cases b with
 | ok l=>
  obtain⟨d,z,j,m,nl,rfl⟩:=tu h;exact(P A).weak λ a H Q ⟨f,k,O,W,R,p⟩=>⟨f,O,W,k,R,O,W,R,λ vs H1 s1 n=>⟨s1,_,d,n.strong (R.hid.mono s1) z,j,m,nl,λ v o s g=>p v o (s1.trans s) g⟩⟩
def Em(L:DefAt X sc c P (X.env.qual++n7))(b:du pr (C.N.take C.np)=true)(q:X.N.Nodup)(o:X.N[i]? = some n7)(n:X.env.kindOf n7=some .cell)(k:Loc X.env.scope n7)(p:X.fn n7=true\/X.env.scope.names.lookup n7=some .local) :
  PS X (.FunctionDef n7 pr bd [] none [] sc none n7 pos) (λ j e H=>∀f a,Same H a->H f=none->K7 a n7 (X.env.qual++n7) pr bd sc (o8 X.env.cells sc.names []) f->j.nx (e.set i (some (.ref f))) a):=by
 intro g s e H j I h;have l:qualnameIn X.env n7 n7=X.env.qual++n7:=by unfold qualnameIn;rw[n];rfl
 have d:pr.defaults=[]/\pr.kw_defaults=[]/\annTrees pr none X.env=[]:=ky b λ x y=>⟨rfl,rfl,rfl⟩;refine PySem.W.nestDef_K d.1 d.2.1 d.2.2 ?_;rw[l];refine CM I L λ f a s' w sm m r=>?_;exact cP w q o k (v:=.ref f) rfl (λ s2 u=>⟨_,a,u,h f a sm m r⟩) p
end
def CloG(G:Gs)(F:Nat->on DV->Jk Ou)(X:Cx):Prop:=
 (∃c P,X.env.code=.ref c/\∀{pins:on (Jn×Obj)} {σ:on (Jk V)} {H:Hp} {s:Jm},Inv X pins σ H s->PySem.W.CodeHd s.heap c P/\H P=some (.tbl (X.env.qual ++ "<lambda>"))) /\
 (∀x a,X.env.cells.lookup x=some a->X.base.get? a=none/\a∉frs X.stack) /\
 ∀{δ:on Sv} {e:Jp} {es:on Jp} {pos p:Pos} {rs:Rs} {re:Re} {np nc:Nat},PA X (e::es) (dA X.D δ rs)->t9 e=false->es.any t9=false->cX G F np nc (some rs) (capD δ (List.range' np nc))=some re->PE X (.Call (.Name n7 p) (e::es) [] pos) (dE X.D δ re)
def En(u v:Jl):slicePick #[u,v] none none (some (-1)) = #[v,u]:=by
 have e:sliceRange (sliceBounds none none (some (-1)) 2).1 (sliceBounds none none (some (-1)) 2).2.1 (sliceBounds none none (some (-1)) 2).2.2=[1,0]:=by decide
 unfold slicePick;rw[show(#[u,v]:Jq Jl).size=2 from rfl,e];rfl
def Eo(F:PE X e m):PE X (.Subscript e (.Slice none none (some (.UnaryOp .USub (.Constant (.int 1) j p1) p2)) p3) pos) (λ g H Q=>m g H λ x f=>∃a y z,x=.ref a/\SqL X.K f a [y,z]/\∀p,f p=none->Q (.ref p) (upd f p (.lst [z,y]))):=by
 intro c s g H Q I h;refine Subscript_ (thn (F c s g H _ I h) λ v s1 t0=>?_);obtain⟨x,f,M,r1,a,y,z,ex,C,q⟩:=t0;subst ex;obtain rfl:v=Value.ref a:=r1;refine wpAny_Slice ?_;rw[je,evalPart_some];refine g7 (g7 (thn (xy xG (jv) c s1 g f (λ v l=>v=.int (-1)/\l=f) M ⟨1,rfl,rfl,rfl⟩) λ u d t0=>?_));obtain⟨y',l,L,n,J,K⟩:=t0;subst J K;obtain⟨k,rfl⟩:=n;have i:Inv X c g l {d with heap:=d.heap.push {cls:=.type "slice",data:=.fields #[.none,.none,.int (-1) k]}}:=L.kept λ b w q=>k9 _ q
 obtain⟨A,r,ht,B⟩:=i.list C;obtain⟨u1,u2,rfl,r1,o⟩:=ap r;show wpAny _ X.A _ _ X.xe {d with heap:=d.heap.push {cls:=.type "slice",data:=.fields #[.none,.none,.int (-1) k]}};refine tail_any ht.isList.typeIs iL.lookup (nu ht.isList (Heap.IsSliceOf.new ..) .none .none (.int _ _) JD ?_ (by show 2<=sizeLine;decide)) (by with_unfolding_all rfl);generalize E:({d with heap:=d.heap.push {cls:=.type "slice",data:=.fields #[.none,.none,.int (-1) k]}}:Jm)=s3 at i;rw[En];refine⟨.ref s3.heap.objs.size,_,i.laid (λ b w q=>k9 _ q) (i8 _) ?_,rfl,q _ (i.hok.fresh (i8 _))⟩;exact⟨B,_,0,.cons o (.cons r1 .nil),q5 _ rfl⟩
def Ep(u:∀q,l=some q->PE X e JN)(h:(Re.thn l λ d c=>revD d c)=some k):PE X (.Subscript e (.Slice none none (some (.UnaryOp .USub (.Constant (.int 1) j p1) p2)) p3) pos) (dE X.D δ k):=by
 cases b:l with
 | none=>rw[b]at h;cases h
 | some q=>
  rw[b]at h;have A:=Eo (j:=j) (p1:=p1) (p2:=p2) (p3:=p3) (pos:=pos) (u q b);cases q with
  | ok d c=>
   have i:revD d c=some k:=h;unfold revD at i;split at i
   ·cases i;refine A.weak λ σ H Q ⟨O,W,R,p⟩=>⟨O,W,R,λ v H1 s1 g=>?_⟩
    have hd:=R.hid.mono s1;obtain⟨a,xs,rfl,sq,f⟩:=g.lstC hd;obtain⟨r,n,rfl,x,f⟩:=v5.mp f;obtain⟨o,n,rfl,w,f⟩:=v5.mp f;cases B9.mp f;exact⟨a,r,o,rfl,SqL.of sq,λ p' m=>p _ _ (s1.trans (v9 m)) (bE hd m (v5.mpr ⟨_,_,rfl,w,v5.mpr ⟨_,_,rfl,x,B9.mpr rfl⟩⟩))⟩
   ·cases i
noncomputable def tagN(sc:on (Str×JA)):Str:=if sc.lookup n7=some .cell then n7 else "<lambda>"
structure Good(sg:Sg)(G:Gs)(F:Nat->List DV->Option Ou)(X:Cx):Prop where
 N:X.N=sg.N
 nd:X.N.Nodup
 vis:∀x,visB sg x=true->Vis X.env.scope x
 glo:∀x,gloB sg x=true->Gl X x
 loc:∀x,locB sg x=true->Loc X.env.scope x/\(X.fn x=true\/X.env.scope.names.lookup x=some .local)
 lcl:∀x,sg.sc.lookup x=some .local->X.env.scope.names.lookup x=some .local
 cel:∀x,(sg.sc.lookup x=some .cell\/sg.sc.lookup x=some .free)->X.env.scope.names.lookup x=some .cell\/X.env.scope.names.lookup x=some .free
 calm:X.calm=true
 hu:X.A.units+64<cLine
 fns:∀f x,sg.fn[f]? = some x->∃k fa fd ps,Room k X.A/\X.mg x=some (.ref fa)/\PySem.W.keepIn X.K (.ref fa)=true/\P8 X.K fd ps []/\(∀ds o,F f ds=some o->ds.length=ps.length) /\
  FnOk X.prog X.w X.K X.mg X.base CX0 k fa fd ps (spF X.D ps.length (F f))
 blt:∀x∈sg.bl,X.mg x=none
 con:∀x d,G.con.lookup x=some d->∃u v,X.mg x=some u/\RelV v u/\∀H,Rep X.D H d v
 own:sg.lp=true->PassesOwn JG X.A X.env X.xe
 st:sg.top=true->X.stack=X.env::X.outer/\X.env.frame=some X.env.locals/\X.ex=[]
 lms:G.fnl.isEmpty=false->(G.fnl=sg.fn/\G.bll=sg.bl/\G.cll=sg.cl)/\(∃k,Room k X.A/\X6 X.prog X.w X.K X.mg X.base sg.fn sg.bl sg.cl k (F G3)/\∀C,G.clo=some C->Y2 X.prog X.w X.K X.mg X.base C sg.fn sg.bl sg.cl k (F E9))/\(sg.top=true->∃c P,X.env.code=.ref c/\(∀h:Heap,X.K.In h->PySem.W.CodeHd h c P)/\(P,X.env.qual++tagN sg.sc)∈A5 X.K/\(sg.sc.lookup n7=some .cell->M6 (X.env.qual++n7)=true))
 cos:∀pr bd sc cap,sg.co pr bd sc cap=true->∃C,G.clo=some C/\X1 C sg.fn sg.bl sg.cl pr bd sc cap=true
 clo:sg.lp=true->sg.top=false->CloG G F X
theorem bL:∀{l:on Str},O8 l=true->l.Nodup
 | [],_=>fb
 | x::r,h=>by unfold O8 at h;rw[f9]at h;refine R4.mpr ⟨λ z=>?_,bL h.2⟩;have:=h.1;rw[N5.mpr z]at this;cases this
def bM(g:Good m G F X)(h:aA m f fr sc tg=true):CompScope X.N f sc X.env.scope fr/\(∀(j k i:Nat),fr[j]? = some (some i)->fr[k]? = some (some i)->j=k)/\∀i∈az tg,fr[i]? = some none:=by
 unfold aA at h;simp only[f9,G8,i5]at h;obtain⟨⟨⟨⟨⟨⟨B,A⟩,o⟩,z⟩,n⟩,w⟩,v⟩:=h;have d:∀(j i:Nat),fr[j]? = some _->∃x,f[j]? = some x/\m.N[i]? = some x/\(x,NameKind.free)∈sc.names:=λ j i e=>by
  have l:j<f.length:=by rw[←n];exact (w6.mp e).1
  have r:(some i,f[j])∈fr.zip f:=(by refine M1 (i:=j) ?_;rw[ip];exact⟨e,p8 l⟩);have q:=w _ r;simp only[f9,i5,N5]at q;exact⟨_,p8 l,q.1,q.2⟩
 refine⟨⟨A,bL o,bL z,n,λ j i e=>?_,λ y s u=>?_⟩,λ j k i E C=>?_,B⟩
 ·obtain⟨x,a,b,c⟩:=d j i e;exact⟨x,a,by rw[g.N];exact b,c⟩
 ·have q:=v y s;rw[f8 u]at q;simp only[B5,i5]at q;exact g.cel _ q
 ·obtain⟨x,a,b,_⟩:=d j i E;obtain⟨x',H,p,_⟩:=d k i C;rw[b]at p;cases p;exact fC (bL o) a H
def Y3(g:Good j G F X)(h:aA j i fr sc tg=true)(C:Jn)(b:on (Str×Jn))(c:Jm)(d:Hp)(fp:on Jn):Good ⟨i,sc.names,j.fn,j.bl,j.cl,false,false,noCo⟩ G F (u6 X sc i C b c d fp):=by
 obtain⟨S,_,_⟩:=bM g h;have f:∀x,(u6 X sc i C b c d fp).env.scope.names.lookup x=(sc.names.lookup x).map λ k=>if(k==NameKind.free&&X.env.scope.kind == .function&&X.env.kindOf x==some .cell)=true then NameKind.cell else k:=λ x=>jM
 have one:∀x k,sc.names.lookup x=some k->k ≠ .free->(u6 X sc i C b c d fp).env.scope.names.lookup x=some k:=λ x k e l=>by rw[f,e,O0,g9];intro z;simp only[f9,i5]at z;exact l z.1.1
 have two:∀x,sc.names.lookup x=some .free->(u6 X sc i C b c d fp).env.scope.names.lookup x=some .cell\/(u6 X sc i C b c d fp).env.scope.names.lookup x=some .free:=λ x e=>by
  rw[f,e,O0];split
  ·exact .inl rfl
  ·exact .inr rfl
 refine⟨rfl,S.nd,λ x a=>?_,λ x a=>?_,λ x a=>?_,λ x a=>one x _ a JL,λ x a=>?_,g.calm,g.hu,g.fns,g.blt,g.con,(λ z=>nomatch z),(λ z=>nomatch z),(λ z=>⟨(g.lms z).1,(g.lms z).2.1,λ w=>nomatch w⟩),(λ _ _ _ _ z=>nomatch z),(λ z=>nomatch z)⟩
 ·unfold visB at a;simp only[B5,i5]at a;rcases a with(a | a) | a
  ·exact .inl (one x _ a JL)
  ·exact .inr (.inl (one x _ a JL))
  ·exact .inr (two x a)
 ·unfold gloB at a;rw[i5]at a;exact one x _ a JL
 ·unfold locB at a;simp only[B5,i5]at a;rcases a with a | a
  ·exact⟨.inl (one x _ a JL),.inr (one x _ a JL)⟩
  ·exact⟨.inr (one x _ a JL),.inl (by show(sc.names.lookup x==some .cell)=true;rw[a];rfl)⟩
 ·rcases a with a | a
  ·exact .inl (one x _ a JL)
  ·exact two x a
def bN(g:Good b G F X)(z:b.sc.lookup y=some .cell):X.env.kindOf y=some .cell/\X.fn y=true/\Loc X.env.scope y:=by
 have a:=g.loc y (by unfold locB;rw[z];rfl);have nl:X.env.scope.names.lookup y≠some .local:=λ w=>by rcases g.cel y (.inl z)with v | v<;>(rw[w]at v;cases v)
 exact⟨a.1.elim (λ w=>absurd w nl) id,a.2.elim id λ w=>absurd w nl,a.1⟩
def N3(g:Good a G F X)(h:N1 a i x=true):X.N[i]? = some x/\Vis X.env.scope x/\(x==("__debug__" : Str))=false/\(x==("__classdict__" : Str))=false:=by
 unfold N1 at h;simp only[f9,i5,ak,ne_eq]at h;obtain⟨⟨⟨e,d⟩,c⟩,b⟩:=h;exact⟨by rw[g.N];exact e,g.vis x d,y9.mpr c,y9.mpr b⟩
def bO(g:Good a G F X)(h:bltB a x f=true):(∃p,f=.Name x p)/\Gl X x/\X.mg x=none:=by
 unfold bltB at h;simp only[f9,i5,N5]at h;obtain⟨⟨d,c⟩,b⟩:=h;exact⟨V2 d,g.glo x c,g.blt x b⟩
theorem tA(g:Good b G F X):∀(is:on Nat) (es:on Jp),es.length=is.length->((is.zip es).all λ p=>match K4 p.2 with | some x=>b.N[p.1]? == some x&&locB b x | none=>false)=true ->
  PGs X es (gL is)/\(assignEach es X.env).length=is.length/\(assignEach es X.env).findIdx? (·.1)=none
 | [],[],_,_=>⟨wX,rfl,rfl⟩
 | [],_::_,h,_=>by cases h
 | _::_,[],h,_=>by cases h
 | i::is,e::es,c,h=>by
  rw[List.zip_cons_cons,fk,f9]at h;obtain⟨a,d⟩:=h;obtain⟨A,B,C⟩:=tA g is es (by simpa using c) d;split at a
  ·rename_i x q;obtain⟨p,rfl⟩:=V2 q;simp only[f9,i5]at a;have l:=g.loc x a.2;refine⟨wY (ox g.nd (by rw[g.N];exact a.1) l.1 l.2) A rfl,?_,?_⟩
   ·show(assignEach es X.env).length+1=is.length+1;rw[B]
   ·show(_::assignEach es X.env).findIdx? (·.1)=none;rw[List.findIdx?_cons,C];rfl
  ·cases a
def bP(g:Good b G F X)(h:tgOk b tg a=true):PG X a (gT X.K tg):=by
 cases tg with
 | one i=>
  unfold tgOk at h;dsimp only at h;split at h
  ·rename_i x q;obtain⟨p,rfl⟩:=V2 q;simp only[f9,i5]at h;have l:=g.loc x h.2;exact ox g.nd (by rw[g.N];exact h.1) l.1 l.2
  ·cases h
 | many c=>
  unfold tgOk at h;dsimp only at h;split at h
  ·rename_i d q;obtain⟨k,p,rfl⟩:=gr q;rw[f9,f9,i5]at h;obtain⟨A,B,C⟩:=tA g c d h.1.1 h.2;exact wZ g.calm A B C
  ·cases h
section
variable (G:Gs) (F:Nat->on DV->Jk Ou)
def SE(m:ME):Prop:=∀{sg:Sg} {X:Cx} {e:Jp} {δ:on Sv} {r:Re},Good sg G F X->corE sg false m e=true->evE G F m δ=some r->PE X e (dE X.D δ r)
def ST(m:ME):Prop:=∀{sg:Sg} {X:Cx} {e:Jp} {δ:on Sv} {r:Rt},Good sg G F X->corE sg false m e=true->tstD (JO m)=some r->PT X e (dT X.D δ r)
def SI(m:ME):Prop:=∀{sg:Sg} {X:Cx} {e tg:Jp} {δ:on Sv} {r:Ri},Good sg G F X->corE sg true m e=true->(isZp m=true->(L7 tg).isSome=true)->p7 (JO m)=some r->PI X tg e (dI X.D δ r)
def SEs(ms:on ME):Prop:=∀{sg:Sg} {X:Cx} {es:on Jp} {δ:on Sv} {r:Rs},Good sg G F X->u8 sg ms es=true->evEs G F ms δ=some r->PA X es (dA X.D δ r)
def SAnd(ms:on ME):Prop:=∀{sg:Sg} {X:Cx} {es:on Jp} {δ:on Sv} {pos:Pos},Good sg G F X->u8 sg ms es=true ->
 (∀r,M8 G F ms δ=some r->PE X (.BoolOp .And es pos) (dE X.D δ r))/\(∀r,tstD (M8 G F ms δ)=some r->PW X (.BoolOp .And es pos) (dT X.D δ r))
def SOr(ms:on ME):Prop:=∀{sg:Sg} {X:Cx} {es:on Jp} {δ:on Sv} {pos:Pos},Good sg G F X->u8 sg ms es=true ->
 (∀r,evOr G F ms δ=some r->PE X (.BoolOp .Or es pos) (dE X.D δ r))/\(∀r,tstD (evOr G F ms δ)=some r->PW X (.BoolOp .Or es pos) (dT X.D δ r))
def S1(m:ME):Prop:=SE G F m/\ST G F m/\SI G F m
end
def S1.of(h:SE G F m)(hw:∀b e,corE b true m e=corE b false m e)(i:∀b e env,corE b false m e=true->∀a,isTrue e env a=(do let v ←a;standAt e.pos;holding [v] (truthy v))):S1 G F m:=
 ⟨h,λ {b X e f r} g c q=>BV (λ z d=>h g c d) (i b e X.env c) q,λ {b X e tg f r} g c _ q=>sA (λ z d=>h g (by rw[←hw];exact c) d) q⟩
def S1.of2(h:SE G F m)(c:ST G F m)(hw:∀a e,corE a true m e=corE a false m e):S1 G F m:=
 ⟨h,c,λ {a X e tg δ r} g d _ q=>sA (λ z b=>h g (by rw[←hw];exact d) b) q⟩
noncomputable def tD:Jp->Bool
 | .UnaryOp .Not _ _=>false | .BoolOp _ _ _=>false | .IfExp _ _ _ _=>false | .Compare _ _ _ _=>false
 | _=>true
def F8(h:tD e=true)(env:Env):∀b,isTrue e env b=(do let v ←b;standAt e.pos;holding [v] (truthy v)):=by
 cases e with
 | UnaryOp o a p=>cases o<;>first | (intro _;rfl) | cases h
 | BoolOp _ _ _=>cases h
 | IfExp _ _ _ _=>cases h
 | Compare _ _ _ _=>cases h
 | _=>intro _;rfl
section
variable {G:Gs} {F:Nat->on DV->Jk Ou} {a b c:ME}
def Er:S1 G F (.var i):=by
 refine .of (λ {c X e δ r} g a h=>?_) (λ _ _=>rfl) (λ c e b a=>?_)
 ·refine F6 a λ x p a=>?_;obtain⟨k,j,f,d⟩:=N3 g a;exact Bk k j f d h
 ·exact F6 a λ x p _=>F8 rfl b
def gN(f:∀a w e,corE a w m e=true->ay e=some k)(l:∀δ,evE G F m δ=some (JR d))(hw:∀a e,corE a true m e=corE a false m e)
  (i:∀{X:Cx} {δ:on Sv} {j:Nat} {pos:Pos} a e,corE a false m e=true->PE X (.Constant k j pos) (dE X.D δ (JR d))):S1 G F m:=by
 refine .of (λ {a X e δ r} g b h=>?_) hw (λ a e c b=>?_)
 ·obtain⟨j,p,rfl⟩:=kx (f a false e b);rw[l]at h;cases h;exact i a _ b
 ·obtain⟨j,p,rfl⟩:=kx (f a false e b);exact F8 rfl c
def Es:S1 G F (.int i):=gN (λ sg w e h=>i5.mp h) (λ δ=>rfl) (λ _ _=>rfl) λ _ _ _=>Bl
def s_bl:S1 G F (.bl i):=gN (λ sg w e h=>i5.mp h) (λ δ=>rfl) (λ _ _=>rfl) λ _ _ _=>Bm
def Et:S1 G F .non:=gN (λ sg w e h=>i5.mp h) (λ δ=>rfl) (λ _ _=>rfl) λ _ _ _=>Bo
def Eu:S1 G F (.str i):=gN (λ sg w e h=>i5.mp (J9.mp h).1) (λ δ=>rfl) (λ _ _=>rfl) λ _ _ h=>Bn (k6 (iP (J9.mp h).2) JD)
def Ev:S1 G F (.glb x):=by
 refine .of (λ {c X e δ r} g a h=>?_) (λ _ _=>rfl) (λ c e b a=>?_)
 ·have a:(K4 e==some x&&gloB c x&&x != "__debug__")=true:=a;simp only[f9,i5,ak,ne_eq]at a;obtain⟨p,rfl⟩:=V2 a.1.1;obtain⟨d,k,j⟩:=B3.mp h;cases j;obtain⟨u,v,m,f,i⟩:=g.con x d k;exact(nX (g.glo x a.1.2) m f (y9.mpr a.2)).weak λ σ H Q ⟨O,W,R,p⟩=>p v H (Same.refl H) (i _)
 ·obtain⟨p,rfl⟩:=V2 (i5.mp (J9.mp (J9.mp a).1).1);exact F8 rfl b
def Ew(k:S1 G F a)(j:S1 G F b):S1 G F (.bin op a b):=by
 refine .of (λ {i X e δ r} g c h=>?_) (λ _ _=>rfl) (λ i e f c=>?_)
 ·refine qv c λ ea o eb p c=>?_;simp only[f9,i5]at c;obtain⟨⟨n,m⟩,l⟩:=c;subst n;exact Bv (λ z d=>k.1 g m d) (λ z d=>j.1 g l d) h
 ·exact qv c λ _ _ _ p _=>F8 rfl f
def Ex(i:S1 G F a):S1 G F (.not a):=by
 refine .of2 (λ {k X e j r} g b h=>?_) (λ {k X e j r} g b h=>?_) (λ _ _=>rfl)
 ·refine qw b λ o l p b=>?_;simp only[f9,i5]at b;obtain⟨f,d⟩:=b;subst f;exact BX (λ z c=>i.1 g d c) h
 ·refine qw b λ o l p b=>?_;simp only[f9,i5]at b;obtain⟨f,d⟩:=b;subst f;exact Ca (λ z c=>i.2.1 g d c) h
def Ey(m:S1 G F a)(l:S1 G F b):S1 G F (.cmp op a b):=by
 refine .of2 (λ {q X e n r} g c h=>?_) (λ {q X e n r} g c h=>?_) (λ _ _=>rfl)
 ·refine qF c λ u o s p c=>?_;simp only[f9,i5,u5]at c;obtain⟨⟨⟨k,j⟩,i⟩,f⟩:=c;subst k;exact BO g.hu (λ z d=>m.1 g j d) (λ z d=>l.1 g i d) f h
 ·refine qF c λ u o s p c=>?_;simp only[f9,i5,u5]at c;obtain⟨⟨⟨k,j⟩,i⟩,f⟩:=c;subst k;exact BR g.hu (λ z d=>m.1 g j d) (λ z d=>l.1 g i d) f h
def Ez(v:S1 G F a)(u:S1 G F b)(j:S1 G F c):S1 G F (.chain op k a b c):=by
 refine .of2 (λ {x X e w r} g f h=>?_) (λ {x X e w r} g f h=>?_) (λ _ _=>rfl)
 ·refine qH f λ C o y B A p f=>?_;simp only[f9,i5,u5]at f;obtain⟨⟨⟨⟨⟨s,i⟩,q⟩,n⟩,m⟩,l⟩:=f;subst s i;exact BS g.hu (λ z d=>v.1 g q d) (λ z d=>u.1 g n d) (λ z d=>j.1 g m d) l h
 ·refine qH f λ C o y B A p f=>?_;simp only[f9,i5,u5]at f;obtain⟨⟨⟨⟨⟨s,i⟩,q⟩,n⟩,m⟩,l⟩:=f;subst s i;exact BU g.hu (λ z d=>v.1 g q d) (λ z d=>u.1 g n d) (λ z d=>j.1 g m d) l h
def s_ix(k:S1 G F a)(j:S1 G F b):S1 G F (.ix a b):=by
 refine .of (λ {i X e δ r} g c h=>?_) (λ _ _=>rfl) (λ i e f c=>?_)
 ·refine N0 c λ ea eb p c=>?_;simp only[f9,u5]at c;obtain⟨⟨n,m⟩,l⟩:=c;exact By (λ z d=>k.1 g n d) (λ z d=>j.1 g m d) l h
 ·exact N0 c λ _ _ p _=>F8 rfl f
def s_sl(m:S1 G F a)(l:S1 G F b)(i:S1 G F c):S1 G F (.sl a b c):=by
 refine .of (λ {k X e δ r} g d h=>?_) (λ _ _=>rfl) (λ k e j d=>?_)
 ·refine N0 d λ ea es p d=>?_;refine AO d λ _ _ p2 d=>?_;simp only[f9]at d;obtain⟨⟨q,o⟩,n⟩:=d;exact BA (λ z f=>m.1 g q f) (λ z f=>l.1 g o f) (λ z f=>i.1 g n f) h
 ·exact N0 d λ _ _ p _=>F8 rfl j
theorem Y4:∀{a:Sg} {b:on ME} {es:on Jp},u8 a b es=true->es.any t9=false
 | _,[],[],_=>rfl
 | _,[],_::_,h=>by unfold u8 at h;cases h
 | _,_::_,[],h=>by unfold u8 at h;cases h
 | a,m::b,e::es,h=>by unfold u8 at h;simp[f9,u5]at h;rw[G1,h.1.2,Y4 h.2];rfl
def EA{c:on ME}(i:SEs G F c):S1 G F (.lst c):=by
 refine .of (λ {d X e δ r} g a h=>?_) (λ _ _=>rfl) (λ d e b a=>?_)
 ·refine qz a λ es p a=>?_;exact Ci (λ z f=>i g a f) h
 ·exact qz a λ _ p _=>F8 rfl b
def EB{c:on ME}(i:SEs G F c):S1 G F (.tup c):=by
 refine .of (λ {d X e δ r} g a h=>?_) (λ _ _=>rfl) (λ d e b a=>?_)
 ·refine gj a λ es k p a=>?_;exact Cj (λ z f=>i g a f) h
 ·exact gj a λ _ k p _=>F8 rfl b
def EC(w:SEs G F i):S1 G F (.call f i):=by
 refine .of (λ {l X e δ r} g a h=>?_) (λ _ _=>rfl) (λ l e d a=>?_)
 ·refine L6 a λ ef B m a=>?_;rw[f9,f9]at a;obtain⟨⟨b,A⟩,j⟩:=a;refine F6 b λ x p b=>?_;simp only[f9,i5,ak,ne_eq]at b;obtain⟨k,fa,fd,ps,o,q,u,v,s,fo⟩:=g.fns f x b.1.1;cases B with
  | nil=>cases A
  | cons y ys=>
   have c:=Y4 j;rw[G1,N6]at c;exact Cm fo s o (g.glo x b.1.2) q u v (λ z n=>w g j n) (y9.mpr b.2) c.1 c.2 h
 ·exact L6 a λ _ _ _ _=>F8 rfl d
def ED(k:S1 G F a)(j:S1 G F b):S1 G F (.slf a b):=by
 refine .of (λ {i X e δ r} g c h=>?_) (λ _ _=>rfl) (λ i e f c=>?_)
 ·refine N0 c λ ea es p c=>?_;refine AM c λ _ p2 c=>?_;simp only[f9]at c;obtain⟨m,l⟩:=c;exact Bz (λ z d=>k.1 g m d) (λ z d=>j.1 g l d) h
 ·exact N0 c λ _ _ p _=>F8 rfl f
def EF(k:S1 G F a):S1 G F (.rev a):=by
 refine .of (λ {d X e δ r} g b h=>?_) (λ _ _=>rfl) (λ d e c b=>?_)
 ·refine qP b λ ea j p1 p2 p3 f b=>?_;exact Ep (λ z i=>k.1 g b i) h
 ·exact qP b λ _ _ _ _ _ _ _=>F8 rfl c
def s_bi(H:SEs G F l):S1 G F (.bi f l):=by
 refine .of (λ {C X e I r} g k h=>?_) (λ _ _=>rfl) (λ C e B k=>?_)
 ·refine L6 k λ ef M K k=>?_;rw[f9,f9]at k;obtain⟨⟨L,v⟩,a⟩:=k;obtain⟨⟨p,rfl⟩,d,c⟩:=bO g L;cases M with
  | nil=>cases v
  | cons y J=>
   have i:u8 C l _=true->(∀q,evEs G F l I=some q->PA X _ _)/\t9 y=false/\J.any t9=false:=λ z=>by have j:=Y4 z;rw[G1,N6]at j;exact⟨λ w n=>H g z n,j.1,j.2⟩
   cases f with
   | len=>obtain⟨A,s1,b⟩:=i a;exact dJ Co d c boot_len JD JD A s1 b h
   | min=>obtain⟨A,s1,b⟩:=i a;exact dJ (Cp g.calm (by have:=g.hu;omega)) d c boot_min JD JD A s1 b h
   | max=>obtain⟨A,s1,b⟩:=i a;exact dJ (Cq g.calm) d c boot_max JD JD A s1 b h
   | sum=>obtain⟨A,s1,b⟩:=i a;exact dJ (Cr g.calm) d c Cs JD JD A s1 b h
   | tuple=>obtain⟨A,s1,b⟩:=i a;exact rW Cz d c boot_tuple JD JD A s1 b h
   | list=>obtain⟨A,s1,b⟩:=i a;exact rW Cw d c boot_list JD JD A s1 b h
   | sorted=>obtain⟨A,s1,b⟩:=i a;exact dJ Cy d c sj JD JD A s1 b h
   | sset=>
    have a:=a
    clear i
    revert v;refine Q4 a λ e1 a=>L6 a λ N x E a=>λ v=>?_
    rw[f9,f9]at a;obtain⟨⟨p',rfl⟩,u,o⟩:=bO g a.1.1;cases x with
    | nil=>cases a.1.2
    | cons y' m=>
     have j:=Y4 a.2;rw[G1,N6]at j;cases m with
     | nil=>exact Cv g.calm d c u o (λ w n=>H g a.2 n) j.1 h
     | cons y2 yr=>
      have z:=i5.mp a.1.2;simp at z
 ·exact L6 k λ _ _ _ _=>F8 rfl B
def EG(h:W6.contains x=true):∃t,bI x=some t:=by
 have a:∀x∈W6,∃t,bI x=some t:=by
  intro x b;simp only[W6,j0,P5,P7]at b;rcases b with rfl | rfl | rfl | rfl | rfl | rfl
  ·exact⟨"int",by decide +kernel⟩
  ·exact⟨"bool",by decide +kernel⟩
  ·exact⟨"str",by decide +kernel⟩
  ·exact⟨"list",by decide +kernel⟩
  ·exact⟨"tuple",by decide +kernel⟩
  ·exact⟨"dict",by decide +kernel⟩
 exact a x (N5.mp h)
def EH:∀x∈W6,x ≠ "__name__" /\ (x==("__debug__" : Str))=false:=by
 intro x a;simp[W6,j0,P5,P7]at a;rcases a with rfl | rfl | rfl | rfl | rfl | rfl<;>exact⟨by decide +kernel,by decide +kernel⟩
def EI:V->on V->Hp->VK->Prop:=λ x xs H Q=>∃i,x=.int i/\xs=[]/\Q (JP (bp i)) H
def EJ(i:Int):((Builtin.Int.intBits i:Nat):Int)=bp i:=by
 unfold Builtin.Int.intBits bp;by_cases h:i=0
 ·subst h;rfl
 ·rw[g9 (by grind),g9 h];rfl
def EK:MtR X "int.bit_length" EI:=by
 intro a s σ H x xs v us Q I b c h;obtain⟨i,rfl,rfl,q⟩:=h;obtain⟨t,rfl⟩:=(b);cases c;exact PyProof.Rows.call_int_bit_length ⟨.int _,H,I.tok _,by rw[←EJ];exact⟨_,rfl⟩,q⟩
def EL(C:S1 G F a):S1 G F (.meth m a es):=by
 refine .of (λ {z X e w r} g b h=>?_) (λ _ _=>rfl) (λ z e s b=>?_)
 ·refine di b λ ef A b=>?_;refine bx b λ k n u b=>?_;simp only[f9,i5]at b;obtain⟨⟨⟨⟨K,J⟩,f⟩,I⟩,h5⟩:=b;subst K;have o:attributeBase k (qY m) X.env (eval k X.env)=eval k X.env:=by
   rw[B5]at f;rcases f with f | f
   ·obtain⟨y,l⟩:=V7.mp f;obtain⟨B,rfl⟩:=V2 l;rfl
   ·obtain⟨⟨a1,o1,b1⟩,l⟩:=V7.mp f;obtain⟨B,rfl⟩:=Ba l;rfl
  have h:(if m=.bitLength then Re.thn _ (λ x _=>mtD m x)else none)=some r:=h;cases m with
  | bitLength=>
   rw[f8 rfl]at h;cases c:evE G F a w with
   | none=>rw[c]at h;cases h
   | some q=>
    rw[c]at h;cases q with
    | ok d dc=>
     have j:mtD .bitLength d=some r:=h;unfold mtD at j;split at j
     ·rename_i i _;cases j;exact((λ t (E:PE X k t)=>pq PySem.F.plainAttrs_int PySem.F.slot_int_bit_length PySem.F.type_int_bit_length EK E o (by rw[i5];exact I)) _ (C.1 g J c)).weak λ σ H Q ⟨O,W,R,p⟩=>⟨O,W,R,λ v M s1 L=>by
       have hv:=L.int (R.hid.mono s1);subst hv;exact⟨rfl,i,rfl,rfl,p _ M s1 K6⟩⟩
     ·cases j
  | index=>rw[g9 JD]at h;cases h
  | get=>rw[g9 JD]at h;cases h
 ·exact di b λ _ _ _=>F8 rfl s
def EM(k:S1 G F a)(j:S1 G F b):S1 G F (.dix a b):=by
 refine .of (λ {i X e δ r} g c h=>?_) (λ _ _=>rfl) (λ i e f c=>?_)
 ·refine N0 c λ ea eb p c=>?_;simp only[f9,u5]at c;obtain⟨⟨n,m⟩,l⟩:=c;exact DX (T9 JC g.hu) (λ z d=>k.1 g n d) (λ z d=>j.1 g m d) l h
 ·exact N0 c λ _ _ p _=>F8 rfl f
def EN{a:Jy}(h:dt a ps=true):defaultsOf a env=([],[]):=rd h (λ _ _ _ _=>rfl) λ _ _ _ _=>rfl
def EO(g:Good d G F X)(k:d.lp=true)(h:G.fnl.isEmpty=false)(i:¬d.sc.lookup n7=some .cell):(∃c P,X.env.code=.ref c/\∀{b:on (Jn×Obj)} {σ:on (Jk V)} {H:Hp} {s:Jm},Inv X b σ H s->PySem.W.CodeHd s.heap c P/\H P=some (.tbl (X.env.qual ++ "<lambda>"))) /\
  ∀{b:on (Jn×Obj)} {σ:on (Jk V)} {H:Hp} {s:Jm},Inv X b σ H s->∀x a,(d.sc.lookup x=some .cell\/d.top=false)->X.env.cells.lookup x=some a->X.base.get? a=none/\a∉frs X.stack:=by
 cases ht:d.top with
 | false=>
  obtain⟨f,k2,_⟩:=g.clo k ht;exact⟨f,λ _ x a _=>k2 x a⟩
 | true=>
  obtain⟨_,_,j⟩:=g.lms h;obtain⟨c,P,f,k2,k3,_⟩:=j ht;rw[show tagN d.sc = "<lambda>" from g9 i]at k3;exact⟨⟨c,P,f,λ I=>⟨k2 _ I.kIn,I.tabs _ k3⟩⟩,λ I x a z e=>sy I (bN g (z.elim id λ w=>nomatch w)).2.1 e⟩
def EQ{np:Nat}{N:on Str}{lb:ME}{fr:on Nat}(ha:S1 G F a):S1 G F (.maxk a N np lb fr):=by
 refine .of (λ {sg X e δ r} g hc h=>?_) (λ _ _=>rfl) (λ sg e env hc=>?_)
 ·obtain⟨ht,hc⟩:=J9.mp hc;refine qR hc λ ef ea kn el kp pos hc=>?_
  simp only[f9,i5,u5]at hc;obtain⟨⟨⟨⟨c1,c2⟩,c4⟩,c5⟩,hc⟩:=hc;refine AA hc λ pr bd sc lp hc=>?_
  subst c2;obtain⟨⟨px,rfl⟩,hgl,hmg⟩:=bO g c1;rw[f9]at hc;obtain⟨c8,c9⟩:=hc;have hlam:=c8;unfold rf at c8;simp only[f9,i5,u5,G8,ak,ne_eq,F3]at c8;obtain⟨⟨⟨⟨⟨⟨⟨⟨⟨⟨⟨⟨l1,l2⟩,l3⟩,l4⟩,l5⟩,l6⟩,l7⟩,l8⟩,l9⟩,l10⟩,l11⟩,lc⟩,l12⟩:=c8;have h:fP G F (JO a) N np lb (capD δ fr)=some r:=h;unfold fP at h;split at h
  ·rename_i cs hcap;split at h
   ·cases h
   ·rename_i hne;have hne':G.fnl.isEmpty=false:=by simpa using hne
    obtain⟨⟨w1,w2,w3⟩,⟨k,hr,lo,_⟩,wt⟩:=g.lms hne';obtain⟨⟨c,P,k1,k2⟩,k3⟩:=EO g ht hne' lc;have ct:∀y∈sc.names,y.2=NameKind.free->sg.sc.lookup y.1=some .cell\/sg.top=false/\sg.sc.lookup y.1=some .free:=λ y hy hf=>by have z:=l12 y hy;rw[f8 (by rw[hf])]at z;rw[B5,f9,u5,i5,i5]at z;exact z
    have cel:∀y∈sc.names,y.2=NameKind.free->X.env.kindOf y.1=some .cell\/X.env.kindOf y.1=some .free:=λ y hy hf=>g.cel y.1 ((ct y hy hf).imp id (·.2));have T:LamTx N (N.take np) sc:=by
     have ln:(N.take np).length=np:=by rw[W1];omega
     refine⟨l2,l3,l4,bL l5,by rw[ln],l8,l9,λ i y h1 h2=>l10 y ?_⟩;rw[ln]at h1;refine M1 (i:=i - np) ?_;rw[aT,show np+(i - np)=i by omega];exact h2
    have hcor:X2 ⟨N,np,lb,G.fnl,G.bll,G.cll⟩ pr bd sc=true:=(by unfold X2;rw[f9];refine⟨l1,?_⟩;show corE ⟨N,sc.names,G.fnl,G.bll,G.cll,false,false,noCo⟩ false lb bd=true;rw[w1,w2,w3];exact c9);have hslot:∀(j i:Nat),fr[j]? = some i->∃y,N[np+j]? = some y/\X.N[i]? = some y/\(X.env.kindOf y=some .cell\/X.env.kindOf y=some .free):=λ j i hj=>by
     have hjl:j<fr.length:=(w6.mp hj).1;have hjn:np+j<N.length:=by omega
     have hy:(N.drop np)[j]? = some N[np+j]:=by rw[aT,p8 hjn]
     have hz:(i,N[np+j])∈fr.zip (N.drop np):=M1 (i:=j) (by rw[ip];exact⟨hj,hy⟩);have q1:=l11 _ hz;have q2:=l10 _ (M1 hy);exact⟨_,p8 hjn,by rw[g.N];exact q1,cel _ (A4 q2) rfl⟩
    cases hra:evE G F a δ with
    | none=>rw[hra]at h;cases h
    | some ra=>
     rw[hra]at h;exact Dv (m:=⟨N,np,lb,G.fnl,G.bll,G.cll⟩) (fr:=fr) (P:=P) (c:=c) lo hr w1 w2 w3 hgl hmg c5 ⟨k1,λ I=>(k2 I).1,λ I=>(k2 I).2,cel⟩ (EN l1) T (λ I c hc=>by
       obtain⟨y,e,hm⟩:=gK I (λ y hy hf=>I.ok.has y.1 (cel y hy hf)) c hc;exact k3 I y c ((ct _ hm rfl).imp id (·.1)) e) hcor l7 hslot hcap (ha.1 g c4 hra) h
  ·cases h
 ·obtain⟨_,hc⟩:=J9.mp hc;exact qR hc λ _ _ _ _ _ _ _=>F8 rfl env
def ER(i:S1 G F c)(o:S1 G F a)(n:S1 G F b):S1 G F (.ite c a b):=by
 refine .of2 (λ {s X e q r} g f h=>?_) (λ {s X e q r} g f h=>?_) (λ _ _=>rfl)
 ·refine qy f λ u w v p f=>?_;simp only[f9]at f;obtain⟨⟨m,l⟩,j⟩:=f;exact Cf (λ z d=>i.2.1 g m d) (λ z d=>o.1 g l d) (λ z d=>n.1 g j d) h
 ·refine qy f λ u w v p f=>?_;simp only[f9]at f;obtain⟨⟨m,l⟩,j⟩:=f;exact Cd (λ z d=>i.2.1 g m d) (λ z d=>o.2.1 g l d) (λ z d=>n.2.1 g j d) h
def ES{ms:on ME}{np nc:Nat}(ha:SEs G F ms):S1 G F (.self np nc ms):=by
 refine .of (λ {sg X e δ r} g hc h=>?_) (λ _ _=>rfl) (λ sg e env hc=>?_)
 ·obtain⟨ht,hc⟩:=J9.mp hc;refine L6 hc λ ef es pos hc=>?_
  simp only[f9,u5]at hc;obtain⟨⟨h1,h2⟩,h3⟩:=hc;refine F6 h1 λ x p h1=>?_
  rw[i5]at h1;subst h1;rw[f9,u5]at ht;have h:cX G F np nc (evEs G F ms δ) (capD δ (List.range' np nc))=some r:=h;cases es with
  | nil=>cases h2
  | cons e0 er=>
   have ns:=Y4 h3;rw[G1,N6]at ns;cases hrs:evEs G F ms δ with
   | none=>
    rw[hrs]at h;unfold cX at h;split at h
    ·split at h
     ·obtain⟨_,_,z⟩:=r3.mp h;cases z
     ·cases h
    ·cases h
   | some rs=>
    rw[hrs]at h;exact(g.clo ht.1 ht.2).2.2 (ha g h3 hrs) ns.1 ns.2 h
 ·obtain⟨_,hc⟩:=J9.mp hc;exact L6 hc λ _ _ _ _=>F8 rfl env
def ET(w:S1 G F a):S1 G F (.isi a i):=by
 refine .of (λ {j X e δ r} g b h=>?_) (λ _ _=>rfl) (λ j e d b=>?_)
 ·refine qN b λ ef ea et k b=>?_;simp only[f9,u5]at b;obtain⟨⟨⟨⟨B,A⟩,y⟩,h4⟩,c⟩:=b;obtain⟨⟨p,rfl⟩,v,u⟩:=bO g B;split at c
  ·rename_i t;simp only[f9,i5,N5]at c;obtain⟨⟨⟨q,o⟩,n⟩,f⟩:=c;obtain⟨p',rfl⟩:=V2 q;obtain⟨T,x⟩:=EG (N5.mpr f);obtain⟨m,l⟩:=EH t f;exact CG x v u (g.glo t o) (g.blt t n) m l (λ z s=>w.1 g A s) y h
  ·cases c
 ·exact qN b λ _ _ _ _ _=>F8 rfl d
theorem lI:∀{a:on ME} {b:on Sv} {l:on (DV×Cl)},evEs G F a b=some (.ok l)->l.length=a.length
 | [],_,_,h=>by unfold evEs at h;cases h;rfl
 | m::a,b,l,h=>by
  unfold evEs at h;split at h
  ·cases h
  ·split at h
   ·cases h
   ·rename_i l' q;cases h;rw[z7,z7,lI q]
theorem tE:∀{b:Sg} {a:on ME} {es:on Jp},u8 b a es=true->a.length=es.length
 | _,[],[],_=>rfl
 | _,[],_::_,h=>by unfold u8 at h;cases h
 | _,_::_,[],h=>by unfold u8 at h;cases h
 | b,m::a,e::es,h=>by unfold u8 at h;simp[f9]at h;rw[z7,z7,tE h.2]
def EU(s:SEs G F d):S1 G F (.rng d):=by
 refine⟨λ {n X e m r} g a h=>?_,λ {n X e m r} g a h=>?_,λ {n X e tg m r} g a _ h=>?_⟩
 ·cases(a:false=true)
 ·cases(a:false=true)
 ·refine L6 (J9.mp a).2 λ ef x w a=>?_;rw[f9,F3]at a;obtain⟨a,j⟩:=a;rw[f9]at a;obtain⟨⟨p,rfl⟩,q,o⟩:=bO g a.1;have f:=tE a.2;have c:=Y4 a.2;cases x with
  | nil=>
   exfalso;cases d with
   | nil=>cases(h:none=some r)
   | cons _ _=>cases f
  | cons y v=>
   rw[G1,N6]at c;cases v with
   | nil=>exact CW q o (λ z i=>s g a.2 i) c.1 h λ l k=>by rw[lI k,f];rfl
   | cons z u=>
    cases u with
    | nil=>
     have b:=c.2;rw[G1,N6]at b;exact CY q o (λ z i=>s g a.2 i) c.1 b.1 h λ l k=>by rw[lI k,f];rfl
    | cons _ _=>simp at j
def EV(s:S1 G F a):S1 G F (.enu a):=by
 refine⟨λ {d X e c r} g b h=>?_,λ {d X e c r} g b h=>?_,λ {d X e j c r} g b n h=>?_⟩
 ·cases(b:false=true)
 ·cases(b:false=true)
 ·refine gn (J9.mp b).2 λ ef ea l b=>?_;simp only[f9,u5]at b;obtain⟨⟨w,v⟩,u⟩:=b;obtain⟨⟨p,rfl⟩,q,o⟩:=bO g w;have t:=n rfl;cases f:L7 j with
  | none=>rw[f]at t;cases t
  | some i=>
   obtain⟨k,tp,rfl⟩:=gr f;exact Dp q o u (λ z m=>s.1 g v m) h
def tF{b:Jp}(a:((K4 b).isSome||inCl b λ _ c _=>!c.isEmpty)=true):attributeBase b "items" env (eval b env)=eval b env:=by
 rcases B5 _ _ |>.mp a with a | a
 ·cases d:K4 b with
  | none=>rw[d]at a;cases a
  | some x=>obtain⟨np,rfl⟩:=V2 d;rfl
 ·refine L6 a λ f c e a=>?_;cases c with
  | nil=>cases a
  | cons y ys=>cases f<;>rfl
def EW(p:S1 G F a):S1 G F (.itm a):=by
 refine⟨λ {d X e c r} g b h=>?_,λ {d X e c r} g b h=>?_,λ {d X e j c r} g b ht h=>?_⟩
 ·cases(b:false=true)
 ·cases(b:false=true)
 ·refine di (J9.mp b).2 λ ef l b=>?_;refine bx b λ ob n i b=>?_;simp only[f9]at b;obtain⟨⟨⟨w,v⟩,u⟩,q⟩:=b;have o:=i5.mp w;subst o;have t:=ht rfl;cases q4:L7 j with
  | none=>rw[q4]at t;cases t
  | some f=>
   obtain⟨k,tp,rfl⟩:=gr q4;exact Ei (tF q) u (λ z m=>p.1 g v m) h
def EX{sg:Sg}{X:Cx}{e:Jp}{δ:on Sv}{r:Re}{tg:Tg}{fr:on (Jk Nat)}{cp:CParts}{tn:on Str}(ha:S1 G F a)(hb:S1 G F b)(g:Good sg G F X)(hemp:cp.ifs=[])
  (h2:corE sg true b cp.it=true) (hz:isZp b=true->(L7 cp.tg).isSome=true) (h4:aA sg (J4 sg tn fr) fr cp.sc tg=true) (h5:tgOk ⟨J4 sg tn fr,cp.sc.names,sg.fn,sg.bl,sg.cl,false,false,noCo⟩ tg cp.tg=true) (h6:corE ⟨J4 sg tn fr,cp.sc.names,sg.fn,sg.bl,sg.cl,false,false,noCo⟩ false a cp.elt=true)
  (h:evE G F (.comp a tg b fr) δ=some r):X8 X δ cp.tg cp.it cp.ifs cp.elt cp.sc (J4 sg tn fr) fr tg r:=by
 obtain⟨S,nd,sl⟩:=bM g h4;rw[hemp];exact Da S g.calm nd sl (λ z hz'=>hb.2.2 g h2 hz hz') (λ C cells s₂ H₂ fp=>bP (Y3 g h4 C cells s₂ H₂ fp) h5) (λ δ' r' hr C cells s₂ H₂ fp=>ha.1 (Y3 g h4 C cells s₂ H₂ fp) h6 hr) h
def EY{sg:Sg}{X:Cx}{e cd:Jp}{δ:on Sv}{r:Re}{tg:Tg}{fr:on (Jk Nat)}{cp:CParts}{tn:on Str}(ha:S1 G F a)(hb:S1 G F b)(hcc:S1 G F c)(g:Good sg G F X)(hemp:cp.ifs=[cd])
  (h2:corE sg true b cp.it=true) (hz:isZp b=true->(L7 cp.tg).isSome=true) (h4:aA sg (J4 sg tn fr) fr cp.sc tg=true) (h5:tgOk ⟨J4 sg tn fr,cp.sc.names,sg.fn,sg.bl,sg.cl,false,false,noCo⟩ tg cp.tg=true) (h6:corE ⟨J4 sg tn fr,cp.sc.names,sg.fn,sg.bl,sg.cl,false,false,noCo⟩ false a cp.elt=true)
  (h7:corE ⟨J4 sg tn fr,cp.sc.names,sg.fn,sg.bl,sg.cl,false,false,noCo⟩ false c cd=true) (h:evE G F (.compi a tg b c fr) δ=some r):X8 X δ cp.tg cp.it cp.ifs cp.elt cp.sc (J4 sg tn fr) fr tg r:=by
 obtain⟨S,nd,sl⟩:=bM g h4;rw[hemp];exact Db S g.calm nd sl (λ z hz'=>hb.2.2 g h2 hz hz') (λ C cells s₂ H₂ fp=>bP (Y3 g h4 C cells s₂ H₂ fp) h5) (λ δ' r' hr C cells s₂ H₂ fp=>ha.1 (Y3 g h4 C cells s₂ H₂ fp) h6 hr)
  (λ δ' r' hr C cells s₂ H₂ fp=>hcc.2.1 (Y3 g h4 C cells s₂ H₂ fp) h7 hr) h
def aI(G:Gs)(F:Nat->on DV->Jk Ou)(m:ME):Prop:=∀{sg:Sg} {X:Cx} {e:Jp} {δ:on Sv} {r:Re},Good sg G F X->corE sg false m e=true->evE G F m δ=some r ->
 ∃(cp:CParts) (N':on Str) (fr:on (Jk Nat)) (tg:Tg) (p:Pos),e=.ListComp cp.elt [⟨cp.tg,cp.it,cp.ifs,0⟩] cp.sc p/\CompScope X.N N' cp.sc X.env.scope fr/\X8 X δ cp.tg cp.it cp.ifs cp.elt cp.sc N' fr tg r /\
  (∀C cells s₂ H₂ fp,PG (u6 X cp.sc N' C cells s₂ H₂ fp) cp.tg (gT X.K tg))/\J3 cp.it=false
def aI.s1(h:aI G F m)(hw:∀a e,corE a true m e=corE a false m e)(f:∀a e,corE a false m e=true->tD e=true):S1 G F m:=by
 refine .of (λ {a X e δ r} g b q=>?_) hw (λ a e c b=>?_)
 ·obtain⟨cp,N',fr,tg,p,rfl,S,P,i,d⟩:=h g b q;exact P.pe S g.calm i d
 ·exact F8 (f a e b) c
def tG(m:S1 G F a)(l:S1 G F b):aI G F (.comp a tg b fr):=by
 intro sg X e δ r g k h;refine dr k λ f p k=>?_
 simp only[f9,u5,B5]at k;obtain⟨⟨⟨s,q,o⟩,n⟩,c⟩:=k;obtain⟨tn,_,c⟩:=A3 c;simp only[f9]at c;refine⟨f,_,fr,tg,p,rfl,(bM g c.1.1).1,EX (e:=.ListComp f.elt [⟨f.tg,f.it,f.ifs,0⟩] f.sc p) m l g (List.isEmpty_iff.mp s) q (λ z=>?_) c.1.1 c.1.2 c.2 h,λ C d i j u=>bP (Y3 g c.1.1 C d i j u) c.1.2,n⟩;rcases o with w | w
 ·rw[z]at w;cases w
 ·exact w
def tH(q:S1 G F a)(o:S1 G F b)(m:S1 G F c):aI G F (.compi a tg b c fr):=by
 intro sg X e δ r g l h;refine dr l λ i p l=>?_
 simp only[f9,u5,B5]at l;obtain⟨⟨⟨v,u⟩,s⟩,d⟩:=l;obtain⟨tn,_,d⟩:=A3 d;obtain⟨ec,n,d⟩:=Ak d;simp only[f9]at d;refine⟨i,_,fr,tg,p,rfl,(bM g d.1.1.1).1,EY (e:=.ListComp i.elt [⟨i.tg,i.it,i.ifs,0⟩] i.sc p) q o m g n v (λ z=>?_) d.1.1.1 d.1.1.2 d.1.2 d.2 h,λ C f j k x=>bP (Y3 g d.1.1.1 C f j k x) d.1.1.2,s⟩;rcases u with w | w
 ·rw[z]at w;cases w
 ·exact w
def EZ(g:S1 G F a)(f:S1 G F b):S1 G F (.comp a tg b fr):=aI.s1 (λ {c X e δ r}=>tG g f) (λ _ _=>rfl) λ c e d=>dr d λ _ _ _=>rfl
def Fa(i:S1 G F a)(h:S1 G F b)(d:S1 G F c):S1 G F (.compi a tg b c fr):=aI.s1 (λ {f X e δ r}=>tH i h d) (λ _ _=>rfl) λ f e g=>dr g λ _ _ _=>rfl
def Fb:SEs G F []:=λ {sg X b δ r} g a h=>by
 cases b with
 | nil=>unfold evEs at h;cases h;exact Cg
 | cons _ _=>unfold u8 at a;cases a
def Fd(j:S1 G F a)(i:SEs G F d):SEs G F (a::d):=λ {sg X f δ r} g b h=>by
 cases f with
 | nil=>unfold u8 at b;cases b
 | cons e f=>
  unfold u8 at b;simp only[f9,u5]at b;unfold evEs at h;exact Ch b.1.2 (λ z c=>j.1 g b.1.1 c) (λ z c=>i g b.2 c) h
def Fe:SAnd G F []:=λ {sg X es δ a} g hc=>⟨λ r h=>(by unfold M8 at h;cases h),λ r h=>(by unfold M8 at h;cases h)⟩
def Ff:SOr G F []:=λ {sg X es δ a} g hc=>⟨λ r h=>(by unfold evOr at h;cases h),λ r h=>(by unfold evOr at h;cases h)⟩
def Fg(i:S1 G F a)(n:SAnd G F f):SAnd G F (a::f):=λ {l X d k j} g b=>by
 cases d with
 | nil=>unfold u8 at b;cases b
 | cons e d=>
  unfold u8 at b;simp only[f9,u5]at b;cases f with
  | nil=>
   cases d with
   | nil=>
    refine⟨λ r h=>?_,λ r h=>?_⟩
    ·unfold M8 at h;exact jx (i.1 g b.1.1 h)
    ·unfold M8 at h;exact wP (i.2.1 g b.1.1 h)
   | cons _ _=>have:=b.2;unfold u8 at this;cases this
  | cons m f=>
   cases d with
   | nil=>have:=b.2;unfold u8 at this;cases this
   | cons e' d=>
    have B:=@n l X _ k j g b.2;refine⟨λ r h=>?_,λ r h=>?_⟩
    ·unfold M8 at h;exact BY (λ z c=>i.1 g b.1.1 c) (λ z c=>B.1 z c) h
    ·unfold M8 at h;exact Cb (λ z c=>i.2.1 g b.1.1 c) (λ z c=>B.2 z c) h
def Fh(i:S1 G F a)(n:SOr G F f):SOr G F (a::f):=λ {l X d k j} g b=>by
 cases d with
 | nil=>unfold u8 at b;cases b
 | cons e d=>
  unfold u8 at b;simp only[f9,u5]at b;cases f with
  | nil=>
   cases d with
   | nil=>
    refine⟨λ r h=>?_,λ r h=>?_⟩
    ·unfold evOr at h;exact jx (i.1 g b.1.1 h)
    ·unfold evOr at h;exact og (i.2.1 g b.1.1 h)
   | cons _ _=>have:=b.2;unfold u8 at this;cases this
  | cons m f=>
   cases d with
   | nil=>have:=b.2;unfold u8 at this;cases this
   | cons e' d=>
    have B:=@n l X _ k j g b.2;refine⟨λ r h=>?_,λ r h=>?_⟩
    ·unfold evOr at h;exact BZ (λ z c=>i.1 g b.1.1 c) (λ z c=>B.1 z c) h
    ·unfold evOr at h;exact Cc (λ z c=>i.2.1 g b.1.1 c) (λ z c=>B.2 z c) h
def Fi(f:SAnd G F d):S1 G F (.and d):=by
 refine .of2 (λ {j X e i r} g a h=>?_) (λ {j X e i r} g a h=>?_) (λ _ _=>rfl)
 ·refine gi a λ o k p a=>?_;simp only[f9,i5]at a;obtain⟨c,b⟩:=a;subst c;exact(f g b).1 r h
 ·refine gi a λ o k p a=>?_;simp only[f9,i5]at a;obtain⟨c,b⟩:=a;subst c;exact((f g b).2 r h).pt
def s_or(f:SOr G F d):S1 G F (.or d):=by
 refine .of2 (λ {j X e i r} g a h=>?_) (λ {j X e i r} g a h=>?_) (λ _ _=>rfl)
 ·refine gi a λ o k p a=>?_;simp only[f9,i5]at a;obtain⟨c,b⟩:=a;subst c;exact(f g b).1 r h
 ·refine gi a λ o k p a=>?_;simp only[f9,i5]at a;obtain⟨c,b⟩:=a;subst c;exact((f g b).2 r h).pt
end
section
variable {G:Gs} {F:Nat->on DV->Jk Ou}
mutual
theorem snd:∀m:ME,S1 G F m
 | .var _=>Er
 | .int _=>Es
 | .bl _=>s_bl
 | .str _=>Eu
 | .non=>Et
 | .glb _=>Ev
 | .bin _ a b=>Ew (snd a) (snd b)
 | .not a=>Ex (snd a)
 | .cmp _ a b=>Ey (snd a) (snd b)
 | .chain _ _ a b c=>Ez (snd a) (snd b) (snd c)
 | .and es=>Fi (tI es)
 | .or es=>s_or (tJ es)
 | .lst es=>EA (sndL es)
 | .tup es=>EB (sndL es)
 | .ix a b=>s_ix (snd a) (snd b)
 | .sl a b c=>s_sl (snd a) (snd b) (snd c)
 | .slf a b=>ED (snd a) (snd b)
 | .rev a=>EF (snd a)
 | .call _ es=>EC (sndL es)
 | .bi _ es=>s_bi (sndL es)
 | .isi a _=>ET (snd a)
 | .meth _ a _=>EL (snd a)
 | .comp a _ b _=>EZ (snd a) (snd b)
 | .compi a _ b c _=>Fa (snd a) (snd b) (snd c)
 | .rng es=>EU (sndL es)
 | .enu a=>EV (snd a)
 | .itm a=>EW (snd a)
 | .dix a b=>EM (snd a) (snd b)
 | .maxk a _ _ _ _=>EQ (snd a)
 | .ite a b c=>ER (snd a) (snd b) (snd c)
 | .self _ _ es=>ES (sndL es)
theorem sndL:∀ms:on ME,SEs G F ms
 | []=>Fb
 | a::ms=>Fd (snd a) (sndL ms)
theorem tI:∀ms:on ME,SAnd G F ms
 | []=>Fe
 | a::ms=>Fg (snd a) (tI ms)
theorem tJ:∀ms:on ME,SOr G F ms
 | []=>Ff
 | a::ms=>Fh (snd a) (tJ ms)
end
end
section
variable (G:Gs) (F:Nat->on DV->Jk Ou) (fu:Nat)
def SS(m:MS):Prop:=∀{sg:Sg} {X:Cx} {st:Jv} {δ:on Sv} {o:Out},Good sg G F X->corS sg m st=true->evS G F fu m δ=some o->PS X st (dS X.D δ o)
def SSs(ms:on MS):Prop:=∀{sg:Sg} {X:Cx} {sts:on Jv} {δ:on Sv} {o:Out},Good sg G F X->C5 sg ms sts=true->evSs G F fu ms δ=some o->PSs X sts (dS X.D δ o)
end
def Fj(h:rg e=true):aI G F e:=by
 cases e with
 | comp a _ b _=>exact tG (snd a) (snd b)
 | compi a _ b c _=>exact tH (snd a) (snd b) (snd c)
 | _=>cases h
def Fk:SS G F fu (.set i own e):=by
 intro sg X st u o g c h;refine bB c λ t v w c=>?_
 refine F6 c λ x pt c=>?_;simp only[f9,i5,B5,u5]at c;obtain⟨⟨⟨E,C⟩,s⟩,d⟩:=c;have l:=g.loc x C;have q:X.N[i]? = some x:=by rw[g.N];exact E
 have h:Re.thnS u _ _=some o:=h;cases hv:S7 v with
 | false=>exact sP g.nd q l.1 l.2 (λ z j=>(snd e).1 g s j) (bK hv) h
 | true=>
  rcases d with d | B
  ·rw[hv]at d;cases d
  ·cases m:evE G F e u with
   | none=>rw[m]at h;cases h
   | some r=>
    obtain⟨a,N',fr,tg,p,rfl,S,P,A,y⟩:=Fj B g s m;cases f:(X.env.blockKind == .function&&X.env.kindOf x==some .local&&pt.line==(Expr.ListComp a.elt [⟨a.tg,a.it,a.ifs,0⟩] a.sc p).pos.line && !_)with
    | false=>
     have b:=(by show(pure (X.env.blockKind == .function&&X.env.kindOf x==some .local&&pt.line==(Expr.ListComp a.elt [⟨a.tg,a.it,a.ifs,0⟩] a.sc p).pos.line && !(a.sc.names.any λ (n,k)=>n==x&&(k == .local||k == .cell))):Sem Bool)=pure false;rw[f]);exact sP g.nd q l.1 l.2 (λ z j=>(snd e).1 g s j) b h
    | true=>
     have b:=(by show(pure (X.env.blockKind == .function&&X.env.kindOf x==some .local&&pt.line==(Expr.ListComp a.elt [⟨a.tg,a.it,a.ifs,0⟩] a.sc p).pos.line && !(a.sc.names.any λ (n,k)=>n==x&&(k == .local||k == .cell))):Sem Bool)=pure true;rw[f]);rw[m]at h;have d:X.env.kindOf x=some .local:=by simp only[f9,i5]at f;exact f.1.1.2
     exact DC S g.calm g.nd q d P A y b h
def Fm:SS G F fu (.app i e):=by
 intro sg X st δ o g a h;refine dh a λ v k a=>?_
 refine gn a λ ef ea c a=>?_;refine bx a λ ob n d a=>?_;simp only[f9,u5]at a;obtain⟨⟨⟨⟨s,b⟩,r⟩,q⟩,p⟩:=a;refine F6 b λ x np b=>?_;obtain⟨s1,s2,j,f⟩:=N3 g b;have m:=i5.mp s;subst m;exact DE (O1 s1 s2 j f) (λ z l=>(snd e).1 g r l) q p h
def Fn:SS G F fu (.ext i e):=by
 intro sg X st δ o g a h;refine dh a λ v k a=>?_
 refine gn a λ ef ea c a=>?_;refine bx a λ ob n d a=>?_;simp only[f9,u5]at a;obtain⟨⟨⟨⟨s,b⟩,r⟩,q⟩,p⟩:=a;refine F6 b λ x np b=>?_;obtain⟨s1,s2,j,f⟩:=N3 g b;have m:=i5.mp s;subst m;exact DK (O1 s1 s2 j f) (λ z l=>(snd e).1 g r l) q p h
def Fo:SS G F fu (.retd i):=by
 intro sg X st δ o g a h;refine gq a λ v d a=>?_
 refine F6 a λ x np a=>?_;obtain⟨s1,s2,c,b⟩:=N3 g a;exact DQ (O1 s1 s2 c b) h
def Fp:SS G F fu (.sep i):=by
 intro sg X st δ o g a h;refine bB a λ t v b a=>?_
 refine F6 a λ x np a=>?_;refine AQ a λ _ a=>?_;rw[f9,i5]at a;obtain⟨d,c⟩:=g.loc x a.2;exact DY g.nd (by rw[g.N];exact a.1) d c h
def Fq:SS G F fu (.dpp i ks e):=by
 intro sg X st δ o g a h;refine bB a λ t v k a=>?_
 refine N0 a λ ob ek sp a=>?_;simp only[f9,u5]at a;obtain⟨⟨⟨d,c⟩,m⟩,l⟩:=a;refine F6 d λ x np d=>?_;obtain⟨s1,s2,j,f⟩:=N3 g d;refine gj c λ es tk tp c=>?_;exact Ec (T9 JC g.hu) (O1 s1 s2 j f) (λ z b=>(snd e).1 g m b) (λ z b=>sndL ks g c b) l h
def Fs:SS G F fu (.clr i):=by
 intro sg X st δ o g a h;refine dh a λ v k a=>?_
 refine di a λ ef c a=>?_;refine bx a λ ob n d a=>?_;simp only[f9,u5]at a;obtain⟨⟨p,b⟩,m⟩:=a;refine F6 b λ x np b=>?_;obtain⟨s1,j,f,e⟩:=N3 g b;have l:=i5.mp p;subst l;exact DD (O1 s1 j f e) m (h)
def Ft:SS G F fu (.augi i k e):=by
 intro sg X st δ o g a h;refine qD a λ t op v l a=>?_
 rw[f9,i5]at a;obtain⟨rfl,a⟩:=a;refine N0 a λ ob q sp a=>?_
 simp only[f9,u5]at a;obtain⟨⟨⟨⟨c,p⟩,n⟩,h6⟩,m⟩:=a;refine F6 c λ x np c=>?_
 obtain⟨s1,j,f,d⟩:=N3 g c;exact DJ (O1 s1 j f d) (λ z b=>(snd e).1 g m b) (λ z b=>(snd k).1 g p b) (by cases q<;>first | (intros;rfl) | cases n) h
def Fu:SS G F fu (.dpv i a n e):=by
 intro sg X st δ o g c h;refine bB c λ t v m c=>?_
 refine N0 c λ ob ek sp c=>?_;simp only[f9,u5]at c;obtain⟨⟨⟨f,b⟩,q⟩,p⟩:=c;refine F6 f λ x np f=>?_;obtain⟨s1,l,k,j⟩:=N3 g f;refine N0 b λ ea es p4 b=>?_;refine AN b λ eh p3 b=>?_;rw[f9,i5]at b;obtain⟨b,r⟩:=b;obtain⟨jn,p2,rfl⟩:=kx r;exact Eb (T9 JC g.hu) (O1 s1 l k j) (λ z d=>(snd e).1 g q d) (λ z d=>(snd a).1 g b d) p h
def Fv:SS G F fu (.rfs b):=by
 intro sg X st δ o g a h;cases a
def Fw:SS G F fu (.seti i k e):=by
 intro sg X st δ o g a h;refine bB a λ t v j a=>?_
 refine N0 a λ ob ek sp a=>?_;simp only[f9,u5]at a;obtain⟨⟨⟨c,n⟩,m⟩,l⟩:=a;refine F6 c λ x np c=>?_;obtain⟨s1,s2,f,d⟩:=N3 g c;exact DF (O1 s1 s2 f d) (λ z b=>(snd e).1 g l b) (λ z b=>(snd k).1 g n b) m h
def Fx:SS G F fu (.exp e):=by
 intro sg X st δ o g a h;refine dh a λ _ _ a=>?_
 simp only[f9,u5]at a;exact DB (λ z b=>(snd e).1 g a.1 b) a.2 h
def Fy:SS G F fu (.ret e):=by
 intro sg X st δ o g a h;refine gq a λ _ _ a=>?_
 exact DA (λ z b=>(snd e).1 g a b) h
def Fz:SS G F fu (.aug i e):=by
 intro sg X st δ o g c h;refine qD c λ t op v f c=>?_
 rw[f9,f9]at c;obtain⟨⟨n,b⟩,m⟩:=c;cases i5.mp n;refine F6 b λ x p b=>?_
 rw[f9]at b;have l:=g.loc x b.2;obtain⟨a,d,h⟩:=r3.mp h;exact DM g.nd (by rw[g.N];exact i5.mp b.1) l.1 l.2 (λ z j=>(snd e).1 g m j) (DL d) h
def FA(h:∀δ,evS G F fu m δ=none):SS G F fu m:=by
 intro sg X st δ o g hc q;rw[h]at q;cases q
def FB:SS G F fu .unk:=by
 intro sg X st δ o g hc h;cases h
def FC:SS G F fu (.frz i):=by
 intro sg X st δ o g a h;cases a
def FE:SS G F fu (.dfr i fr a es):=by
 intro sg X st δ o g b h;cases b
def FG(i:SSs G F fu a)(f:SSs G F fu b):SS G F fu (.iff c a b):=by
 intro sg X st δ o g d h;refine qC d λ _ _ _ _ d=>?_
 simp only[f9]at d;exact Dz (λ z e=>(snd c).2.1 g d.1.1 e) (λ z e=>i g d.1.2 e) (λ z e=>f g d.2 e) h
def t_fo(f:SSs G F fu body):SS G F fu (.fo tg e body):=by
 intro sg X st δ o g a h;refine AV a λ _ _ _ _ a=>?_
 simp only[f9,u5,B5]at a;obtain⟨⟨⟨⟨n,m⟩,l,k⟩,j⟩,i⟩:=a;exact DN (g.own n) g.calm (λ z c=>(snd e).2.2 g l (λ w=>by
  rcases k with q | q
  ·rw[w]at q;cases q
  ·exact q) c) (bP g m) (λ b o' d=>f g i d) j h
def t_wh(f:SSs G F fu body):SS G F fu (.wh c body):=by
 intro sg X st δ o g a h;refine AZ a λ _ _ _ a=>?_
 simp only[f9]at a;exact DO (g.own a.1.1) (λ b r d=>(snd c).2.1 g a.1.2 d) (λ b o' e=>f g a.2 e) h
noncomputable def lJ:MS->Bool
 | .dfr _ _ _ _=>true
 | .frz _=>true
 | _=>false
def FH:SSs G F fu []:=by
 intro sg X c δ o g d h;cases c with
 | nil=>unfold evSs at h;cases h;exact Dw
 | cons a b=>unfold C5 at d;cases d
def FJ(b:SSs G F fu f):SSs G F fu (.frz i::f):=by
 intro m X e c o g k h;have a:C5 m f e=true:=by unfold C5 at k;exact k
 unfold evSs at h;have j:evS G F fu (.frz i) c=frzS c i c[i]?:=rfl;rw[j]at h;cases q:c[i]? with
 | none=>rw[q]at h;exact b g a h
 | some l=>
  rw[q]at h;cases l with
  | own d=>exact DG q (b g a h)
  | no=>exact b g a h
  | val d=>exact b g a h
  | od d=>exact b g a h
def FK(q:G.clo=some C)(h:dfrS G F fr c b i f=some o):C.nc=fr.length/\f=some .no/\G.fnl.isEmpty=false/\∃n c0 cs l d,c=some (.ok (.int n) c0)/\i=some cs/\b=some (.ok l)/\O5 F C.np cs l=some (JR d)/\o=.rt (.tup [.int n,d]) false:=by
 unfold dfrS at h;rw[q]at h;dsimp only at h;split at h
 ·rename_i z;obtain⟨m,e,k⟩:=z;obtain⟨cs,s,h⟩:=r3.mp h;obtain⟨r,a,h⟩:=r3.mp h;have g:f=some .no:=by
   unfold noB at e;split at e
   ·rfl
   ·cases e
  cases c with
  | none=>cases a
  | some c=>
   cases c with
   | ok d0 c0=>
    obtain⟨n,p,a⟩:=r3.mp (a);obtain rfl:=F7 p;cases b with
    | none=>cases a
    | some b=>
     cases b with
     | ok l=>
      obtain⟨r',j,a⟩:=r3.mp (a);obtain⟨d,_,_,_,_,rfl⟩:=tu j;cases a;cases h;exact⟨m,g,k,n,c0,cs,l,d,rfl,s,rfl,j,rfl⟩
 ·cases h
def FL:SSs G F fu (.dfr i fr a es::ms):=by
 intro E X a0 q o g b h;have Y:(kz E i fr a0 (λ e l=>corE E false a e&&u8 E es l)&&ms.isEmpty)=true:=by unfold C5 at b;exact b
 rw[f9]at Y;obtain⟨b,hms⟩:=Y;have h:(match dfrS G F fr (evE G F a q) (evEs G F es q) (capD q fr) q[i]? with | some (.nx δ')=>evSs G F fu ms δ' | o=>o)=some o:=h;unfold kz at b;rw[f9,f9,i5]at b;obtain⟨⟨ht,m⟩,b⟩:=b;refine aw b λ sa sb b=>AT b λ n pr bd Z x dp b=>?_
 simp only[f9,i5,G8,F3]at b;obtain⟨⟨⟨⟨⟨⟨rfl,rfl⟩,hi⟩,a9⟩,a5⟩,a4⟩,b⟩:=b;refine gq b λ v rp b=>gj b λ ts tk tp b=>aw b λ ex ec b=>L6 b λ ef ea cp b=>?_
 simp only[f9,u5]at b;obtain⟨⟨⟨h1,h2⟩,a1⟩,h0,h3⟩:=b;refine F6 h1 λ x np h1=>?_
 rw[i5]at h1;subst h1;cases ea with
 | nil=>cases h2
 | cons e0 er=>
  have ns:=Y4 h3;rw[G1,N6]at ns;obtain⟨C,hC,J⟩:=g.cos _ _ _ _ a9;obtain⟨a2,tx,U,_⟩:=tj J;cases hd:dfrS G F fr (evE G F a q) (evEs G F es q) (capD q fr) q[i]? with
  | none=>rw[hd]at h;cases h
  | some o'=>
   obtain⟨z1,z2,z3,n0,c0,cs,l,d,b3,e1,e2,e3,rfl⟩:=FK hC hd;rw[hd]at h;cases h;obtain⟨_,⟨k,hr,_,b0⟩,wt⟩:=g.lms z3;obtain⟨c,P,k1,k2,k3,k4⟩:=wt ht;rw[show tagN E.sc=n7 from f8 m]at k3;have B:∀y∈Z.names,y.2=NameKind.free->E.sc.lookup y.1=some .cell:=λ y r K=>by have z:=a4 y r;rw[f8 (by rw[K])]at z;exact i5.mp z
   obtain⟨c1,c2,c3⟩:=bN g m;have D:=Em (pos:=dp) (bd:=bd) (⟨k1,k2,k3,λ y r K=>(bN g (B y r K)).1,k4 m⟩) a2 g.nd (by rw[g.N];exact hi) c1 c3 (.inl c2);have has:X.Ok->∀y∈Z.names,y.2=NameKind.free->∃a,X.env.cells.lookup y.1=some a:=λ ok y r K=>ok.has y.1 (.inl (bN g (B y r K)).1)
   have PC:PE X (.Call (.Name n7 np) (e0::er) [] cp) (λ L H Q=>∃f,(L[i]? = some (some (.ref f))/\K7 H n7 (X.env.qual++n7) pr bd Z (o8 X.env.cells Z.names []) f)/\dE X.D q (JR d) L H Q):=by
    refine tz (cs:=cs) (C:=C) (λ {ta} A=>tw (b0 C hC) hr J (λ ok=>El tx ok (has ok)) (λ I=>CS I (has I.ok) λ y r K=>(bN g (B y r K)).2.1) (λ {b4 L H H' s f} I sm ha=>⟨ha.2.mono sm,?_⟩) (.inl c1) z1.symm (λ j i' hj=>?_) e1 A ns.1 ns.2) ((sndL es) g h3 e2) e3
    ·obtain⟨mm,hn',a6⟩:=I.loc;obtain⟨u,rv,lk⟩:=a6 i n7 _ (by rw[g.N];exact hi) ha.1 (.inr (.inl c1));obtain rfl:u=Value.ref f:=rv;rcases lk with⟨q1,_⟩ | ⟨_,cx,q2,q3⟩
     ·have q1:X.env.kindOf n7=some .local:=q1;rw[c1]at q1;cases q1
     ·exact⟨cx,dN (has I.ok) (A4 tx.slf) q2,q3⟩
    ·have hjl:j<fr.length:=(w6.mp hj).1;have S:=a5 i' (M1 hj);have r:E.N[i']? = some (E.N.getD i' ""):=by rw[p8 S,D1,p8 S];rfl
     have hq:((C.N.drop 2).take C.nc)[j]? = some (E.N.getD i' ""):=(by rw[←U,q9,hj];rfl);have N:=(by rw[aM JC,aT]at hq;exact hq);refine⟨_,N,by rw[g.N];exact r,.inl ?_⟩;have b2:=tx.fre (2+j) _ JC JC N;exact(bN g (B _ (A4 b2) rfl)).1
   have PX:=(snd a).1 g h0 b3;refine(U9 D (U9 (bg (pos:=rp) (jC (x1:=tk) (pos:=tp) (M7 PX (M7 PC S5 (z9 rfl)) (z9 a1)))) fE)).weak λ Dn L H ⟨H0,O,W,R,frr,fo,sm,kk⟩ f H' s1 hn df=>?_;have a7:i<L.length:=by rw[R.len];exact(w6.mp z2).1
   have R1:=(R.mono s1).anyNo z2 (some (.ref f));refine⟨O,W,R1,λ v0 Hx M gx=>⟨f,⟨by rw[J8 a7],df.mono M⟩,O,W,R1.mono M,λ v H2 s2 g2=>⟨by show(2:Nat)<=sizeLine;decide,λ p hp=>kk _ _ (((sm.trans s1).trans (M.trans s2)).trans (v9 hp)) ?_⟩⟩⟩;have a8:=gx.int (R1.hid.mono M);subst a8;have b1:Rep X.D (L2.wo (O++W) H2) d v:=g2;have a3:p∉O:=λ w=>(R1.mono M).hid.ot p (C6 _ w) (s2.free hp);show Rep X.D _ (.tup [.int n0,d]) (.ref p);exact E7.mpr ⟨p,_,rfl,SqT.of (by rw[j9 a3];exact z8),v5.mpr ⟨_,_,rfl,A7.mpr rfl,RepL.one ((b1.mono (J7 bD)).mono (v9 hp).wo)⟩⟩
def lK(e:lJ m=false)(b:C5 c (m::d) a=true):∃st r,a=st::r/\corS c m st=true/\C5 c d r=true:=by
 cases a with
 | nil=>cases m<;>first | (cases e;done) | (unfold C5 at b;cases b)
 | cons st a=>exact⟨st,a,rfl,by cases m<;>first | (cases e;done) | (unfold C5 at b;rw[f9]at b;exact b)⟩
def F2(i:SS G F fu m)(l:SSs G F fu f)(j:lJ m=false):SSs G F fu (m::f):=by
 intro sg X c δ o g k h;obtain⟨st,c,rfl,a⟩:=lK j k;unfold evSs at h;split at h
 ·rename_i b q;exact Dx (i g a.1 q) (l g a.2 h)
 ·rename_i e;cases o with
  | nx b=>exact absurd h (e b)
  | rt d fr=>exact Dy (i g a.1 h)
section
variable {G:Gs} {F:Nat->on DV->Jk Ou} {fu:Nat}
mutual
theorem sndS:∀m:MS,SS G F fu m
 | .set _ _ _=>Fk
 | .app _ _=>Fm
 | .ext _ _=>Fn
 | .seti _ _ _=>Fw
 | .augi _ _ _=>Ft
 | .clr _=>Fs
 | .dpv _ _ _ _=>Fu
 | .rse _ _=>FA λ _=>rfl
 | .rfs _=>Fv
 | .exp _=>Fx
 | .ret _=>Fy
 | .iff _ a b=>FG (B6 a) (B6 b)
 | .fo _ _ body=>t_fo (B6 body)
 | .wh _ body=>t_wh (B6 body)
 | .sep _=>Fp
 | .dpp _ _ _=>Fq
 | .retd _=>Fo
 | .unk=>FB
 | .aug _ _=>Fz
 | .frz _=>FC
 | .dfr _ _ _ _=>FE
theorem B6:∀ms:on MS,SSs G F fu ms
 | []=>FH
 | .dfr _ _ _ _::ms=>FL
 | .frz _::ms=>FJ (B6 ms)
 | .aug i o::ms=>F2 (sndS (.aug i o)) (B6 ms) rfl
 | .set i o e::ms=>F2 (sndS (.set i o e)) (B6 ms) rfl
 | .app i o::ms=>F2 (sndS (.app i o)) (B6 ms) rfl
 | .ext i o::ms=>F2 (sndS (.ext i o)) (B6 ms) rfl
 | .seti i k o::ms=>F2 (sndS (.seti i k o)) (B6 ms) rfl
 | .augi i k o::ms=>F2 (sndS (.augi i k o)) (B6 ms) rfl
 | .clr i::ms=>F2 (sndS (.clr i)) (B6 ms) rfl
 | .dpv i k n o::ms=>F2 (sndS (.dpv i k n o)) (B6 ms) rfl
 | .rse c e::ms=>F2 (sndS (.rse c e)) (B6 ms) rfl
 | .rfs b::ms=>F2 (sndS (.rfs b)) (B6 ms) rfl
 | .exp e::ms=>F2 (sndS (.exp e)) (B6 ms) rfl
 | .ret e::ms=>F2 (sndS (.ret e)) (B6 ms) rfl
 | .iff c a b::ms=>F2 (sndS (.iff c a b)) (B6 ms) rfl
 | .fo t i b::ms=>F2 (sndS (.fo t i b)) (B6 ms) rfl
 | .wh c b::ms=>F2 (sndS (.wh c b)) (B6 ms) rfl
 | .retd i::ms=>F2 (sndS (.retd i)) (B6 ms) rfl
 | .sep i::ms=>F2 (sndS (.sep i)) (B6 ms) rfl
 | .dpp i k e::ms=>F2 (sndS (.dpp i k e)) (B6 ms) rfl
 | .unk::ms=>F2 (sndS .unk) (B6 ms) rfl
end
end
structure FunD(K:PySem.W.Frag)(x qual:Str)(st:Stmt)(f:Addr)(fd:FuncData):Prop where
 ex:∃(oc:Value) (od:Option Addr) (dV kV doc pm:Value) (an:Option Addr) (cdv ct:Value) (osl:Array (Option Value)),
  fd=PySem.W.fnOf x qual (al st) (G9 st) (t8 st) dV kV doc pm an cdv ct/\K.lookup f=some ⟨oc,od,.func fd,osl⟩/\PySem.W.codeIn K cdv qual=true
def FunD.okX{P:Js}{w:Jr}{K:Jw}{mg:Str->Jk Jl}{base:Jo}{x qual:Str}{st:Jv}{f:Jn}{fd:FuncData}{N ps:on Str}{k:Nat}{sp:Sp}(F:FunD K x qual st f fd)(S:FnScope N ps (t8 st))(len:∀vs H Q E,sp vs H Q E->vs.length=ps.length)
  (hbody:∀(cdv:Jl),fd.code=cdv->∀(A:Ju) (outer:on Env) (s:Jm) (H:Hp) (vs:on V) (Q:VK) (E:XK),Room k (A.deeper (envOfC qual (t8 st) s.heap.objs.size f cdv))->sp vs H Q E ->
   ∃t,PSs (cxD P w K mg base N qual (t8 st) f cdv A outer s H) (G9 st) t/\t {nx:=λ _ H'=>Q .non H',rt:=Q} (start N vs) H):FnOk P w K mg base CX0 (k+1) f fd ps sp:=by
 obtain⟨oc,od,dV,kV,doc,pm,an,cdv,ct,osl,rfl,lk,hcd⟩:=F.ex;exact oQ lk hcd S len λ A outer s H vs Q E hr hsp=>hbody cdv rfl A outer s H vs Q E hr hsp
def u9.there(x:u9 P w H h a o):∃b,h.get? a=some b:=by
 cases o with
 | lst d=>obtain⟨_,_,_,_,e⟩:=x;exact⟨_,e⟩
 | tup d=>obtain⟨_,_,_,b,e,_⟩:=x;exact⟨_,e⟩
 | dK c=>obtain⟨_,_,_,_,o,_,_,e,_⟩:=x;exact⟨_,e⟩
 | dT c=>obtain⟨_,_,_,_,o,_,_,e,_⟩:=x;exact⟨_,e⟩
 | set S n=>obtain⟨o,_,_,_,e,_⟩:=x;exact⟨_,e⟩
 | ins C dx fs=>obtain⟨_,_,_,e,_⟩:=x;exact⟨_,e⟩
 | own y=>obtain⟨_,e⟩:=x;exact⟨_,e⟩
 | xd fs=>obtain⟨_,⟨_,_,_,e,_⟩,_⟩:=x;exact⟨_,e⟩
 | rng lo hi=>obtain⟨_,_,_,e⟩:=x;exact⟨_,e⟩
 | frz b u=>obtain⟨e,_⟩:=x;exact⟨_,e⟩
 | tbl q=>obtain⟨_,e,_⟩:=x;exact⟨_,e⟩
 | met f y=>exact⟨_,(x)⟩
 | ext φ=>obtain⟨_,⟨_,e⟩,_⟩:=x;exact⟨_,e⟩
structure Fly(P:Program)(w:World)(l:List Env)(ea:Addr)(C:Value)(H:Hp)(B h:Heap):Prop where
 fly:∃a0,Heap.FlyingW B l ea C a0 h
 hok:HOk P w H B
def Fly.stays(F:Fly P w l a C H B h):∀b o,B.get? b=some o->h.get? b=some o:=by
 obtain⟨a0,f⟩:=F.fly;exact f.1
def Fly.newE(F:Fly P w l a C H B h):B.get? a=none:=by
 obtain⟨a0,f⟩:=F.fly;exact f.2.1
def Fly.untr(F:Fly P w l a C H B h):H a=none:=by
 cases q:H a with
 | none=>rfl
 | some o=>
  obtain⟨ob,e⟩:=(F.hok a o q).there;rw[F.newE]at e;cases e
noncomputable def CXx(P:Js)(w:Jr):CXT:=λ outer H s E e s'=>∃(ea:Jn) (C:Jl) (H':Hp) (B:Jo),e=.ref ea/\s'.os=s.os/\AllBare s'.gens/\Un (frs outer) [] H H' s.heap s'.heap /\
 Fly P w outer ea C H' B s'.heap/\(∀b o,s.heap.get? b=some o->b∉frs outer->∃o',B.get? b=some o')/\E C none H'
def Un.flown{B:Jo}(u:Un fs ex H r g k)(cov:∀b o,g.get? b=some o->b∉fs->b∉ex->∃f,B.get? b=some f)(s1:∀b o,B.get? b=some o->k.get? b=some o)(m:∀b o,B.get? b=some o->h.get? b=some o)
  (w:k.UpToSlots h) (fd:∀b∈fs,b∉ex/\H b=none/\∀o,g.get? b=some o->∀v,o.data ≠ .fields v):Un fs ex H r g h:=by
 have keep:∀b o,g.get? b=some o->H b=none->b∉fs->b∉ex->h.get? b=some o:=λ b o e n a d=>by have l:=u.keep b o e n a d;obtain⟨f,q⟩:=cov b o e a d;have p:=s1 b f q;rw[l]at p;cases p;exact m b o q
 have c:∀b o,g.get? b=some o->H b=none->b∈fs->b∉ex->∃j,h.get? b=some {o with slots:=j}:=λ b o e n a d=>by obtain⟨j,l⟩:=u.slot b o e n a d;obtain⟨i,x⟩:=w b _ l ((fd b a).2.2 o e);exact⟨i,x⟩
 refine⟨keep,c,u.free,λ b o e d=>?_,u.tups,u.frzs,u.tbls⟩;by_cases a:b∈fs
 ·obtain⟨j,q⟩:=c b o e (fd b a).2.1 a d;exact⟨_,q⟩
 ·obtain⟨f,q⟩:=cov b o e a d;exact⟨f,m b f q⟩
def Inv.frameData(I:JI pins):∀b∈X.fs,b∉X.ex/\X.H₀ b=none/\∀o,X.s₀.heap.get? b=some o->∀f,o.data ≠ .fields f:=λ b a=>by
 refine⟨λ z=>I.ok.exfs b z a,I.ok.frf.1 b a,λ o e=>?_⟩;obtain⟨_,o',c,d⟩:=I.ok.funs.mem a
 rw[e]at c;cases c;exact d
def Inv.notStk(I:JI pins)(e:X.s₀.heap.get? b=some o)(a:b∉X.fs):b∉frs X.stack:=λ z=>by
 rcases j0.mp (I.stkSub b z)with q | q
 ·exact absurd (p9 (k8 e) I.ok.above) (by grind)
 ·exact a q
theorem Inv.flown(I:JI a)(F:Fly X.prog X.w l N C H B s.heap)(h:∀b o,X.s₀.heap.get? b=some o->b∉frs X.stack->b∉X.ex->∃g,B.get? b=some g)
  (y:∀p∈X.pn++a,∃g,B.get? p.1=some g) (st:∀b o,B.get? b=some o->h'.get? b=some o) (up:s.heap.UpToSlots h'):Inv X a σ H {s with heap:=h',toks:=t'}:=by
 have f:∀c v,s.heap.IsCell c v->h'.IsCell c v:=λ c v ⟨o,J,hd⟩=>by obtain⟨sl,q⟩:=up c o J (λ vs z=>by rw[hd]at z;cases z);exact⟨_,q,hd⟩
 refine⟨I.ok,I.os,I.bare,I.base.flown (λ b o e M E=>h b o e (I.notStk e M) E) F.stays st up I.frameData,?_,λ x c e=>?_,I.free,I.freeC,λ p w=>?_,F.hok.kept st,I.len⟩
 ·obtain⟨m,K,L⟩:=I.loc;refine⟨m,up.ns K,λ i x v Q P O=>?_⟩;obtain⟨u,r,l⟩:=L i x v Q P O;refine⟨u,r,?_⟩;rcases l with l | ⟨k,c,e,z⟩
  ·exact .inl l
  ·exact .inr ⟨k,c,e,f c _ z⟩
 ·obtain⟨v,z⟩:=I.cell x c e;exact⟨v,f c v z⟩
 ·obtain⟨e,n,ne,A,d⟩:=I.pin p w;obtain⟨g,q⟩:=y p w;have j:=F.stays _ _ q;rw[e]at j;cases j;exact⟨st _ _ q,n,ne,A,d⟩
section
variable {P:Js} {w:Jr} {K:Jw} {mg:Str->Jk Jl} {base:Jo} {N:on Str} {qual:Str} {scope:Jx} {f:Jn} {cd:Jl} {A:Ju} {outer:on Env} {s:Jm} {H:Hp} {E:XK}
abbrev cxX(P:Js)(w:Jr)(K:Jw)(mg:Str->Jk Jl)(base:Jo)(N:on Str)(qual:Str)(scope:Jx)(f:Jn)(cd:Jl)(A:Ju)(outer:on Env)(s:Jm)(H:Hp)(E:XK):Cx:=
 cxOf (CXx P w) P w K mg base N qual scope f cd A outer s H E
def FM(I:Inv JU i σ p s1)(x:Heap.MadeExcOf s1.heap h' n C vs)(L:E C none p) :
  (JU).xe (.ref n) {s1 with heap:=h'}:=by
 have j:=I.stack;have l:∀b o,(PySem.W.hideAll s1.heap (frs (JU).stack)).get? b=some o->s1.heap.get? b=some o:=λ b o q=>PySem.W.of_hideAll _ q;have k:∀b u,p b≠none->s1.heap.get? b=some u->(PySem.W.hideAll s1.heap (frs (JU).stack)).get? b=some u:=λ b u d q=>iF _ q λ z=>d (I.stkFree b z);refine A9 (wpAny_leaves_madeW (Q:=λ _ v=>∃g t,v = {s1 with heap:=g} /\ Heap.FlyingW (PySem.W.hideAll s1.heap (frs (JU).stack)) outer n C (.ref t) g/\h'.UpToSlots g) (E:=λ _ _=>False) (h:=s1.heap) I.ok.frames rfl l (PySem.W.funFrames_hide j (λ r F b d=>aP.mpr ⟨r,F,d⟩)) x λ g t m tup nt up=>⟨g,t,rfl,m,up⟩) (λ _ v ⟨g,t,O,m,up⟩=>?_) (λ _ _ q=>q.elim);subst O;have c:∀b o,s.heap.get? b=some o->b∉frs outer->∃B,(PySem.W.hideAll s1.heap (frs (JU).stack)).get? b=some B:=λ b o e d=>by obtain⟨y,M⟩:=I.base.there b o e (by intro z;exact nomatch z);exact⟨y,iF _ M (I.notStk e d)⟩
 refine⟨n,C,p,_,rfl,I.os,I.bare,I.base.flown (λ b o e d _=>c b o e d) l m.1 ((Heap.UpToSlots.of_keeps x.keeps).trans up) I.frameData,⟨⟨_,m⟩,λ a o q=>?_⟩,c,L⟩
 ·refine(I.hok a o q).stay (λ b u J e=>k b u ?_ e) (λ _ z=>z) (λ _ _ z=>z) (λ _ _ z=>z) λ _ _ _ _ _ z=>z;rcases J with z | z
  ·subst z;rw[q];intro z;cases z
  ·rw[z];intro z;cases z
def FN(I:Inv JU g σ i s1)(F:Fly P w (JU).stack h C i B s1.heap)
  (k:∀b o,s.heap.get? b=some o->b∉frs (JU).stack->∃m,B.get? b=some m) (n:E C none i):(JU).xe (.ref h) s1:=by
 obtain⟨u,p⟩:=F.fly;refine A9 (wpAny_leaves_onW (Q:=λ _ l=>∃d,l = {s1 with heap:=d} /\ Heap.FlyingW B outer h C u d/\s1.heap.UpToSlots d) (E:=λ _ _=>False) I.ok.frames rfl p λ d a up=>⟨d,rfl,a,up⟩) (λ _ l ⟨d,r,a,up⟩=>?_) (λ _ _ q=>q.elim);subst r;have c:=λ b o e j=>k b o e (I.notStk e j)
 exact⟨h,C,i,B,rfl,I.os,I.bare,I.base.flown (λ b o e j _=>c b o e j) F.stays a.1 up I.frameData,⟨⟨_,a⟩,F.hok⟩,c,n⟩
def FO:bh (CXx P w) JU E:=by
 intro h σ H0 s0 e s' I c;obtain⟨ea,C,H',B,rfl,i,a,un,F,g,k⟩:=c;refine FN (I.call' i un (F.hok.kept F.stays) a λ b d=>nomatch d) F (λ b o e d=>?_) k;obtain⟨j,l⟩:=I.base.there b o e (by intro z;exact nomatch z);exact g b j l d
end
noncomputable def excO(ea:Jn)(C:Jl):HO:=.ext λ h=>∃oe vs,h.get? ea=some oe/\oe.cls=C/\oe.data=.fields vs
def FP(x:∃a b,h.get? f=some a/\a.cls=C/\a.data=.fields b):u9 P w H h f (excO f C):=by
 refine⟨x,?_,λ h1 h2 p k=>?_⟩
 ·obtain⟨a,_,e,_⟩:=x;exact⟨a,e⟩
 ·obtain⟨a,b,e,c,d⟩:=p;exact⟨a,b,k a e,c,d⟩
def XP(X:Cx)(pins:on (Jn×Obj))(E:St->Jl->Hp->Prop)(e:Jl)(s':Jm):Prop:=∃(ea:Jn) (C:Jl) (σ':St) (H':Hp) (B:Jo),e=.ref ea/\Inv X pins σ' H' s'/\Fly X.prog X.w X.stack ea C H' B s'.heap /\
 (∀b o,X.s₀.heap.get? b=some o->b∉frs X.stack->b∉X.ex->∃o',B.get? b=some o')/\(∀p∈X.pn++pins,∃o',B.get? p.1=some o')/\E σ' C H'
abbrev Cx.tryIn(X:Cx)(pins:on (Jn×Obj))(E:St->Jl->Hp->Prop):Cx:={X with pn:=X.pn++pins,xe:=XP X pins E}
abbrev Cx.inExc(X:Cx)(ea:Jn):Cx:={X with A:=X.A.mark (some (.ref ea)),calm:=false,xe:=λ _ _=>False}
theorem Cx.Ok.tryIn{X:Cx}(k:X.Ok):(X.tryIn pins E).Ok:=⟨k.mod,k.kind,k.glob,k.blt,k.above,k.inj,k.has,k.cab,k.hd,k.frames,k.stk,k.exf,k.bs,k.bsz,k.noex,k.exfs,k.funs,k.frf⟩
def Cx.Ok.untry{X:Cx}(k:(X.tryIn pins E).Ok):X.Ok:=⟨k.mod,k.kind,k.glob,k.blt,k.above,k.inj,k.has,k.cab,k.hd,k.frames,k.stk,k.exf,k.bs,k.bsz,k.noex,k.exfs,k.funs,k.frf⟩
theorem Cx.Ok.inExc{X:Cx}(k:X.Ok):(X.inExc ea).Ok:=⟨k.mod,k.kind,k.glob,k.blt,k.above,k.inj,k.has,k.cab,nofun,k.frames,k.stk,k.exf,k.bs,k.bsz,k.noex,k.exfs,k.funs,k.frf⟩
theorem Inv.tryIn(I:JI (a++pins')):Inv (X.tryIn a E) pins' σ H s:=
 ⟨I.ok.tryIn,I.os,I.bare,I.base,I.loc,I.cell,I.free,I.freeC,λ p b=>I.pin p (by have b:=b;rw[N7]at b;exact b),I.hok,I.len⟩
theorem Inv.untry(I:Inv (X.tryIn pins E) pins' σ H s):Inv X (pins++pins') σ H s:=
 ⟨I.ok.untry,I.os,I.bare,I.base,I.loc,I.cell,I.free,I.freeC,λ p hp=>I.pin p (by grind),I.hok,I.len⟩
theorem Inv.inExc(I:JI a):Inv (X.inExc b) a σ H s:=⟨I.ok.inExc,I.os,I.bare,I.base,I.loc,I.cell,I.free,I.freeC,I.pin,I.hok,I.len⟩
def Inv.unExc(I:Inv (X.inExc b) a σ H s)(k:X.Ok):Inv X a σ H s:=⟨k,I.os,I.bare,I.base,I.loc,I.cell,I.free,I.freeC,I.pin,I.hok,I.len⟩
def gP(I:JI g)(hN:X.N.Nodup)(O:X.N[i]? = some x)(l:X.env.scope.names.lookup x=some .local)
  (h:∀N,Inv X g (σ.set i none) H N->Q () N):wpAny M A (do bindName X.env x .none;unbindBehindTheSuite X.env x pos) Q EE s:=by
 obtain⟨m,hn,hl⟩:=id I.loc;have w:(X.env.scope.kind == .class||(X.env.scope.kind == .module&&X.env.locals != X.env.globals))=false:=by rw[I.ok.kind];rfl
 have u:i<σ.length:=by rw[I.len];exact(w6.mp O).1
 have cne:=I.cne;have a:∀{C:Jo},Heap.SameBut X.env.locals s.heap C->HOk X.prog X.w H C:=λ {C} f b W e=>by
  refine(I.hok b W e).stay (λ c L B q=>(f.2 c ?_).trans q) (λ _ q=>q) (λ _ _ q=>q) (λ _ _ q=>q) λ _ _ _ _ _ q=>q
  rintro rfl
  rcases B with rfl | B
  ·rw[I.free]at e;cases e
  ·rw[I.free]at B;cases B
 refine wpAny_nameGoes_keeps l hn w λ C v F f=>?_;refine h _ ⟨I.ok,I.os,I.bare,⟨λ b o e n K l=>?_,λ b o e n K l=>?_,I.base.free,λ b o e l=>?_,I.base.tups,I.base.frzs,I.base.tbls⟩,⟨_,F,λ j y P r E e3=>?_⟩,λ y c e=>?_,I.free,I.freeC,λ p hp=>?_,a f,by simpa using I.len⟩
 ·exact(f.2 b (o9 (p9 (k8 e) I.ok.above))).trans (I.base.keep b o e n K l)
 ·obtain⟨S,r⟩:=I.base.slot b o e n K l;exact⟨S,(f.2 b (o9 (p9 (k8 e) I.ok.above))).trans r⟩
 ·obtain⟨Y,r⟩:=I.base.there b o e l;exact⟨Y,(f.2 b (o9 (p9 (k8 e) I.ok.above))).trans r⟩
 ·by_cases J:j=i
  ·subst J;rw[J8 u]at E;cases E
  ·rw[v6 (Ne.symm J)]at E;obtain⟨R,U,q⟩:=hl j y P r E e3;refine⟨R,U,?_⟩;rcases q with⟨k,e⟩ | ⟨k,c,e,z⟩
   ·refine .inl ⟨k,?_⟩;have:y≠x:=λ e=>J (fC hN r (e▸O));simp[this,e]
   ·exact .inr ⟨k,c,e,z.sameBut f (cne y c e)⟩
 ·obtain⟨L,z⟩:=I.cell y c e;exact⟨L,z.sameBut f (cne y c e)⟩
 ·obtain⟨e,n,ne,Z,d⟩:=I.pin p hp;exact⟨(f.2 p.1 ne).trans e,n,ne,Z,d⟩
def Y5(CX:CXT)(X:Cx)(E:St->XK):Prop:=∀(pins:on (Jn×Obj)) (σ:St) (H:Hp) (s:Jm) (e:Jl) (s':Jm),Inv X pins σ H s->CX X.stack H s (E σ) e s'->X.xe e s'
theorem bh.s{CX:CXT}{X:Cx}{E:XK}(h:bh CX X E):Y5 CX X λ _=>E:=λ pins σ H s e s' I q=>h pins σ H s e s' I q
def FQ{X:Cx}:Y5 (CXx X.prog X.w) (X.tryIn a E) (λ g C _ H=>E g C H):=by
 intro h g H0 s0 e s' I j;obtain⟨v,C,y,B,rfl,l,f,un,F,c,u⟩:=j;have x:=I.call' l un (F.hok.kept F.stays) f λ b k=>nomatch k
 have J:=x.untry;refine⟨v,C,g,y,B,rfl,J.pins_of λ p i=>J.pin p (x9 _ (C6 _ i)),F,λ b o e k r=>?_,λ p i=>?_,u⟩
 ·obtain⟨m,w⟩:=I.base.there b o e r;exact c b m w k
 ·obtain⟨e,n,ne,q,d⟩:=I.pin p (C6 _ i);exact c p.1 p.2 e λ z=>(j0.mp (I.stkSub _ z)).elim ne q
section
variable {X:Cx} {CX:CXT} {k:Nat} {f C:Jn} {fd:FuncData} {ps:on Str} {sp:Sp} {dvs:on V} {ds:on Jl} {E:St->XK} {x m:Str} {p pos apos:Pos} {e o:Jp} {es:on Jp} {ta:TE} {t:TA}
def FR(F:FnOk X.prog X.w X.K X.mg X.base CX k f fd ps sp)(j:Room k X.A)(n:P8 X.K fd ps ds)(m:Vals dvs ds)(i:Y5 CX X E)
  (I:JI a) (r:Vals vs b) (h:sp (vs++dvs) H Q (E σ)):wpAny JG X.A (call (.ref f) b) (EP X a σ Q) X.xe s:=by
 have d:=r.append m;have l:(b++ds).length=ps.length:=by rw[←d.length];exact F.len _ _ _ _ h
 refine cM (R6 (F.run X.A X.stack s H ⟨b,[]⟩ _ _ Q (E σ) j I.env0 (n s b I.kIn l) d h) λ r g c=>?_);cases r with
 | error e=>exact i a σ H s e g I c
 | ok o=>
  cases o with
  | ret u=>exact I.after c
  | next=>exact False.elim c
  | brk=>exact False.elim c
  | cont=>exact False.elim c
noncomputable def FT(sp:Sp)(dvs:on V)(E:St->XK)(t:TA):TE:=λ σ H Q=>t σ H λ vs H1=>sp (vs++dvs) H1 Q (E σ)
def FU(F:FnOk X.prog X.w X.K X.mg X.base CX k f fd ps sp)(j:Room k X.A)(n:Gl X x)(l:X.mg x=some (.ref f))(m:PySem.W.keepIn X.K (.ref f)=true)(v:P8 X.K fd ps ds)(u:Vals dvs ds)(i:Y5 CX X E)
  (w:PA X (e::es) t) (c:(x==("__debug__" : Str))=false:=by decide) (o:starEach (e::es) X.env=(false,eval e X.env)::starEach es X.env:=by rfl) (b:(backTo pos (starEach es X.env)).any (·.1)=false:=by rfl) :
  PE X (.Call (.Name x p) (e::es) [] pos) (FT sp dvs E t):=by
 intro a s g H Q I h;refine aQ (cQ I n l ?_ c);refine PySem.W.callWith_K I.ok.mod.kin m (thn (w pos a s g H _ I h) λ us s1 ⟨vs,H1,d,r,q⟩=>⟨d.kIn,?_⟩) o b;exact FR F j v u i d r q
end
def tTry(K:Jw)(cv:Jl)(i:Nat)(tb:(St->Jl->Hp->Prop)->TS)(ts:TS):TS:=λ D σ H=>
 tb (λ σ' C H'=>PySem.W.exmOne K C cv=some true/\∀ea,H' ea=none->ts {nx:=λ σ2 H2=>D.nx (σ2.set i none) H2,rt:=D.rt,bk:=λ σ2 H2=>D.bk (σ2.set i none) H2,ct:=λ σ2 H2=>D.ct (σ2.set i none) H2} (σ'.set i (some (.ref ea))) (upd H' ea (excO ea C))) D σ H
def FV{X:Cx}{body suite:on Jv}{b₀:Jv}{c n:Str}{np hpos pos:Pos}{i:Nat}{tb:(St->Jl->Hp->Prop)->TS}{ts:TS}{cv:Jl}(hst:X.stack=X.env::X.outer)(hfr:X.env.frame=some X.env.locals)(hex:X.ex=[])(hgl:Gl X c)(hm:X.mg c=some cv)
  (hN:X.N.Nodup) (hi:X.N[i]? = some n) (hl:X.env.scope.names.lookup n=some .local) (hb:∀pins E,PSs (X.tryIn pins E) body (tb E)) (hs:∀ea,PSs (X.inExc ea) (b₀::suite) ts) (hd:(c==("__debug__" : Str))=false:=by decide) :
  PS X (.Try body [.ExceptHandler (some (.Name c np)) (some n) (b₀::suite) hpos] [] [] pos) (tTry X.K cv i tb ts):=by
 intro pins s σ H D I h;refine wpAny_Try_except ?_;have un:∀{σ1:St} {H1:Hp} {s1:Jm} {E:St->Jl->Hp->Prop},Inv (X.tryIn pins E) [] σ1 H1 s1->Inv X pins σ1 H1 s1:=λ {σ1 H1 s1 E} J=>by have q:=J.untry;rw[C8]at q;exact q
 refine A9 (hb pins _ [] s σ H D (Inv.tryIn (pins':=[]) (by rw[C8];exact I)) h) (λ f s1 q=>?_) (λ e s1 q=>?_)
 ·cases f with
  | next=>obtain⟨σ1,H1,I1,q1⟩:=q;exact cB ⟨σ1,H1,un I1,q1⟩
  | brk=>obtain⟨σ1,H1,I1,q1⟩:=q;exact⟨σ1,H1,un I1,q1⟩
  | cont=>obtain⟨σ1,H1,I1,q1⟩:=q;exact⟨σ1,H1,un I1,q1⟩
  | ret u=>obtain⟨v,σ1,H1,I1,r1,q1⟩:=q;exact⟨v,σ1,H1,un I1,r1,q1⟩
 ·obtain⟨ea,C,σ1,H1,B,rfl,I1,F,cov,pc,hE,hsuite⟩:=q;obtain⟨a0,fl⟩:=F.fly;have fl':Heap.FlyingW B (X.env::X.outer) ea C a0 s1.heap:=by rw[←hst];exact fl
  refine wpAny_looks_onW (by rw[←hst];exact I1.ok.frames) hfr fl' λ h4 held up4=>?_;refine wpAny_landsW held λ h5 fl5 up5=>?_;have up:=up4.trans up5;have I5:Inv X pins σ1 H1 {s1 with heap:=h5}:=I1.flown (t':=s1.toks) F cov pc fl5.1 up;have J5:Inv (X.inExc ea) pins σ1 H1 {s1 with heap:=h5}:=I5.inExc;obtain⟨oe,ws,hoe,hoec,hoed,hoe0⟩:=fl5.first
  refine wpAny_handleBy_cons (codeAny_handlers_test ?_) (by intro q;cases q);refine cQ J5 hgl hm ?_ hd;have LT:PySem.W.Looks JG h5 (typeOf (.ref ea)) C:=hoec▸(PySem.W.Looks.ld hoe).andThen .now;refine(PySem.W.exm_one (M:=model X.prog X.w) (K:=X.K) (h:=h5) J5.kIn LT hE).here ?_;show codeAny _ _ (.handlers (.ref ea) [.ExceptHandler none (some n) (b₀::suite) hpos] X.env) _ _;refine codeAny_handlers_suite_as ?_;refine lands_againW fl5 λ h6 fl6 up6=>?_;have I6:Inv X pins σ1 H1 {s1 with heap:=h6}:=I1.flown (t':=s1.toks) F cov pc fl6.1 (up.trans up6);obtain⟨oe6,ws6,hoe6,hoec6,hoed6,_⟩:=fl6.first
  have hn:H1 ea=none:=F.untr;have h0:X.s₀.heap.get? ea=none:=by
   cases q:X.s₀.heap.get? ea with
   | none=>rfl
   | some o=>
    exfalso;by_cases hf:ea∈frs X.stack
    ·obtain⟨_,o',e',d⟩:=I6.stack.mem hf;have e'':h6.get? ea=some o':=e';rw[hoe6]at e'';cases e'';exact d _ hoed6
    ·obtain⟨o',z⟩:=cov ea o q hf (by rw[hex];intro z;exact nomatch z);rw[F.newE]at z;cases z
  have hL:ea≠X.env.locals:=λ z=>by
   obtain⟨m,⟨o,es,ep,ho,hdd,_⟩,_⟩:=I6.loc;have ho':h6.get? ea=some o:=by rw[z];exact ho
   rw[hoe6]at ho';cases ho';rw[hoed6]at hdd;cases hdd
  have hc:∀x c,X.env.cells.lookup x=some c->c≠ea:=λ x c e z=>by
   obtain⟨v,o,ho,hdd⟩:=I6.cell x c e;have ho':h6.get? ea=some o:=by rw[←z];exact ho
   rw[hoe6]at ho';cases ho';rw[hoed6]at hdd;cases hdd
  have hp:∀p∈X.pn++pins,p.1≠ea:=λ p hp z=>by obtain⟨o',q⟩:=pc p hp;rw[z,F.newE]at q;cases q
  have J6:Inv (X.inExc ea) pins σ1 (upd H1 ea (excO ea C)) {s1 with heap:=h6}:=(I6.track hn h0 hL hc hp (FP ⟨oe6,ws6,hoe6,hoec6,hoed6⟩)).inExc;refine cP (X:=X.inExc ea) (i:=i) (v:=.ref ea) J6 hN hi (Or.inl hl) rfl (λ s7 I7=>?_) (.inr hl);refine A9 (hs ea pins s7 _ _ _ I7 (hsuite ea hn)) (λ f s8 q=>?_) λ _ _ z=>z.elim;cases f with
  | next=>obtain⟨σ8,H8,I8,q8⟩:=q;exact gP (I8.unExc I.ok) hN hi hl λ s9 I9=>⟨_,H8,I9,q8⟩
  | brk=>obtain⟨σ8,H8,I8,q8⟩:=q;exact gP (I8.unExc I.ok) hN hi hl λ s9 I9=>⟨_,H8,I9,q8⟩
  | cont=>obtain⟨σ8,H8,I8,q8⟩:=q;exact gP (I8.unExc I.ok) hN hi hl λ s9 I9=>⟨_,H8,I9,q8⟩
  | ret u=>obtain⟨v,σ8,H8,I8,r8,q8⟩:=q;exact gP (I8.unExc I.ok) hN hi hl λ s9 I9=>⟨v,_,H8,I9,r8,q8⟩
def lL(K:Jw)(C:Jn):Prop:=∃B newId initId bmB,ExcBaseFacts B newId initId bmB/\∃bm ns nm qn bs hd sn sub ab col dd k0 k1 k2 k3 k5,K.lookup C=some ⟨.type "type",dd,.cls ⟨nm,bs,.ref C::bm,ns,qn,hd,sn,sub,ab,col,false⟩,#[k0,k1,k2,k3,some (.builtin newId),k5]⟩/\PySem.W.nsOkIn K ns=true/\PySem.W.nsIn K ns "__init__" = some none/\PySem.W.tailIn K bmB bm=true
def lM(X:Cx)(E:St->XK):Prop:=∀(pins:on (Jn×Obj)) (σ:St) (H:Hp) (s:Jm) (h':Jo) (ea:Jn) (C:Jl) (vs:on Jl),Inv X pins σ H s->Heap.MadeExcOf s.heap h' ea C vs->E σ C none H->X.xe (.ref ea) {s with heap:=h'}
def FW{K:Jw} :
  lM (cxX P w K mg base N a scope f cd A outer s H E) λ _=>E:=λ b σ H1 s1 h' ea C vs I c d=>FM I c d
noncomputable def FX(C:Jn)(E:St->XK)(t:TA):TS:=λ _ σ H=>t σ H λ vs H1=>vs.length<=sizeLine/\E σ (.ref C) none H1
def FY{rest:on Jp}(R:lL X.K C)(U:X.calm=true)(S:Gl X x)(P:X.mg x=some (.ref C))
  (Y:lM X E) (W:PA X (a::rest) t) (hd:(x==("__debug__" : Str))=false:=by decide) (r:starEach (a::rest) X.env=(false,eval a X.env)::starEach rest X.env:=by rfl) (l:(backTo b (starEach rest X.env)).any (·.1)=false:=by rfl) :
  PS X (.Raise (some (.Call (.Name x np) (a::rest) [] b)) none pos) (FX C E t):=by
 intro c s o H D I h;obtain⟨B,k,i,bmB,u,tl,N,z,q,bs,g,w,sub,ab,col,dd,L,K,J,F,A,O,f,m,M⟩:=R;have T:=PySem.W.tail_of_in I.mod.kin M;have Z:=Heap.Ns.of_isNs (PySem.W.isNs_of_in I.mod.kin f);refine wpAny_Raise_call_subT (C:=C) (nm:=z) (q:=q) (N:=N) (bs:=bs) (hdct:=g) (sn:=w) (sub:=sub) (ab:=ab) (col:=col) (dd:=dd) (k0:=L) (k1:=K) (k2:=J) (k3:=F) (k5:=A)
  u (T.hasType u.hasBase) (I.ok.hd U) (by rw[r];show(false||(backTo b (starEach rest X.env)).any (·.1))=false;rw[l];rfl) (PySem.W.nsMap_none_of_in I.mod.kin f m) (cQ I S P ⟨rfl,?_⟩ hd)
 have p:=W b c s o H _ I h;rw[r]at p ⊢;exact Calls.evalArgs_plain (thn p λ v d ⟨xs,H2,j,y,Q,hE⟩=>⟨rfl,by show v.length<=sizeLine;rw[←y.length];exact Q,j.bk _ _ (I.mod.kin _ _ O),Z.keeps j.bk,T.keeps j.bk,λ h' e n=>Y c o H2 d h' e _ _ j n hE⟩)
def FunD.okXx{K:Jw}{st:Jv}(F:FunD K x a st f fd)(S:FnScope N ps (t8 st))(len:∀vs H Q E,d vs H Q E->vs.length=ps.length)
  (c:∀(b:Jl),fd.code=b->∀(A:Ju) (outer:on Env) (s:Jm) (H:Hp) (vs:on V) (Q:VK) (E:XK),Room k (A.deeper (envOfC a (t8 st) s.heap.objs.size f b))->d vs H Q E ->
   ∃t,PSs (cxX P w K mg base N a (t8 st) f b A outer s H E) (G9 st) t/\t {nx:=λ _ m=>Q .non m,rt:=Q} (start N vs) H):FnOk P w K mg base (CXx P w) (k+1) f fd ps d:=by
 obtain⟨oc,od,dV,kV,l,pm,an,b,ct,h,rfl,i,g⟩:=F.ex;exact oQ i g S len λ A outer s H vs Q E j e=>c b rfl A outer s H vs Q E j e
open PySem.W PySem.Builtin PySem.Builtin.ObjectAttr PySem.Builtin.Getset_descriptor
def Y6(x D:Jn)(h:Jo):Prop:=∃o,h.get? x=some o/\o.cls=.ref D
section
variable {prog:Js} {w:Jr} {K:Frag} {x D:Jn} {M:Model} {h:Jo}
def Y6.ty(p:Y6 x D h):Looks M h (typeOf (.ref x)) (.ref D):=by
 obtain⟨o,e,c⟩:=p;exact c▸(Looks.ld e).andThen .now
def FZ(X:K.In h)(d:findIn K (.ref D) n=some (some a))(c:specialIn K a "__get__" = some (some g))(b:takesIn K a=some true):Looks M h (find (.ref x) (.ref D) n) (.bind g a):=by
 have T:Looks M h (dataDescriptor? (some a) (some g)) _:=(looks_takesIn X b).andThen .now;exact(looks_findIn X d).andThen ((looks_specialIn X c).andThen (T.andThen (Looks.tag .now)))
structure ClsK(K:Frag)(D:Addr):Prop where
 ga:findIn K (.ref D) "__getattribute__" = some (some (.builtin "BaseException.__getattribute__"))
 gt:findIn K (.ref D) "__getattr__" = some none
 mb:mroIn K D (.type "BaseException")=some true
 hd:hasDictIn K D=true
 fc:findIn K (.ref D) "__class__" = some (some (.builtin "object.__class__"))
 sg:specialIn K (.builtin "object.__class__") "__get__" = some (some (.builtin "getset_descriptor.__get__"))
 tk:takesIn K (.builtin "object.__class__")=some true
 mo:mroIn K D (.type "object")=some true
def Ga(X:K.In s.heap)(p:Y6 x D s.heap)(b:mroIn K D (.type "object")=some true)(q:R (.ok (.ret (.ref D))) s) :
  codeAny JH A (.call (.builtin "getset_descriptor.__get__") ⟨[.builtin "object.__class__",.ref x,a],[]⟩) R s:=by
 obtain⟨h0,g0,d0,t0,o0⟩:=s;have T0:=p.ty (M:=model prog w);have T1:=looks_mroIn (M:=model prog w) X b;refine iE KF.slot_gs.plain KF.entry_gs (KF.slot_gs.check _ _ _ _ _ _ _ _ KF.type_class (KF.args_gs _ _ _) ?_);unfold Builtin.«getset_descriptor.__get__»;unfold descrGet;rw[dga_obj];refine f0 (g7 ?_);unfold descrGetter;unfold descrCheckInstance;unfold descrNameAndClass;unfold isInstance;simp only[KF.owner_class]
 repeat lk
 refine⟨Code.quiet_builtin _ (by decide +kernel),R5 KF.entry_class ?_⟩;unfold Builtin.«object.__class__»;unfold shownTypeOf
 repeat lk
 exact q
def Gb(C:ClsK K D)(X:K.In s.heap)(p:Y6 x D s.heap)(q:Q () s):wpAny JH A (checkBuiltinCall "BaseException.__getattribute__" ⟨[.ref x,nm],[]⟩) Q E s:=by
 obtain⟨h0,g0,d0,t0,o0⟩:=s;have b:builtinKind "BaseException.__getattribute__" = some .slot:=by decide +kernel
 have a:splitId "BaseException.__getattribute__" = some ("BaseException","__getattribute__"):=by decide +kernel
 have c:=looks_mroIn (M:=model prog w) X C.mb;have ha:=F.args_bexc_ga (.ref x) nm;simp[checkBuiltinCall,b,a];refine f0 (((p.ty).andThen c).at ?_)
 repeat (any_goals (first | assumption | wp_step))
def Gc(C:ClsK K D)(X:K.In s.heap)(p:Y6 x D s.heap)(q:Q (.done (.ret (.ref D))) s):wpAny JH A (Builtin.«object.__getattribute__» ⟨[.ref x,.str "__class__" tk],[]⟩) Q E s:=by
 obtain⟨h0,g0,d0,t0,o0⟩:=s;unfold Builtin.«object.__getattribute__»
 repeat (any_goals (first | assumption | with_reducible refine (p.ty).at ?_ | with_reducible refine (FZ X C.fc C.sg C.tk).at ?_ | wp_step))
 refine Ga X p C.mo ?_
 repeat (any_goals (first | assumption | wp_step))
def Ge(C:ClsK K D)(X:K.In s.heap)(p:Y6 x D s.heap)(q:Q (some (.ref D)) {s with toks:=s.toks+1}):wpAny JH A (getAttr? (.ref x) "__class__") Q E s:=by
 obtain⟨h0,g0,d0,t0,o0⟩:=s;have f3:=F.attr_ValueError.ga.bind (.ref x);unfold getAttr?;unfold getAttrBy?;unfold getAttrBy;refine f0 (js (f0 (U4 (F4 (f0 ((p.ty).at (f0 ((looks_findIn X C.ga).at ?_))))))));dsimp only;have ne:(onTheHeap (Value.ref D)&&Value.builtin "BaseException.__getattribute__" == Value.builtin "object.__getattribute__")=false:=(by rw[show(Value.builtin "BaseException.__getattribute__" == Value.builtin "object.__getattribute__")=false by decide +kernel,jc]);rw[g9 (by grind)];unfold getAttrByItsOwn;unfold hookBefore;rw[f8 (show onTheHeap _=true from rfl)];refine f0 ((looks_findIn X C.gt).at ?_);refine f0 (U4 (F4 ?_));unfold callGetattribute;rw[g9 JD]
 repeat (any_goals (first | assumption | wp_step))
 refine iE F.attr_ValueError.ga.plain F.entry_bexc_ga (Gb C X p (Gc C X p ?_));exact handed_on rfl (g7 q)
def Gf(C:ClsK K D):KitX K (.ref x) (.ref D) (Y6 x D) where
 ty:=λ _ _ _ p=>p.ty
 it:=λ M h X _=>by
  obtain⟨i,e,_⟩:=any_some C.hd;unfold clsIn at e;split at e
  ·rename_i a;intro A1 Q1 E1 s1 c b;unfold isType;unfold loadHead;exact f0 (wpAny_loadPart (c _ _ (X _ _ a)) (g7 b))
  ·cases e
 ne:=λ h tp dd d n sl X f=>by
  obtain⟨i,e,_⟩:=any_some C.hd;rw[iQ];intro z;have g:=Value.ref.inj (i5.mp z);subst g;unfold clsIn at e;split at e
  ·rename_i a;cases(X _ _ a).symm.trans f
  ·cases e
 ca:=λ X p k=>Ge C X p k
def Gg(C:ClsK K D)(X:K.In s.heap)(p:Y6 x D s.heap)(e:kitOne K (.ref D) c=some b)(q:∀a,Q (.bool b) {s with toks:=a}):wpAny JH A (call (.builtin "isinstance") [.ref x,c]) Q E s:=
 kia_one (Gf C) X p e nofun q
end
def spX(D:Dm)(C:Jl)(n:Nat)(f:on DV->Jk Ou):Sp:=λ vs H Q E=>∃O ds o,Hdn O H/\ds.length=n/\RepL D (L2.wo O H) ds vs/\f ds=some o/\∀H',Same H H'->E C none H'
def GX(sg:Sg)(F:Nat->on DV->Jk Ou)(X:Cx)(C:Jl):Prop:=∀f x,sg.fn[f]? = some x->∃k fa fd ps,Room k X.A/\X.mg x=some (.ref fa)/\PySem.W.keepIn X.K (.ref fa)=true/\P8 X.K fd ps []/\(∀ds o,F (rxIx+f) ds=some o->ds.length=ps.length) /\
  FnOk X.prog X.w X.K X.mg X.base (CXx X.prog X.w) k fa fd ps (spX X.D C ps.length (F (rxIx+f)))
def tX(D:Dm)(C:Jl)(E:St->XK)(δ:on Sv)(σ:St)(H:Hp):Prop:=(∃O W,RSt D H σ δ O W)/\∀H',Same H H'->E σ C none H'
def tX.up(h:tX D C E δ σ H)(s:Same H a):tX D C E δ σ a:=⟨let ⟨O,W,R⟩:=h.1;⟨O,W,R.mono s⟩,λ b z=>h.2 b (s.trans z)⟩
section
variable {sg:Sg} {G:Gs} {F:Nat->on DV->Jk Ou} {X:Cx} {C:Jl} {E:St->XK} {δ:on Sv} {e:Jp} {m:ME}
def Gh:PE X e λ _ _ _=>False:=λ _ _ _ _ _ _ h=>h.elim
def gQ:PSs X l λ _ _ _=>False:=λ _ _ _ _ _ _ h=>h.elim
theorem tK:∀{es:on Jp},es.any t9=false->(backTo pos (starEach es X.env)).any (·.1)=false
 | [],_=>rfl
 | y::ys,q=>by rw[G1,N6]at q;rw[z9 q.1];show(false||(backTo pos _).any (·.1))=false;rw[tK q.2];rfl
def lN(g:Good sg G F X)(K:GX sg F X C)(v:Y5 (CXx X.prog X.w) X E)(b:corE sg false m e=true)(h:rxC G F m δ=true):PE X e λ c H _=>tX X.D C E δ c H:=by
 cases m with
 | call f i=>
  refine L6 b λ ef M u b=>?_;rw[f9,f9]at b;obtain⟨⟨a,J⟩,n⟩:=b;refine F6 a λ x p a=>?_;simp only[f9,i5,ak,ne_eq]at a;obtain⟨k,fa,fd,ps,w,z,B,I,A,fo⟩:=K f x a.1.1;cases M with
  | nil=>cases J
  | cons y ys=>
   have d:=Y4 n;rw[G1,N6]at d
   replace h:(match evEs G F i δ with | some (.ok l)=>(F _ _).isSome | none=>false)=true:=h
   cases q:evEs G F i δ with
   | none=>rw[q]at h;cases h
   | some r=>
    rw[q]at h;obtain⟨l⟩:=r;obtain⟨o,j⟩:=V7.mp h;refine(FU fo w (g.glo x a.1.2) z B I .nil v (sndL i g n q) (y9.mpr a.2) (z9 d.1) (tK d.2)).weak λ c H Q ⟨⟨O,W,R⟩,p⟩=>⟨O,W,R,λ vs N s1 L=>?_⟩
    have hd:=R.hid.mono s1;show spX X.D C ps.length _ _ N Q (E c);rw[C8];exact⟨O,_,_,hd.hdO,A _ _ j,L.repL hd,j,λ P s=>p P (s1.trans s)⟩
 | _=>cases h
def Gi(g:Good sg G F X)(r:GX sg F X C)(j:Y5 (CXx X.prog X.w) X E)(c:corE sg true (.itm b) it=true)(ht:(L7 a).isSome=true)(h:rxC G F b δ=true):PI X a it λ d H _=>tX X.D C E δ d H:=by
 refine di (J9.mp c).2 λ ef i c=>?_;refine bx c λ ob n f c=>?_;simp only[f9]at c;obtain⟨⟨⟨q,p⟩,o⟩,m⟩:=c;have l:=i5.mp q;subst l;cases q4:L7 a with
 | none=>rw[q4]at ht;cases ht
 | some e=>
  obtain⟨k,tp,rfl⟩:=gr q4;exact(sY (lN g r j p h) (tF m) o).weak λ d H R z=>z
def x_e(g:Good sg G F X)(o:GX sg F X C)(n:Y5 (CXx X.prog X.w) X E)(j:corE sg false m e=true)(h:rxE G F m δ=true):PE X e λ l H _=>tX X.D C E δ l H:=by
 cases m with
 | call f ms=>exact lN g o n j h
 | comp a q b fr=>
  cases b with
  | itm b=>
   refine dr j λ A p j=>?_;simp only[f9,u5,B5]at j;obtain⟨⟨⟨x,v,u⟩,r⟩,d⟩:=j;obtain⟨tn,_,d⟩:=A3 d;simp only[f9]at d;have ht:(L7 A.tg).isSome=true:=by
    rcases u with w | w
    ·cases w
    ·exact w
   exact(pE (g:=gT X.K q) (bM g d.1.1).1 g.calm (Gi g o n v ht h) (λ C c i k y=>bP (Y3 g d.1.1 C c i k y) d.1.2) (λ _ _ _ _ _=>by rw[(List.isEmpty_iff.mp x)];exact pC) (λ _ _ _ _ _=>Gh) (gM r)).weak λ l H Q z=>z
  | _=>cases h
 | _=>cases h
def x_ss(g:Good sg G F X)(B:GX sg F X (.ref c))(A:Y5 (CXx X.prog X.w) X E)(Y:sg.top=true->lM X E)(S:X.mg "TooGreat" = some (.ref c))(U:lL X.K c):∀{n:Nat} {o:on MS} {l:on Jv},C5 sg o l=true->rxS G F n o δ=true->PSs X l λ _ p H=>tX X.D (.ref c) E δ p H:=by
 have j:∀{m:MS} {o:on MS} {l:on Jv},C5 sg (m::o) l=true->rxF G F m δ=true->PSs X l λ _ p H=>tX X.D (.ref c) E δ p H:=λ {m o l} f h=>by
  have N:lJ m=false:=by cases m<;>first | rfl | cases h
  obtain⟨L,r,rfl,u,_⟩:=lK N f;refine(U9 (t:=λ _ p H=>tX X.D (.ref c) E δ p H) ?_ gQ).weak λ _ _ _ z=>z
  cases m with
  | exp e=>
   refine dh u λ _ _ f=>?_;simp only[f9,u5]at f;exact(cR (x_e g B A f.1 h) (bK f.2)).weak λ _ _ _ z=>z
  | set i M e=>
   refine bB u λ t v y f=>?_;refine F6 f λ x pt f=>?_;simp only[f9,i5,B5,u5]at f;obtain⟨⟨⟨u,h2⟩,h3⟩,w⟩:=f;have l:=g.loc x h2;have Z:X.N[i]? = some x:=by rw[g.N];exact u
   have hv:S7 v=false:=by
    rcases w with w | w
    ·exact w
    ·cases e<;>first | (cases w;done) | cases h
   exact(cU g.nd Z l.1 (lN g B A h3 h) (bK hv) l.2).weak λ _ _ _ z=>z
  | ret e=>exact gq u λ _ _ f=>(bg (x_e g B A f h)).weak λ _ _ _ z=>z
  | rse x e=>
   refine AY u λ v y f=>?_;refine gn f λ ef ea K f=>?_;simp only[f9,u5,i5,ak,ne_eq]at f
   replace h:(x==("TooGreat" : Str)&&(JO e).isSome)=true:=h
   rw[f9,i5]at h;obtain⟨rfl,h⟩:=h;obtain⟨⟨d,cl⟩,Q⟩:=V7.mp h;obtain⟨np,rfl⟩:=V2 f.1.1.1.1.2;refine(FY U g.calm (g.glo _ f.1.1.1.2) S (Y f.1.1.1.1.1) (M7 ((snd e).1 g f.1.2 Q) S5 (z9 f.2)) (y9.mpr f.1.1.2) (z9 f.2) rfl).weak λ _ p H z=>?_
   obtain⟨O,W,R⟩:=z.1;exact⟨O,W,R,λ v I s1 _=>⟨by show 1<=sizeLine;decide,z.2 I s1⟩⟩
  | _=>cases h
 intro n
 induction n with
 | zero=>
  intro o l f h;cases o with
  | nil=>cases h
  | cons m o=>exact j f h
 | succ n J=>
  intro o l f h;cases o with
  | nil=>cases h
  | cons m o=>
   cases m with
   | iff C a b=>
    obtain⟨L,r,rfl,u,_⟩:=lK rfl f;refine(U9 (t:=λ _ p H=>tX X.D (.ref c) E δ p H) ?_ gQ).weak λ _ _ _ z=>z
    refine qC u λ _ _ _ _ f=>?_;simp only[f9]at f
    replace h:(match tstD (JO C)with | some (.ok k)=>rxS G F n _ δ | none=>false)=true:=h
    cases q:tstD (JO C)with
    | none=>rw[q]at h;cases h
    | some r=>
     rw[q]at h;obtain⟨k⟩:=r;have P:=(snd C).2.1 g f.1.1 q;cases k with
     | true=>
      refine(cS P (J f.1.2 h) (gQ)).weak λ _ p H z=>?_;obtain⟨O,W,R⟩:=z.1;exact⟨O,W,R,λ I s1=>z.up s1⟩
     | false=>
      refine(cS P gQ (J f.2 h)).weak λ _ p H z=>?_;obtain⟨O,W,R⟩:=z.1;exact⟨O,W,R,λ I s1=>z.up s1⟩
   | exp _=>exact j f h
   | ret _=>exact j f h
   | set _ _ _=>exact j f h
   | rse _ _=>exact j f h
   | _=>cases h
def rIsx(X:Cx):on V->Hp->VK->Prop:=λ xs H Q=>∃(a C:Jn) (y:V) (c:Jl) (b:Bool),xs=[.ref a,y]/\H a=some (excO a (.ref C))/\ClsK X.K C/\((∃Ct,y=.ref Ct/\c=.ref Ct)\/∃n,y=.ty n/\c=.type n)/\PySem.W.kitOne X.K (.ref C) c=some b/\Q (.bl b) H
def Gj:C9 X (.builtin "isinstance") (rIsx X):=by
 intro e s σ H xs us Q I r h;obtain⟨a,C,y,c,b,rfl,v,ck,k,m,q⟩:=h;obtain⟨u,f,rfl,i,d⟩:=ap r;cases(i);obtain⟨⟨j,vs,p,o,_⟩,_⟩:=(I.hok a _ v);have l:f=c:=by
  rcases k with⟨Ct,rfl,rfl⟩ | ⟨n,rfl,rfl⟩
  ·exact d
  ·exact d
 subst l;exact Gg ck I.kIn ⟨j,p,o⟩ m λ g=>⟨.bl b,H,I.tok g,rfl,q⟩
def Gk:bootBuiltins "ValueError" = some (.type "ValueError"):=by decide +kernel
structure XF(K:PySem.W.Frag)(mg:Str->Option Value)(c:Addr):Prop where
 mc:mg "TooGreat" = some (.ref c)
 rk:lL K c
 ck:ClsK K c
 tk:∃a,mg "TalkError" = some (.ref a)/\PySem.W.exmOne K (.ref c) (.ref a)=some true
 own:PySem.W.kitOne K (.ref c) (.ref c)=some true
 vl:PySem.W.kitOne K (.ref c) (.type "ValueError")=some true
 nt:∃a,mg "NoTable" = some (.ref a)/\PySem.W.kitOne K (.ref c) (.ref a)=some false
 nc:∃a,mg "NoCard" = some (.ref a)/\PySem.W.kitOne K (.ref c) (.ref a)=some false
abbrev Sg.t(sg:Sg):Sg:=⟨sg.N,sg.sc,sg.fn,sg.bl,sg.cl,false,false,noCo⟩
def rfB(sg:Sg):Bool:=N1 sg 4 "_law_caught" && N1 sg 5 "error" && sg.top&&(["_law_caught","error"]:on Str).all (λ x=>sg.sc.lookup x==some .local)&&(["isinstance","TalkError","TooGreat","ValueError","NoTable","NoCard"]:on Str).all (gloB sg)&&sg.bl.contains "isinstance" && sg.bl.contains "ValueError"
abbrev isiE(x:Str)(p q r s:Pos):Jp:=.Call (.Name "isinstance" p) [.Name "_law_caught" q,.Name x r] [] s
def RfT(sg:Sg)(b:on MS)(l:on Jv):Prop:=∃(y:on Jv) (k1 k2 k3:Nat) (a1 a2 a3 a4 a5 a6 a7 a8 a9 b1 b2 b3 b4 b5 b6 b7 b8 c1 c2 c3 c4 c5 c6 c7 c8 c9 d1 d2 d3 d4 d5 d6 d7 d8 d9 e1 e2 e3:Pos),C5 sg.t b y=true /\
 l=[.Assign [.Name "_law_caught" a1] (.Constant .none k1 a2) a3,.Try y [.ExceptHandler (some (.Name "TalkError" a4)) (some "error") [.Assign [.Name "_law_caught" a5] (.Name "error" a6) a7] a8] [] [] a9,
  .If (.BoolOp .Or [.Compare (.Name "_law_caught" b1) [.Is] [.Constant .none k2 b2] b3,.UnaryOp .Not (isiE "TooGreat" b4 b5 b6 b7) b8,.UnaryOp .Not (isiE "ValueError" c1 c2 c3 c4) c5] c6) [.Return (some (.Constant (.bool false) k3 c7)) c8] [] c9,
  .Return (some (.BoolOp .And [.UnaryOp .Not (isiE "NoTable" d1 d2 d3 d4) d5,.UnaryOp .Not (isiE "NoCard" d6 d7 d8 d9) e1] e2)) e3]
def tL(g:Good sg G F X)(h:rfB sg=true)(d:XF X.K X.mg c)(T:PE X (.Name x r) (tC v))(hv:(∃a,v=.ref a/\cv=.ref a)\/∃n,v=.ty n/\cv=.type n)(j:PySem.W.kitOne X.K (.ref c) cv=some k) :
  PE X (isiE x p q r s) λ b H Q=>∃a,b[4]? = some (some (.ref a))/\H a=some (excO a (.ref c))/\Q (.bl k) H:=by
 simp only[rfB,fk,List.all_nil,f9,i5,N5]at h;obtain⟨s1,i,f,e⟩:=N3 g h.1.1.1.1.1.1;exact(fH Gj (g.glo _ h.1.1.2.1) (g.blt _ h.1.2) boot_isinstance (M7 (O1 s1 i f e) (M7 T S5))).weak λ b H Q ⟨a,m,l,z⟩=>⟨.ref a,m,a,c,v,cv,k,rfl,l,d.ck,hv,j,z⟩
def Gm(g:Good sg G F X)(gx:GX sg F X (.ref c))(f:XF X.K X.mg c)(h:rfB sg=true)(hl:RfT sg b l)(hδ:5<δ.length)(m:evSs G F fu [.rfs b] δ=some o):PSs X l (dS X.D δ o):=by
 obtain⟨y,k1,k2,k3,a1,a2,a3,a4,a5,a6,a7,a8,a9,b1,b2,b3,b4,b5,b6,b7,b8,c1,c2,c3,c4,c5,c6,c7,c8,c9,d1,d2,d3,d4,d5,d6,d7,d8,d9,e1,e2,e3,hy,rfl⟩:=hl;have Q:=h;simp only[rfB,fk,List.all_nil,f9,i5,N5]at Q;obtain⟨⟨⟨⟨⟨⟨h2,h3⟩,h4⟩,h5,h6,_⟩,g1,g2,g3,g4,g5,g6,_⟩,m1⟩,m2⟩:=Q;obtain⟨L,i2,i3,i4⟩:=N3 g h2;obtain⟨N,j2,j3,j4⟩:=N3 g h3;obtain⟨t1,t2,t3⟩:=g.st h4;have j:rxS G F 3 b (δ.set 4 (.val .non))=true/\o=.rt (.bl true) false:=by
  replace m:(match(if rxS G F 3 b (δ.set 4 (.val .non))=true then some (Out.rt (.bl true) false)else none)with | some (.nx δ')=>evSs G F fu [] δ' | o=>o)=some o:=m
  split at m
  ·rename_i q;split at q<;>cases q
  ·split at m
   ·cases m;exact⟨by assumption,rfl⟩
   ·cases m
 obtain⟨j,rfl⟩:=j;obtain⟨ct,U,Y⟩:=f.tk;obtain⟨ca,xa,K⟩:=f.nt;obtain⟨cb,Z,J⟩:=f.nc;have gt:∀e n,Good sg.t G F (X.tryIn e n):=λ e n=>⟨g.N,g.nd,g.vis,g.glo,g.loc,g.lcl,g.cel,g.calm,g.hu,g.fns,g.blt,g.con,(λ z=>nomatch z),(λ z=>nomatch z),(λ z=>⟨(g.lms z).1,(g.lms z).2.1,λ w=>nomatch w⟩),(λ _ _ _ _ z=>nomatch z),(λ z=>nomatch z)⟩
 have B:=g.loc "_law_caught" (by unfold locB;rw[h5];rfl);have S:=λ p1 p2 p3 p4 p5 p6=>FV (X:=X) (np:=p1) (hpos:=p2) (pos:=p3) (i:=5) (cv:=.ref ct) (tb:=λ n _ u H=>tX X.D (.ref c) (λ u C _ H=>n u C H) (δ.set 4 (.val .non)) u H) t1 t2 t3 (g.glo _ g2) U g.nd N (g.lcl _ h6) (λ e n=>x_ss (gt e n) gx FQ (λ z=>nomatch z) f.mc f.rk hy j)
   (λ d=>jy (cU (X:=X.inExc d) (pos:=p4) (pos':=p5) g.nd L B.1 (O1 (X:=X.inExc d) (pos:=p6) N j2 j3 j4) rfl B.2))
 have I:=λ (x:Str) (a:Jn) (k:Bool) (hx:gloB sg x=true) (hm:X.mg x=some (.ref a)) (hd:(x==("__debug__" : Str))=false) (hk:PySem.W.kitOne X.K (.ref c) (.ref a)=some k) (p q r s:Pos)=>tL (v:=.ref a) (p:=p) (q:=q) (r:=r) (s:=s) g h f (nX (g.glo _ hx) hm rfl hd) (.inl ⟨a,rfl,rfl⟩) hk;have VV:=λ (p q r s:Pos)=>tL (v:=.ty "ValueError") (p:=p) (q:=q) (r:=r) (s:=s) g h f (nY (g.glo _ g4) (g.blt _ m2) Gk rfl) (.inr ⟨_,rfl,rfl⟩) f.vl;refine(U9 (cU g.nd L B.1 nW rfl B.2) (U9 (S _ _ _ _ _ _) (U9 (cS (PW.pt (fD (wO (wN (O1 L i2 i3 i4))) (fD (jw (nZ (I _ _ _ g3 f.mc JD f.own _ _ _ _))) (og (jw (nZ (VV _ _ _ _))))))) (jy (bg nV)) ow)
  (jy (bg (wT (oj (I _ _ _ g5 xa JD K _ _ _ _)) (jx (oj (I _ _ _ g6 Z JD J _ _ _ _))))))))).weak λ Dn u H t0=>?_;obtain⟨H0,O,W,R,fr,fo,sm,k⟩:=t0
 have P:=R.len;refine⟨⟨O,W,R.setVal (V3.mpr rfl) 4⟩,λ H' s'=>⟨Y,λ d M=>⟨.ref d,J8 (by rw[D4];omega),?_⟩⟩⟩;have A:((((u.set 4 (some V.non)).set 5 (some (.ref d))).set 4 (some (.ref d))).set 5 none)[4]? = some (some (.ref d)):=by rw[v6 JD,J8 (by simp only[D4];omega)]
 have E:upd H' d (excO d (.ref c)) d=some (excO d (.ref c)):=z8;refine⟨.ref d,A,false,by rw[B4 JL],?_⟩;refine⟨d,A,E,true,rfl,?_⟩;refine⟨d,A,E,true,rfl,?_⟩;refine⟨d,A,E,false,rfl,true,rfl,?_⟩;refine⟨d,A,E,false,rfl,?_⟩;refine k (.bl true) _ (sm.trans (s'.trans (v9 M))) ?_;show Rep _ _ _ _;exact X3.mpr rfl
end
theorem RSt.start(m:n=N.length)(r:RepL D (L2.wo O H) ds vs)(k:Hdn O H):RSt D H (L2.start N vs) (o5 n ds) O []:=by
 subst m;have c:∀(i:Nat) b,(o5 N.length ds)[i]? ≠ some (.own b):=λ i b h=>by
  unfold o5 at h;by_cases e:i<(ds.map Sv.val).length
  ·rw[Z6 e,q9]at h;cases q:ds[i]? with
   | none=>rw[q]at h;cases h
   | some d=>rw[q]at h;cases h
  ·rw[aL JC,cg]at h;split at h<;>cases h
 have g:∀(i:Nat) b,(o5 N.length ds)[i]? ≠ some (.od b):=λ i b h=>by
  unfold o5 at h;by_cases e:i<(ds.map Sv.val).length
  ·rw[Z6 e,q9]at h;cases q:ds[i]? with
   | none=>rw[q]at h;cases h
   | some d=>rw[q]at h;cases h
  ·rw[aL JC,cg]at h;split at h<;>cases h
 refine⟨λ i d h=>?_,λ i b h=>absurd h (c i b),λ i j a p d2 h=>absurd h (c i p),λ i d h=>absurd h (g i d),?_,⟨λ a f=>k.ne a (by simpa using f),Same.refl _,λ a f=>(nomatch f),λ a f=>(nomatch f),k⟩⟩
 ·unfold o5 at h;by_cases e:i<(ds.map Sv.val).length
  ·rw[Z6 e,q9]at h;cases q:ds[i]? with
   | none=>rw[q]at h;cases h
   | some d'=>
    rw[q]at h;cases h;obtain⟨v,l,o⟩:=r.get q;refine⟨v,?_,by rw[C8];exact o⟩;unfold L2.start;rw[Z6 (by rw[i0];exact(w6.mp l).1),q9,l];rfl
  ·rw[aL JC,cg]at h;split at h<;>cases h
 ·unfold L2.start o5;rw[x4,x4,i0,i0,cj,cj,r.length]
noncomputable def cloB(o:Jk CloD)(fn bl cl:on Str):Jy->on Jv->Jx->on Str->Bool:=match o with
 | some C=>X1 C fn bl cl
 | none=>noCo
def dqB(x:Str)(sc:on (Str×JA)):Bool:=M6 (x ++ ".<locals>." ++ n7)==(sc.lookup n7==some .cell)
def Gn(h:dqB x sc=true):tagQ x=(x ++ ".<locals>.")++tagN sc/\(sc.lookup n7=some .cell->M6 ((x ++ ".<locals>.")++n7)=true):=by
 unfold dqB at h;rw[i5]at h;unfold tagQ tagN;by_cases z:sc.lookup n7=some .cell
 ·have e:M6 (x ++ ".<locals>." ++ n7)=true:=by rw[h,z];rfl
  have a:M6 (x ++ ".<locals>." ++ "plan_of")=true:=e;rw[f8 z,f8 a];exact⟨rfl,λ _=>e⟩
 ·have e:M6 (x ++ ".<locals>." ++ n7)=false:=by rw[h];exact y9.mpr z
  rw[g9 z,g9 ((by have:M6 (x ++ ".<locals>." ++ "plan_of")=false:=e;rw[this];decide))];exact⟨rfl,λ w=>absurd w z⟩
structure Stands(K:PySem.W.Frag)(mg:Str->Option Value)(fn bl cl:List Str)(d:FD)(x:Str)(fa:Addr)(fd:FuncData)(ps:List Str):Prop where
 mg:mg x=some (.ref fa)
 kp:PySem.W.keepIn K (.ref fa)=true
 bi:P8 K fd ps []
 np:d.np=ps.length
 ex:∃qual st N,qual=x/\FunD K x qual st fa fd/\FnScope N ps (t8 st)/\d.n=N.length/\(C5 ⟨N,(t8 st).names,fn,bl,cl,true,true,cloB d.clo fn bl cl⟩ d.body (G9 st)=true\/∃b,d.body=[.rfs b]/\rfB ⟨N,(t8 st).names,fn,bl,cl,true,true,cloB d.clo fn bl cl⟩=true/\RfT ⟨N,(t8 st).names,fn,bl,cl,true,true,cloB d.clo fn bl cl⟩ b (G9 st))/\dqB x (t8 st).names=true
def HS(K:Jw)(mg:Str->Jk Jl)(fn bl cl:on Str)(T:on FD)(fs:on Str):Prop:=∀(i:Nat) d x,T[i]? = some d->fs[i]? = some x->∃fa fd ps,Stands K mg fn bl cl d x fa fd ps
def HC(K:Jw)(mg:Str->Jk Jl)(c:on (Str×DV)):Prop:=∀x d,c.lookup x=some d->∃u v,mg x=some u/\RelV v u/\∀H,Rep ⟨K,mg⟩ H d v
def IH1(P:Js)(w:Jr)(K:Jw)(mg:Str->Jk Jl)(base:Jo)(G:Gs)(T:on FD)(fu:Nat)(fn bl cl:on Str)(k:Nat):Prop:=∀(i:Nat) d x fa fd ps,T[i]? = some d->fn[i]? = some x->Stands K mg fn bl cl d x fa fd ps->FnOk P w K mg base CX0 k fa fd ps (spF ⟨K,mg⟩ ps.length (run G T fu k i))
def HLM(K:Jw)(G:Gs)(T:on FD)(fn bl cl:on Str):Prop:=G.fnl.isEmpty=false->(G.fnl=fn/\G.bll=bl/\G.cll=cl)/\T.length<=au/\∀(i:Nat) (d:FD) (x qual:Str) (st:Jv) (fa:Jn) (fd:FuncData),T[i]? = some d->fn[i]? = some x->qual=x->FunD K x qual st fa fd->∃c P,fd.code=.ref c/\(∀h:Jo,K.In h->PySem.W.CodeHd h c P)/\(P,tagQ qual)∈A5 K
def Go(hd:T[f]? = some d)(a:d.np=n)(q:run G T fu k f ds=some o):ds.length=n:=by
 cases k with
 | zero=>cases q
 | succ k=>
  rw[jS hd]at q;split at q
  ·rename_i z;rw[z,a]
  ·cases q
def lO{K:Jw}(u:T.length=fn.length)(n:HS K mg fn bl cl T fn)
  (i:IH1 P w K mg base G T fu fn bl cl k) (p:Room k A) (f:Nat) (y:Str) (j:fn[f]? = some y) :
  ∃m l fd ps,Room m A/\mg y=some (.ref l)/\PySem.W.keepIn K (.ref l)=true/\P8 K fd ps []/\(∀ds o,run G T fu k f ds=some o->ds.length=ps.length)/\FnOk P w K mg base CX0 m l fd ps (spF ⟨K,mg⟩ ps.length (run G T fu k f)):=by
 have r:f<T.length:=by rw[u];exact(w6.mp j).1
 obtain⟨h,b⟩:∃h,T[f]? = some h:=⟨_,p8 r⟩;obtain⟨e,d,c,g⟩:=n f h y b j;exact⟨k,e,d,c,p,g.mg,g.kp,g.bi,λ ds o q=>Go b g.np q,i f h y e d c b j g⟩
def tM(a:T.length<=au)(hd:T[f]? = some d)(q:run G T fu (k+1) (rxIx+f) ds=some o):ds.length=d.np/\rxS G (JJ k) 3 d.body (o5 d.n ds)=true:=by
 rw[fR (M0 (k6 a (k6 JD (P4 _ _)))),g9 (M4 (p9 JD (P4 rxIx f))),g9 (M4 (p9 JD (P4 rxIx f)))]at q;unfold rxR at q;rw[nG,hd]at q
 replace q:(if rxIx<=rxIx+f/\ds.length=d.np/\rxS G _ 3 d.body _=true then some (Ou.v .non false)else none)=some o:=q
 split at q
 ·rename_i z;exact z.2
 ·cases q
def tN(p:T.length<=au)(z:T.length=e.fn.length)(v:HS X.K X.mg e.fn bl cl T e.fn)
  (u:∀(i:Nat) d x r fd ps,T[i]? = some d->e.fn[i]? = some x->Stands X.K X.mg e.fn bl cl d x r fd ps->FnOk X.prog X.w X.K X.mg X.base (CXx X.prog X.w) k r fd ps (spX X.D (.ref c) ps.length (run G T fu k (rxIx+i)))) (w:Room k X.A):GX e (JJ k) X (.ref c):=λ f y n=>by
 obtain⟨m,b⟩:∃m,T[f]? = some m:=⟨_,p8 (by rw[z];exact(w6.mp n).1)⟩;obtain⟨j,h,g,l⟩:=v f m y b n;refine⟨k,j,h,g,w,l.mg,l.kp,l.bi,λ ds o q=>?_,u f m y j h g b n l⟩;cases k with
 | zero=>cases q
 | succ k=>rw[(tM p b q).1,l.np]
def Gp{G:Gs}(h:o=none\/o=G.clo)(z:cloB o fn bl cl b bd sc a=true):∃C,G.clo=some C/\X1 C fn bl cl b bd sc a=true:=by
 cases o with
 | none=>cases z
 | some C=>exact⟨C,(h.elim (λ w=>nomatch w) id).symm,z⟩
def Gq{K:Jw}(hT:T.length=fn.length)(hs:HS K mg fn bl cl T fn)(b4:∀x∈bl,mg x=none)
  (Z:HC K mg G.con) (Y:G.fnl=fn/\G.bll=bl/\G.cll=cl) (b5:T.length<=au)
  (b1:IH1 P w K mg base G T fu fn bl cl k) (b0:X6 P w K mg base fn bl cl k (run G T fu k G3)) (a9:∀C,G.clo=some C->Y2 P w K mg base C fn bl cl k (run G T fu k E9)):X6 P w K mg base fn bl cl (k+1) (run G T fu (k+1) G3):=by
 intro A F s H us W Q E O f m cs ds d hr e0 r hO m1 m2 m3 rp rl hF hq;have j:=hF;rw[fR (M0 (k6 b5 JD)),f8 rfl]at j;unfold lamR at j;dsimp only at j;split at j
 ·rename_i a2;obtain⟨n1,n2,n3,n4⟩:=a2;split at j
  ·rename_i d' b3;split at j
   ·rename_i nl;cases j;obtain⟨f',pr,bd,sc,q,a3,l,U,e1,lf,p,S,rc,a8,a7,a6⟩:=kA.mp rp;cases e1;have a5:=lf.mono A2;have a4:∀c∈l,∃o v,H c=some (.frz o (.own c))/\s.heap.get? c=some o/\o.data=.cell v:=λ c hc=>by obtain⟨o,v,M,L⟩:=a7 c hc;have g:=(D6 M).2;exact⟨o,v,g,(e0.hok c _ g).1,L⟩
    unfold X2 at p;rw[f9]at p;have X:=rl.length;have B:(m.N.take m.np).length=m.np:=by rw[W1];omega
    have b2:us.length=(m.N.take m.np).length:=by rw[←r.length,X,B];exact n1
    have hlw:=rc.length;have J:∀c∈l,∃o,H c=some (.frz o (.own c)):=λ c hc=>by obtain⟨o,_,g,_⟩:=a4 c hc;exact⟨o,g⟩
    have b6:Hdn O (L2.wo l H):=λ a ha=>by obtain⟨o,M,L⟩:=hO a ha;refine⟨o,?_,L⟩;rw[j9 λ z=>by obtain⟨o',g⟩:=J a z;rw[M]at g;cases g;cases L];exact M
    refine CK (ws:=U) (vs:=W) S (⟨a4⟩) hr.ok e0 a5 (λ pm c' ctv=>Be p.1 b2) (by rw[X,B];exact n1) r (by rw[B];exact a8) (λ i x v h1 h2=>?_) λ c'=>?_
    ·rw[B]at h1;obtain⟨c,o,u,M,L,g3,g4⟩:=a6 i x v h1 h2;have g:=(D6 L).2;exact⟨c,u,M,⟨o,(e0.hok c _ g).1,g3⟩,g4⟩
    ·have I:Room k (A.deeper (PySem.W.envX q sc s.heap.objs.size f (.ref c') a3)):=hr.deeper _;have g4:Good ⟨m.N,sc.names,fn,bl,cl,false,false,noCo⟩ G (JJ k) (dL P w K mg base m.N q sc f (.ref c') a3 A F s (L2.wo l H)):=by
      refine⟨rfl,S.nd,λ y h=>?_,λ y h=>?_,λ y h=>?_,λ y h=>h,λ y h=>h,rfl,I.units,lO hT hs b1 I,b4,Z,(λ z=>nomatch z),(λ z=>nomatch z),(λ z=>⟨Y,⟨k,I,b0,a9⟩,λ w=>nomatch w⟩),(λ _ _ _ _ z=>nomatch z),(λ z=>nomatch z)⟩
      ·unfold visB at h;simp only[B5,i5]at h;rcases h with(h | h) | h
       ·exact .inl h
       ·exact .inr (.inl h)
       ·exact .inr (.inr h)
      ·unfold gloB at h;rw[i5]at h;exact h
      ·unfold locB at h;simp only[B5,i5]at h;rcases h with h | h
       ·exact⟨.inl h,.inr h⟩
       ·exact absurd rfl (S.nocell _ (A4 h))
     have pe:=(snd m.body).1 g4 ((by have:=p.2;rw[m1,m2,m3]at this;exact this)) b3;refine⟨_,pe,O,[],?_,λ v H' sm gt=>λ a1=>?_⟩
     ·have R:=RSt.start (D:=⟨K,mg⟩) (N:=m.N) (ds:=ds++cs) (vs:=W++U) (n:=m.N.length) rfl ((X7 J n3 rl).append (X7 J n4 rc)) b6;have e1:o5 m.N.length (ds++cs)=(ds++cs).map Sv.val:=(by unfold o5;rw[x4,show m.N.length - (ds.length+cs.length)=0 by omega];exact C8 _);have e2:L2.start m.N (W++U)=(W++U).map some:=(by unfold L2.start;rw[x4,show m.N.length - (W.length+U.length)=0 by omega];exact C8 _);rw[e1,e2]at R;exact R
     ·have a0:Rep ⟨K,mg⟩ (L2.wo (O++[]) H') d v:=gt;rw[C8]at a0;refine hq v _ (λ b o e=>?_) (a0.mono λ b o e=>?_)
      ·by_cases hb:b∈l
       ·rw[gJ hb];exact e
       ·rw[S9 hb];exact sm _ _ (by rw[j9 hb];exact e)
      ·obtain⟨hb,e⟩:=D6 e;rw[j9 hb,S9 λ z=>by rw[a1 b z]at e;cases e];exact e
   ·cases j
  ·cases j
 ·cases j
def Gr{K:Jw}(hT:T.length=fn.length)(hs:HS K mg fn bl cl T fn)(d7:∀x∈bl,mg x=none)
  (b3:HC K mg G.con) (b1:G.fnl=fn/\G.bll=bl/\G.cll=cl) (d9:T.length<=au)
  (c8:IH1 P w K mg B G T fu fn bl cl k) (c7:X6 P w K mg B fn bl cl k (run G T fu k G3)) (a7:∀C,G.clo=some C->Y2 P w K mg B C fn bl cl k (run G T fu k E9)) (hC:G.clo=some C):Y2 P w K mg B C fn bl cl (k+1) (run G T fu (k+1) E9):=by
 intro A F s H us vs Q E O f cs ds d hr e0 r hO ca b2 rl hF hq;have d8:T[E9]? = none:=M0 (k6 d9 JD);have a0:=hF;rw[fR d8,g9 JD,f8 rfl]at a0;unfold cloR at a0;rw[hC]at a0;have L:(if(ds++cs).length=C.np+C.nc/\DV.nolams (ds++cs)=true then(match evSs G (JJ k) fu C.body (o5 C.N.length (ds++cs))with
  | some (.rt d false)=>if d.nolam then some (Ou.v d false)else none
  | _=>none)else none)=some (.v d false):=a0
 split at L
 ·rename_i b8;split at L
  ·rename_i d' d4;split at L
   ·rename_i nl;cases L;obtain⟨q,pr,bd,J,cap,cc,l,ws,c0,o0,df,a2,S,rc,a3,c6,c5,d2,⟨s1,s2,s3⟩,M⟩:=ca;obtain⟨d1,tx,d6,a5⟩:=tj a2;have a1:∀c∈l,∃o v,H c=some (.frz o (.own c))/\s.heap.get? c=some o/\o.data=.cell v:=λ c Z=>by obtain⟨o,v,g,g2⟩:=c6 c Z;exact⟨o,v,g,(e0.hok c _ g).1,g2⟩
    have Ct:CellsT l s.heap H:=⟨a1⟩;have b0:vs.length=ds.length:=rl.length;have a9:=tx.np;rw[a9]at b2;obtain⟨v1,v2,rfl⟩:∃v1 v2,vs=[v1,v2]:=by
     rw[b2]at b0
     match vs,b0 with
     | [v1,v2],_=>exact⟨v1,v2,rfl⟩
    obtain⟨u1,u2,rfl,c3,c2⟩:=ap r;have Y:∀c∈l,∃o,H c=some (.frz o (.own c)):=λ c Z=>by obtain⟨o,_,g,_⟩:=a1 c Z;exact⟨o,g⟩
    have b4:Hdn O (L2.wo l H):=λ a ha=>by obtain⟨o,g1,g2⟩:=hO a ha;refine⟨o,?_,g2⟩;rw[j9 λ z=>by obtain⟨o',g⟩:=Y a z;rw[g1]at g;cases g;cases g2];exact g1
    have U:∀{a b:on DV},DV.nolams (a++b)=true->DV.nolams a=true/\DV.nolams b=true:=λ {a b} h=>by
     induction a with
     | nil=>exact⟨rfl,h⟩
     | cons x a ih=>
      have h':(x.nolam&&DV.nolams (a++b))=true:=h;rw[f9]at h';obtain⟨i1,i2⟩:=ih h'.2;refine⟨?_,i2⟩;show(x.nolam&&DV.nolams a)=true;rw[h'.1,i1];rfl
    obtain⟨n3,n4⟩:=U b8.2;have nt:∀{b:Jn} {o:Obj} {u:HO},H b=some (.frz o u)->(∀v,o.data ≠ .cell v)->b∉l:=λ e hd z=>by obtain⟨o',v,g,_,d'⟩:=a1 _ z;rw[e]at g;cases g;exact hd v d'
    refine CP (N:=C.N) (ws:=ws) (n:=C.N.length - 2 - C.nc) (by rw[a3];exact S) Ct hr.ok e0 df (λ b6 pm c' b7=>Ej d1) c3 c2 (by rw[a3];have:=tx.len;omega) (λ i x v h1 h2=>?_) λ c' oc u T' h1 h2 h3=>?_
    ·obtain⟨c,o,u,g1,g2,g3,g4⟩:=c5 i x v h1 h2;exact⟨c,u,g1,⟨o,(e0.hok c _ g2).1,g3⟩,g4⟩
    ·have W:Room k (A.deeper (PySem.W.envX q J s.heap.objs.size f (.ref c') (ownC s J++cc))):=hr.deeper _;have a8:∀v,oc.data ≠ .cell v:=λ v z=>by obtain⟨o,vv,_,_,_,_,_,_,_,q1,_,q2,_⟩:=h3 s.heap (e0.hok c' _ h1).1;rw[(e0.hok c' _ h1).1]at q1;cases q1;rw[q2]at z;cases z
     have e4:K7 (L2.wo l H) n7 q pr bd J cc f:=by
      obtain⟨c1,c4,u1,b9,t1,b6,pm,b7,T1,y1,y2,y3,y4,y5,y6⟩:=df;refine⟨c1,c4,u1,b9,t1,b6,pm,b7,T1,?_,?_,y3,y4,?_,y6⟩
      ·rw[j9 (nt y1 λ v z=>by cases z)];exact y1
      ·rw[j9 (nt y2 λ v z=>by rw[y3]at z;cases z)];exact y2
      ·rw[j9 λ z=>by obtain⟨o',g⟩:=Y _ z;rw[y5]at g;cases g];exact y5
     have new:∀c∈l,B.get? c=none/\c∉frs (PySem.W.envX q J s.heap.objs.size f (.ref c') (ownC s J++cc)::F):=λ c Z=>by
      refine⟨(M c Z).1,λ z=>?_⟩;obtain⟨o,v,_,g,_⟩:=a1 c Z;have z':c∈s.heap.objs.size::frs F:=z;rcases j0.mp z' with w | w
      ·exact absurd (k8 g) (by rw[w];exact L0 _)
      ·exact(M c Z).2 w
     have d5:∀x c,cc.lookup x=some c->(ownC s J++cc).lookup x=some c:=λ x c e=>by rw[S.at (S.fr x c e)];exact e
     have a6:∀x a,(ownC s J++cc).lookup x=some a->B.get? a=none/\a∉frs (PySem.W.envX q J s.heap.objs.size f (.ref c') (ownC s J++cc)::F):=λ x a e=>by
      rw[O3]at e;cases w:(ownC s J).lookup x with
      | none=>rw[w]at e;exact new a (S.mem x a e)
      | some a'=>
       rw[w]at e;cases e;have ab:=(jm J.names (s.heap.push {cls:=.type "frame",data:=.dict #[]}) (s.heap.objs.size+1) [] ⟨λ _ _ hm=>(nomatch hm),List.Pairwise.nil⟩ (by rw[G0];exact i8 _)).empty x a (by rw[G0];exact A4 w);have ab:s.heap.objs.size<a:=ab.2;refine⟨aN (k6 e0.bsz (M3 ab)),λ z=>?_⟩;rcases j0.mp z with w | w
       ·exact absurd ab (by rw[w];exact L0 _)
       ·obtain⟨_,o,ho,_⟩:=e0.funs.mem w
        exact absurd (R7 (k8 ho) ab) (L0 _)
     have g4:Good ⟨C.N,J.names,fn,bl,cl,false,true,noCo⟩ G (JJ k) (bJ P w K mg B C.N q J f (.ref c') cc A F s (L2.wo l H)):=by
      refine⟨rfl,tx.nd,λ y m=>?_,λ y m=>?_,λ y m=>?_,λ y m=>m,λ y m=>m,rfl,W.units,lO hT hs c8 W,d7,b3,(λ _=>PassesOwn.never),(λ z=>nomatch z),(λ z=>⟨b1,⟨k,W,c7,a7⟩,λ w=>nomatch w⟩),(λ _ _ _ _ z=>nomatch z),λ _ _=>⟨⟨c',T',rfl,λ I=>CQ Ct h1 a8 h2 h3 I⟩,a6,?_⟩⟩
      ·unfold visB at m;simp only[B5,i5]at m;rcases m with(m | m) | m
       ·exact .inl m
       ·exact .inr (.inl m)
       ·exact .inr (.inr m)
      ·unfold gloB at m;rw[i5]at m;exact m
      ·unfold locB at m;simp only[B5,i5]at m;rcases m with m | m
       ·exact⟨.inl m,.inr m⟩
       ·exact⟨.inr m,.inl (by show(J.names.lookup y==some .cell)=true;rw[m];rfl)⟩
      ·intro δ e es pos p rs re np nc e6 d0 c9 h;unfold cX at h;rw[hC]at h;dsimp only at h;split at h
       ·rename_i z;obtain⟨rfl,rfl⟩:=z;obtain⟨e5,e1,h⟩:=r3.mp h;refine(tz (cs:=e5) (C:=C) (at_:=λ _ _ f'=>f'=f) (λ {ta} A=>tw (q:=q) (X:=bJ P w K mg B C.N q J f (.ref c') cc _ F s (L2.wo l H)) (a7 C hC) W a2 (λ _=>⟨S,λ x c e=>d5 x c e,d2⟩) (λ _ c Z=>new c Z) (λ {e7 σ H1 H2 s' f'} I sm ha=>?_) (.inr tx.slf) (by rw[List.length_range']) (λ j i' hj=>?_) e1 A d0 c9) e6 h).weak λ σ H Q z=>⟨f,rfl,z⟩
        ·subst ha;refine⟨e4.un I.base,c0,s1,o0,I.base.keep c0 o0 (e0.hok c0 _ s2).1 (X4 (S.mem _ _ s1)) (M c0 (S.mem _ _ s1)).2 (λ z=>absurd (show c0∈([]:on Jn)from z) JK),s3⟩
        ·have d3:j<C.nc:=by have:=(w6.mp hj).1;rw[List.length_range']at this;exact this
         rw[List.getElem?_range' d3]at hj;cases hj;have a4:2+j<C.N.length:=by have:=tx.len;omega
         refine⟨C.N[2+j],p8 a4,?_,.inr (tx.fre _ _ JC JC (p8 a4))⟩;show C.N[C.np+1*j]? = _;rw[a9,bc];exact p8 a4
       ·cases h
     refine⟨_,B6 C.body g4 a5 d4,L2.wo l H,O,[],?_,(λ a ha=>(nomatch ha)),b4.ne,Same.refl _,λ v H' sm gt=>λ b5=>?_⟩
     ·have R:=RSt.start (D:=⟨K,mg⟩) (N:=C.N) (ds:=ds++cs) (vs:=[v1,v2]++ws) (n:=C.N.length) rfl ((X7 Y n3 rl).append (X7 Y n4 rc)) b4;have e2:L2.start C.N ([v1,v2]++ws)=(v1::v2::ws).map some++List.replicate (C.N.length - 2 - C.nc) none:=(by unfold L2.start;rw[x4,a3,Nat.sub_sub];rfl);rw[e2]at R;exact R
     ·have e3:Rep ⟨K,mg⟩ (L2.wo O H') d v:=gt;refine hq v _ (λ b o e=>?_) (e3.mono λ b o e=>?_)
      ·by_cases hb:b∈l
       ·rw[gJ hb];exact e
       ·rw[S9 hb];exact sm _ _ (by rw[j9 hb];exact e)
      ·obtain⟨hb,e⟩:=D6 e;rw[j9 hb,S9 λ z=>by rw[b5 b z]at e;cases e];exact e
   ·cases L
  ·cases L
 ·cases L
def tO{K:Jw}{i:Nat}{st:Jv}(O:T.length=fn.length)(M:HS K mg fn bl cl T fn)(r:∀x∈bl,mg x=none)
  (j:HC K mg G.con)
  (h:HLM K G T fn bl cl) (p:∀d∈T,d.clo=none\/d.clo=G.clo)
  (m:IH1 P w K mg base G T fu fn bl cl k) (f:G.fnl.isEmpty=false->X6 P w K mg base fn bl cl k (run G T fu k G3)/\∀C,G.clo=some C->Y2 P w K mg base C fn bl cl k (run G T fu k E9))
  (v:T[i]? = some d) (Q:fn[i]? = some x) (g:b=x) (F:FunD K x b st l fd) (S:FnScope N ps (t8 st)) (o:dqB x (t8 st).names=true) (q:fd.code=e) (n:Room k (A.deeper (envOfC b (t8 st) s.heap.objs.size l e))) :
  Good ⟨N,(t8 st).names,fn,bl,cl,true,true,cloB d.clo fn bl cl⟩ G (JJ k) (cxOf CX P w K mg base N b (t8 st) l e A outer s H E):=by
 refine⟨rfl,S.nd,λ y a=>?_,λ y a=>?_,λ y a=>⟨?_,.inl rfl⟩,λ y a=>a,λ y a=>a,rfl,n.units,lO O M m n,r,j,λ _=>PassesOwn.leaving,λ _=>⟨rfl,rfl,rfl⟩,λ z=>⟨(h z).1,⟨k,n,(f z).1,(f z).2⟩,λ _=>by
   obtain⟨c,P,L,J,u⟩:=(h z).2.2 i d x b st l fd v Q g F;subst g;obtain⟨I,B⟩:=Gn o;rw[I]at u;exact⟨c,P,q.symm.trans L,J,u,B⟩⟩,(λ pr bd sc R z=>Gp (p d (M1 v)) z),λ _ z=>nomatch z⟩
 ·unfold visB at a;simp only[B5,i5]at a;rcases a with(a | a) | a
  ·exact .inl a
  ·exact .inr (.inl a)
  ·exact .inr (.inr a)
 ·unfold gloB at a;rw[i5]at a;exact a
 ·unfold locB at a;simp only[B5,i5]at a;exact a
theorem tP{K:Jw}(X:T.length=fn.length)(L:HS K mg fn bl cl T fn)(u:∀x∈bl,mg x=none)
  (j:HC K mg G.con)
  (n:HLM K G T fn bl cl) (M:∀d∈T,d.clo=none\/d.clo=G.clo)  (xf:XF K mg c) (B:T.length<=au) :
  ∀k,(IH1 P w K mg l G T fu fn bl cl k)/\(G.fnl.isEmpty=false->X6 P w K mg l fn bl cl k (run G T fu k G3)/\∀C,G.clo=some C->Y2 P w K mg l C fn bl cl k (run G T fu k E9))/\∀(i:Nat) d x Z fd ps,T[i]? = some d->fn[i]? = some x->Stands K mg fn bl cl d x Z fd ps->FnOk P w K mg l (CXx P w) k Z fd ps (spX ⟨K,mg⟩ (.ref c) ps.length (run G T fu k (rxIx+i)))
 | 0=>by
  refine⟨λ i d x Z fd ps Y h2 S=>?_,λ _=>⟨(λ A e s H us J Q E O f m cs ds d _ _ _ _ _ _ _ _ _ hF _=>by cases hF),λ C _ A e s H us J Q E O f cs ds d _ _ _ _ _ _ _ hF _=>by cases hF⟩,λ i d x Z fd ps Y h2 S=>?_⟩ <;>
  refine⟨λ J H Q E h=>?_,λ A e s H a5 us J Q E hr he hb hv h=>?_⟩ <;>
  ·obtain⟨_,_,_,_,_,_,q,_⟩:=h;cases q
 | k+1=>by
  obtain⟨y,p,a1⟩:=tP X L u j n M xf B k;refine⟨λ i d x Z fd ps Y h2 S=>?_,λ z=>⟨Gq X L u j (n z).1 (n z).2.1 y (p z).1 (p z).2,λ C hC=>Gr X L u j (n z).1 (n z).2.1 y (p z).1 (p z).2 hC⟩,λ i d x Z fd ps Y h2 S=>?_⟩ <;>
  obtain⟨a0,st,N,a2,F,FS,hn,hc,a3⟩:=S.ex
  ·refine F.okX FS (λ J H Q E h=>?_) (λ a4 U A e s H J Q E hr h=>?_)
   ·obtain⟨O,ds,o,_,e1,e2,_⟩:=h;rw[e2.length,e1]
   ·obtain⟨O,ds,o,ho,e1,e2,I,e4⟩:=h;rw[jS Y,f8 (e1.trans S.np.symm)]at I;have g:=tO (CX:=CX0) (E:=E0) (w:=w) (outer:=e) (H:=H) X L u j n M y p Y h2 a2 F FS a3 U hr;cases r:evSs G _ fu d.body (o5 d.n ds)with
    | none=>rw[r]at I;cases I
    | some oo=>
     rw[r]at I;have PP:PSs (cxD P w K mg l N a0 (t8 st) Z a4 A e s H) (G9 st) (dS ⟨K,mg⟩ (o5 d.n ds) oo):=by
      rcases hc with hc | ⟨b,eb,hb,ht⟩
      ·exact B6 d.body g hc r
      ·rw[eb]at r;refine Gm g (tN (bl:=bl) (cl:=cl) B X L a1 hr) xf hb ht ?_ r;have h3:=(N3 g (by simp only[rfB,f9]at hb;exact hb.1.1.1.1.1.2)).1;have:=(w6.mp h3).1;unfold o5;rw[x4,i0,cj,hn];exact p9 this (by show N.length<=_;omega)
     refine⟨_,PP,H,O,[],RSt.start hn e2 ho,(λ a ha=>(nomatch ha)),ho.ne,Same.refl H,?_⟩;cases oo with
     | nx δ=>cases I;exact λ σ' H' W R fr sm=>e4 .non H' sm (show Rep ⟨K,mg⟩ (L2.wo O H') .non .non by unfold Rep;rfl)
     | rt d fr=>cases I;exact λ v H' sm gt=>e4 v H' sm gt
  ·refine F.okXx FS (λ J H Q E h=>?_) (λ a4 U A e s H J Q E hr h=>?_)
   ·obtain⟨O,ds,o,_,e1,e2,_⟩:=h;rw[e2.length,e1]
   ·obtain⟨O,ds,o,ho,e1,e2,I,e4⟩:=h;have z:=(tM B Y I).2;rcases hc with hc | ⟨b,eb,_⟩
    ·exact⟨_,x_ss (tO X L u j n M y p Y h2 a2 F FS a3 U hr) (tN (bl:=bl) (cl:=cl) B X L a1 hr) FO.s (λ _=>FW) xf.mc xf.rk hc z,⟨O,[],RSt.start hn e2 ho⟩,e4⟩
    ·rw[eb]at z;cases z
noncomputable def okH(d:FD)(N ps:on Str)(st:Jv):Bool:=
 (t8 st).kind == .function && !(t8 st).isCoroutine && !(t8 st).isGenerator&&O8 N&&(N.take ps.length==ps) &&
 ps.all (λ x=>(t8 st).names.lookup x==some .local||(t8 st).names.lookup x==some .cell)&&(t8 st).names.all (λ y=>!(y.2 == .free)) &&
 d.n==N.length&&d.np==ps.length
noncomputable def okD(fn bl cl:on Str)(d:FD)(N ps:on Str)(st:Jv):Bool:=okH d N ps st&&C5 ⟨N,(t8 st).names,fn,bl,cl,true,true,cloB d.clo fn bl cl⟩ d.body (G9 st)
section
variable {P:Js} {w:Jr} {K:Jw} {mg:Str->Jk Jl} {base h:Jo} {G:Gs} {T:on FD} {fu:Nat} {fn bl cl:on Str}
def lP{st:Jv}{kV i:Jl}(X:K.In h)(H:h.Ns mainGlobals mg)(ok:okH d N ps st=true)
  (q:C5 ⟨N,(t8 st).names,fn,bl,cl,true,true,cloB d.clo fn bl cl⟩ d.body (G9 st)=true\/∃b,d.body=[.rfs b]/\rfB ⟨N,(t8 st).names,fn,bl,cl,true,true,cloB d.clo fn bl cl⟩=true/\RfT ⟨N,(t8 st).names,fn,bl,cl,true,true,cloB d.clo fn bl cl⟩ b (G9 st))
  (a:PySem.W.nsIn K mainGlobals x=some (some (.ref f))) (l:K.lookup f=some ⟨p,o,.func (PySem.W.fnOf x x (al st) (G9 st) (t8 st) .none kV g pm j e i),m⟩)
  (c:PySem.W.codeIn K e x=true) (k:PySem.W.keepIn K (.ref f)=true)
  (r:∀(kV g pm:Jl) (j:Jk Jn) (e i:Jl) (n:on Jl),n.length=ps.length->bindArgs (PySem.W.fnOf x x (al st) (G9 st) (t8 st) .none kV g pm j e i) ⟨n,[]⟩=pure (ps.zip n)) (F:dqB x (t8 st).names=true:=by decide +kernel) :
  Stands K mg fn bl cl d x f (PySem.W.fnOf x x (al st) (G9 st) (t8 st) .none kV g pm j e i) ps:=by
 unfold okH at ok;simp only[f9,i5,u5,G8,B5,y9]at ok;obtain⟨⟨⟨⟨⟨⟨⟨⟨E,C⟩,B⟩,A⟩,z⟩,y⟩,w⟩,v⟩,u⟩:=ok;exact⟨PySem.W.mg_of X H a,k,.all (r kV g pm j e i),u,x,st,N,rfl,⟨p,o,.none,kV,g,pm,j,e,i,m,rfl,l,c⟩,⟨E,C,B,bL A,z,y,w⟩,v,q,F⟩
def gR{st:Jv}(h:okD fn bl cl d N ps st=true):okH d N ps st=true/\C5 ⟨N,(t8 st).names,fn,bl,cl,true,true,cloB d.clo fn bl cl⟩ d.body (G9 st)=true:=by
 unfold okD at h;rw[f9]at h;exact h
def Gu:HS K mg fn bl cl [] fs:=λ i d x h=>by cases h
def r6(h:Stands K mg fn bl cl d x e fd ps)(t:HS K mg fn bl cl T fs):HS K mg fn bl cl (d::T) (x::fs):=λ i f c b a=>by
 cases i with
 | zero=>cases b;cases a;exact⟨_,_,_,h⟩
 | succ i=>exact t i f c b a
def Gv:L2.wo [] H=H:=by
 funext b
 unfold L2.wo;simp
def Gw:HC K mg []:=λ x d h=>by cases h
def Gx(h:∃u v,mg y=some u/\RelV v u/\∀H,Rep ⟨K,mg⟩ H d v)(t:HC K mg c):HC K mg ((y,d)::c):=λ x a q=>by
 rw[F9]at q;split at q
 ·rename_i e;cases q
  rwa [eq_of_beq e]
 ·exact t x a q
noncomputable def spS(K:Jw):Sp:=λ vs H Q _=>∃(a:Jn) (ns:on Int),vs=[.ref a]/\ns.length<=63/\SqS K H a (ns.map V.int)/\∀H',Q (.bl true) H'
def Gy(X:T.length=fn.length)(L:HS K mg fn bl cl T fn)(u:∀x∈bl,mg x=none)
    (j:HC K mg G.con) (h1:T[i]? = some d) (Z:fn[i]? = some x) (S:Stands K mg fn bl cl d x z fd [p])
    (n:HLM K G T fn bl cl) (o:∀d∈T,d.clo=none\/d.clo=G.clo)
     (F:XF K mg c) (y:T.length<=au) (m:∀f:on Int,f.length<=63->run G T fu k i [.scr f]=some (.v (.bl true) false)):FnOk P w K mg base CX0 k z fd [p] (spS K):=by
  refine⟨λ I H Q E h=>?_,λ A b s H l J I Q E M R U hv h=>?_⟩
  · obtain⟨a,f,rfl,_⟩:=h
    rfl
  · obtain⟨a,f,rfl,O,Y,N⟩:=h
    refine R6 (((tP X L u j n o F y k).1 i d x z fd [p] h1 Z S).run A b s H l J _ Q E0 M R U hv ⟨[],[.scr f],_,(λ a W=>(nomatch W)),rfl,?_,m f O,λ v C _ g=>?_⟩) λ r s' q=>?_
    · refine RepL.one (V4.mpr ⟨a,rfl,?_⟩)
      rw[Gv];exact Y
    · have B:Rep ⟨K,mg⟩ (L2.wo [] C) _ v:=g
      rw[X3]at B;subst B;exact N C
    · cases r with
      | error e=>exact(q:False).elim
      | ok fl=>cases fl<;>first | exact False.elim q | exact q
end
def walkE{l:PySem.W.OpenLaw}{XP:(Str->Jk Jl)->Jo->Prop}{K:Params->Jw}(r:l.most=some 63)(g:d.params.defaults=[])(o:Room k callerA)
  (x:∀(w:Jr) (h:Jo),YP w h->(K w.params).In h) (e:∀(w:Jr) (h:Jo),YP w h->(∀p∈A5 (K w.params),(K w.params).lookup p.1=none/\h.get? p.1=some {cls:=.none,data:=.fields #[]} /\ isCodeTable h p.1)/\((A5 (K w.params)).map (·.1)).Nodup)
  (F:∀(w:Jr) (c:Str->Jk Jl) (j:Jn) (h:Jo),(K w.params).In h->h.Ns mainGlobals c->c d.name=some (.ref j) ->
   ∃i:FuncData,(∀(s:Jm) (u:Jl),BindsTo s i ⟨[u],[]⟩ [(p,u)])/\∀b:Jo,(K w.params).In b->b.Ns mainGlobals c->FnOk l.prog w (K w.params) c b CX0 k j i [p] (spS (K w.params))) :
  PySem.W.WalkO q loose XP YP l.row.toRowW d [] (λ f m=>PySem.call f m):=
 L2.walk_of r JD g o x e F (λ _ _ a n v A y=>⟨a,n,rfl,v,SqS.of A y,λ _=>rfl⟩) λ _ _ _ _ _ z=>z
noncomputable def tQ(K:Jw)(o:Obj)(c:Jn):Jk Jn:=match o.cls,o.data with
 | .type "code",.fields vs=>(match(vs[11]?:Jk Jl),(vs[18]?:Jk Jl),(vs[7]?:Jk Jl),(vs[9]?:Jk Jl),(vs[10]?:Jk Jl)with
  | some (.ref P),some (.str _ _),some (.int _ _),some (.bool _),some (.int _ _)=>if(c==P)=false/\(K.lookup P).isNone=true then some P else none
  | _,_,_,_,_=>none)
 | _,_=>none
def Gz(K:Jw):Bool:=K.all λ p=>match p.2.data with
 | .func fd=>(match fd.code with
  | .ref c=>(match K.lookup c with | some o=>(tQ K o c).isSome | none=>true)
  | _=>true)
 | _=>true
def dP{vs:Jq Jl}(h:vs[i]? = some v):vs.getD i .none=v:=by
 rw[aK,h];rfl
def GA{K:Jw}{st:Jv}(R:Gz K=true)(F:FunD K x f st W fd):∃c P,fd.code=.ref c/\(∀h:Jo,K.In h->PySem.W.CodeHd h c P)/\(P,tagQ f)∈A5 K:=by
 obtain⟨oc,od,dV,kV,Y,pm,an,w,ct,H,e,I,g⟩:=F.ex;have j:fd.code=w:=by rw[e]
 have q:=G8.mp R _ (cV I);dsimp only at q;unfold PySem.W.codeIn at g;split at g
 ·rename_i c;rw[j]at q;dsimp only at q;split at g
  ·rename_i cls Z y sl p;rw[p]at q;dsimp only at q;obtain⟨P,i⟩:=V7.mp q;unfold tQ at i;split at i
   ·rename_i B A S;have u:=(by have:=S;injection this);subst u;split at i
    ·rename_i P' k E U m b C l o O N M L;split at i
     ·rename_i d;cases i;split at g
      ·rename_i a n t r hv;have Q:=i5.mp g;subst Q;have J:y[1]? = some (.str n t):=by rw[←L9,hv];rfl
       refine⟨c,P,j,λ h X=>⟨_,y,k,E,U,m,b,C,l,X _ _ p,A,rfl,o,dP o,dP O,dP N,dP M,dP L,λ z=>?_⟩,?_⟩
       ·rw[z]at d;have:=d.1;simp at this
       ·unfold A5;refine aP.mpr ⟨_,cV p,?_⟩;have v:=A;subst v;simp only[o,J,d.2,if_true]
      ·cases g
     ·cases i
    ·cases i
   ·cases i
  ·cases g
 ·cases g
def GB{K:Jw}(h:p∈A5 K):∃(c:Jn) (a:Obj) (vs:Jq Jl),(c,a)∈K/\a.cls=.type "code" /\ a.data=.fields vs/\vs[11]? = some (.ref p.1)/\K.lookup p.1=none:=by
 unfold A5 at h;obtain⟨⟨c,a⟩,d,e⟩:=aP.mp h;dsimp only at e;split at e
 ·rename_i vs g f;split at e
  ·rename_i P q t b k2;split at e
   ·rename_i z;cases e;exact⟨c,a,vs,d,g,f,b,nk.mp z⟩
   ·cases e
  ·cases e
 ·cases e
def GC{K:Jw}(f:(K.map (·.1)).Nodup)(h:(c,o)∈K):K.lookup c=some o:=by
 induction K with
 | nil=>cases h
 | cons y l g=>
  rw[A0]at f;have d:=R4.mp f;obtain⟨a,b⟩:=y;rw[F9];rcases j0.mp h with z | z
  ·cases z;rw[N8]
  ·have:c≠a:=λ e=>d.1 (by rw[←e];exact m9.mpr ⟨_,z,rfl⟩);rw[y9.mpr this];exact g d.2 z
def htb_of{K T:Jw}(i:K.In h)(f:T.In h)(e:(K.map (·.1)).Nodup)(j:(A5 K).map (λ p=>T.lookup p.1)=(A5 K).map λ _=>some {cls:=.none,data:=.fields #[]}) :
  ∀p∈A5 K,K.lookup p.1=none/\h.get? p.1=some {cls:=.none,data:=.fields #[]} /\ isCodeTable h p.1:=λ p a=>by
 obtain⟨c,d,b,g,n,m,l,k⟩:=GB a;exact⟨k,f _ _ (List.map_inj_left.mp j p a),c,d,b,i _ _ (GC e g),n,m,l⟩
def in_app{K:Jw}(X:PySem.W.Frag.In (T++K) h)(f:(K.map (·.1)).all (λ a=>(T.lookup a).isNone)=true):K.In h/\T.In h:=by
 have c:∀(T K:Jw) a,(T++K).lookup a=(T.lookup a).or (K.lookup a):=λ T K a=>by
  induction T with
  | nil=>simp
  | cons y l d=>
   obtain⟨b,v⟩:=y;rw[List.cons_append,F9,F9];cases hb:a==b with
   | true=>rfl
   | false=>
    exact d
 refine⟨λ a o e=>X a o ?_,λ a o e=>X a o ?_⟩
 ·rw[c,nk.mp (G8.mp f a (m9.mpr ⟨_,cV e,rfl⟩)),e];rfl
 ·rw[c,e];rfl
end L2
end
noncomputable section
namespace k62
open PySem L2
noncomputable def gU:FD:=⟨3,3,none,[.ret (.and [.isi (.var 0) ["int"],.not (.isi (.var 0) ["bool"]),.chain .LtE .LtE (.var 1) (.var 0) (.var 2)])]⟩
noncomputable def tR:FD:=⟨3,3,none,[.exp (.call 2 [.var 1,.bi .len [.var 0]]),.exp (.call 2 [.var 2,.bi .len [.ix (.var 0) (.int 0)]]),.ret (.call 4 [.var 0,.call 3 [.var 1],.call 3 [.var 2]])]⟩
noncomputable def tS:FD:=⟨2,2,none,[.iff (.not (.call 0 [.var 0,.int 1,.bin .Sub (.bin .LShift (.int 1) (.var 1)) (.int 1)])) [.unk] []]⟩
noncomputable def tU:FD:=⟨1,1,none,[.ret (.compi (.var 0) (.one 0) (.rng [.meth .bitLength (.var 0) []]) (.bin .BitAnd (.bin .RShift (.var 1) (.var 0)) (.int 1)) [none,some 0])]⟩
noncomputable def tV:FD:=⟨3,3,none,[.ret (.bi .tuple [.comp (.bi .tuple [.comp (.ix (.ix (.var 1) (.var 2)) (.var 0)) (.one 0) (.var 1) [none,some 2,some 0]]) (.one 0) (.var 1) [none,some 2,some 0]])]⟩
def tW:FD:=⟨3,1,none,[.set 1 true (.lst []),.fo (.one 2) (.var 0) [.ext 1 (.var 2)],.ret (.bi .sset [.var 1])]⟩
noncomputable def lQ:FD:=⟨4,2,none,[.set 2 false (.comp (.tup [.str "row",.var 0,.tup [.bin .Sub (.var 1) (.var 0),.var 2],.tup [.var 0,.var 2]]) (.one 0) (.call 7 [.var 0]) [none,some 0,some 1]),.set 3 false (.comp (.tup [.str "column",.var 0,.tup [.var 1,.bin .Sub (.var 2) (.var 0)],.tup [.var 1,.var 0]]) (.one 0) (.call 7 [.var 1]) [none,some 0,some 1]),.ret (.bin .Add (.var 2) (.var 3))]⟩
noncomputable def tY:FD:=⟨1,1,none,[.ret (.compi (.var 0) (.one 0) (.rng [.int 1,.var 0]) (.and [.cmp .Eq (.bin .BitAnd (.var 0) (.var 1)) (.var 0),.cmp .Lt (.var 0) (.bin .Sub (.var 1) (.var 0))]) [none,some 0])]⟩
noncomputable def GD:FD:=⟨7,3,none,[.set 3 true (.lst []),.set 4 false (.var 0),.wh (.cmp .Eq (JM 4 0) (.str "ask")) [.set 5 false (.ite (.cmp .Eq (JM 4 1) (.str "row")) (.var 1) (.var 2)),.set 6 false (.bin .BitAnd (.bin .RShift (JM 4 2) (.var 5)) (.int 1)),.app 3 (.var 6),.set 4 false (.ite (.cmp .Eq (.var 6) (.int 1)) (.ix (.var 4) (.int 4)) (JM 4 3))],.frz 3,.ret (.tup [.var 3,.ix (.var 4) (.int 1)])]⟩
noncomputable def GE:FD:=⟨3,3,none,[.ret (.ix (.call 8 [.var 0,.var 1,.var 2]) (.int 1))]⟩
def GF:FD:=⟨8,3,none,[.set 3 false (.int 0),.fo (.many [4,5]) (.enu (.var 0)) [.fo (.many [6,7]) (.enu (.var 5)) [.iff (.cmp .Eq (.call 9 [.var 2,.var 4,.var 6]) (.var 7)) [.aug 3 (.ix (.ix (.var 1) (.var 4)) (.var 6))] []]],.ret (.var 3)]⟩
noncomputable def clo:Jk CloD:=some ⟨["part","left","table","weights","numbers","split"],2,3,[.iff (.cmp .Eq (.var 1) (.int 0)) [.ret (.tup [.str "end",.call 15 [.var 2,.var 3,.ix (.var 0) (.int 0),.ix (.var 0) (.int 1)]])] [],.iff (.cmp .Eq (.dix (.var 4) (.bin .Add (.var 0) (.tup [.var 1]))) (.dix (.var 4) (.bin .Add (.var 0) (.tup [.bin .Sub (.var 1) (.int 1)])))) [.ret (.self 2 3 [.var 0,.bin .Sub (.var 1) (.int 1)])] [],.set 5 false (.maxk (.call 6 [.ix (.var 0) (.int 0),.ix (.var 0) (.int 1)]) ["way","numbers","left"] 1 (.call 14 [.var 1,.var 0,.bin .Sub (.var 2) (.int 1)]) [4,1]),.ret (.tup [.str "ask",.ix (.var 5) (.int 0),.ix (.var 5) (.int 1),.self 2 3 [.ix (.var 5) (.int 2),.bin .Sub (.var 1) (.int 1)],.self 2 3 [.ix (.var 5) (.int 3),.bin .Sub (.var 1) (.int 1)]])]⟩
def GG:FD:=⟨6,3,clo,[.set 3 false (.call 13 [.var 0,.var 1,.var 2]),.set 4 false (.tup [.bin .Sub (.bin .LShift (.int 1) (.bi .len [.var 0])) (.int 1),.bin .Sub (.bin .LShift (.int 1) (.bi .len [.ix (.var 0) (.int 0)])) (.int 1)]),.dfr 5 [0,1,3] (.dix (.var 3) (.bin .Add (.var 4) (.tup [.var 2]))) [.var 4,.var 2]]⟩
noncomputable def tZ:FD:=⟨3,3,none,[.ret (.comp (.bin .Add (.var 0) (.tup [.var 1])) (.many [0,1]) (.itm (.call 13 [.var 0,.var 1,.var 2])) [none,none])]⟩
def GH:FD:=⟨9,3,none,[.iff (.or [.cmp .Gt (.bi .len [.var 0]) (.glb "MOST_WEIGHED"),.cmp .Gt (.bi .len [.ix (.var 0) (.int 0)]) (.glb "MOST_WEIGHED")]) [.rse "TooGreat" (.str "the table has more than four rows or columns")] [],.sep 3,.fo (.one 4) (.rng [.int 1,.bin .LShift (.int 1) (.bi .len [.var 0])]) [.fo (.one 5) (.rng [.int 1,.bin .LShift (.int 1) (.bi .len [.ix (.var 0) (.int 0)])]) [.set 6 false (.call 15 [.var 0,.var 1,.var 4,.var 5]),.dpp 3 [.var 4,.var 5,.int 0] (.call 16 [.var 0,.var 1,.var 4,.var 5,.var 6]),.fo (.one 7) (.rng [.int 1,.bin .Add (.var 2) (.int 1)]) [.set 8 false (.comp (.call 14 [.var 1,.var 0,.bin .Sub (.var 2) (.int 1)]) (.one 0) (.call 6 [.var 4,.var 5]) [none,some 3,some 7]),.dpp 3 [.var 4,.var 5,.var 7] (.bi .max [.bin .Add (.lst [.dix (.var 3) (.tup [.var 4,.var 5,.bin .Sub (.var 7) (.int 1)])]) (.var 8)])]]],.retd 3]⟩
noncomputable def GI:FD:=⟨3,3,none,[.ret (.bin .Add (.dix (.var 0) (.bin .Add (JM 1 2) (.tup [.var 2]))) (.dix (.var 0) (.bin .Add (JM 1 3) (.tup [.var 2]))))]⟩
noncomputable def GJ:FD:=⟨4,4,none,[.ret (.maxk (.call 5 [.call 1 [.var 0,.var 2,.var 3]]) ["word","table","weights","rows","columns"] 1 (.call 16 [.var 1,.var 2,.var 3,.var 4,.var 0]) [0,1,2,3])]⟩
def GK:FD:=⟨7,5,none,[.set 5 false (.int 0),.fo (.one 6) (.call 3 [.var 2]) [.aug 5 (.bi .sum [.compi (.ix (.ix (.var 1) (.var 2)) (.var 0)) (.one 0) (.call 3 [.var 3]) (.cmp .Eq (.ix (.ix (.var 3) (.var 2)) (.var 0)) (.var 4)) [none,some 1,some 6,some 0,some 4]])],.ret (.var 5)]⟩
noncomputable def GL:FD:=⟨1,1,none,[.ret (.and [.isi (.var 0) ["int"],.not (.isi (.var 0) ["bool"])])]⟩
noncomputable def ua:FD:=⟨2,2,none,[.iff (.cmp .Lt (.var 1) (.bi .len [.var 0])) [.ret (.ix (.var 0) (.var 1))] [],.ret (.int 0)]⟩
def GM:FD:=⟨5,2,none,[.set 2 true (.lst []),.set 3 false (.bin .Add (.bin .Mod (.var 0) (JP 2147483647)) (JP 48271)),.fo (.one 4) (.rng [.var 1]) [.set 3 false (.bin .Mod (.bin .Add (.bin .Add (.bin .Mult (.var 3) (JP 48271)) (.bin .Mult (.var 4) (.var 4))) (JP 11)) (JP 2147483647)),.app 2 (.bin .FloorDiv (.var 3) (.int 7))],.ret (.var 2)]⟩
def lR:FD:=⟨9,3,none,[.set 3 false (.call 19 [.call 18 [.var 0,.int 0],.int 8]),.set 4 false (.bin .Add (.int 1) (.bin .Mod (JM 3 0) (.var 2))),.set 5 false (.bin .Add (.int 1) (.bin .Mod (JM 3 1) (.var 2))),.set 6 false (.ix (.lst [.int 2,.int 3,.int 10,.int 2]) (.bin .Mod (.ix (.var 3) (.int 3)) (.int 4))),.set 7 true (.comp (.bin .Mod (.var 0) (.var 1)) (.one 0) (.call 19 [.call 18 [.var 0,.int 1],.bin .Mult (.var 4) (.var 5)]) [none,some 6]),.fo (.one 8) (.rng [.bi .min [.bin .Mult (.var 4) (.var 5),.bin .Sub (.bi .len [.var 0]) (.var 1)]]) [.seti 7 (.var 8) (.bin .Mod (.ix (.var 0) (.bin .Add (.var 1) (.var 8))) (.var 6))],.ret (.bi .tuple [.comp (.bi .tuple [.sl (.var 1) (.bin .Mult (.var 0) (.var 2)) (.bin .Add (.bin .Mult (.var 0) (.var 2)) (.var 2))]) (.one 0) (.rng [.var 4]) [none,some 7,some 5]])]⟩
def ub:FD:=⟨3,1,none,[.set 1 false (.lst []),.fo (.one 2) (.var 0) [.set 1 false (.bin .Add (.var 1) (.bi .list [.var 2]))],.ret (.var 1)]⟩
noncomputable def uc:FD:=⟨6,3,none,[.set 3 false (.ix (.var 0) (.bin .Mod (.var 1) (.bi .len [.var 0]))),.iff (.or [.cmp .Eq (.var 2) (.int 0),.cmp .Eq (.bin .Mod (.var 3) (.int 4)) (.int 0)]) [.ret (.tup [.str "end",.bin .Mod (.bin .FloorDiv (.var 3) (.int 4)) (JP 10)])] [],.set 4 false (.call 22 [.var 0,.bin .Add (.bin .Mult (.int 2) (.var 1)) (.int 1),.bin .Sub (.var 2) (.int 1)]),.set 5 false (.call 22 [.var 0,.bin .Add (.bin .Mult (.int 2) (.var 1)) (.int 2),.bin .Sub (.var 2) (.int 1)]),.ret (.tup [.str "ask",.ix (.lst [.str "row",.str "column"]) (.bin .Mod (.bin .FloorDiv (.var 3) (.int 4)) (.int 2)),.bin .Add (.int 1) (.bin .Mod (.bin .FloorDiv (.var 3) (.int 8)) (JP 255)),.var 4,.var 5])]⟩
noncomputable def lT:FD:=⟨2,2,none,[.iff (.cmp .Eq (.ix (.var 0) (.int 0)) (.str "end")) [.ret (.tup [.str "end",.ix (.var 1) (.bin .Mod (JM 0 1) (.bi .len [.var 1]))])] [],.ret (.tup [.str "ask",.ix (.var 0) (.int 1),.ix (.var 0) (.int 2),.call 23 [.ix (.var 0) (.int 3),.var 1],.call 23 [.ix (.var 0) (.int 4),.var 1]])]⟩
noncomputable def GN:FD:=⟨4,3,none,[.wh (.cmp .Eq (.ix (.var 0) (.int 0)) (.str "ask")) [.set 3 false (.var 1),.iff (.cmp .Eq (JM 0 1) (.str "column")) [.set 3 false (.var 2)] [],.set 0 false (.ix (.var 0) (.bin .Add (.int 3) (.bin .BitAnd (.bin .RShift (JM 0 2) (.var 3)) (.int 1))))],.ret (JM 0 1)]⟩
noncomputable def lU:FD:=⟨2,2,none,[.iff (.or [.not (.isi (.var 0) ["tuple"]),.cmp .Lt (.var 1) (.int 0)]) [.ret (.bl false)] [],.iff (.cmp .Eq (.bi .len [.var 0]) (.int 2)) [.ret (.and [.cmp .Eq (.ix (.var 0) (.int 0)) (.str "end"),.call 17 [.ix (.var 0) (.int 1)],.chain .LtE .LtE (.int 0) (JM 0 1) (.int 9)])] [],.iff (.or [.cmp .NotEq (.bi .len [.var 0]) (.int 5),.cmp .NotEq (.ix (.var 0) (.int 0)) (.str "ask"),.cmp .NotIn (JM 0 1) (.tup [.str "row",.str "column"]),.not (.call 17 [.ix (.var 0) (.int 2)])]) [.ret (.bl false)] [],.iff (.or [.cmp .Lt (JM 0 2) (.int 1),.cmp .Gt (JM 0 2) (JP 255)]) [.ret (.bl false)] [],.ret (.and [.call 25 [.ix (.var 0) (.int 3),.bin .Sub (.var 1) (.int 1)],.call 25 [.ix (.var 0) (.int 4),.bin .Sub (.var 1) (.int 1)]])]⟩
def GO:FD:=⟨3,1,none,[.set 1 false (.int 1),.fo (.one 2) (.rng [.var 0]) [.set 1 false (.bin .Mult (.var 1) (.int 2))],.ret (.var 1)]⟩
noncomputable def ud:FD:=⟨1,1,none,[.ret (.compi (.var 0) (.one 0) (.rng [.int 1,.var 0]) (.cmp .Eq (.bin .BitAnd (.var 0) (.var 1)) (.var 0)) [none,some 0])]⟩
noncomputable def lV:FD:=⟨3,2,none,[.set 2 false (.comp (.tup [.tup [.var 0,.var 1],.tup [.bin .Sub (.var 2) (.var 0),.var 1]]) (.one 0) (.call 30 [.var 0]) [none,some 1,some 0]),.ret (.bin .Add (.var 2) (.comp (.tup [.tup [.var 1,.var 0],.tup [.var 1,.bin .Sub (.var 2) (.var 0)]]) (.one 0) (.call 30 [.var 1]) [none,some 0,some 1]))]⟩
def ue:FD:=⟨9,2,none,[.set 2 false (.call 19 [.call 18 [.var 0,.int 2],.bin .Add (.bin .Mult (.int 4) (.int 4)) (.int 2)]),.set 3 false (.ix (.lst [.int 2,.int 10,.bin .Pow (JP 10) (JP 20)]) (.bin .Mod (JM 2 16) (.int 3))),.set 4 true (.lst []),.fo (.one 5) (.rng [.bi .len [.var 1]]) [.set 6 true (.lst []),.fo (.one 7) (.rng [.bi .len [.ix (.var 1) (.int 0)]]) [.set 8 false (.bin .Mult (.bin .Mult (.ix (.var 2) (.bin .Add (.bin .Mult (.int 4) (.var 5)) (.var 7))) (.ix (.var 2) (.bin .Mod (.bin .Add (.bin .Add (.bin .Mult (.int 4) (.var 5)) (.var 7)) (.int 5)) (JP 16)))) (JP 10007)),.app 6 (.bin .Mod (.bin .Add (.var 8) (.bin .FloorDiv (.call 18 [.var 0,.bin .Add (.bin .Add (.int 3) (.bin .Mult (.var 5) (.bi .len [.ix (.var 1) (.int 0)]))) (.var 7)]) (JP 10))) (.var 3))],.frz 6,.app 4 (.var 6)],.ret (.var 4)]⟩
def uf:FD:=⟨7,4,none,[.set 4 true (.bin .Mult (.lst [.int 0]) (JP 10)),.fo (.one 5) (.rng [.bi .len [.var 0]]) [.fo (.one 6) (.rng [.bi .len [.ix (.var 0) (.int 0)]]) [.iff (.and [.cmp .Eq (.bin .BitAnd (.bin .RShift (.var 2) (.var 5)) (.int 1)) (.int 1),.cmp .Eq (.bin .BitAnd (.bin .RShift (.var 3) (.var 6)) (.int 1)) (.int 1)]) [.augi 4 (.ix (.ix (.var 0) (.var 5)) (.var 6)) (.ix (.ix (.var 1) (.var 5)) (.var 6))] []]],.ret (.bi .max [.var 4])]⟩
def GP:FD:=⟨8,4,none,[.set 4 false (.dix (.var 0) (.tup [.var 1,.var 2,.bin .Sub (.var 3) (.int 1)])),.fo (.many [5,6]) (.call 31 [.var 1,.var 2]) [.set 7 false (.dix (.var 0) (.tup [.ix (.var 5) (.int 0),.ix (.var 5) (.int 1),.bin .Sub (.var 3) (.int 1)])),.set 4 false (.bi .max [.var 4,.bin .Add (.var 7) (.dix (.var 0) (.tup [.ix (.var 6) (.int 0),.ix (.var 6) (.int 1),.bin .Sub (.var 3) (.int 1)]))])],.ret (.var 4)]⟩
def GQ:FD:=⟨11,4,none,[.iff (.or [.not (.isi (.var 0) ["list"]),.cmp .NotEq (.var 0) (.bi .sorted [.var 0])]) [.ret (.non)] [],.sep 4,.fo (.one 5) (.var 0) [.iff (.or [.not (.isi (.var 5) ["tuple"]),.cmp .NotEq (.bi .len [.var 5]) (.int 4),.cmp .NotEq (.bi .len [.compi (.var 0) (.one 0) (.var 5) (.call 17 [.var 0]) [none]]) (.int 4)]) [.ret (.non)] [],.dpv 4 (.var 5) 3 (JM 5 3)],.set 6 false (.int 0),.fo (.one 7) (.rng [.int 1,.call 29 [.bi .len [.var 1]]]) [.fo (.one 8) (.rng [.int 1,.call 29 [.bi .len [.ix (.var 1) (.int 0)]]]) [.fo (.one 9) (.rng [.bin .Add (.var 3) (.int 1)]) [.set 6 false (.bin .Add (.var 6) (.int 1)),.iff (.cmp .NotIn (.tup [.var 7,.var 8,.var 9]) (.var 4)) [.ret (.non)] [],.set 10 false (.call 33 [.var 1,.var 2,.var 7,.var 8]),.iff (.cmp .Gt (.var 9) (.int 0)) [.set 10 false (.call 34 [.var 4,.var 7,.var 8,.var 9])] [],.iff (.cmp .NotEq (.dix (.var 4) (.tup [.var 7,.var 8,.var 9])) (.var 10)) [.ret (.non)] []]]],.iff (.cmp .NotEq (.var 6) (.bi .len [.var 0])) [.ret (.non)] [],.retd 4]⟩
def GR:FD:=⟨6,3,none,[.set 3 false (.int 0),.fo (.one 4) (.rng [.bi .len [.var 0]]) [.fo (.one 5) (.rng [.bi .len [.ix (.var 0) (.int 0)]]) [.iff (.cmp .Eq (.call 24 [.var 2,.var 4,.var 5]) (.ix (.ix (.var 0) (.var 4)) (.var 5))) [.set 3 false (.bin .Add (.var 3) (.ix (.ix (.var 1) (.var 4)) (.var 5)))] []]],.ret (.var 3)]⟩
noncomputable def ug:FD:=⟨6,4,none,[.rfs [.iff (.var 3) [.exp (.call 12 [.var 0,.var 1,.var 2])] [.exp (.call 11 [.var 0,.var 1,.var 2])]]]⟩
noncomputable def GS:FD:=⟨7,3,none,[.set 3 false (.lst [.bin .Add (.int 5) (.bin .Mod (.var 0) (.int 4)),.bin .Add (.int 1) (.bin .Mod (.bin .FloorDiv (.var 0) (.int 4)) (.int 8))]),.iff (.cmp .Eq (.bin .Mod (.bin .FloorDiv (.var 0) (JP 32)) (.int 2)) (.int 1)) [.set 3 false (.rev (.var 3))] [],.set 4 false (.bi .tuple [.comp (.bi .tuple [.comp (.bin .Mod (.bin .Add (.var 1) (.var 0)) (.int 2)) (.one 0) (.rng [.ix (.var 1) (.int 1)]) [none,some 0]]) (.one 0) (.rng [.ix (.var 3) (.int 0)]) [none,some 3]]),.set 5 false (.comp (.comp (.bin .Mod (.bin .Add (.bin .Add (.bin .Mult (.int 7) (.var 1)) (.bin .Mult (.int 3) (.var 0))) (.var 2)) (JP 11)) (.one 0) (.rng [.ix (.var 1) (.int 1)]) [none,some 0,some 2]) (.one 0) (.rng [.ix (.var 3) (.int 0)]) [none,some 3,some 0]),.set 6 false (.call 10 [.var 4,.var 5,.var 2]),.iff (.or [.not (.call 17 [.var 6]),.cmp .NotEq (.var 6) (.call 36 [.var 4,.var 5,.var 2])]) [.ret (.bl false)] [],.ret (.and [.call 37 [.var 4,.var 5,.var 1,.bl true],.call 37 [.var 4,.var 5,.var 1,.bl false]])]⟩
noncomputable def lW:FD:=⟨13,1,none,[.set 1 false (.call 20 [.var 0,.int 3,.int 4]),.set 2 false (.call 32 [.var 0,.var 1]),.set 3 false (.call 19 [.call 18 [.var 0,.int 2],.int 70]),.set 4 false (.bin .Mod (JM 3 17) (.int 5)),.set 5 false (.comp (.bi .list [.var 0]) (.one 0) (.var 2) [none]),.set 6 true (.call 12 [.var 1,.var 5,.var 4]),.set 7 false (.call 35 [.var 6,.var 1,.var 2,.var 4]),.set 8 false (.call 23 [.call 22 [.slf (.var 3) (JP 20),.int 0,.int 4],.call 21 [.var 1]]),.iff (.or [.cmp .Is (.var 7) (.non),.cmp .NotEq (.var 5) (.var 2),.not (.call 38 [.ix (.var 3) (JP 18),.var 4,.var 8])]) [.ret (.bl false)] [],.set 9 false (.dix (.var 7) (.tup [.bin .Sub (.call 29 [.bi .len [.var 1]]) (.int 1),.bin .Sub (.call 29 [.bi .len [.ix (.var 1) (.int 0)]]) (.int 1),.var 4])),.set 10 false (.call 11 [.var 1,.var 5,.var 4]),.iff (.or [.not (.isi (.var 10) ["tuple"]),.cmp .NotEq (.bi .len [.var 10]) (.int 2),.not (.call 17 [.ix (.var 10) (.int 0)]),.cmp .NotEq (JM 10 0) (.var 9)]) [.ret (.bl false)] [],.iff (.or [.not (.call 25 [.ix (.var 10) (.int 1),.var 4]),.cmp .NotEq (.call 36 [.var 1,.var 2,.ix (.var 10) (.int 1)]) (.var 9),.cmp .NotEq (.var 5) (.var 2)]) [.ret (.bl false)] [],.set 11 false (.call 10 [.var 1,.var 5,.var 8]),.iff (.or [.not (.call 17 [.var 11]),.cmp .NotEq (.var 11) (.call 36 [.var 1,.var 2,.var 8])]) [.ret (.bl false)] [],.set 12 false (.bi .list [.var 6]),.clr 6,.ret (.and [.cmp .Eq (.call 12 [.var 1,.var 2,.var 4]) (.var 12),.cmp .Eq (.call 11 [.var 1,.var 2,.var 4]) (.var 10)])]⟩
def T:on FD:=[gU,tR,tS,tU,tV,tW,lQ,tY,GD,GE,GF,GG,tZ,GH,GI,GJ,GK,GL,ua,GM,lR,ub,uc,lT,GN,lU,gU,gU,gU,GO,ud,lV,ue,uf,GP,GQ,GR,ug,GS,lW]
noncomputable def fnl:on Str:="is_int" :: "cut" :: "check_cards" :: "cards_in" :: "crossing" :: "words_in" :: "splits" :: "halves" :: "way" :: "reached" :: "right_weight" :: "best_right" :: "weight_paper" :: "best_weights" :: "split_weight" :: "best_word" :: "word_weight" :: "_law_int" :: "_law_cell_at" :: "_law_stream" :: "_law_full_table" :: "_law_words" :: "_law_drawn_plan" :: "_law_few_words" :: "_law_reached" :: "_law_is_plan" :: "is_int" :: "is_int" :: "is_int" :: "_law_power" :: "_law_halves" :: "_law_splits" :: "_law_weights" :: "_law_end" :: "_law_due" :: "_law_obeys" :: "_law_added" :: "_law_refused" :: "_law_great_asked" :: "law" :: []
noncomputable def bll:on Str:="isinstance" :: "int" :: "bool" :: "len" :: "range" :: "tuple" :: "sorted" :: "set" :: "enumerate" :: "max" :: "sum" :: "min" :: "list" :: "ValueError" :: []
noncomputable def cll:on Str:="TalkError" :: "NoTable" :: "NoCard" :: "TooGreat" :: []
def G:Gs:={con:=[("MOST_WEIGHED",.int 4)],clo:=clo,fnl:=fnl,bll:=bll,cll:=cll}
end k62
namespace k62
open PySem L2
def dQ(ns:on Int)(j:Nat):∃v:Int,run G T fu (k+1) 18 [.scr ns,.int j]=some (.v (.int v) false):=by
 rw[r9 rfl rfl];unfold ua;have c:∀F,evE G F (.cmp .Lt (.var 1) (.bi .len [.var 0])) _=some _:=λ F=>b_lt (f6 rfl) (rfl:evE G F _ [.val (.scr ns),.val (.int j)]=some _)
 by_cases h:j<ns.length
 ·refine⟨ns[j],t5 (bu (o7 ((c _).trans (by rw[D5 JC]))) (q0 (u7 (n9 (f6 rfl) (f6 rfl) ?_))))⟩;show((D7 ns.length (j:Int)).bind λ j=>ns[j]?).map DV.int=_;unfold D7;rw[f8 (E8 j),f8 JC,D3];show(ns[j]?).map DV.int=_;rw[p8 h];rfl
 ·exact⟨0,t5 (x8 (o7 ((c _).trans (by rw[B4 JC]))) (q0 rfl))⟩
def Q5{n:Nat}(h:JF e cl (.int n))(hn:n<=1000):p7 (JO (.rng [e]))=some (.ok (upTo 0 n) .fresh):=by
 show p7 (Rs.thn _ _)=_;rw[f7 h i9,cZ];have hs:(J0 (n:Int)&&decide ((n:Int)<=(n5:Int)))=true:=by rw[f9,P1];refine⟨?_,R8 (show(n:Int)<=1000 by omega) JD⟩;unfold J0;rw[f9,P1,P1];exact⟨R8 JD (E8 n),iI (show(n:Int)<=1000 by omega) JD⟩
 show p7 ((if J0 (n:Int)&&decide ((n:Int)<=(n5:Int))then some (upTo 0 (n:Int).toNat)else none).map λ a=>.ok _ .fresh)=_;rw[f8 hs,D3];rfl
def bQ(h:JF e c (.lst ds)):evE G F (.bi .tuple [e]) δ=some (.ok (.tup ds) c.item):=by
 show Rs.thn _ _=_;rw[f7 h i9];rfl
def uh(h:JF e c (.lst ds)):evE G F (.bi .len [e]) δ=some (.ok (JP ds.length) .strong):=by
 show Rs.thn _ _=_;rw[f7 h i9];rfl
def Y7(h:JF e c (.tup ds)):evE G F (.bi .len [e]) δ=some (.ok (JP ds.length) .strong):=by
 show Rs.thn _ _=_;rw[f7 h i9];rfl
def iD(r:on Int):on DV:=r.map DV.int
noncomputable def rL(rows:on (on Int)):DV:=.lst (rows.map λ r=>.lst (iD r))
noncomputable def tT(rows:on (on Int)):DV:=.tup (rows.map λ r=>.tup (iD r))
def Rect(n m:Nat)(rows:on (on Int)):Prop:=rows.length=n/\∀r∈rows,r.length=m
def ui{j:Nat}(h:j<r.length):ixD (.tup (iD r)) (.int j)=some (.int (r.getD j 0)):=by
 have a:(j:Int)<((r.map DV.int).length:Int):=by rw[i0];exact_mod_cast h
 unfold iD;simp only[ixD,atD,D7,f8 (E8 j),f8 a,N9,D3,q9,p8 h,O0,D1,eU]
def GT{j:Nat}(h:j<r.length):ixD (.lst (iD r)) (.int j)=some (.int (r.getD j 0)):=by
 have a:(j:Int)<((r.map DV.int).length:Int):=by rw[i0];exact_mod_cast h
 unfold iD;simp only[ixD,atD,D7,f8 (E8 j),f8 a,N9,D3,q9,p8 h,O0,D1,eU]
noncomputable def sub(rows:on (on Int))(I J:on Nat):on (on Int):=I.map λ i=>J.map λ j=>(rows.getD i []).getD j 0
def gV{i:Nat}(h:i<rows.length):ixD (tT rows) (.int i)=some (.tup (iD (rows.getD i []))):=by
 have a:(i:Int)<((rows.map λ r=>DV.tup (iD r)).length:Int):=by rw[i0];exact_mod_cast h
 simp only[tT,ixD,atD,D7,f8 (E8 i),f8 a,N9,D3,q9,p8 h,O0,D1,eU]
def Y8{rows:on (on Int)}(h:i<rows.length):rows.getD i []∈rows:=by
 rw[D1,p8 h];exact U1 h
theorem uj(n:Nat):∀r:on Int,DV.plains n (iD r)=true
 | []=>by unfold iD;simp[DV.plains]
 | a::r=>by have q:=uj n r;unfold iD at q ⊢;rw[A0];unfold DV.plains;rw[q];cases n<;>rfl
def GU(h:JF e cl (.int i))(a:i<=1000)(b : -1000<=i):p7 (JO (.rng [e]))=some (.ok (upTo 0 i.toNat) .fresh):=by
 show p7 (Rs.thn _ _)=_;rw[f7 h i9,cZ];have hs:(J0 i&&decide (i<=(n5:Int)))=true:=by rw[f9,P1];refine⟨?_,R8 a JD⟩;unfold J0;rw[f9,P1,P1];exact⟨R8 JD b,iI a JD⟩
 show p7 ((if J0 i&&decide _ then some _ else none).map λ ds=>.ok _ .fresh)=_;rw[f8 hs];rfl
noncomputable def dR(n m:Nat)(ws:on Int):on (on Int):=(JS n).map λ j=>(ws.drop (j*m)).take m
def GV(h:ws.length=n*m):Rect n m (dR n m ws):=by
 unfold dR;refine⟨by rw[i0,A8],λ r a=>?_⟩;obtain⟨j,b,rfl⟩:=m9.mp a;rw[W1,eT,h];have:(j+1)*m<=n*m:=Nat.mul_le_mul_right m (x5.mp b);rw[aj,bc]at this;omega
def GW(g:JF a c (.lst ds))(e:JF b c1 (.int l))(f:JF d i (.int h)):evE G F (.sl a b d) δ=some (.ok (.lst (cutD ds (some l) (some h))) (Cl.anew c c)):=by
 show Re.thn _ _=_;rw[g,M9];show Re.thn _ _=_;rw[e,M9];show Re.thn _ _=_;rw[f];rfl
def GY{m:Nat}(h:ws.length=n*m)(b:j<n):cutD (iD ws) (some ((j:Int)*m)) (some ((j:Int)*m+m))=iD ((ws.drop (j*m)).take m):=by
 have d:((j:Int)*m)=((j*m:Nat):Int):=by push_cast;rfl
 have c:((j:Int)*m+m)=((j*m+m:Nat):Int):=by push_cast;rfl
 have a:=(by have:(j+1)*m<=n*m:=Nat.mul_le_mul_right m b;rw[aj,bc]at this;exact this);have len:(iD ws).length=n*m:=by unfold iD;rw[i0,h]
 unfold cutD slIx;rw[c,d];simp only[len];rw[g9 JC,g9 JC,D3,D3,Nat.min_eq_left a,Nat.min_eq_left JC,show j*m+m - j*m=m by omega];unfold iD;rw[←List.map_drop,←jg]
def lX(h:j<n):D7 n (j:Int)=some j:=by
 unfold D7;rw[f8 (E8 j),f8 JC,D3]
def GZ{es:on ME}(h:evEs G F es δ=some (.ok l)):evE G F (.bi .min es) δ=minD l:=by
 have e:evE G F (.bi .min es) δ=Rs.thn _ _:=rfl;rw[e,h];rfl
def Ha{i:Nat}(h:i<rows.length):ixD (rL rows) (.int i)=some (.lst (iD (rows.getD i []))):=by
 have a:(i:Int)<((rows.map λ r=>DV.lst (iD r)).length:Int):=by rw[i0];exact_mod_cast h
 simp only[rL,ixD,atD,D7,f8 (E8 i),f8 a,N9,D3,q9,p8 h,O0,D1,eU]
def Hb{es:on ME}(h:evEs G F es δ=some (.ok l))(a:l.length<=n5)(hs:stros l=true):evE G F (.lst es) δ=some (.ok (.lst (l.map (·.1))) .fresh):=by
 have e:evE G F (.lst es) δ=Rs.thn _ _:=rfl;rw[e,h,cZ,f8 a,hs];rfl
noncomputable def nD(l:on Nat):on DV:=l.map λ (j:Nat)=>DV.int (j:Int)
def Hc(n:Nat)(a:on Int):DV.plain (n+1) (.lst (iD a))=true:=uj n a
def lY(n:Nat)(a:Int):DV.plain n (.int a)=true:=by cases n<;>(unfold DV.plain;rfl)
theorem uk{b:Type}{h f:b->DV}:∀{l:on b},(∀a∈l,g (h a)=some (.item (f a)))->w4 g (l.map h)=some (l.map f)
 | [],_=>rfl
 | a::r,q=>by rw[A0,A0];unfold w4;rw[q a (o6 ..)];show(match w4 g _ with | none=>none | some xs=>some _)=_;rw[uk λ x c=>q x (o4 _ c)]
def N4{e:Type}{l:on e}{h f:e->DV}(hw:p7 (JO it)=some (.ok (l.map h) cl))(g:cl ≠ .weak)(hl:l.length<=n5)
  (q:∀a∈l,∃d c,tg.bind (h a) (A6 fr δ)=some d/\evE G F elt d=some (.ok (f a) c)/\stro (f a) c=true):evE G F (.comp elt tg it fr) δ=some (.ok (.lst (l.map f)) .fresh):=by
 show Ri.thn _ _=_;rw[hw,br,g9 (by rintro(z | z);exact g z;rw[i0]at z;omega),uk (λ a i=>?_)]
 ·rfl
 ·obtain⟨d,c,m,k,j⟩:=q a i;rw[m,N9,k];show(if stro (f a) c then some (Rc.item (f a))else none)=_;rw[f8 j]
def Hd(rows:on (on Int))(n m:Nat)(R:Rect n m rows)(I J:on Nat)(o:∀i∈I,i<n)(h:∀j∈J,j<m)(d:I.length<=1000)(b:J.length<=1000):run G T fu (k+1) 4 [tT rows,.lst (nD I),.lst (nD J)]=some (.v (tT (sub rows I J)) false):=by
 rw[r9 rfl rfl];have p:=N4 (F:=run G T fu k) (δ:=o5 3 [tT rows,.lst (nD I),.lst (nD J)]) (l:=I) (f:=λ i=>.tup (iD (J.map λ j=>(rows.getD i []).getD j 0))) (elt:=.bi .tuple [.comp (.ix (.ix (.var 1) (.var 2)) (.var 0)) (.one 0) (.var 1) [none,some 2,some 0]]) (tg:=.one 0) (it:=.var 1) (fr:=[none,some 2,some 0]) rfl JD (k6 d JD) λ i g=>by
  refine⟨[.val _,.val _,.val (tT rows)],.strong,rfl,bQ (c:=.fresh) ?_,rfl⟩;have a:i<rows.length:=by rw[R.1];exact o i g
  rw[N4 (l:=J) rfl JD (k6 b JD) λ j e=>⟨[.val _,.val (tT rows),.val _],.strong,rfl,n9 (n9 (cx:=.strong) (f6 rfl) (f6 rfl) (gV a)) (f6 rfl) (ui (by rw[R.2 _ (Y8 a)];exact h j e)),rfl⟩];unfold iD;rw[v7];rfl
 unfold tV;refine t5 (q0 (u7 (cl:=.strong) ((bQ p).trans ?_)));unfold tT sub;rw[v7];rfl
def He(n:Nat):upTo 0 n=nD (List.range n):=by
 unfold L2.upTo nD;apply Q8;intro j _;rw[R9]
theorem lZ:∀{l:on Int},y∈insI x l↔y=x\/y∈l
 | []=>by simp[insI]
 | z::l=>by
  unfold insI;split
  ·simp
  ·rw[j0,lZ,j0];constructor<;>(rintro(h | h | h)<;>simp[h])
theorem ma:∀{l:on Int},y∈L4 l↔y∈l
 | []=>M5
 | z::l=>by unfold L4;rw[lZ,ma,j0]
theorem ul{y:Int}:∀{l σ:on Int},y∈l.foldl dk σ↔y∈σ\/y∈l
 | [],σ=>by simp
 | z::l,σ=>by
  rw[iU,ul,j0];unfold dk;split
  ·rename_i h;constructor
   ·rintro(q | q)
    ·exact .inl q
    ·exact .inr (.inr q)
   ·rintro(q | q | q)
    ·exact .inl q
    ·rw[q];exact .inl h
    ·exact .inr q
  ·rw[C7,C2,or_assoc]
theorem gX:∀r:on Int,ints? (iD r)=some r
 | []=>rfl
 | x::r=>by show(ints? (iD r)).map _=_;rw[gX r];rfl
def T4{F:Nat->on DV->Jk Ou}{δ:on Sv}{G:Gs}{a b:ME}{r:on ME}{cx:Cl}{o:Jk Re}(ha:JF a cx (.bl true))(hb:evE G F (.and (b::r)) δ=o):evE G F (.and (a::b::r)) δ=o:=by
 have e:evE G F (.and (a::b::r)) δ=Re.thn (JO a) (λ x c=>andD x c (M8 G F (b::r) δ)):=rfl;have e2:evE G F (.and (b::r)) δ=M8 G F (b::r) δ:=rfl;rw[e,ha,M9,←e2,hb];rfl
def um{F:Nat->on DV->Jk Ou}{δ:on Sv}{G:Gs}{a b:ME}{r:on ME}{cx:Cl}(ha:JF a cx (.bl false)):evE G F (.and (a::b::r)) δ=some (.ok (.bl false) cx):=by
 have e:evE G F (.and (a::b::r)) δ=Re.thn (JO a) (λ x c=>andD x c (M8 G F (b::r) δ)):=rfl;rw[e,ha,M9];rfl
def Y9{F:Nat->on DV->Jk Ou}{δ:on Sv}{G:Gs}{a:ME}{o:Jk Re}(ha:evE G F a δ=o):evE G F (.and [a]) δ=o:=by
 have e:evE G F (.and [a]) δ=evE G F a δ:=rfl;rw[e,ha]
def dU(c:tg.bind d δ=some δ1)(b:body δ1=some (.nx a)):t6 tg body (d::r) δ=t6 tg body r a:=by
 show(match tg.bind d δ with | none=>none | some δ1=>match body δ1 with | some (.nx a)=>t6 tg body r a | o=>o)=_;rw[c];show(match body δ1 with | some (.nx a)=>t6 tg body r a | o=>o)=_;rw[b]
theorem uo:∀{a b:on Int},a.Pairwise (· < ·)->b.Pairwise (· < ·)->(∀x,x∈a↔x∈b)->a=b
 | [],[],_,_,_=>rfl
 | [],y::b,_,_,h=>absurd ((h y).mpr (o6 ..)) JK
 | x::a,[],_,_,h=>absurd ((h x).mp (o6 ..)) JK
 | x::a,y::b,d,c,h=>by
  rw[K9]at d c;have e:x=y:=by
   rcases j0.mp ((h x).mp (o6 ..))with z | z
   ·exact z
   ·rcases j0.mp ((h y).mpr (o6 ..))with w | w
    ·exact w.symm
    ·have h1:=d.1 y w;have h2:=c.1 x z;omega
  subst e;rw[uo d.2 c.2 λ z=>?_];constructor
  ·intro q;rcases j0.mp ((h z).mp (o4 _ q))with w | w
   · exact absurd (d.1 _ q) JC
   ·exact w
  ·intro q;rcases j0.mp ((h z).mpr (o4 _ q))with w | w
   · exact absurd (c.1 _ q) JC
   ·exact w
theorem uq:∀{l:on Int},l.Pairwise (· < ·)->x∉l->(insI x l).Pairwise (· < ·)
 | [],_,_=>by simp[insI]
 | y::l,h,b=>by
  rw[K9]at h;unfold insI;split
  ·rename_i q;rw[K9];refine⟨λ z a=>?_,K9.mpr h⟩;rcases j0.mp a with w | w
   ·rwa [w]
   ·have:=h.1 z w;omega
  ·rename_i q;rw[K9];refine⟨λ z a=>?_,uq h.2 λ w=>b (o4 _ w)⟩;rcases lZ.mp a with w | w
   ·subst w;have:z≠y:=λ e=>b (by grind)
    omega
   ·exact h.1 z w
theorem ur:∀{l:on Int},l.Nodup->(L4 l).Pairwise (· < ·)
 | [],_=>List.Pairwise.nil
 | x::l,h=>by
  rw[R4]at h;exact uq (ur h.2) λ z=>h.1 (ma.mp z)
theorem ut:∀{l c:on Int},c.Nodup->(l.foldl dk c).Nodup
 | [],_,h=>h
 | x::l,c,h=>by
  rw[iU];refine ut ?_;unfold dk;split
  ·exact h
  ·rename_i q;rw[List.nodup_append];refine⟨h,by simp,λ a f b d e=>?_⟩;rw[C2]at d;subst d e;exact q f
def Hf{l:on Int}(a:t.Pairwise (· < ·))(h:∀x,x∈l↔x∈t):L4 (l.foldl dk [])=t:=
 uo (ur (ut fb)) a λ x=>by rw[ma,ul,←h];simp
def nI(l:on Nat):on Int:=l.map λ (j:Nat)=>(j:Int)
def Hg(l:on Nat):iD (nI l)=nD l:=by unfold iD nI nD;rw[v7];rfl
def Hh(p:Nat->Bool)(n:Nat):(nI ((JS n).filter p)).Pairwise (· < ·):=by
 unfold nI;rw[List.pairwise_map];refine List.Pairwise.filter _ (List.Pairwise.imp ?_ nM);intro a b h;omega
def Hi:x∈nI l↔∃j∈l,(j:Int)=x:=by unfold nI;rw[m9]
noncomputable def FI(rows:on (on Int)):on Nat:=(JS rows.length).filter λ r=>rows.idxOf (rows.getD r [])==r
def sm(a b:Nat):Bool:=decide (a<6)&&decide (b<6)
theorem uu{i:Type}{h f:i->DV}{p:i->Bool}:∀{l:on i},(∀a∈l,g (h a)=some (if p a then .item (f a)else .skip))->w4 g (l.map h)=some ((l.filter p).map f)
 | [],_=>rfl
 | a::l,q=>by
  have d:=q a (o6 ..);have j:=uu (g:=g) (h:=h) (f:=f) (p:=p) (l:=l) λ b k=>q b (o4 _ k);cases e:p a with
  | true=>
   rw[e]at d;show(match g (h a)with | none=>none | some .skip=>w4 g _ | some (.item x)=>match w4 g (l.map h)with | none=>none | some c=>some (x::c))=_;rw[d,nA e,A0];show(match w4 g (l.map h)with | none=>none | some c=>some (f a::c))=_;rw[j]
  | false=>
   rw[e]at d;show(match g (h a)with | none=>none | some .skip=>w4 g (l.map h) | some (.item x)=>match w4 g (l.map h)with | none=>none | some c=>some (x::c))=_;rw[d,nz (by rw[e];simp)];exact j
def md{d:Type}{l:on d}{h f:d->DV}{p:d->Bool}(e:p7 (JO it)=some (.ok (l.map h) cl))(hc:cl ≠ .weak)(hl:l.length<=n5)
  (q:∀a∈l,∃b,tg.bind (h a) (A6 fr δ)=some b/\tstD (evE G F cd b)=some (.ok (p a))/\∃c,evE G F elt b=some (.ok (f a) c)/\stro (f a) c=true):evE G F (.compi elt tg it cd fr) δ=some (.ok (.lst ((l.filter p).map f)) .fresh):=by
 show Ri.thn _ _=_;rw[e,br,g9 (by grind),uu (λ a g=>?_)]
 ·rfl
 ·obtain⟨b,m,k,c,j,i⟩:=q a g;rw[m,N9,k,j];cases p a with
  | false=>rfl
  | true=>
   show(if stro (f a) c then some _ else none)=_;rw[f8 i];rfl
noncomputable def WI(rows:on (on Int)):on Nat:=(JS 10).filter λ w=>rows.any λ r=>r.any λ x=>x==(w:Int)
def uv(rows:on (on Int))(e:∀r∈rows,∀x∈r,0<=x/\x<=9):L4 (rows.flatten.foldl dk [])=nI (WI rows):=by
 refine Hf (Hh _ _) λ x=>?_;rw[Hi,List.mem_flatten];unfold WI;constructor
 ·rintro⟨r,b,a⟩
  have:=e r b x a;refine⟨x.toNat,E4.mpr ⟨x5.mpr JC,U2.mpr ⟨r,b,U2.mpr ⟨x,a,?_⟩⟩⟩,by omega⟩;rw[i5];omega
 ·rintro⟨j,d,rfl⟩
  obtain⟨_,g⟩:=E4.mp d;obtain⟨r,b,f⟩:=U2.mp g;obtain⟨x,a,c⟩:=U2.mp f;rw[i5]at c;exact⟨r,b,by rw[←c];exact a⟩
def Hj(c:δ[i]? = some (.own (.lst ds)))(h:evE G F e δ=some (JR (.tup a)))(b:ds.length+a.length<=n5):evS G F fu (.ext i e) δ=some (.nx (δ.set i (.own (.lst (ds++a))))):=by
 show(match δ[i]? with | some (.own (.lst ds))=>Re.thnS δ _ _ | _=>none)=_;rw[c];show Re.thnS δ _ _=_;rw[h];show(if Cl.strong=.strong\/Cl.strong=.fresh then(if ds.length+a.length<=n5 then some (Out.nx _)else none)else none)=_;rw[f8 (.inl rfl),f8 b]
theorem uw(t:Sv)(j:m<=8):∀(rows:on (on Int)) (a:on Int) (c:Sv),(∀r∈rows,r.length=m)->a.length+rows.length*m<=1000->∃e,t6 (.one 2) (λ b=>evSs G F fu [.ext 1 (.var 2)] b) (rows.map λ r=>.tup (iD r)) [t,.own (.lst (iD a)),c]=some (.nx [t,.own (.lst (iD (a++rows.flatten))),e])
 | [],a,c,_,_=>⟨c,by rw[List.flatten_nil,C8];rfl⟩
 | r::rows,a,c,h,k=>by
  have i:=h r (o6 ..);rw[z7,aj,bc]at k;obtain⟨e,g⟩:=uw t j rows (a++r) _ (λ f d=>h f (o4 _ d)) (by rw[x4,i];omega);refine⟨e,?_⟩;rw[U0,←N7,←g];refine dU rfl (i6 (Hj rfl (f6 rfl) ?_) ?_)
  ·unfold iD;rw[i0,i0];exact k6 (show a.length+r.length<=1000 by omega) JD
  ·unfold iD;rw[C3];rfl
theorem ux(m:Nat):∀n,(List.replicate n m).sum=n*m
 | 0=>by simp
 | n+1=>by rw[V9,U5,ux m n,aj,bc,jl]
theorem uy:∀{l:on Int},(insI x l).length=l.length+1
 | []=>rfl
 | z::l=>by unfold insI;split<;>simp[uy]
theorem uz:∀{l:on Int},(L4 l).length=l.length
 | []=>rfl
 | z::l=>by unfold L4;rw[uy,uz,z7]
def Hk(rows:on (on Int))(n m:Nat)(R:Rect n m rows)(i:n<=8)(c:m<=8)(j:∀r∈rows,∀x∈r,0<=x/\x<=9):run G T fu (k+1) 5 [tT rows]=some (.v (.lst (nD (WI rows))) true):=by
 rw[r9 rfl rfl];unfold tW;have nm:n*m<=8*8:=cH i c;obtain⟨p,e⟩:=uw (fu:=fu) _ c rows [] .no R.2 (by rw[R.1];simp;omega);rw[iV]at e;have o:∀x∈rows.flatten,0<=x/\x<=9:=λ x g=>by obtain⟨r,h,g⟩:=List.mem_flatten.mp g;exact j r h x g
 have a:(rows.flatten.foldl dk []).length<64/\rows.flatten.length<4000:=by
  have u:=uv rows j;have q:=uz (l:=rows.flatten.foldl dk []);rw[u]at q;have l2:(nI (WI rows)).length<=10:=(by unfold nI WI;rw[i0];exact k6 (eK _ _) JK);have l3:rows.flatten.length=n*m:=by
   rw[List.length_flatten];have:rows.map List.length=List.replicate n m:=by rw[List.eq_replicate_iff];refine⟨by rw[i0];exact R.1,λ b o=>?_⟩;obtain⟨r,h,rfl⟩:=m9.mp o;exact R.2 r h
   rw[this,ux]
  omega
 have s1:evE G (JJ k) (.bi .sset [.var 1]) [.val (tT rows),.own (.lst (iD rows.flatten)),p]=some (.ok (.lst (nD (WI rows))) .fresh):=by
  show Rs.thn (evEs G (JJ k) [.var 1] [.val (tT rows),.own (.lst (iD rows.flatten)),p]) (λ l=>fM l)=_;rw[f7 (da (d:=.lst (iD rows.flatten)) rfl) i9];show(match ints? (iD rows.flatten)with
   | some f=>if f.length<4000/\(f.foldl dk []).length<64 then some (Re.ok (.lst ((L4 (f.foldl dk [])).map DV.int)) .fresh)else none
   | none=>none)=_
  rw[gX];show(if rows.flatten.length<4000/\(rows.flatten.foldl dk []).length<64 then some (Re.ok (.lst (iD (L4 (rows.flatten.foldl dk [])))) .fresh)else none)=_;rw[f8 ⟨a.2,a.1⟩,uv rows j,Hg]
 exact t5 (i6 (W8 rfl) (D9 (ds:=rows.map λ r=>.tup (iD r)) (cl:=.strong) rfl (.inl rfl) e (q0 (u7 s1))))
def uA:run G T fu (k+1) 0 [.int x,.int a,.int b]=some (.v (.bl (decide (a<=x)&&decide (x<=b))) false):=by
 rw[r9 rfl rfl];have e:evE G (JJ k) (.chain .LtE .LtE (.var 1) (.var 0) (.var 2)) [.val (.int x),.val (.int a),.val (.int b)]=some (.ok (.bl (decide (a<=x)&&decide (x<=b))) .strong):=by show(match some (decide (a<=x))with | none=>none | some false=>some (Re.ok _ .strong) | some true=>(some _).map λ k=>.ok _ .strong)=_;cases decide (a<=x)<;>rfl
 exact t5 (q0 (u7 (T4 rfl (T4 rfl (Y9 e)))))
def uC(r o:Nat):Builtin.bitAnd r o=((r &&& o:Nat):Int):=by
 unfold Builtin.bitAnd;rw[D5 (E8 r),D5 (E8 o)];rfl
def gY(o i:Nat):Builtin.bitAnd ((o:Int)/2^((i:Int).toNat)) 1=if o.testBit i then 1 else 0:=by
 have e:(o:Int)/2^((i:Int).toNat)=((o/2^i:Nat):Int):=(by rfl);rw[e,show(1:Int)=((1:Nat):Int)from rfl,uC,Nat.and_one_is_mod,Nat.testBit_eq_decide_div_mod_eq];have:o/2^i%2=0\/o/2^i%2=1:=by omega
 rcases this with h | h<;>rw[h]<;>rfl
noncomputable def cs(c:Nat):on Nat:=(JS (c.log2+1)).filter c.testBit
def gZ(c:Nat)(h0:0<c)(h:c<2^64):run G T fu (k+1) 3 [.int c]=some (.v (.lst (nD (cs c))) true):=by
 rw[r9 rfl rfl];have f:bp (c:Int)=((c.log2+1:Nat):Int):=by unfold bp;rw[g9 JC,Int.natAbs_natCast];push_cast;rfl
 have hl:c.log2<64:=(fz JC).mpr h;have a:=ze (G:=G) (δ:=o5 1 [.int c]) (elt:=.var 0) (tg:=.one 0) (it:=.rng [.meth .bitLength (.var 0) []]) (fr:=[none,some 0]) (p:=λ d=>match d with | .int i=>c.testBit i.toNat | _=>false) (cl:=.fresh)
  (Q5 ((by rw[←f];rfl)) JC) JD (by unfold L2.upTo;rw[i0,A8];exact k6 (show c.log2+1<=64 by omega) JD) (λ d hd=>by
   obtain⟨j,hj,rfl⟩:=yY hd;rw[show(0:Int)+(j:Int)=j by omega];refine⟨[.val (.int j),.val (.int c)],rfl,?_,rfl⟩;have l:evE G (JJ k) (.bin .RShift (.var 1) (.var 0)) [.val (.int j),.val (.int c)]=some (.ok (JP ((c:Int)/2^((j:Int).toNat))) .strong):=F0 (f6 rfl) (f6 rfl) (show(if 0<=(j:Int)then some (Re.ok (JP ((c:Int)/2^((j:Int).toNat))) Cl.strong)else none)=_ from f8 (E8 j));have g:evE G (JJ k) (.bin .BitAnd (.bin .RShift (.var 1) (.var 0)) (.int 1)) [.val (.int j),.val (.int c)]=some (.ok (JP (if c.testBit j then 1 else 0)) .strong):=F0 l g8 (by rw[←gY];rfl);have b:∀t:Bool,tstD (some (Re.ok (DV.int (if t=true then 1 else 0)) Cl.strong))=some (Rt.ok t):=λ t=>by cases t<;>rfl
   rw[g];refine(b _).trans ?_;show _=some (Rt.ok (c.testBit (j:Int).toNat));rw[D3])
 have e:(upTo 0 (c.log2+1)).filter (λ d=>match d with | .int i=>c.testBit i.toNat | _=>false)=nD (cs c):=by
  unfold L2.upTo nD cs;rw[List.filter_map];have:((λ d=>match d with | DV.int i=>c.testBit i.toNat | _=>false) ∘ λ (i:Nat)=>DV.int (0+(i:Int)))=c.testBit:=by
   funext j
   show c.testBit ((0:Int)+(j:Int)).toNat=_;rw[show((0:Int)+(j:Int)).toNat=j by omega]
  rw[this];apply Q8;intro j _;show DV.int _=DV.int _
  congr 1
  omega
 rw[e]at a;unfold tU;exact t5 (q0 (u7 a))
def Hl{n:Nat}(hn:n<=1000)(h:JF e cl (.int n)):evE G F (.bin .Sub (.bin .LShift (.int 1) e) (.int 1)) δ=some (.ok (JP (((2^n:Nat):Int) - 1)) .strong):=by
 refine G4 (cx:=.strong) (F0 g8 h ?_) g8;show(if 0<=_/\_<=1000000/\(1:Int).natAbs<2^64 then some (Re.ok _ Cl.strong)else none)=_;rw[f8 ⟨E8 n,by omega,by decide⟩,D3,Int.one_mul]
 push_cast
 rfl
def uD{n:Nat}(a:n<=1000)(h:run G T fu (k+1) 0 [d,.int 1,.int (((2^n:Nat):Int) - 1)]=some (.v (.bl t) false)):run G T fu (k+2) 2 [d,.int n]=if t then some (.v .non false)else none:=by
 rw[r9 rfl rfl];unfold tS;have q:=bv (k7 (δ:=o5 2 [d,.int n]) (es:=[.var 0,.int 1,.bin .Sub (.bin .LShift _ (.var 1)) _]) (f7 (f6 rfl) (f7 g8 (f7 (Hl a (f6 rfl)) i9))) rfl h);cases t with
 | true=>exact yZ (x8 (o7 q) rfl)
 | false=>
  show Ou.of _=_;unfold evSs;rw[(fT (o7 q))];rfl
def uE(h:c<2^n)(a:j∈cs c):j<n:=by
 unfold cs at a;rw[E4]at a;by_cases q:j<n
 ·exact q
 ·have z:=Nat.testBit_lt_two_pow (p9 h (Q7 JD (show n<=j by omega)));rw[z]at a;cases a.2
def uF(h0:0<c)(h:c<2^64):(cs c).length<=1000:=by
 have hl:=(fz JC).mpr h;unfold cs;exact k6 (eK _ _) (by rw[A8];omega)
def Hm(rows:on (on Int))(n m a b:Nat)(R:Rect n m rows)(hn:0<n)(f:n<=64)(h:m<=64)(v:0<a)(u:a<2^n)(p:0<b)(o:b<2^m):run G T fu (k+3) 1 [tT rows,.int a,.int b]=some (.v (tT (sub rows (cs a) (cs b))) false):=by
 rw[r9 rfl rfl];obtain⟨c,rest,rfl⟩:∃c rest,rows=c::rest:=by
  cases rows with
  | nil=>have:=R.1;simp at this;omega
  | cons a b=>exact⟨a,b,rfl⟩
 have r:a<2^64:=p9 u (Q7 JD f);have l:b<2^64:=p9 o (Q7 JD h);have z:=(by have q:=Y7 (F:=run G T fu (k+2)) (δ:=o5 3 [tT (c::rest),.int a,.int b]) (e:=.var 0) rfl;rw[i0,R.1]at q;exact q);have w:=(by have e:evE G (JJ (k+2)) (.ix (.var 0) (.int 0)) (o5 3 [tT (c::rest),.int a,.int b])=some (.ok (.tup (iD c)) .strong):=n9 (x:=tT (c::rest)) (y:=.int 0) (f6 rfl) g8 (gV (rows:=c::rest) (i:=0) JK);have q:=Y7 e;rw[show(iD c).length=m by unfold iD;rw[i0,(R.2 c (o6 ..))]]at q;exact q);have E:=uD (fu:=fu) (k:=k) (d:=.int a) (n:=n) (t:=true) JC (by rw[uA,D5 JC,D5 JC];rfl);have C:=uD (fu:=fu) (k:=k) (d:=.int b) (n:=m) (t:=true) JC (by rw[uA,D5 JC,D5 JC];rfl);have g:=Hd (fu:=fu) (k:=k+1) (c::rest) n m R (cs a) (cs b) (λ i B=>uE u B) (λ j A=>uE o A) (uF v r) (uF p l);unfold tR;exact t5 (i6 (pK (k7 (f7 (f6 rfl) (f7 z i9)) rfl E)) (i6 (pK (k7 (f7 (f6 rfl) (f7 w i9)) rfl C)) (q0 (u7 (k7 (f7 (f6 rfl) (f7 (k7 (f7 (f6 rfl) i9) rfl (gZ a v r)) (f7 (k7 (f7 (f6 rfl) i9) rfl (gZ b p l)) i9))) rfl g)))))
noncomputable def cd(n:Nat):Nat->on Int
 | 0=>[]
 | l+1=>((n/2^l%2:Nat):Int)::cd n l
def sd(s:Bool):DV:=if s then .str "row" else .str "column"
noncomputable def hd(l:on Nat):DV:=match l with | []=>.non | c::_=>.int c
end k62
end
noncomputable section
namespace k62
open PySem L2
def dW(h:j∈cs c):c.testBit j=true:=(E4.mp h).2
def me(h:c.testBit j=true):j∈cs c:=by
 refine E4.mpr ⟨x5.mpr ?_,h⟩;have a:c≠0:=by intro z;rw[z,Nat.zero_testBit]at h;cases h
 have:=(Nat.le_log2 a).mpr (iq h);omega
def tb5(hc:c<32)(h:c.testBit j=true):j<5:=by
 have h1:=iq h;rcases ah j 5 with z | z
 ·exact z
 ·have:2^5<=2^j:=Q7 JD z;omega
def Sb(h C:Nat):Prop:=0<h/\h<C/\h &&& C=h
def Hn:∀C,C<32->∀h,h<32->h &&& C=h->∀j,j<5->(C - h).testBit j=(C.testBit j && !h.testBit j)/\(h.testBit j=true->C.testBit j=true):=by decide +kernel
def Sb.lt(s:Sb h C)(a:C<32):h<32:=R7 s.2.1 a
def uG(s:Sb h C)(b:C<32)(c:j∈cs (C - h)):j∈cs C/\j∉cs h:=by
 have a:=dW c;have d:=tb5 JC a;rw[(Hn C b h (s.lt b) s.2.2 j d).1,f9]at a;refine⟨me a.1,λ z=>?_⟩;rw[dW z]at a;exact absurd a.2 JD
def uH:∀c,c<32->0<c->0<(cs c).length:=by decide +kernel
abbrev Mx:=Nat->Nat->Int
def wp(f:Mx)(R C:Nat)(w:Nat):Bool:=(cs R).any λ i=>(cs C).any λ j=>f i j==(w:Int)
def wn(f:Mx)(R C:Nat):Nat:=((JS 10).filter (wp f R C)).length
def uI:wp f R C w=true↔∃i j,i∈cs R/\j∈cs C/\f i j=(w:Int):=by
 unfold wp;rw[U2];constructor
 ·rintro⟨i,b,h⟩
  obtain⟨j,a,h⟩:=U2.mp h;exact⟨i,j,b,a,i5.mp h⟩
 ·rintro⟨i,j,b,a,h⟩
  exact⟨i,b,U2.mpr ⟨j,a,i5.mpr h⟩⟩
noncomputable def hv(R:Nat):on Nat:=((JS (R - 1)).map (· + 1)).filter λ h=>h &&& R==h&&decide (h<R - h)
def Ho:∀R,R<32->∀h,h<32->0<h->h<R->h &&& R=h->((hv R).contains h||((hv R).contains (R - h)&&decide (R - (R - h)=h)))=true:=by decide +kernel
def uJ(R:Nat)(b:R<32)(h:Nat)(a:h<32)(s:Sb h R):h∈hv R\/(R - h∈hv R/\R - (R - h)=h):=by
 have:=Ho R b h a s.1 s.2.1 s.2.2;rw[B5,f9,F3]at this;rcases this with z | z
 ·exact .inl (N5.mp z)
 ·exact .inr ⟨N5.mp z.1,z.2⟩
def T5(q:h∈hv R):Sb h R/\h<R - h:=by
 obtain⟨c,a⟩:=E4.mp q;obtain⟨i,b,rfl⟩:=m9.mp c;rw[f9,i5,F3]at a;have:=x5.mp b;exact⟨⟨by omega,by omega,a.1⟩,a.2⟩
end k62
end
noncomputable section
namespace k62
open PySem L2
variable {fu k:Nat} {F:Nat->on DV->Jk Ou} {δ:on Sv} {ds:on DV} {cl:Cl} {N M:Nat} {R C:Nat}
def aJ{n:Nat}(c:JF b cx (.int n))(hn:n<=1000):p7 (JO (.rng [.int 1,b]))=some (.ok (upTo 1 (n - 1)) .fresh):=by
 show p7 (Rs.thn (evEs G F [.int 1,b] δ) (λ l=>(rngD l).map λ a=>.ok (.lst a) .fresh))=_;rw[f7 g8 (f7 c i9),cZ];have hs:(J0 1&&J0 (n:Int)&&decide ((n:Int) - 1<=(n5:Int)))=true:=by rw[f9,f9,P1];refine⟨⟨by decide,?_⟩,R8 (show(n:Int) - 1<=1000 by omega) JD⟩;unfold J0;rw[f9,P1,P1];exact⟨R8 JD (E8 n),iI (show(n:Int)<=1000 by omega) JD⟩
 show p7 ((if J0 1&&J0 (n:Int)&&decide ((n:Int) - 1<=(n5:Int))then some (upTo 1 ((n:Int) - 1).toNat)else none).map λ a=>.ok (.lst a) .fresh)=_;rw[f8 hs,show((n:Int) - 1).toNat=n - 1 by omega];rfl
def uL(n:Nat):upTo 1 n=((JS n).map (· + 1)).map λ (h:Nat)=>DV.int (h:Int):=by
 unfold L2.upTo;rw[v7];apply Q8;intro j _;show DV.int _=DV.int _
 congr 1
 simp only[Function.comp];omega
def uM{i j:Nat}(d:JF a cx (.int i))(c:JF b cy (.int j)):evE G F (.bin .BitAnd a b) δ=some (.ok (JP ((i &&& j:Nat):Int)) .strong):=F0 d c (by show some _=_;rw[uC])
def uN{i j:Nat}(d:JF a cx (.int i))(c:JF b cy (.int j)):evE G F (.cmp .Eq a b) δ=some (.ok (.bl (i==j)) .strong):=by
 rw[b_eq d c]
 congr 3
 rw[iY,i5,i5];omega
def uO(hR:R<32):run G T fu (k+1) 7 [.int R]=some (.v (.lst (nD (hv R))) true):=by
 rw[r9 rfl rfl];unfold tY;have w:=aJ (F:=run G T fu k) (δ:=o5 1 [.int R]) (b:=.var 0) (n:=R) (f6 rfl) JC;rw[uL]at w;refine t5 (q0 (u7 (md w JD (by rw[i0,A8];exact k6 (show R - 1<=1000 by omega) JD) λ h f=>?_)));refine⟨[.val (.int h),.val (.int R)],rfl,?_,.strong,f6 rfl,rfl⟩;obtain⟨i,e,rfl⟩:=m9.mp f;have:=x5.mp e;have c:=uN (F:=run G T fu k) (δ:=[.val (JP ((i+1:Nat):Int)),.val (.int R)]) (uM (a:=.var 0) (b:=.var 1) (f6 rfl) (f6 rfl)) (f6 (n:=0) rfl);have d:=b_lt (G:=G) (F:=run G T fu k) (δ:=[.val (JP ((i+1:Nat):Int)),.val (.int R)]) (f6 (n:=0) rfl) (G4 (a:=.var 1) (b:=.var 0) (f6 rfl) (f6 rfl));have g:decide (((i+1:Nat):Int)<(R:Int) - ((i+1:Nat):Int))=decide (i+1<R - (i+1)):=by rw[decide_eq_decide];omega
 rw[g]at d;cases q:((i+1) &&& R==i+1)with
 | true=>
  rw[q]at c;rw[T4 c (Y9 d)];rfl
 | false=>
  rw[q]at c;rw[um c];rfl
def le4m{l:on a}(h:l.length<=4):l.length<=n5:=k6 h JD
abbrev Wy:=DV×Nat×(Nat×Nat)×(Nat×Nat)
noncomputable def wD(a:Wy):DV:=.tup [a.1,.int a.2.1,.tup [.int a.2.2.1.1,.int a.2.2.1.2],.tup [.int a.2.2.2.1,.int a.2.2.2.2]]
def wl(R C:Nat):on Wy:=(hv R).map (λ h=>(.str "row",h,(R - h,C),(h,C)))++(hv C).map (λ h=>(.str "column",h,(R,C - h),(R,h)))
def Z0(h:R<32):(hv R).length<=31:=by
 unfold hv;refine k6 (eK ..) ?_;rw[i0,A8];omega
def hU{b:Nat}(h:b<a):(a:Int) - (b:Int)=((a - b:Nat):Int):=by omega
def uP(d:R<32)(e:C<32):run G T fu (k+2) 6 [.int R,.int C]=some (.v (.lst ((wl R C).map wD)) true):=by
 rw[r9 (fd:=lQ) rfl rfl];unfold lQ;have p:=k7 (G:=G) (F:=run G T fu (k+1)) (δ:=o5 4 [.int R,.int C]) (f:=7) (es:=[.var 0]) (l:=[(JV R)]) rfl rfl (uO (k:=k) (fu:=fu) d);have o:=k7 (G:=G) (F:=run G T fu (k+1)) (δ:=[.val (.int R),.val (.int C),.val (.lst ((hv R).map λ h=>wD (.str "row",h,(R - h,C),(h,C)))),.no]) (f:=7) (es:=[.var 1]) (l:=[(JV C)]) rfl rfl (uO (k:=k) (fu:=fu) e);have m:p7 (evE G (JJ (k+1)) (.call 7 [.var 0]) (o5 4 [.int R,.int C]))=some (.ok ((hv R).map λ (h:Nat)=>DV.int (h:Int)) .fresh):=by rw[p];rfl
 have g:p7 (evE G (JJ (k+1)) (.call 7 [.var 1]) [.val (.int R),.val (.int C),.val (.lst ((hv R).map λ h=>wD (.str "row",h,(R - h,C),(h,C)))),.no])=some (.ok ((hv C).map λ (h:Nat)=>DV.int (h:Int)) .fresh):=by rw[o];rfl
 have n:=N4 (elt:=.tup [.str "row",.var 0,.tup [.bin .Sub (.var 1) (.var 0),.var 2],.tup [.var 0,.var 2]]) (tg:=.one 0) (fr:=[none,some 0,some 1]) m JD (k6 (Z0 d) JD) λ h c=>
  ⟨[.val (.int h),.val (.int R),.val (.int C)],.strong,rfl,by
   have s:=G4 (G:=G) (F:=run G T fu (k+1)) (δ:=[.val (.int h),.val (.int R),.val (.int C)]) (a:=.var 1) (b:=.var 0) (i:=R) (j:=h) (f6 rfl) (f6 rfl);rw[hU (T5 c).1.2.1]at s;exact D0 (f7 K2 (f7 (f6 rfl) (f7 (D0 (f7 s (f7 (f6 rfl) i9)) (le4m JK) rfl) (f7 (D0 (f7 (f6 rfl) (f7 (f6 rfl) i9)) (le4m JK) rfl) i9)))) (le4m JK) rfl,rfl⟩
 have m2:=N4 (elt:=.tup [.str "column",.var 0,.tup [.var 1,.bin .Sub (.var 2) (.var 0)],.tup [.var 1,.var 0]]) (tg:=.one 0) (fr:=[none,some 0,some 1]) g JD (k6 (Z0 e) JD) λ h c=>
  ⟨[.val (.int h),.val (.int R),.val (.int C)],.strong,rfl,by
   have s:=G4 (G:=G) (F:=run G T fu (k+1)) (δ:=[.val (.int h),.val (.int R),.val (.int C)]) (a:=.var 2) (b:=.var 0) (i:=C) (j:=h) (f6 rfl) (f6 rfl);rw[hU (T5 c).1.2.1]at s;exact D0 (f7 K2 (f7 (f6 rfl) (f7 (D0 (f7 (f6 rfl) (f7 s i9)) (le4m JK) rfl) (f7 (D0 (f7 (f6 rfl) (f7 (f6 rfl) i9)) (le4m JK) rfl) i9)))) (le4m JK) rfl,rfl⟩
 refine t5 (i6 (n6 n rfl) (i6 (n6 m2 rfl) (q0 (u7 (cl:=.fresh) ?_))));refine(F0 (f6 rfl) (f6 rfl) (show binD .Add _ _ .strong .strong=some (.ok (.lst ((wl R C).map wD)) .fresh)from ?_));show(if((hv R).map λ h=>wD (.str "row",h,(R - h,C),(h,C))).length+((hv C).map λ h=>wD (.str "column",h,(R,C - h),(R,h))).length<=n5 then _ else none)=_;rw[f8]
 ·unfold wl;rw[C3,v7,v7];rfl
 ·rw[i0,i0];exact k6 (fe (Z0 d) (Z0 e)) JD
section
variable {α β:Type} [BEq α] [LawfulBEq α] {κ:α->on Int} {ν:β->Int}
def kG(κ:α->on Int)(p:α):DKey:=.t (kP (κ p))
noncomputable def ksG(κ:α->on Int)(L:on (α×β)):on DKey:=L.map λ p=>kG κ p.1
noncomputable def vsG(ν:β->Int)(L:on (α×β)):on DV:=L.map λ p=>.int (ν p.2)
def dG(κ:α->on Int)(ν:β->Int)(L:on (α×β)):DV:=.dct (ksG κ L) (vsG ν L)
def lG(κ:α->on Int)(ν:β->Int)(L:on (α×β)):DV:=.dcl (ksG κ L) (vsG ν L)
def uQ(h:kP p=kP q):p=q:=(List.map_inj_right λ _ _=>Sum.inl.inj).mp h
theorem uR(b:∀p q,a p=a q->p=q)(q:α):∀L:on (α×β),W5 (kG a q) (ksG a L) (vsG ν L)=(L.lookup q).map λ z=>DV.int (ν z)
 | []=>rfl
 | (p,z)::L=>by
  show(if kG a p=kG a q then some (DV.int (ν z))else W5 _ (ksG a L) (vsG ν L))=_;rw[F9];by_cases h:p=q
  ·rw[f8 (by rw[h]),h,N8];rfl
  ·rw[g9 (λ e:kG a p=kG a q=>h (b _ _ (uQ (DKey.t.inj e)))),uR b q L,show(q==p)=false from y9.mpr (Ne.symm h)]
theorem no_G(a:∀p q,κ p=κ q->p=q):∀{L:on (α×β)},L.lookup q=none->kG κ q∉ksG κ L
 | [],_,h=>by cases h
 | (p,z)::L,e,h=>by
  rw[F9]at e;split at e
  ·cases e
  ·rename_i b;rcases j0.mp h with w | w
   ·rw[a _ _ (uQ (DKey.t.inj w)),N8]at b;cases b
   ·exact no_G a e w
def mh(l:on Int):ints? (l.map DV.int)=some l:=gX l
def V6(a:∀p q,κ p=κ q->p=q)(f:asDc X=some (ksG κ L,vsG ν L))(c:evE G F u δ=some (.ok X cx))(h:evE G F e δ=some (.ok (.tup ((κ q).map .int)) cy))(b:L.lookup q=some z):evE G F (.dix u e) δ=some (.ok (JP (ν z)) .strong):=by
 show Re.thn _ _=_;rw[c,M9,h,M9];unfold dixD keyI;rw[f];show((ints? _).bind λ k=>(W5 _ _ _).bind λ d=>(asI d).bind λ v=>some _)=_;rw[mh];show((W5 (kG κ q) _ _).bind λ d=>(asI d).bind λ v=>some _)=_;rw[uR a,b];rfl
def mi{ks:on DKey}(h:δ[i]? = some (.od (.dcl ks vs))):evE G F (.var i) δ=some (.ok (.dcl ks vs) .weak):=by
 show varE δ[i]? = _;rw[h];rfl
def uT(a:∀p q,κ p=κ q->p=q)(k:δ[i]? = some (.od (lG κ ν L)))(g:evE G F e δ=some (.ok (JP (ν z)) m))(h:evEs G F es δ=some (.ok l))(f:l.map (·.1)=(κ q).map .int)(j:(κ q).length<=3)(b:L.lookup q=none)(c:L.length<100000):evS G F fu (.dpp i es e) δ=some (.nx (δ.set i (.od (lG κ ν (L++[(q,z)]))))):=by
 show((asOd δ[i]?).bind λ p=>Re.thnS δ _ λ d _=>Rs.thnS δ _ λ l=>(dppD i δ p l d).map Out.nx)=_;rw[k];show Re.thnS δ _ _=_;rw[g];show Rs.thnS δ _ _=_;rw[h];show(dppD i δ _ l _).map Out.nx=_;unfold dppD;rw[f,mh];show((if(ksG κ L).length<n5/\(κ q).length<=3 then some (δ.set i (.od (.dcl (putD (kG κ q) _ _ _).1 (putD (kG κ q) _ _ _).2)))else none).map Out.nx)=_;rw[f8 ⟨by unfold ksG;rw[i0];exact R7 c JD,j⟩];unfold putD;rw[g9 (no_G a b)];unfold lG ksG vsG;rw[C3,C3];rfl
end
end k62
end
noncomputable section
namespace k62
open PySem L2
variable {fu k:Nat} {F:Nat->on DV->Jk Ou} {δ:on Sv} {ds:on DV} {cl:Cl} {R C a b:Nat} {rest:on (on Int)} {L:Tb}
def mf(rest:on (on Int)):Mx:=λ i j=>(rest.getD i []).getD j 0
def Hq(rest:on (on Int))(R C:Nat):WI (sub rest (cs R) (cs C))=(JS 10).filter (wp (mf rest) R C):=by
 unfold WI sub wp mf
 congr 1
 funext w
 rw[jt]
 congr 1
 funext i
 show((cs C).map λ j=>(rest.getD i []).getD j 0).any _=_;rw[jt];rfl
def W9(rest:on (on Int)):Prop:=∀r∈rest,∀x∈r,0<=x/\x<=9
def uU{r:on Int}(h:j<r.length):r.getD j 0∈r:=by
 rw[D1,p8 h];exact U1 h
def mj(c:Rect a b rest)(e:W9 rest)(g:i<a)(f:j<b):0<=mf rest i j/\mf rest i j<=9:=by
 have d:=Y8 (by rw[c.1];exact g);exact e _ d _ (uU (by rw[c.2 _ d];exact f))
def bR(a:c<2^n)(h:i∈cs c):i<n:=by
 exact(Nat.pow_lt_pow_iff_right (by decide:1<2)).mp (T9 (iq (dW h)) a)
def p32(h:n<=5):2^n<=32:=Q7 JD h
def cs5:∀c,c<32->(cs c).length<=5:=by decide +kernel
def Hr(f:Rect a b rest)(e:W9 rest)(h:a<=5)(g:b<=5)(l:0<R)(k:R<2^a)(n:0<C)(m:C<2^b):0<wn (mf rest) R C:=by
 have pa:=p32 h;have pb:=p32 g;obtain⟨i,d⟩:=mW (uH R JC l);obtain⟨j,c⟩:=mW (uH C JC n);have q:=mj f e (bR k d) (bR m c);unfold wn;refine List.length_pos_of_mem (a:=(mf rest i j).toNat) (E4.mpr ⟨x5.mpr JC,uI.mpr ⟨i,j,d,c,by omega⟩⟩)
structure Jt where
 g:Nat
 j:Nat->Nat->Nat
 nm:Str
end k62
end
noncomputable section
namespace k62
open PySem L2
def mn{n:Nat}(h:JF e cx (.int n))(hn:n<=1000):evE G F (.bin .LShift (.int 1) e) δ=some (.ok (JP ((2^n:Nat):Int)) .strong):=F0 g8 h (by
 show(if 0<=_/\_<=1000000/\(1:Int).natAbs<2^64 then some (Re.ok _ .strong)else none)=_;rw[f8 ⟨by omega,by omega,by decide⟩,D3,Int.one_mul]
 congr 3)
def Hs(h:noOt i δ=true):evS G F fu (.sep i) δ=some (.nx (δ.set i (.od (.dcl [] [])))):=f8 h
def Hu{ks:on DKey}(h:δ[i]? = some (.od (.dcl ks vs))):evS G F fu (.retd i) δ=some (.rt (.dct ks vs) false):=by
 show((asOd δ[i]?).bind λ p=>some _)=_;rw[h];rfl
theorem uV:∀k:on Int,unP (kP k)=some k
 | []=>rfl
 | a::r=>by show(unP (kP r)).map _=_;rw[uV r];rfl
theorem uW:∀L:on (b×a),kvp? (ksG κ L) (vsG ν L)=some (L.map λ p=>(κ p.1,ν p.2))
 | []=>rfl
 | p::L=>by show((unP _).bind λ k=>(kvp? (ksG κ L) (vsG ν L)).map _)=_;rw[uV,uW L];rfl
def b_gt{G:Gs}{F:Nat->on DV->Jk Ou}{δ:on Sv}{a b:ME}{i j:Int}{cx cy:Cl}(ha:JF a cx (.int i))(hb:JF b cy (.int j)):evE G F (.cmp .Gt a b) δ=some (.ok (.bl (decide (j<i))) .strong):=C4 ha hb rfl
def Z1(h1 : -(2^62)<j)(h2:j<2^62):Q0 i j=true:=by
 unfold Q0;have e1:(2:Int)^62=4611686018427387904:=JD;have e2:(2:Int)^64=18446744073709551616:=JD;rw[D5 (show -(2^64)<j by omega),D5 (show j<2^64 by omega)];rw[Bool.and_self,jo,jp]
abbrev sS(c n:Int)(xs:on Int)(a b:Sv):on Sv:=[.val (.int c),.val (.int n),.own (.lst (iD xs)),a,b]
def uX(xs:on Int)(x:Int):iD xs++[DV.int x]=iD (xs++[x]):=by unfold iD;rw[C3];rfl
noncomputable def s1:on MS:=[.set 3 false (.bin .Mod (.bin .Add (.bin .Add (.bin .Mult (.var 3) (JP 48271)) (.bin .Mult (.var 4) (.var 4))) (JP 11)) (JP 2147483647)),.app 2 (.bin .FloorDiv (.var 3) (.int 7))]
def uY(c:Int)(n:Nat)(hn:n<=100):∃xs:on Int,xs.length=n/\(∀x∈xs,0<=x/\x<2147483647)/\run G T fu (k+1) 19 [.int c,.int (n:Int)]=some (.v (.lst (iD xs)) true):=by
 rw[r9 rfl rfl];have z:∃e,t6 (.one 4) (λ e=>evSs G (JJ k) fu s1 e) (upTo 0 n) (sS c n [] (JE (c%2147483647+48271)) .no)=some (.nx e)/\∃xs r b,xs.length=n/\(∀x∈xs,0<=x/\x<2147483647)/\e=sS c n xs (JE r) b:=by
  refine K0 (i:=4) (I:=λ j m=>∃xs r b,xs.length=j/\(∀x∈xs,0<=x/\x<2147483647)/\m=sS c n xs (JE r) b) n 0 (λ j hj m B=>?_) ⟨[],_,.no,rfl,(λ _ h=>nomatch h),rfl⟩;obtain⟨xs,q,b,v,l,rfl⟩:=B;rw[R9];have e2:(2:Int)^62=4611686018427387904:=JD;obtain⟨D,f⟩:∃D,sS c n xs (.val (.int q)) (.val (.int (j:Int)))=D:=⟨_,rfl⟩;have y:evE G (JJ k) (.var 3) D=some (.ok (.int q) .strong):=by rw[←f];exact f6 rfl
  have o:evE G (JJ k) (.var 4) D=some (.ok (JP (j:Int)) .strong):=by rw[←f];exact f6 rfl
  have w:=E2 (B2 (B2 (K1 y (g8 (i:=48271)) (Z1 JC JC)) (K1 o o (Z1 JC JC))) (g8 (i:=11))) (g8 (i:=2147483647)) JD;obtain⟨p,u⟩:∃p,(q*48271+(j:Int)*(j:Int)+11)%2147483647=p:=⟨_,rfl⟩;rw[u]at w;have p0:0<=p/\p<2147483647:=by rw[←u];exact⟨eX _ JD,eP _ JD⟩
  refine⟨sS c n (xs++[p/7]) (JE p) (JE (j:Int)),?_,xs++[p/7],_,_,by rw[x4,v];rfl,λ x g=>?_,rfl⟩
  ·show evSs G (JJ k) fu s1 (sS c n xs (JE q) (JE (j:Int)))=_;rw[f];refine i6 (δ':=sS c n xs (JE p) (JE (j:Int))) (by rw[n6 w rfl,←f];rfl) (i6 ?_ rfl);have:=fU (fu:=fu) (G:=G) (F:=run G T fu k) (i:=2) (δ:=sS c n xs (JE p) (JE (j:Int))) (ds:=iD xs) rfl (av (f6 (n:=3) (d:=.int p) rfl) (g8 (i:=7)) JD) rfl (by unfold iD;rw[i0,v];exact p9 (show j<1000 by omega) JD);rw[uX]at this;exact this
  ·rcases C7.mp g with h | h
   ·exact l x h
   ·rw[C2.mp h];omega
 obtain⟨e,A,xs,r,b,g,l,rfl⟩:=z;exact⟨xs,g,l,t5 (i6 (W8 (d:=.lst []) rfl) (i6 (n6 (B2 (E2 (f6 rfl) g8 JD) g8) rfl) (D9 (Q5 (f6 rfl) JC) (.inr rfl) A (q0 (u7 (cl:=.top) (da rfl))))))⟩
def mq(c:Int)(n:Nat)(a:n<=100):∃xs:on Int,xs.length=n/\run G T fu (k+1) 19 [.int c,.int n]=some (.v (.lst (xs.map DV.int)) true):=by
 obtain⟨xs,d,_,b⟩:=uY c n a;exact⟨xs,d,b⟩
def b_ne(d:JF a cx (.int i))(c:JF b cy (.int j)):evE G F (.cmp .NotEq a b) δ=some (.ok (.bl (i != j)) .strong):=C4 d c rfl
def uZ(d:JF a cx (.lst x))(c:JF b cy (.lst y))(h:x.length+y.length<=1000):evE G F (.bin .Add a b) δ=some (.ok (.lst (x++y)) (Cl.anew cx cy)):=
 F0 d c (f8 (k6 h JD))
def or_f{F:Nat->on DV->Jk Ou}{δ:on Sv}{G:Gs}{a b:ME}{r:on ME}{cx:Cl}{o:Jk Re}(ha:JF a cx (.bl false))(hb:evE G F (.or (b::r)) δ=o):evE G F (.or (a::b::r)) δ=o:=by
 show Re.thn (JO a) (λ x c=>orD x c (JO (.or (b::r))))=o;rw[ha];exact hb
def or_1{F:Nat->on DV->Jk Ou}{δ:on Sv}{G:Gs}{a:ME}{o:Jk Re}(ha:evE G F a δ=o):evE G F (.or [a]) δ=o:=by
 exact ha
def mr{xs:on Int}{i:Int}(c:0<=i)(h:i<xs.length):∃v,∀{F:Nat->on DV->Jk Ou} {δ:on Sv} {e:ME},evE G F e δ=some (JR (.lst (xs.map DV.int)))->evE G F (.ix e (.int i)) δ=some (.ok (.int v) .strong):=by
 obtain⟨v,a⟩:=fV c h;exact⟨v,λ b=>n9 b g8 a⟩
def lst1(h:evE G F e δ=some (.ok d c))(hs:stro d c=true):evE G F (.lst [e]) δ=some (.ok (.lst [d]) .fresh):=Hb (f7 h i9) (show 1<=n5 by decide) (by unfold stros;simp[hs])
def mt(e:JF a cx (.int i))(d:JF b cy (.int j))(c:0<=j):evE G F (.bin .RShift a b) δ=some (.ok (JP (i/2^j.toNat)) .strong):=
 F0 e d (f8 c)
def lenT(R:Rect n m rows)(h:evE G F e δ=some (JR (tT rows))):evE G F (.bi .len [e]) δ=some (.ok (JP (n:Int)) .strong):=by
 have q:=Y7 h;rw[i0,R.1]at q;exact q
def T6(R:Rect n m rows)(b:0<n)(h:evE G F e δ=some (JR (tT rows))):evE G F (.bi .len [.ix e (.int 0)]) δ=some (.ok (JP (m:Int)) .strong):=by
 have a:0<rows.length:=by rw[R.1];exact b
 have t:=Y7 (n9 h (g8) (gV a));rw[show(iD _).length=m by unfold iD;rw[i0];exact R.2 _ (Y8 a)]at t;exact t
noncomputable def minN:on Nat->Nat
 | []=>0
 | x::r=>if r.isEmpty then x else min x (minN r)
def stp(J:Jt)(f:Mx)(V:Nat->Nat->Nat)(R C:Nat):Nat:=if wn f R C=1 then J.g else minN ((wl R C).map λ w=>J.j (V w.2.2.1.1 w.2.2.1.2) (V w.2.2.2.1 w.2.2.2.2))
def zZ(J:Jt)(f:Mx):Nat->Nat->Nat->Nat
 | 0,_,_=>0
 | n+1,R,C=>stp J f (zZ J f n) R C
def Hv(h:w∈wl R C):(∃g,Sb g R/\g<R - g/\w.2.2=((R - g,C),(g,C)))\/∃g,Sb g C/\g<C - g/\w.2.2=((R,C - g),(R,g)):=by
 unfold wl at h;rcases C7.mp h with q | q
 ·obtain⟨g,a,rfl⟩:=m9.mp q;exact .inl ⟨g,(T5 a).1,(T5 a).2,rfl⟩
 ·obtain⟨g,a,rfl⟩:=m9.mp q;exact .inr ⟨g,(T5 a).1,(T5 a).2,rfl⟩
def V(J:Jt)(f:Mx)(R C:Nat):Nat:=zZ J f (R+C) R C
def r1(n:Nat):on Nat:=(JS (n - 1)).map (· + 1)
def bS:j∈r1 n↔0<j/\j<n:=by
 unfold r1;rw[m9];constructor
 ·rintro⟨i,h,rfl⟩;have:=x5.mp h;omega
 ·rintro⟨h1,h2⟩;exact⟨j - 1,x5.mpr JC,by omega⟩
def vb(h:0<c):r1 (c+1)=r1 c++[c]:=by
 unfold r1;obtain⟨d,rfl⟩:∃d,c=d+1:=⟨c - 1,by omega⟩;rw[show d+1+1 - 1=d+1 by omega,show d+1 - 1=d by omega,cD,C3];rfl
noncomputable def ps(b r c:Nat):on (Nat×Nat):=(r1 r).flatMap (λ i=>(r1 (2^b)).map λ j=>(i,j))++(r1 c).map λ j=>(r,j)
def Z2:q∈ps b r c↔(0<q.1/\q.1<r/\0<q.2/\q.2<2^b)\/(q.1=r/\0<q.2/\q.2<c):=by
 unfold ps;rw[C7,List.mem_flatMap,m9];constructor
 ·rintro(⟨i,h1,h2⟩ | ⟨j,h,rfl⟩)
  ·obtain⟨j,a,rfl⟩:=m9.mp h2;have:=bS.mp h1;have:=bS.mp a;exact .inl ⟨by omega,by omega,by omega,by omega⟩
  ·exact .inr ⟨rfl,bS.mp h⟩
 ·rintro(⟨h1,h2,a,h4⟩ | ⟨h1,h2,a⟩)
  ·exact .inl ⟨q.1,bS.mpr ⟨h1,h2⟩,m9.mpr ⟨q.2,bS.mpr ⟨a,h4⟩,rfl⟩⟩
  ·exact .inr ⟨q.2,bS.mpr ⟨h2,a⟩,by rw[←h1]⟩
def Hw(h:0<c):ps b r (c+1)=ps b r c++[(r,c)]:=by
 unfold ps;rw[vb h,C3,N7];rfl
def vc(h:0<r):ps b (r+1) 1=ps b r (2^b):=by
 unfold ps;rw[vb h,List.flatMap_append];show _++[]=_;rw[C8]
 congr 1
 simp
def Hy(b:Nat):ps b 1 1=[]:=rfl
def vd(n:Nat):(r1 n).length=n - 1:=by unfold r1;rw[i0,A8]
theorem ve(b:Nat):∀d,(ps b (d+1) 1).length=d*(2^b - 1)
 | 0=>by rw[Hy];simp
 | d+1=>by
  have e:ps b (d+1) (2^b)=ps b (d+1) 1++(r1 (2^b)).map λ j=>(d+1,j):=by unfold ps;rw[N7];rfl
  rw[vc JC,e,x4,i0,vd,ve b d,ft]
def Hz(a:b<=5)(R0:0<R)(hR:R<=32)(hC:C<=32):(ps b R C).length<=1000:=by
 have e:ps b R C=ps b R 1++(r1 C).map λ j=>(R,j):=by unfold ps;rw[N7];rfl
 obtain⟨d,rfl⟩:∃d,R=d+1:=⟨R - 1,by omega⟩;rw[e,x4,i0,vd,ve];have pb:=p32 a;have:d*(2^b - 1)<=31*31:=cH JC JC;omega
def HA(c:0<C)(a:C<2^b)(R0:0<R)(h:w∈wl R C):w.2.2.1∈ps b R C/\w.2.2.2∈ps b R C:=by
 rcases Hv h with⟨g,s,_,e⟩ | ⟨g,s,_,e⟩
 ·have:=s.1;have:=s.2.1;rw[e];exact⟨Z2.mpr (.inl ⟨by dsimp only;omega,by dsimp only;omega,c,a⟩),Z2.mpr (.inl ⟨by dsimp only;omega,by dsimp only;omega,c,a⟩)⟩
 ·have:=s.1;have:=s.2.1;rw[e];exact⟨Z2.mpr (.inr ⟨rfl,by dsimp only;omega,by dsimp only;omega⟩),Z2.mpr (.inr ⟨rfl,by dsimp only;omega,by dsimp only;omega⟩)⟩
inductive Pn where
 | fin (w:Int) | ask (s:Bool) (c:Nat) (n y:Pn)
noncomputable def Pn.D:Pn->DV
 | .fin w=>.tup [.str "end",.int w]
 | .ask s c n y=>.tup [.str "ask",sd s,.int c,n.D,y.D]
noncomputable def Pn.deep:Pn->Nat
 | .fin _=>0
 | .ask _ _ n y=>1+max n.deep y.deep
noncomputable def Pn.rch:Pn->Nat->Nat->Int
 | .fin w,_,_=>w
 | .ask s c n y,i,j=>if c.testBit (if s then i else j)then y.rch i j else n.rch i j
noncomputable def bs:Nat->(Nat->Bool)->Nat
 | 0,_=>0
 | n+1,q=>2^n*(if q n then 1 else 0)+bs n q
noncomputable def kd(rows:on (on Int))(c:Nat):Nat:=rows.idxOf (rows.getD c [])
section
variable {rows:on (on Int)} {i j n m h:Nat}
def ks(rows:on (on Int)):on Nat:=(FI rows).map λ t=>bs rows.length λ c=>kd rows c==t
def wd(rows:on (on Int))(h:Nat):Nat:=((cs h).map λ t=>(ks rows).getD t 0).sum
end
def hV(h:w∈wl R C):(∃g,Sb g R/\w=(sd true,g,(R - g,C),(g,C)))\/∃g,Sb g C/\w=(sd false,g,(R,C - g),(R,g)):=by
 unfold wl at h;rcases C7.mp h with q | q
 ·obtain⟨g,a,rfl⟩:=m9.mp q;exact .inl ⟨g,(T5 a).1,rfl⟩
 ·obtain⟨g,a,rfl⟩:=m9.mp q;exact .inr ⟨g,(T5 a).1,rfl⟩
def vf{F:Nat->Int}{l:on Nat}(h:l.Perm m):(l.map F).sum=(m.map F).sum:=by
 induction h with
 | nil=>rfl
 | cons a _ c=>simp only[A0,U5,c]
 | swap a b l=>simp only[A0,U5];omega
 | trans _ _ a b=>exact a.trans b
def HB:∀R,R<32->∀h,h<32->0<h/\h<R/\h &&& R=h->(cs (R - h)++cs h).isPerm (cs R)=true:=by decide +kernel
def vg(a:R<32)(s:Sb h R):(cs (R - h)++cs h).Perm (cs R):=List.isPerm_iff.mp (HB R a h (s.lt a) s)
def sm2(R C:Nat)(F:Nat->Nat->Int):Int:=((cs R).map λ i=>((cs C).map λ j=>F i j).sum).sum
theorem mu{F:Nat->Int}:∀{l:on Nat},(∀i∈l,F i<=F' i)->(l.map F).sum<=(l.map F').sum
 | [],_=>U7 _
 | a::l,h=>by
  simp only[A0,U5];have h1:=h a (o6 ..);have h2:=mu λ i b=>h i (o4 _ b)
  omega
theorem vh{F:Nat->Int}:∀{l:on Nat},(l.map λ i=>F i+F' i).sum=(l.map F).sum+(l.map F').sum
 | []=>rfl
 | a::l=>by simp only[A0,U5,vh];omega
section
variable {R C h:Nat} {F F' f g:Nat->Nat->Int}
def hY(H:∀i∈cs R,∀j∈cs C,F i j<=F' i j):sm2 R C F<=sm2 R C F':=mu λ i b=>mu λ j a=>H i b j a
def dX(H:∀i∈cs R,∀j∈cs C,F i j=F' i j):sm2 R C F=sm2 R C F':=eY (hY λ i b j a=>ju (H i b j a)) (hY λ i b j a=>ju (H i b j a).symm)
def HD(a:R<32)(s:Sb h R):sm2 R C F=sm2 (R - h) C F+sm2 h C F:=by
 unfold sm2;rw[←vf (vg a s),C3,ja]
def HE(a:C<32)(s:Sb h C):sm2 R C F=sm2 R (C - h) F+sm2 R h F:=by
 unfold sm2;rw[←vh]
 congr 1
 refine Q8 λ i _=>?_;rw[←vf (vg a s),C3,ja]
def vi(R C:Nat):sm2 R C (λ _ _=>0)=0:=by
 have z:∀l:on Nat,(l.map λ _=>(0:Int)).sum=0:=λ l=>by
  induction l with
  | nil=>rfl
  | cons a l c=>simp only[A0,U5,c];rfl
 unfold sm2;rw[show(λ i:Nat=>((cs C).map λ j=>(0:Int)).sum)=λ _=>0 from funext λ _=>z _,z]
def HF(H:∀i∈cs R,∀j∈cs C,0<=F i j):0<=sm2 R C F:=by
 rw[←vi R C];exact hY H
def ww(f g:Mx)(R C:Nat)(w:Int):Int:=sm2 R C λ i j=>if f i j=w then g i j else 0
def pw(f g:Mx)(p:Pn)(R C:Nat):Int:=sm2 R C λ i j=>if p.rch i j=f i j then g i j else 0
def mxl(x:Int)(l:on Int):Int:=l.foldl max x
theorem bU:∀{l:on Int} {x:Int},x<=mxl x l/\∀y∈l,y<=mxl x l
 | [],x=>⟨U7 _,λ y h=>nomatch h⟩
 | a::l,x=>by
  have b:=bU (l:=l) (x:=max x a);refine⟨R8 JC b.1,λ y c=>?_⟩;rcases j0.mp c with rfl | c
  ·exact R8 JC b.1
  ·exact b.2 y c
theorem dY:∀{l:on Int} {x:Int},x<=b->(∀y∈l,y<=b)->mxl x l<=b
 | [],x,h,_=>h
 | a::l,x,h,H=>dY (l:=l) (by have:=H a (o6 ..);omega) λ y c=>H y (o4 _ c)
def bW(f g:Mx):Nat->Nat->Nat->Int
 | 0,R,C=>mxl 0 ((JS 10).map λ (w:Nat)=>ww f g R C (w:Int))
 | l+1,R,C=>mxl (bW f g l R C) ((wl R C).map λ w=>bW f g l w.2.2.1.1 w.2.2.1.2+bW f g l w.2.2.2.1 w.2.2.2.2)
def vj(l R C:Nat):bW f g l R C<=bW f g (l+1) R C:=bU.1
def dZ(h:w∈wl R C):bW f g l w.2.2.1.1 w.2.2.1.2+bW f g l w.2.2.2.1 w.2.2.2.2<=bW f g (l+1) R C:=bU.2 _ (m9.mpr ⟨w,h,rfl⟩)
end
noncomputable def sum2(n m:Nat)(F:Nat->Nat->Int):Int:=((JS n).map λ i=>((JS m).map λ j=>F i j).sum).sum
end k62
end
noncomputable section
namespace k62
open PySem L2
variable {fu k:Nat} {F:Nat->on DV->Jk Ou} {δ:on Sv} {ds:on DV} {cl:Cl} {n m:Nat} {rows wr:on (on Int)}
def vk(h:tstD (JO c)=some (.ok t))(d:(if t then evE G F a δ else evE G F b δ)=o):evE G F (.ite c a b) δ=o:=by
 show Rt.thn _ _=o;rw[h];exact d
def vm(f:δ[i]? = some (JE a))(h:JF e c (.int b)):evS G F fu (.aug i e) δ=some (.nx (δ.set i (JE (a+b)))):=by
 show((asIv δ[i]?).bind λ a=>Re.thnS δ _ λ d _=>(asI d).bind λ b=>some _)=_;rw[f,h];rfl
def vn(a:δ[i]? = some (.own d))(h:evSs G F fu r (δ.set i (.val d))=o):evSs G F fu (.frz i::r) δ=o:=by
 refine i6 (?_:frzS δ i δ[i]? = _) h;rw[a];rfl
def vo:cmpD .Eq (.str "ask") (.str "ask")=some true:=by decide +kernel
def vp:cmpD .Eq (.str "end") (.str "ask")=some false:=by decide +kernel
def HG(s:Bool):cmpD .Eq (sd s) (.str "row")=some s:=by cases s<;>decide +kernel
abbrev wS(q:DV)(i j:Nat)(bs:on DV)(p:DV)(c d:Sv):on Sv:=[.val q,.val (JP (i:Int)),.val (JP (j:Int)),.own (.lst bs),.val p,c,d]
def wC:ME:=.cmp .Eq (JM 4 0) (.str "ask")
noncomputable def wB:on MS:=[.set 5 false (.ite (.cmp .Eq (JM 4 1) (.str "row")) (.var 1) (.var 2)),.set 6 false (.bin .BitAnd (.bin .RShift (JM 4 2) (.var 5)) (.int 1)),.app 3 (.var 6),.set 4 false (.ite (.cmp .Eq (.var 6) (.int 1)) (.ix (.var 4) (.int 4)) (JM 4 3))]
theorem vq(q:DV)(i j:Nat):∀(p:Pn) (bs:on DV) (c d:Sv) (N:Nat),p.deep<N->bs.length+p.deep<=1000->∃g l k,J1 (λ f=>tstD (evE G F wC f)) (λ f=>evSs G F fu wB f) N (wS q i j bs p.D c d)=some (.nx (wS q i j g (Pn.fin (p.rch i j)).D l k))
 | .fin w,bs,c,d,N+1,_,_=>⟨bs,c,d,pM (o7 (cl:=.strong) (C4 (n9 (cx:=.strong) (f6 rfl) g8 rfl) K2 vp))⟩
 | .ask s o a b,bs,c,d,N+1,C,z=>by
  have B:1+max a.deep b.deep<N+1:=C;have v:bs.length+(1+max a.deep b.deep)<=1000:=z;have A:=gY o (if s then i else j);have m:∀{n:on Sv} {y:Nat} {d:DV},n[4]? = some (.val (Pn.ask s o a b).D)->ixD (Pn.ask s o a b).D (JP (y:Int))=some d->evE G F (JM 4 (y:Int)) n=some (.ok d .strong):=λ h e=>n9 (f6 h) g8 e;have s1:evS G F fu (.set 5 false (.ite (.cmp .Eq (JM 4 1) (.str "row")) (.var 1) (.var 2))) (wS q i j bs (Pn.ask s o a b).D c d)=some (.nx (wS q i j bs (Pn.ask s o a b).D (JE ((if s then i else j:Nat):Int)) d)):=
   n6 (vk (o7 (C4 (m (y:=1) rfl rfl) K2 (HG s))) (by cases s<;>rfl)) rfl
  have s2:evS G F fu (.set 6 false (.bin .BitAnd (.bin .RShift (JM 4 2) (.var 5)) (.int 1))) (wS q i j bs (Pn.ask s o a b).D (JE ((if s then i else j:Nat):Int)) d)=some (.nx (wS q i j bs (Pn.ask s o a b).D (JE ((if s then i else j:Nat):Int)) (JE (if o.testBit (if s then i else j)then 1 else 0)))):=
   n6 (F0 (mt (m (y:=2) rfl rfl) (f6 rfl) (E8 _)) g8 (congrArg (λ x=>some (Re.ok (.int x) .strong)) A)) rfl
  have r:∀(t:Bool) (p:Pn),o.testBit (if s then i else j)=t->(if t then b else a)=p->p.deep<N->bs.length+1+p.deep<=1000->∃g l k,J1 (λ f=>tstD (evE G F wC f)) (λ f=>evSs G F fu wB f) (N+1) (wS q i j bs (Pn.ask s o a b).D c d)=some (.nx (wS q i j g (Pn.fin (p.rch i j)).D l k)):=λ t p ht u H E=>by
   rw[ht]at s2;obtain⟨g,l,k,e⟩:=vq q i j p (bs++[.int (if t then 1 else 0)]) _ _ N H (by rw[x4];exact E);refine⟨g,l,k,pN (o7 (cl:=.strong) (C4 (m (y:=0) rfl rfl) K2 vo)) (i6 s1 (i6 s2 (i6 (fU rfl (f6 rfl) rfl (T9 (show bs.length<=1000 by omega) JD)) (i6 (n6 (d:=p.D) (cl:=.strong) (vk (t:=t) (o7 (cl:=.strong) (by cases t<;>rfl)) ?_) rfl) rfl)))) e⟩;subst u;cases t
   ·exact m (y:=3) rfl rfl
   ·exact m (y:=4) rfl rfl
  show ∃g l k,_=some (Out.nx (wS q i j g (Pn.fin (if o.testBit (if s then i else j)then b.rch i j else a.rch i j)).D l k));cases ht:o.testBit (if s then i else j)with
  | true=>exact r true b ht rfl JC JC
  | false=>exact r false a ht rfl JC JC
def HH(p:Pn)(i j:Nat)(h:p.deep<fu)(hl:p.deep<=1000):run G T fu (k+2) 9 [p.D,.int (i:Int),.int (j:Int)]=some (.v (JP (p.rch i j)) false):=by
 obtain⟨a,c',d',e⟩:=vq p.D i j p [] .no .no fu h (by rw[eW];omega);have w:run G T fu (k+1) 8 [p.D,.int (i:Int),.int (j:Int)]=some (.v (.tup [.lst a,.int (p.rch i j)]) false):=by rw[r9 rfl rfl];exact t5 (i6 (W8 rfl) (i6 (n6 (f6 rfl) rfl) (pO e (vn rfl (q0 (u7 (D0 (f7 (f6 rfl) (f7 (n9 (cx:=.strong) (f6 rfl) g8 rfl) i9)) (show 2<=n5 by decide) rfl)))))))
 rw[r9 rfl rfl];exact t5 (q0 (u7 (cl:=.strong) (n9 (cx:=.strong) (k7 (fr:=false) (l:=[(p.D,.strong),(JV (i:Int)),(JV (j:Int))]) rfl rfl w) g8 rfl)))
theorem mv{I:Nat->on Sv->Prop}:∀(n:Nat),(∀j<n,∀δ,I j δ->∃δ1 a,tg.bind (h j) δ=some δ1/\body δ1=some (.nx a)/\I (j+1) a)->∀{δ:on Sv},I 0 δ->∃δ',t6 tg body ((JS n).map h) δ=some (.nx δ')/\I n δ'
 | 0,_,δ,c=>⟨δ,rfl,c⟩
 | n+1,d,δ,c=>by obtain⟨δ1,f,e⟩:=mv n (λ j hj=>d j JC) c;obtain⟨a,b,k,i,g⟩:=d n JC δ1 e;refine⟨b,?_,g⟩;rw[cD,C3,pQ f];exact zg k i
theorem mw:∀(l:on DV) (k:Nat),enuD k l=(JS l.length).map λ c=>.tup [.int ((k+c:Nat):Int),l.getD c .non]
 | [],_=>rfl
 | a::l,k=>by
  show .tup _::enuD (k+1) l=_;rw[mw l (k+1),z7,nL,A0,v7]
  congr 1
  refine Q8 λ c _=>?_;show DV.tup _=DV.tup _;rw[show k+1+c=k+(c+1) by omega];rfl
def su(f:Nat->Int)(j:Nat):Int:=((JS j).map f).sum
def Z3(f:Nat->Int)(j:Nat):su f (j+1)=su f j+f j:=by
 unfold su;rw[cD,C3,ja];simp
def hZ{i j:Nat}{k:Cl}(R:Rect n m wr)(h:evE G F a δ=some (JR (rL wr)))(g:JF b l (.int (i:Int)))(f:JF e k (.int (j:Int)))(c:i<n)(d:j<m):evE G F (.ix (.ix a b) e) δ=some (.ok (JP (mf wr i j)) .strong):=
 n9 (n9 h g (Ha (by rw[R.1];exact c))) f (GT (by rw[R.2 _ (Y8 (by rw[R.1];exact c))];exact d))
def mx{i j:Nat}{k:Cl}(R:Rect n m wr)(h:evE G F a δ=some (JR (tT wr)))(g:JF b l (.int (i:Int)))(f:JF e k (.int (j:Int)))(c:i<n)(d:j<m):evE G F (.ix (.ix a b) e) δ=some (.ok (JP (mf wr i j)) .strong):=
 n9 (n9 h g (gV (by rw[R.1];exact c))) f (ui (by rw[R.2 _ (Y8 (by rw[R.1];exact c))];exact d))
abbrev rS(rows wr:on (on Int))(p:Pn)(t:Int)(a b c d:Sv):on Sv:=[.val (tT rows),.val (rL wr),.val p.D,.val (.int t),a,b,c,d]
def rw2(n m:Nat)(rows wr:on (on Int))(p:Pn):Int:=sum2 n m λ i j=>if p.rch i j=mf rows i j then mf wr i j else 0
def vt(R:Rect n m rows)(W:Rect n m wr)(n8:n<=8)(m8:m<=8){p:Pn}(h:p.deep<fu)(C:p.deep<=1000):run G T fu (k+3) 10 [tT rows,rL wr,p.D]=some (.v (JP (rw2 n m rows wr p)) false):=by
 rw[r9 rfl rfl];have u:∀i,i<n->∀t x y,∃f,t6 (.many [6,7]) (λ f=>evSs G (JJ (k+2)) fu [.iff (.cmp .Eq (.call 9 [.var 2,.var 4,.var 6]) (.var 7)) [.aug 3 (.ix (.ix (.var 1) (.var 4)) (.var 6))] []] f) ((JS m).map λ c=>.tup [.int ((0+c:Nat):Int),(iD (rows.getD i [])).getD c .non]) (rS rows wr p t (JE (i:Int)) (.val (.tup (iD (rows.getD i [])))) x y)=some (.nx f)/\∃x y,f=rS rows wr p (t+su (λ j=>if p.rch i j=mf rows i j then mf wr i j else 0) m) (JE (i:Int)) (.val (.tup (iD (rows.getD i [])))) x y:=λ i g t x y=>by
  have rl:=R.2 _ (Y8 (by rw[R.1];exact g));refine mv (I:=λ j f=>∃x y,f=rS rows wr p (t+su (λ j=>if p.rch i j=mf rows i j then mf wr i j else 0) j) (JE (i:Int)) (.val (.tup (iD (rows.getD i [])))) x y) m (λ j E w I=>?_) ⟨x,y,by rw[show su _ 0=0 from rfl,U6]⟩;obtain⟨x,y,rfl⟩:=I;have e:(iD (rows.getD i [])).getD j .non=.int (mf rows i j):=(by unfold iD mf;rw[D1,q9,D1 (l:=rows.getD i []),p8 JC];rfl);rw[e,cK,Z3];have o:evE G (JJ (k+2)) (.cmp .Eq (.call 9 [.var 2,.var 4,.var 6]) (.var 7)) (rS rows wr p (t+su (λ j=>if p.rch i j=mf rows i j then mf wr i j else 0) j) (JE (i:Int)) (.val (.tup (iD (rows.getD i [])))) (JE (j:Int)) (JE (mf rows i j)))=some (.ok (.bl (p.rch i j==mf rows i j)) .strong):=b_eq (k7 (fr:=false) (l:=[(p.D,.strong),(JV (i:Int)),(JV (j:Int))]) rfl rfl (HH p i j h C)) (f6 rfl);refine⟨_,_,rfl,?_,.val (JP (j:Int)),.val (JP (mf rows i j)),rfl⟩;by_cases q:p.rch i j=mf rows i j
  ·rw[show(p.rch i j==mf rows i j)=true from i5.mpr q]at o;rw[f8 q,←jh];exact bt (o7 o) (i6 (vm rfl (hZ W (f6 rfl) (f6 rfl) (f6 rfl) g E)) rfl) rfl
  ·rw[show(p.rch i j==mf rows i j)=false from y9.mpr q]at o;rw[g9 q,U6];exact x8 (o7 o) rfl
 have B:=mv (tg:=.many [4,5]) (body:=λ f=>evSs G (JJ (k+2)) fu [.fo (.many [6,7]) (.enu (.var 5)) [.iff (.cmp .Eq (.call 9 [.var 2,.var 4,.var 6]) (.var 7)) [.aug 3 (.ix (.ix (.var 1) (.var 4)) (.var 6))] []]] f) (h:=λ c=>.tup [.int ((0+c:Nat):Int),(rows.map λ r=>DV.tup (iD r)).getD c .non])
  (I:=λ i f=>∃a b x y,f=rS rows wr p (su (λ i=>su (λ j=>if p.rch i j=mf rows i j then mf wr i j else 0) m) i) a b x y) n (λ i g w I=>by
   obtain⟨a,b,x,y,rfl⟩:=I;have e:(rows.map λ r=>DV.tup (iD r)).getD i .non=.tup (iD (rows.getD i [])):=by rw[D1,q9,D1,p8 (by rw[R.1];exact g)];rfl
   rw[e,cK];obtain⟨f,v,A,z,rfl⟩:=u i g _ x y;refine⟨_,_,rfl,D9 (cl:=.strong) ?_ (.inl rfl) v rfl,_,_,A,z,by rw[Z3]⟩;show some (Ri.ok (enuD 0 (iD (rows.getD i []))) .strong)=_;rw[mw,show(iD (rows.getD i [])).length=m by unfold iD;rw[i0];exact R.2 _ (Y8 (by rw[R.1];exact g))]) ⟨.no,.no,.no,.no,rfl⟩
 obtain⟨f,v,a,b,x,y,rfl⟩:=B;exact t5 (i6 (n6 (d:=.int 0) (cl:=.strong) rfl rfl) (D9 ((by show some (Ri.ok (enuD 0 (rows.map λ r=>.tup (iD r))) .strong)=_;rw[mw,i0,R.1])) (.inl rfl) v (q0 (u7 (cl:=.strong) (f6 rfl)))))
end k62
end
noncomputable section
namespace k62
open PySem L2
abbrev dv(p:Pn):DV:=p.D
abbrev ht(p:Pn):Nat:=p.deep
abbrev side:Bool->DV:=sd
theorem vw{c:Type}{h f:c->DV}:∀{l:on c},(∀a∈l,g (h a)=some (.item (f a)))->w4 g (l.map h)=some (l.map f)
 | [],_=>rfl
 | a::l,q=>by rw[A0];unfold w4;rw[q a (o6 ..)];dsimp only;rw[vw λ b d=>q b (o4 _ d)];rfl
theorem vx{c:Type}{h f:c->DV}{p:c->Bool}:∀{l:on c},(∀a∈l,g (h a)=some (if p a then .item (f a)else .skip))->w4 g (l.map h)=some ((l.filter p).map f)
 | [],_=>rfl
 | a::l,q=>by
  rw[A0,List.filter_cons];unfold w4;rw[q a (o6 ..)];have r:=vx λ b d=>q b (o4 _ d)
  cases p a with
  | true=>rw[f8 rfl,f8 rfl];dsimp only;rw[r];rfl
  | false=>rw[g9 B7,g9 B7];exact r
def HI{d:Type}{l:on d}{h f:d->DV}(hw:p7 (JO it)=some (.ok (l.map h) cl))(i:cl ≠ .weak)(g:l.length<=1000)
  (q:∀a∈l,∃δ' c,tg.bind (h a) (A6 fr δ)=some δ'/\evE G F elt δ'=some (.ok (f a) c)/\stro (f a) c=true):evE G F (.comp elt tg it fr) δ=some (.ok (.lst (l.map f)) .fresh):=by
 have e:l.length<=n5:=k6 g JD;show Ri.thn _ _=_;rw[hw,br,g9 (by rintro(z | z);exact i z;rw[i0]at z;omega),vw (λ a j=>?_)]
 ·rfl
 ·obtain⟨δ',c,n,m,k⟩:=q a j;rw[n,N9,m];show(if stro (f a) c then some (Rc.item (f a))else none)=_;rw[f8 k]
def HJ{d:Type}{l:on d}{h f:d->DV}{p:d->Bool}{cd:ME}(hw:p7 (JO it)=some (.ok (l.map h) cl))(i:cl ≠ .weak)(g:l.length<=1000)
  (q:∀a∈l,∃δ' c,tg.bind (h a) (A6 fr δ)=some δ'/\tstD (evE G F cd δ')=some (.ok (p a))/\evE G F elt δ'=some (.ok (f a) c)/\stro (f a) c=true):evE G F (.compi elt tg it cd fr) δ=some (.ok (.lst ((l.filter p).map f)) .fresh):=by
 have e:l.length<=n5:=k6 g JD;show Ri.thn _ _=_;rw[hw,br,g9 (by rintro(z | z);exact i z;rw[i0]at z;omega),vx (λ a j=>?_)]
 ·rfl
 ·obtain⟨δ',c,o,n,m,k⟩:=q a j;rw[o,N9,n,m];cases p a with
  | false=>rfl
  | true=>
   show(if stro (f a) c then some (Rc.item (f a))else none)=_;rw[f8 k];rfl
def HK(a:x≠[])(b:x.length+y.length<=1000):binD .Add (.tup x) (.tup y) .strong .strong=some (.ok (.tup (x++y)) .strong):=by
 show(if x.length+y.length<=n5/\x≠[]then some (Re.ok _ .strong)else none)=_;exact f8 ⟨k6 b JD,a⟩
end k62
end
noncomputable section
namespace k62
open PySem L2
variable {fu k:Nat} {F:Nat->on DV->Jk Ou} {δ:on Sv} {ds:on DV} {cl:Cl} {n m:Nat} {rows:on (on Int)}
def HL(x:Int):∃a:Int,0<a/\a<=10/\ixD (.lst [.int 2,.int 3,.int 10,.int 2]) (JP (x%4))=some (.int a):=by
 have:x%4=0\/x%4=1\/x%4=2\/x%4=3:=by omega
 rcases this with h | h | h | h<;>rw[h]
 ·exact⟨2,by decide,by decide,rfl⟩
 ·exact⟨3,by decide,by decide,rfl⟩
 ·exact⟨10,by decide,by decide,rfl⟩
 ·exact⟨2,by decide,by decide,rfl⟩
abbrev Scw(ns xs:on Int)(n m:Nat)(tp:Int)(x y:Sv):on Sv:=[.val (.scr ns),.val (.int 3),.val (.int 4),.val (.lst (xs.map DV.int)),.val (.int n),.val (.int m),.val (JP tp),x,y]
def HM(ns:on Int)(hns:ns.length<=63):∃(n m:Nat) (rows:on (on Int)),0<n/\n<=4/\0<m/\m<=4/\Rect n m rows/\W9 rows/\run G T fu (k+2) 20 [.scr ns,.int 3,.int 4]=some (.v (tT rows) false):=by
 obtain⟨U,c0⟩:=dQ (fu:=fu) (k:=k) ns 0;obtain⟨v1,c1⟩:=dQ (fu:=fu) (k:=k) ns 1;obtain⟨u,A,R⟩:=mq (fu:=fu) (k:=k) U 8 JD;obtain⟨a0,h0⟩:=mr (xs:=u) (i:=0) JC (by rw[A];omega);obtain⟨a1,h1⟩:=mr (xs:=u) (i:=1) JC (by rw[A];omega);obtain⟨a3,O⟩:=mr (xs:=u) (i:=3) JC (by rw[A];omega);obtain⟨p,E,a2,M⟩:=HL a3;have Y:∀y:Int,0<=y%p/\y%p<=9:=λ y=>⟨eX y JC,by have:=eP y E;omega⟩
 obtain⟨n,hn⟩:∃n:Nat,1+a0%4=(n:Int):=⟨(1+a0%4).toNat,by omega⟩;obtain⟨m,hm⟩:∃m:Nat,1+a1%4=(m:Int):=⟨(1+a1%4).toNat,by omega⟩;have X:n<=4:=by omega
 have Z:m<=4:=by omega
 have nm:n*m<=64:=k6 (cH X Z) JD;obtain⟨B,K,Q⟩:=mq (fu:=fu) (k:=k) v1 (n*m) JC;have J:Q0 (n:Int) (m:Int)=true:=by unfold Q0;simp;omega
 have cm:=zf (G:=G) (F:=run G T fu (k+1)) (δ:=(Scw ns u n m p .no .no)) (elt:=.bin .Mod (.var 0) (.var 1)) (tg:=.one 0) (fr:=[none,some 6]) (f:=λ d=>match d with | .int x=>.int (x%p) | d=>d) (ds:=B.map DV.int) (cl:=.fresh)
  (by
   have q:=k7 (G:=G) (F:=run G T fu (k+1)) (δ:=(Scw ns u n m p .no .no)) (f:=19) (f7 (k7 (f:=18) (f7 (f6 (n:=0) (d:=.scr ns) rfl) (f7 (g8 (i:=1)) i9)) rfl c1) (f7 (K1 (f6 (n:=4) (d:=.int n) rfl) (f6 (n:=5) (d:=.int m) rfl) J) i9)) rfl (by rw[show((n:Int)*(m:Int))=((n*m:Nat):Int) by push_cast;rfl];exact Q);rw[q];rfl) JD (by rw[i0,K];exact k6 nm JD) (λ d hd=>by
   obtain⟨x,A,rfl⟩:=m9.mp hd;exact⟨[.val (.int x),.val (.int p)],rfl,E2 (f6 rfl) (f6 rfl) E⟩)
 rw[v7,show((λ d=>match d with | DV.int x=>DV.int (x%p) | d=>d) ∘ DV.int)=DV.int ∘ (λ x:Int=>x%p)from rfl,←v7]at cm;obtain⟨b,hb,hb1,hb2⟩:∃b:Int,(if(ns.length:Int) - 3<(n:Int)*m then(ns.length:Int) - 3 else(n:Int)*m)=b/\b<=((n*m:Nat):Int)/\b<=(ns.length:Int) - 3:=by refine⟨_,rfl,?_,?_⟩<;>split<;>push_cast<;>omega
 have S : -1000<=b:=(by rw[←hb];have:(0:Int)<=(n:Int)*m:=Int.mul_nonneg (E8 n) (E8 m);split<;>omega);obtain⟨δ1,l1,v,z,⟨L,C⟩,rfl⟩:=K0 (i:=8) (I:=λ _ w=>∃(v:on Int) (z:Sv),(v.length=n*m/\∀x∈v,0<=x/\x<=9)/\w=(Scw ns u n m p (.own (.lst (v.map DV.int))) z))
  (body:=λ P=>evSs G (JJ (k+1)) fu [.seti 7 (.var 8) (.bin .Mod (.ix (.var 0) (.bin .Add (.var 1) (.var 8))) (.var 6))] P) b.toNat 0
  (λ j hj w I=>by
   obtain⟨v,z,⟨L,C⟩,rfl⟩:=I;rw[show(0:Int)+(j:Int)=j by omega];have O:3+j<ns.length:=by omega
   have hv:ixD (.scr ns) (JP (3+(j:Int)))=some (.int ns[3+j]):=(by rw[show(3:Int)+(j:Int)=((3+j:Nat):Int) by push_cast;rfl];show((D7 ns.length ((3+j:Nat):Int)).bind λ j=>ns[j]?).map DV.int=_;rw[lX O,N9,p8 O];rfl);refine⟨_,i6 (zc (d:=.int (ns[3+j]%p)) (cl:=.strong) (n:=j) (cx:=.strong) (j:=j) rfl (E2 (n9 (f6 rfl) (B2 (f6 rfl) (f6 rfl)) hv) (f6 rfl) E) (f6 rfl) rfl (lX (by rw[i0,L];omega))) rfl,v.set j (ns[3+j]%p),.val (.int j),⟨by rw[D4];exact L,λ x A=>by
    rcases List.mem_or_eq_of_mem_set A with q | q
    ·exact C x q
    ·rw[q];exact Y _⟩,?_⟩
   rw[List.map_set];rfl) ⟨B.map λ x=>x%p,.no,⟨by rw[i0];exact K,λ x A=>by
    obtain⟨y,_,rfl⟩:=m9.mp A;exact Y y⟩,rfl⟩
 have em:evE G (JJ (k+1)) (.bi .min [.bin .Mult (.var 4) (.var 5),.bin .Sub (.bi .len [.var 0]) (.var 1)]) (Scw ns u n m p (.own (.lst ((B.map λ x=>x%p).map DV.int))) .no)=some (.ok (.int b) .strong):=(by have e1:evE G (JJ (k+1)) (.bi .len [.var 0]) (Scw ns u n m p (.own (.lst ((B.map λ x=>x%p).map DV.int))) .no)=some (.ok (JP ns.length) .strong):=rfl;rw[GZ (f7 (K1 (f6 (n:=4) (d:=.int n) rfl) (f6 (n:=5) (d:=.int m) rfl) J) (f7 (G4 e1 (f6 (n:=1) (d:=.int 3) rfl)) i9)),←hb];rfl);have W:=HI (F:=run G T fu (k+1)) (δ:=(Scw ns u n m p (.own (.lst (v.map DV.int))) z)) (elt:=.bi .tuple [.sl (.var 1) (.bin .Mult (.var 0) (.var 2)) (.bin .Add (.bin .Mult (.var 0) (.var 2)) (.var 2))]) (tg:=.one 0) (it:=.rng [.var 4]) (fr:=[none,some 7,some 5]) (l:=List.range n) (h:=λ (j:Nat)=>DV.int (0+(j:Int))) (f:=λ j=>.tup (iD ((v.drop (j*m)).take m))) (cl:=.fresh)
  (Q5 (f6 rfl) JC) JD (by rw[A8];omega) (λ j hd=>by
   have hj:=x5.mp hd;rw[show(0:Int)+(j:Int)=j by omega];have H:Q0 (j:Int) (m:Int)=true:=by unfold Q0;simp;omega
   refine⟨[.val (.int j),.own (.lst (iD v)),.val (.int m)],.strong,rfl,?_,rfl⟩;rw[←GY L hj];exact bQ (c:=.fresh) (GW (da rfl) (K1 (f6 rfl) (f6 rfl) H) (B2 (K1 (f6 rfl) (f6 rfl) H) (f6 rfl))))
 rw[show((JS n).map λ j=>DV.tup (iD ((v.drop (j*m)).take m)))=(dR n m v).map λ r=>.tup (iD r) by unfold dR;rw[v7];rfl]at W;refine⟨n,m,dR n m v,by omega,X,by omega,Z,GV L,λ r hr x A=>?_,?_⟩
 ·obtain⟨j,_,rfl⟩:=m9.mp hr;exact C x (List.mem_of_mem_drop (List.mem_of_mem_take A))
 rw[r9 (fd:=lR) rfl rfl];unfold lR;have N:∀{i:Nat} {a:Int} {n:Nat} {w:on Sv} (_:∀{F:Nat->on DV->Jk Ou} {w:on Sv} {e:ME},evE G F e w=some (JR (.lst (u.map DV.int)))->evE G F (.ix e (JP (i:Int))) w=some (JR (.int a))) (_:1+a%4=(n:Int)) (_:w[3]? = some (.val (.lst (u.map DV.int)))) (_:w[2]? = some (JE 4)),evE G (JJ (k+1)) (.bin .Add (.int 1) (.bin .Mod (JM 3 (i:Int)) (.var 2))) w=some (.ok (JP (n:Int)) .strong):=λ {i a n w} h q d3 d2=>by rw[←q];exact B2 g8 (E2 (h (f6 d3)) (f6 d2) JD)
 exact t5 (i6 (n6 (d:=.lst (u.map DV.int)) (cl:=.fresh) (k7 (fr:=true) (l:=[(JV U),(JV ((8:Nat):Int))]) (f7 (k7 (fr:=false) (f7 (f6 (d:=.scr ns) rfl) (f7 (g8 (i:=((0:Nat):Int))) i9)) rfl c0) (f7 g8 i9)) rfl R) rfl)
  (i6 (n6 (N (i:=0) h0 hn rfl rfl) rfl) (i6 (n6 (N (i:=1) h1 hm rfl rfl) rfl)
  (i6 (n6 (d:=.int p) (cl:=.strong) (n9 (cx:=.fresh) (x:=.lst [.int 2,.int 3,.int 10,.int 2]) rfl (E2 (O (f6 rfl)) g8 JD) M) rfl)
  (i6 (W8 cm) (D9 (GU em JC S) (.inr rfl) l1 (q0 (u7 (cl:=.strong) (bQ W)))))))))
end k62
end
noncomputable section
namespace k62
open PySem L2
def HN(h:evE G F e δ=some (JR (.tup ds))):evE G F (.bi .list [e]) δ=some (.ok (.lst ds) .fresh):=by
 show Rs.thn _ _=_;rw[f7 h i9];rfl
theorem vy(t:Sv):∀(rows:on (on Int)) (a:on Int) (c:Sv),(∀r∈rows,r.length=m)->a.length+rows.length*m<=1000->∃e,t6 (.one 2) (λ b=>evSs G F fu [.set 1 false (.bin .Add (.var 1) (.bi .list [.var 2]))] b) (rows.map λ r=>.tup (iD r)) [t,.val (.lst (iD a)),c]=some (.nx [t,.val (.lst (iD (a++rows.flatten))),e])
 | [],a,c,_,_=>⟨c,by rw[List.flatten_nil,C8];rfl⟩
 | r::rows,a,c,h,j=>by
  have i:=h r (o6 ..);rw[z7,aj,bc]at j;obtain⟨e,g⟩:=vy t rows (a++r) _ (λ f d=>h f (o4 _ d)) (by rw[x4,i];omega);refine⟨e,?_⟩;rw[U0,←N7,←g,A0];refine dU rfl (i6 (n6 (uZ (f6 rfl) (HN (f6 rfl)) ?_) rfl) ?_)
  ·unfold iD;rw[i0,i0];omega
  ·unfold iD;rw[C3];rfl
def HP(R:Rect n m rows)(hn:0<n)(hm:0<m)(b:n<=8)(c:m<=8):rows.flatten.length=n*m/\run G T fu (k+1) 21 [tT rows]=some (.v (.lst (rows.flatten.map DV.int)) false):=by
 have nm:=cH b c;obtain⟨c',e⟩:=vy _ rows [] .no R.2 (by rw[R.1,eW];omega);refine⟨?_,?_⟩
 ·have g:∀{l:on (on Int)},(∀r∈l,r.length=m)->l.flatten.length=l.length*m:=λ {l} h=>by
   induction l with
   | nil=>simp
   | cons a l d=>rw[U0,x4,d λ r f=>h r (o4 _ f),h a (o6 ..),z7,aj];omega
  rw[g R.2,R.1]
 ·rw[r9 rfl rfl];unfold ub;exact t5 (i6 (n6 rfl rfl) (D9 rfl (.inl rfl) e (q0 (u7 (f6 rfl)))))
def HQ(y:Int):∃s:Bool,ixD (.lst [.str "row",.str "column"]) (JP (y%2))=some (side s):=by
 have:y%2=0\/y%2=1:=by omega
 rcases this with h | h<;>rw[h]
 ·exact⟨true,rfl⟩
 ·exact⟨false,rfl⟩
def Y0(y:Int):∃c:Nat,1+y%255=(c:Int):=⟨(1+y%255).toNat,by omega⟩
def or2b(c:evE G F a δ=some (JR (.bl x)))(d:evE G F b δ=some (JR (.bl y))):tstD (JO (.or [a,b]))=some (.ok (x||y)):=by
 cases x with
 | true=>exact o7 (zb c)
 | false=>exact o7 (pL c d)
def vz(h:evE G F e δ=some (JR (.int v))):evE G F (.tup [.str "end",e]) δ=some (.ok (dv (.fin v)) .strong):=
 D0 (f7 K2 (f7 h i9)) (show 2<=n5 by decide) rfl
def my{c:Nat}(g:evE G F a δ=some (JR (side s)))(f:evE G F b δ=some (.ok (JP (c:Int)) .strong))(e:evE G F x δ=some (JR (dv p)))(d:evE G F y δ=some (JR (dv q))):evE G F (.tup [.str "ask",a,b,x,y]) δ=some (.ok (dv (.ask s c p q)) .strong):=
 D0 (f7 K2 (f7 g (f7 f (f7 e (f7 d i9))))) (show 5<=n5 by decide) rfl
def m2(x:Int):Q0 2 x=true:=by unfold Q0;simp
def vA{ws:on Int}(h:0<ws.length)(i:Int):∃v,ixD (.lst (ws.map DV.int)) (JP (i%((ws.map DV.int).length:Int)))=some (.int v):=by
 rw[i0];exact fV (eX i JC) (eP i JC)
theorem mz{xs:on Int}(h:0<xs.length):∀(K:Nat) (d:Nat) (a:Int),d<K->∃p,ht p<=d/\run G T fu K 22 [.lst (xs.map DV.int),.int a,.int (d:Int)]=some (.v (dv p) false)
 | 0,_,_,h=>absurd h (Nat.not_lt_zero _)
 | K+1,d,a,hK=>by
  obtain⟨v,hv⟩:=vA h a;rw[r9 rfl rfl];unfold uc;have s1:=n6 (fu:=fu) (i:=3) (n9 (G:=G) (F:=run G T fu K) (δ:=o5 6 [.lst (xs.map DV.int),.int a,.int (d:Int)]) (a:=.var 0) (b:=.bin .Mod (.var 1) (.bi .len [.var 0])) (f6 rfl) (E2 (f6 rfl) (uh (c:=.strong) (f6 rfl)) (by rw[i0];omega)) hv) rfl;have e:=or2b (F:=run G T fu K) (δ:=[.val (.lst (xs.map DV.int)),.val (.int a),.val (JP (d:Int)),.val (.int v),.no,.no]) (a:=.cmp .Eq (.var 2) (.int 0)) (b:=.cmp .Eq (.bin .Mod (.var 3) (.int 4)) (.int 0)) (b_eq (i:=(d:Int)) (j:=0) (f6 rfl) g8) (b_eq (i:=v%4) (j:=0) (E2 (f6 rfl) g8 JD) g8);cases q:((d:Int)==0||v%4==0)with
  | true=>
   rw[q]at e;refine⟨.fin (v/4%10),E5 _,t5 (i6 s1 (bu e (q0 (u7 (vz (E2 (av (f6 rfl) g8 JD) g8 JD))))))⟩
  | false=>
   rw[q]at e;have r0:0<d:=by
    rcases iH d with z | z
    ·rw[z]at q;simp at q
    ·exact z
   obtain⟨g,l,n⟩:=mz h K (d - 1) (2*a+1) JC;obtain⟨f,k,m⟩:=mz h K (d - 1) (2*a+2) JC;rw[show((d - 1:Nat):Int)=(d:Int) - 1 by omega]at n m;obtain⟨s,o⟩:=HQ (v/4);obtain⟨c,r⟩:=Y0 (v/8);refine⟨.ask s c g f,by show 1+max g.deep f.deep<=d;have:g.deep<=d - 1:=l;have:f.deep<=d - 1:=k;omega,t5 (i6 s1 (x8 e (i6 (n6 (k7 (fr:=false) (f7 (f6 rfl) (f7 (B2 (K1 g8 (f6 rfl) (m2 _)) g8) (f7 (G4 (f6 rfl) g8) i9))) rfl n) rfl) (i6 (n6 (k7 (fr:=false) (f7 (f6 rfl) (f7 (B2 (K1 g8 (f6 rfl) (m2 _)) g8) (f7 (G4 (f6 rfl) g8) i9))) rfl m) rfl) (q0 (u7 (cl:=.strong) (my ?_ ?_ (f6 rfl) (f6 rfl))))))))⟩
   ·exact n9 (cx:=.fresh) rfl (E2 (av (f6 rfl) g8 JD) g8 JD) o
   ·rw[←r];exact B2 g8 (E2 (av (f6 rfl) g8 JD) g8 JD)
def HR:cmpD .Eq (.str "end") (.str "end")=some true:=by decide +kernel
def HU:cmpD .Eq (.str "ask") (.str "end")=some false:=by decide +kernel
theorem mB{ws:on Int}(h:0<ws.length):∀(p:Pn) (K:Nat),ht p<K->∃q,ht q<=ht p/\run G T fu K 23 [dv p,.lst (ws.map DV.int)]=some (.v (dv q) false)
 | _,0,h=>absurd h (Nat.not_lt_zero _)
 | .fin x,K+1,_=>by obtain⟨v,hv⟩:=vA h x;rw[r9 rfl rfl];unfold lT;exact⟨.fin v,i8 _,t5 (bu (o7 (C4 (n9 (cx:=.strong) (f6 rfl) g8 rfl) K2 HR)) (q0 (u7 (vz (n9 (f6 rfl) (E2 (n9 (f6 rfl) g8 rfl) (uh (f6 rfl)) (by rw[i0];omega)) hv)))))⟩
 | .ask s c a b,K+1,j=>by
  have i:1+max a.deep b.deep<K+1:=j;obtain⟨e,g,m⟩:=mB h a K (by show a.deep<K;omega);obtain⟨d,f,k⟩:=mB h b K (by show b.deep<K;omega);rw[r9 rfl rfl];unfold lT;exact⟨.ask s c e d,(by show 1+max e.deep d.deep<=1+max a.deep b.deep;have:e.deep<=a.deep:=g;have:d.deep<=b.deep:=f;omega),t5 (x8 (o7 (cl:=.strong) (C4 (n9 (cx:=.strong) (f6 rfl) g8 rfl) K2 HU)) (q0 (u7 (cl:=.strong) (my (n9 (cx:=.strong) (f6 rfl) g8 rfl) (n9 (cx:=.strong) (f6 rfl) g8 rfl)
   (k7 (fr:=false) (l:=[(dv a,.strong),(.lst (ws.map DV.int),.strong)]) rfl rfl m) (k7 (fr:=false) (l:=[(dv b,.strong),(.lst (ws.map DV.int),.strong)]) rfl rfl k)))))⟩
def HV(h:evE G F e δ=some (.ok (.lst (iD r)) c)):evE G F (.bi .sum [e]) δ=some (.ok (JP r.sum) .strong):=by
 show Rs.thn _ _=_;rw[f7 h i9];show(ints? (iD r)).map _=_;rw[gX];rfl
def vB(r:on Int):DV.nolams (iD r)=true:=by
 induction r with
 | nil=>rfl
 | cons a r b=>exact b
def bV(rows:on (on Int)):(tT rows).nolam=true:=by
 show DV.nolams _=true
 induction rows with
 | nil=>rfl
 | cons a r b=>
  show(DV.nolams (iD a)&&DV.nolams _)=true;rw[vB,b];rfl
theorem Z4:∀p:Pn,p.D.nolam=true
 | .fin w=>rfl
 | .ask s c n y=>by show((sd s).nolam&&(n.D.nolam&&(y.D.nolam&&true)))=true;rw[Z4 n,Z4 y];cases s<;>rfl
theorem mD{F:Nat->on DV->Jk Ou}{m:DV}{α:Type}{h:α->DV}{g:α->Int}:∀{l:on α},(∀a∈l,F G3 [m,h a]=some (.v (JP (g a)) false))->S6 F m (l.map h)=some (l.map g)
 | [],_=>rfl
 | a::l,q=>by
  show(match F G3 [m,h a]with
   | some (.v (.int k) false)=>(S6 F m (l.map h)).map (k :: ·)
   | _=>none)=_
  rw[q a (o6 ..),mD λ b hb=>q b (o4 _ hb)];rfl
def vC{fu k:Nat}{m:LamD}{cs args:on DV}{d:DV}(h1:args.length=m.np/\args.length+cs.length=m.N.length/\DV.nolams args=true/\DV.nolams cs=true)(h:evE G (JJ k) m.body ((args++cs).map Sv.val)=some (JR d))(hd:d.nolam=true):run G T fu (k+1) G3 (.lam m cs::args)=some (.v d false):=by
 have e1:run G T fu (k+1) G3 (.lam m cs::args)=lamR (evE G (JJ k)) (.lam m cs::args):=rfl;rw[e1];show(if args.length=m.np/\args.length+cs.length=m.N.length/\DV.nolams args=true/\DV.nolams cs=true then(match evE G (JJ k) m.body ((args++cs).map Sv.val)with
  | some (.ok d .strong)=>if d.nolam then some (Ou.v d false)else none
  | _=>none)else none)=_
 rw[f8 h1,h];exact f8 hd
def K8{δ:on Sv}{ds:on DV}{i:Nat}{r:on Nat}{d:DV}(h:δ[i]? = some (.val d))(hd:d.nolam=true)(hr:capD δ r=some ds):capD δ (i::r)=some (d::ds):=by
 show(match δ[i]?,capD δ r with
  | some (.val d),some ds=>if d.nolam then some (d::ds)else none
  | _,_=>none)=_
 rw[h,hr];exact f8 hd
theorem vD:∀(r:on Int) (m:Int),(maxI m r=m\/maxI m r∈r)/\m<=maxI m r/\∀x∈r,x<=maxI m r
 | [],m=>⟨.inl rfl,U7 _,λ _ h=>nomatch h⟩
 | x::r,m=>by
  show(maxI _ r=m\/_)/\_;obtain⟨c,b,a⟩:=vD r (if m<x then x else m);by_cases q:m<x
  ·rw[f8 q]at c b a ⊢;refine⟨.inr ?_,by show m<=maxI _ r;rw[f8 q];omega,λ y d=>?_⟩
   ·show maxI _ r∈_;rw[f8 q];rcases c with h | h
    ·rw[h];exact o6
    ·exact o4 _ h
   ·show y<=maxI _ r;rw[f8 q];rcases j0.mp d with e | e
    ·rw[e];exact b
    ·exact a y e
  ·rw[g9 q]at c b a ⊢;refine⟨?_,by show m<=maxI _ r;rw[g9 q];exact b,λ y d=>?_⟩
   ·rcases c with h | h
    ·exact .inl h
    ·right;show maxI _ r∈_;rw[g9 q];exact o4 _ h
   ·show y<=maxI _ r;rw[g9 q];rcases j0.mp d with e | e
    ·rw[e];omega
    ·exact a y e
end k62
end
noncomputable section
namespace k62
open PySem L2
variable {fu k:Nat} {F:Nat->on DV->Jk Ou} {δ:on Sv} {ds:on DV} {cl:Cl} {n m R C:Nat} {rows wr:on (on Int)}
def vE{a lb:ME}{N:on Str}{np:Nat}{fr:on Nat}{cs:on DV}{ks:on Int}{i:Nat}{d:DV}(ha:evE G F a δ=some (.ok (.lst ds) .fresh))(hc:capD δ fr=some cs)(hk:S6 F (.lam ⟨N,np,lb,G.fnl,G.bll,G.cll⟩ cs) ds=some ks)(hi:O4 ks=some i)(hd:ds[i]? = some d):evE G F (.maxk a N np lb fr) δ=some (.ok d .strong):=by
 show fP G F (JO a) N np lb (capD δ fr)=_;rw[hc,ha];show((S6 F (.lam ⟨N,np,lb,G.fnl,G.bll,G.cll⟩ cs) ds).bind λ ks=>(O4 ks).bind λ i=>ds[i]?.map λ d=>Re.ok d .strong)=_;rw[hk];show((O4 ks).bind λ i=>ds[i]?.map λ d=>Re.ok d .strong)=_;rw[hi];show(ds[i]?.map λ d=>Re.ok d .strong)=_;rw[hd];rfl
def vF{ks:on Int}(h:ks≠[]):∃i,O4 ks=some i/\i<ks.length/\∀x∈ks,x<=ks.getD i 0:=by
 cases g:ks with
 | nil=>exact absurd g h
 | cons m r=>
  obtain⟨u,s,p⟩:=vD r m;have n:=u.elim (λ e=>by rw[e];exact o6 ..) λ e=>o4 _ e
  have c:=λ x l=>(j0.mp l).elim (λ e=>by rw[e];exact s) (p x);rw[←g]at n c ⊢;generalize maxI m r=z at n c;have d:=List.idxOf_lt_length_of_mem n;have f:∀j _,ks.getD j 0=ks[j]:=λ j b=>by rw[D1,p8 b];rfl
  have ok:((JS ks.length).all λ j=>decide (ks.getD j 0<=ks.getD (ks.idxOf z) 0)&&(decide (ks.idxOf z<=j)||decide (ks.getD j 0<ks.getD (ks.idxOf z) 0)))=true:=by
   rw[G8];intro j b;have b:=x5.mp b;rw[f9,B5,F3,F3,F3,((f _ d).trans (List.getElem_idxOf d)),f j b];have a:=c _ (U1 b);refine⟨a,?_⟩;rcases ah j (ks.idxOf z)with q | q
   ·refine .inr (Int.lt_iff_le_and_ne.mpr ⟨a,λ e=>?_⟩);have:=List.not_of_lt_findIdx q;rw[e,N8]at this;cases this
   ·exact .inl q
  cases k:O4 ks with
  | none=>
   unfold O4 at k;have:=List.find?_eq_none.mp k _ (x5.mpr d);exact absurd ok this
  | some i=>
   unfold O4 at k;have o:=iZ k;rw[G8]at o;refine⟨i,rfl,(x5.mp (io k)),λ x l=>?_⟩;obtain⟨j,b,rfl⟩:=List.mem_iff_getElem.mp l;have:=o j (x5.mpr b);rw[f9,F3,f j b]at this;exact this.1
theorem ic{f:Nat->Int}:∀l:on Nat,((l.filter p).map f).sum=(l.map λ j=>if p j then f j else 0).sum
 | []=>rfl
 | a::l=>by
  rw[List.filter_cons,A0,U5,←ic l];cases p a
  ·simp
  ·simp
abbrev yS(rows wr:on (on Int))(R C:Nat)(w t:Int)(z:Sv):on Sv:=[.val (tT rows),.val (rL wr),.val (JP (R:Int)),.val (JP (C:Int)),.val (.int w),.val (.int t),z]
noncomputable def yB:on MS:=[.aug 5 (.bi .sum [.compi (.ix (.ix (.var 1) (.var 2)) (.var 0)) (.one 0) (.call 3 [.var 3]) (.cmp .Eq (.ix (.ix (.var 3) (.var 2)) (.var 0)) (.var 4)) [none,some 1,some 6,some 0,some 4]])]
def c64(h:c<2^n)(hn:n<=5):c<2^64:=p9 h (Q7 JD JC)
theorem vG(p:Rect n m rows)(W:Rect n m wr)(r:n<=5)(o:m<=5)(q:0<C)(d:C<2^m)(w:Int):∀(l:on Nat) (t:Int) (z:Sv),(∀i∈l,i<n)->∃g,t6 (.one 6) (λ f=>evSs G (JJ (k+1)) fu yB f) (nD l) (yS rows wr R C w t z)=some (.nx (yS rows wr R C w (t+(l.map λ i=>((cs C).map λ j=>if mf rows i j=w then mf wr i j else 0).sum).sum) g))
 | [],t,z,_=>⟨z,by rw[fv,List.sum_nil,U6];rfl⟩
 | i::l,t,z,h=>by
  have b:=h i (o6 ..);obtain⟨g,e⟩:=vG p W r o q d w l _ (JE (i:Int)) λ i b=>h i (o4 _ b);refine⟨g,?_⟩;rw[A0,U5,←jh,←e];have v:=HJ (F:=run G T fu (k+1)) (δ:=yS rows wr R C w t (JE (i:Int))) (l:=cs C) (elt:=.ix (.ix (.var 1) (.var 2)) (.var 0)) (tg:=.one 0) (it:=.call 3 [.var 3]) (cd:=.cmp .Eq (.ix (.ix (.var 3) (.var 2)) (.var 0)) (.var 4)) (fr:=[none,some 1,some 6,some 0,some 4]) (cl:=.fresh)
   (by rw[k7 (G:=G) (fr:=true) rfl rfl (gZ C q (c64 d o))];rfl) JD (k6 (cs5 C (p9 d (p32 o))) JD) λ j u=>by have a:=bR d u;exact⟨[.val (JP (j:Int)),.val (rL wr),.val (JP (i:Int)),.val (tT rows),.val (.int w)],.strong,rfl,o7 (b_eq (mx p (f6 rfl) (f6 rfl) (f6 rfl) b a) (f6 rfl)),hZ W (f6 rfl) (f6 rfl) (f6 rfl) b a,rfl⟩
  have sm:=HV (c:=.fresh) (by rw[v];unfold iD;rw[v7];rfl);rw[ic,show(λ j=>if(mf rows i j==w)=true then mf wr i j else 0)=λ j=>if mf rows i j=w then mf wr i j else 0 from funext λ j=>by simp only[i5]]at sm;exact dU rfl (i6 (vm rfl sm) rfl)
def vH(c:Rect n m rows)(W:Rect n m wr)(a:n<=5)(d:m<=5)(g:0<R)(b:R<2^n)(j:0<C)(h:C<2^m)(w:Int):run G T fu (k+2) 16 [tT rows,rL wr,.int (R:Int),.int (C:Int),.int w]=some (.v (JP (ww (mf rows) (mf wr) R C w)) false):=by
 rw[r9 rfl rfl];obtain⟨z',e⟩:=vG c W a d j h w (cs R) 0 .no λ i f=>bR b f
 rw[R9]at e;exact t5 (i6 (n6 rfl rfl) (D9 (by rw[k7 rfl rfl (gZ R g (c64 b a))];rfl) (.inr rfl) e (q0 (u7 (f6 rfl)))))
def bX(rows:on (on Int)):(rL rows).nolam=true:=by
 show DV.nolams _=true
 induction rows with
 | nil=>rfl
 | cons r l a=>
  show(DV.nolams (iD r)&&_)=true;rw[vB,a];rfl
def HW(rows:on (on Int))(I J:on Nat):Rect I.length J.length (sub rows I J):=⟨by unfold sub;rw[i0],λ r a=>by
 obtain⟨i,_,rfl⟩:=m9.mp a;rw[i0]⟩
def HY(c:Rect n m rows)(d:W9 rows)(e:0<n)(h:n<=5)(l:m<=5)(w:0<R)(a:R<2^n)(y:0<C)(b:C<2^m)(v:δ[0]? = some (.val (tT rows)))(u:δ[2]? = some (JE (R:Int)))(q:δ[3]? = some (JE (C:Int))):evE G (JJ (k+3)) (.call 5 [.call 1 [.var 0,.var 2,.var 3]]) δ=some (.ok (.lst (nD ((JS 10).filter (wp JT R C)))) .fresh):=by
 have r5:=cs5 R (p9 a (p32 h));have c5:=cs5 C (p9 b (p32 l));rw[←Hq];refine k7 (f7 (k7 (f7 (f6 v) (f7 (f6 u) (f7 (f6 q) i9))) rfl (Hm rows n m R C c e JC JC w a y b)) i9) rfl (Hk _ _ _ (HW ..) JC JC λ r g x f=>?_);obtain⟨i,p,rfl⟩:=m9.mp g;obtain⟨j,o,rfl⟩:=m9.mp f;exact mj c d (bR a p) (bR b o)
def bW_0(h:∀i j,0<=g i j){w:Nat}(hw:w<10)(H:∀v,v<10->wp f R C v=true->ww f g R C (v:Int)<=ww f g R C (w:Int)):ww f g R C (w:Int)=bW f g 0 R C:=by
 have a:∀v:Int,0<=ww f g R C v:=λ v=>HF λ i _ j _=>by
  show 0<=if f i j=v then g i j else 0
  split
  ·exact h i j
  ·exact U7 _
 refine eY (bU.2 _ (m9.mpr ⟨w,x5.mpr hw,rfl⟩)) (dY (a _) λ y b=>?_);obtain⟨v,hv,rfl⟩:=m9.mp b;by_cases q:wp f R C v=true
 ·exact H v (x5.mp hv) q
 ·refine R8 (ju ?_) (a _);refine eY ?_ (a _);rw[←vi R C];refine hY λ i d j c=>?_;show(if f i j=(v:Int)then g i j else 0)<=0;rw[g9 λ e=>q (uI.mpr ⟨i,j,d,c,e⟩)];exact U7 _
def vI(d:Rect n m rows)(W:Rect n m wr)(x:W9 rows)(B:∀i j,0<=mf wr i j)(y:0<n)(f:n<=5)(h:m<=5)(p:0<R)(o:R<2^n)(u:0<C)(r:C<2^m):∃w:Nat,w<10/\ww JT (mf wr) R C (w:Int)=bW JT (mf wr) 0 R C/\run G T fu (k+4) 15 [tT rows,rL wr,.int (R:Int),.int (C:Int)]=some (.v (JP (w:Int)) false):=by
 have ks:=mD (F:=run G T fu (k+3)) (m:=.lam ⟨["word","table","weights","rows","columns"],1,.call 16 [.var 1,.var 2,.var 3,.var 4,.var 0],G.fnl,G.bll,G.cll⟩ [tT rows,rL wr,.int (R:Int),.int (C:Int)]) (l:=(JS 10).filter (wp JT R C)) λ w _=>by refine vC ⟨rfl,rfl,rfl,?_⟩ (k7 (fr:=false) rfl rfl (vH d W f h p o u r w)) rfl;show((tT rows).nolam&&((rL wr).nolam&&_))=true;rw[bV,bX];rfl
 have ne:(JS 10).filter (wp JT R C)≠[]:=λ z=>by have:=Hr d x f h p o u r;unfold wn at this;rw[z]at this;exact absurd this JD
 obtain⟨i,A,c,g⟩:=vF (ks:=((JS 10).filter (wp JT R C)).map λ (w:Nat)=>ww JT (mf wr) R C (w:Int)) (λ z=>ne (List.map_eq_nil_iff.mp z));rw[i0]at c;obtain⟨w,e⟩:∃w,_[i]? = some w:=⟨_,p8 c⟩;have b:=E4.mp (M1 e);refine⟨w,x5.mp b.1,bW_0 B (x5.mp b.1) λ v hv q=>?_,?_⟩
 ·have:=g _ (m9.mpr ⟨v,E4.mpr ⟨x5.mpr hv,q⟩,rfl⟩);rw[D1,q9,e]at this;exact this
 ·rw[r9 rfl rfl];exact t5 (q0 (u7 (vE (HY d x y f h p o u r rfl rfl rfl) (K8 rfl (bV _) (K8 rfl (bX _) (K8 rfl rfl (K8 rfl rfl rfl)))) ks A (by unfold nD;rw[q9,e];rfl))))
end k62
end
noncomputable section
namespace k62
open PySem L2
variable {fu k:Nat} {F:Nat->on DV->Jk Ou} {δ:on Sv} {ds:on DV} {cl:Cl} {n m R C B b j:Nat} {rows wr:on (on Int)}
abbrev Ky:=Nat×Nat×Nat
def k3(p:Ky):on Int:=[(p.1:Int),(p.2.1:Int),(p.2.2:Int)]
def P0(p q:Ky)(h:k3 p=k3 q):p=q:=by
 obtain⟨a,b,c⟩:=p;obtain⟨d,e,f⟩:=q;unfold k3 at h;simp only[List.cons.injEq,and_true]at h;rw[ji h.1,ji h.2.1,ji h.2.2]
abbrev T3:=on (Ky×Int)
theorem bY{b c:Type}[BEq b][LawfulBEq b]{V:b->c}{q:b}:∀l:on b,(q∈l->(l.map λ p=>(p,V p)).lookup q=some (V q))/\(q∉l->(l.map λ p=>(p,V p)).lookup q=none)
 | []=>⟨λ h=>(nomatch h),λ _=>rfl⟩
 | a::l=>by
  rw[A0,F9];by_cases h:q=a
  ·subst h;rw[N8];exact⟨λ _=>rfl,λ z=>absurd (o6 ..) z⟩
  ·rw[y9.mpr h];exact⟨λ z=>(bY l).1 ((j0.mp z).resolve_left h),λ z=>(bY l).2 λ y=>z (o4 _ y)⟩
def kys(B b R C j:Nat):on Ky:=(ps b R C).flatMap (λ p=>(JS (B+1)).map λ l=>(p.1,p.2,l))++(JS j).map λ l=>(R,C,l)
def ee:q∈kys B b R C j↔((q.1,q.2.1)∈ps b R C/\q.2.2<=B)\/(q.1=R/\q.2.1=C/\q.2.2<j):=by
 unfold kys;obtain⟨x,y,z⟩:=q;rw[C7,List.mem_flatMap,m9];constructor
 ·rintro(⟨p,hp,h⟩ | ⟨l,a,h⟩)
  ·obtain⟨l,a,e⟩:=m9.mp h;cases e;exact .inl ⟨hp,by have:=x5.mp a;dsimp only;omega⟩
  ·cases h;exact .inr ⟨rfl,rfl,x5.mp a⟩
 ·rintro(⟨h1,h2⟩ | ⟨h1,h2,h3⟩)
  ·exact .inl ⟨_,h1,m9.mpr ⟨z,x5.mpr (by dsimp only at h2;omega),rfl⟩⟩
  ·dsimp only at h1 h2 h3;subst h1 h2;exact .inr ⟨z,x5.mpr h3,rfl⟩
def vJ:kys B b R C (j+1)=kys B b R C j++[(R,C,j)]:=by
 unfold kys;rw[N7]
 congr 1
 rw[cD,C3];rfl
def HZ(h:0<C):kys B b R C (B+1)=kys B b R (C+1) 0:=by
 unfold kys;rw[Hw h,List.flatMap_append,List.flatMap_cons,List.flatMap_nil,C8,List.range_zero,fv,C8]
def Ia(h:0<R):kys B b R (2^b) 0=kys B b (R+1) 1 0:=by
 unfold kys;rw[vc h];rfl
def tb3(f g:Mx)(K:on Ky):T3:=K.map λ q=>(q,bW f g q.2.2 q.1 q.2.1)
def vK(f g:Mx)(K:on Ky)(q:Ky):tb3 f g (K++[q])=tb3 f g K++[(q,bW f g q.2.2 q.1 q.2.1)]:=by
 unfold tb3;rw[C3];rfl
def vL(d:b<=5)(h:0<R)(f:R<=32)(g:C<=32)(hB:B<=4)(hj:j<=5):(kys B b R C j).length<100000:=by
 unfold kys;have:=Hz d h f g;rw[x4,i0,A8,List.length_flatMap];have e:((ps b R C).map λ p=>((JS (B+1)).map λ l=>(p.1,p.2,l)).length).sum=(ps b R C).length*(B+1):=by
  have:∀l:on (Nat×Nat),(l.map λ p=>((JS (B+1)).map λ l=>(p.1,p.2,l)).length).sum=l.length*(B+1):=λ l=>by
   induction l with
   | nil=>simp
   | cons a l c=>rw[A0,U5,c,i0,A8,z7,aj];omega
  exact this _
 rw[e];have:(ps b R C).length*(B+1)<=1000*5:=cH JC JC;omega
def ez(d:evE G F a δ=some (JR (.tup [.int (r:Int),.int (s:Int)])))(b:evE G F c δ=some (JR (.int l))):evE G F (.bin .Add a (.tup [c])) δ=some (.ok (.tup [.int (r:Int),.int (s:Int),.int l]) .strong):=
 F0 d (D0 (f7 b i9) (show 1<=n5 by decide) rfl) (HK JL (show 3<=1000 by decide))
def vM{b:Int}(e:asDc X=some (ksG k3 L,vsG id L))(g:L.lookup (w.2.2.1.1,w.2.2.1.2,l)=some b)(f:L.lookup (w.2.2.2.1,w.2.2.2.2,l)=some a):run G T fu (k+1) 14 [X,wD w,.int (l:Int)]=some (.v (JP (b+a)) false):=by
 rw[r9 rfl rfl];have c:∀F,evE G F (.var 1) (o5 3 [X,wD w,.int (l:Int)])=some _:=λ F=>f6 rfl
 have d:∀F,evE G F (.var 0) (o5 3 [X,wD w,.int (l:Int)])=some _:=λ F=>f6 rfl;exact t5 (q0 (u7 (B2 (V6 P0 e (d _) (ez (n9 (cx:=.strong) (c _) g8 rfl) (f6 rfl)) g) (V6 P0 e (d _) (ez (n9 (cx:=.strong) (c _) g8 rfl) (f6 rfl)) f))))
theorem vN:∀(r:on Int) (m:Int),maxI m r=mxl m r
 | [],_=>rfl
 | x::r,m=>by
  show maxI _ r=mxl _ r;rw[vN r]
  congr 1
  split<;>omega
def vO(h:evE G F e δ=some (.ok (.lst (iD (a::r))) c)):evE G F (.bi .max [e]) δ=some (.ok (JP (mxl a r)) .strong):=by
 show Rs.thn _ _=_;rw[f7 h i9];show(match ints? ((a::r).map DV.int)with | some (n::r)=>some _ | _=>none)=_;rw[mh,←vN]
abbrev zS(rows wr:on (on Int))(B:Nat)(L:T3)(r c w l y:Sv):on Sv:=[.val (tT rows),.val (rL wr),.val (JP (B:Int)),.od (lG k3 id L),r,c,w,l,y]
noncomputable def zBb:on MS:=[.set 8 false (.comp (.call 14 [.var 1,.var 0,.bin .Sub (.var 2) (.int 1)]) (.one 0) (.call 6 [.var 4,.var 5]) [none,some 3,some 7]),.dpp 3 [.var 4,.var 5,.var 7] (.bi .max [.bin .Add (.lst [.dix (.var 3) (.tup [.var 4,.var 5,.bin .Sub (.var 7) (.int 1)])]) (.var 8)])]
def Ib(m:R<32)(o:C<32)(M:b<=5)(v:0<R)(S:0<C)(Q:C<2^b)(N:B<=4)(hj:j<B)(w y:Sv):∃x,evSs G (JJ (k+3)) fu zBb (zS rows wr B (tb3 JT (mf wr) (kys B b R C (j+1))) (JE (R:Int)) (JE (C:Int)) w (JE (1+(j:Int))) y)=some (.nx (zS rows wr B (tb3 JT (mf wr) (kys B b R C (j+2))) (JE (R:Int)) (JE (C:Int)) w (JE (1+(j:Int))) x)):=by
 let L:=tb3 JT (mf wr) (kys B b R C (j+1))
 have f:∀{r c l:Nat},((r,c)∈ps b R C/\l<=B)\/(r=R/\c=C/\l<j+1)->L.lookup (r,c,l)=some (bW JT (mf wr) l r c):=λ h=>(bY (V:=λ q:Ky=>bW JT (mf wr) q.2.2 q.1 q.2.1) (kys B b R C (j+1))).1 (ee.mpr h);have A:L.lookup (R,C,j+1)=none:=(bY (V:=λ q:Ky=>bW JT (mf wr) q.2.2 q.1 q.2.1) (kys B b R C (j+1))).2 λ z=>by
  rcases ee.mp z with⟨q,_⟩ | ⟨_,_,q⟩
  ·rcases Z2.mp q with q | q
   ·have:=q.2.1;dsimp only at this;omega
   ·have:=q.2.2;dsimp only at this;omega
  ·dsimp only at q;omega
 have P:=N4 (F:=run G T fu (k+3)) (δ:=zS rows wr B L (JE (R:Int)) (JE (C:Int)) w (JE (1+(j:Int))) y) (l:=wl R C) (h:=wD) (elt:=.call 14 [.var 1,.var 0,.bin .Sub (.var 2) (.int 1)]) (tg:=.one 0) (it:=.call 6 [.var 4,.var 5]) (fr:=[none,some 3,some 7]) (cl:=.fresh)
  (by rw[k7 (G:=G) (fr:=true) (l:=[(JV (R:Int)),(JV (C:Int))]) rfl rfl (uP (k:=k+1) m o)];rfl) JD (by unfold wl;rw[x4,i0,i0];exact k6 (fe (Z0 m) (Z0 o)) JD) λ w K=>by
   obtain⟨J,I⟩:=HA S Q v K;have e:evE G (JJ (k+3)) (.bin .Sub (.var 2) (.int 1)) [.val (wD w),.od (lG k3 id L),.val (JP (1+(j:Int)))]=some (.ok (JP (j:Int)) .strong):=by have:=G4 (G:=G) (F:=run G T fu (k+3)) (δ:=[.val (wD w),.od (lG k3 id L),.val (JP (1+(j:Int)))]) (a:=.var 2) (b:=.int 1) (f6 rfl) g8;rw[show(1+(j:Int)) - 1=j by omega]at this;exact this
   exact⟨[.val (wD w),.od (lG k3 id L),.val (JP (1+(j:Int)))],.weak,rfl,jT (fr:=false) (f7 (mi rfl) (f7 (f6 rfl) (f7 e i9))) rfl (vM (L:=L) rfl (f (.inl ⟨J,by omega⟩)) (f (.inl ⟨I,by omega⟩))) rfl,rfl⟩
 generalize g:(wl R C).map _=ys
 let D:=zS rows wr B L (JE (R:Int)) (JE (C:Int)) w (JE (1+(j:Int))) (.val (.lst (iD ys)))
 have e:evE G (JJ (k+3)) (.bin .Sub (.var 7) (.int 1)) D=some (.ok (JP (j:Int)) .strong):=(by have:=G4 (G:=G) (F:=run G T fu (k+3)) (δ:=D) (a:=.var 7) (b:=.int 1) (f6 rfl) g8;rw[show(1+(j:Int)) - 1=j by omega]at this;exact this);have H:evE G (JJ (k+3)) (.tup [.var 4,.var 5,.bin .Sub (.var 7) (.int 1)]) D=some (.ok (.tup ((k3 (R,C,j)).map .int)) .strong):=D0 (f7 (f6 rfl) (f7 (f6 rfl) (f7 e i9))) (show 3<=n5 by decide) rfl;have O:=V6 (κ:=k3) (ν:=id) (L:=L) (q:=(R,C,j)) (X:=lG k3 id L) P0 rfl (mi (i:=3) rfl) H (f (.inr ⟨rfl,rfl,by omega⟩));have p:ys.length<=62:=by rw[←g,i0];unfold wl;rw[x4,i0,i0];exact fe (Z0 m) (Z0 o)
 have u:=vO (a:=bW JT (mf wr) j R C) (r:=ys) (uZ (lst1 O rfl) (f6 (n:=8) (d:=.lst (iD ys)) rfl) (by rw[i0];show 1+_<=_;omega));rw[←g,show mxl (bW JT (mf wr) j R C) _=bW JT (mf wr) (j+1) R C from rfl]at u;have E:L.length<100000:=by show(tb3 _ _ _).length<_;unfold tb3;rw[i0];exact vL M v JC JC N JC
 rw[show kys B b R C (j+2)=kys B b R C (j+1)++[(R,C,j+1)]from vJ,vK];exact⟨_,i6 (n6 ((by rw[P,←g];unfold iD;rw[v7];rfl)) rfl) (i6 (uT (κ:=k3) (ν:=id) (L:=L) (q:=(R,C,j+1)) (z:=bW JT (mf wr) (j+1) R C) P0 rfl u (f7 (f6 rfl) (f7 (f6 rfl) (f7 (f6 rfl) i9))) (by show[DV.int (R:Int),.int (C:Int),.int (1+(j:Int))]=[.int (R:Int),.int (C:Int),.int ((j+1:Nat):Int)];rw[show(1+(j:Int))=((j+1:Nat):Int) by omega]) (show 3<=3 by decide) A E) rfl)⟩
def oB:on MS:=[.set 6 false (.call 15 [.var 0,.var 1,.var 4,.var 5]),.dpp 3 [.var 4,.var 5,.int 0] (.call 16 [.var 0,.var 1,.var 4,.var 5,.var 6]),.fo (.one 7) (.rng [.int 1,.bin .Add (.var 2) (.int 1)]) zBb]
def Ic(o:Rect n m rows)(W:Rect n m wr)(A:W9 rows)(N:∀i j,0<=mf wr i j)(J:0<n)(hn:n<=4)(hm:m<=4)(c:0<R)(v:R<2^n)(d:0<C)(g:C<2^m)(r:B<=4)(w l y:Sv):∃E f a,evSs G (JJ (k+4)) fu oB (zS rows wr B (tb3 JT (mf wr) (kys B m R C 0)) (JE (R:Int)) (JE (C:Int)) w l y)=some (.nx (zS rows wr B (tb3 JT (mf wr) (kys B m R (C+1) 0)) (JE (R:Int)) (JE (C:Int)) E f a)):=by
 have pn:=p32 (n:=n) JC;have pm:=p32 (n:=m) JC;obtain⟨wd,_,P,O⟩:=vI (k:=k) o W A N J JC JC c v d g;have u:=vH (fu:=fu) (k:=k+2) o W JC JC c v d g (wd:Int);rw[P]at u;have H:(tb3 JT (mf wr) (kys B m R C 0)).lookup (R,C,0)=none:=(bY (V:=λ q:Ky=>bW JT (mf wr) q.2.2 q.1 q.2.1) (kys B m R C 0)).2 λ z=>by
  rcases ee.mp z with⟨q,_⟩ | ⟨_,_,q⟩
  ·rcases Z2.mp q with q | q
   ·have:=q.2.1;dsimp only at this;omega
   ·have:=q.2.2;dsimp only at this;omega
  ·exact absurd q JK
 have L:(tb3 JT (mf wr) (kys B m R C 0)).length<100000:=by unfold tb3;rw[i0];exact vL JC c JC JC r JC
 have Q:∀l y,evS G (JJ (k+4)) fu (.dpp 3 [.var 4,.var 5,.int 0] (.call 16 [.var 0,.var 1,.var 4,.var 5,.var 6])) (zS rows wr B (tb3 JT (mf wr) (kys B m R C 0)) (JE (R:Int)) (JE (C:Int)) (JE (wd:Int)) l y)=some (.nx (zS rows wr B (tb3 JT (mf wr) (kys B m R C 1)) (JE (R:Int)) (JE (C:Int)) (JE (wd:Int)) l y)):=λ l y=>by rw[show kys B m R C 1=kys B m R C 0++[(R,C,0)]from vJ,vK];exact uT P0 rfl (k7 (fr:=false) (l:=[(tT rows,.strong),(rL wr,.strong),(JV (R:Int)),(JV (C:Int)),(JV (wd:Int))]) rfl rfl u) (f7 (f6 rfl) (f7 (f6 rfl) (f7 g8 i9))) rfl (show 3<=3 by decide) H L
 have K:=K0 (i:=7) (I:=λ j h=>∃l y,h=zS rows wr B (tb3 JT (mf wr) (kys B m R C (j+1))) (JE (R:Int)) (JE (C:Int)) (JE (wd:Int)) l y) B 1
  (λ j M h I=>by
   obtain⟨l,y,rfl⟩:=I;obtain⟨a,e⟩:=Ib (fu:=fu) (k:=k+1) (wr:=wr) (b:=m) (R:=R) (C:=C) (B:=B) (j:=j) JC JC JC c d g r M _ y;exact⟨_,e,_,_,rfl⟩) ⟨l,y,rfl⟩
 obtain⟨x,p,f,a,rfl⟩:=K;rw[HZ d]at p;have F:p7 (evE G (JJ (k+4)) (.rng [.int 1,.bin .Add (.var 2) (.int 1)]) (zS rows wr B (tb3 JT (mf wr) (kys B m R C 1)) (JE (R:Int)) (JE (C:Int)) (JE (wd:Int)) l y))=some (.ok (upTo 1 B) .fresh):=aJ (n:=B+1) (cx:=.strong) (B2 (i:=(B:Int)) (j:=1) (cx:=.strong) (cy:=.strong) (f6 rfl) g8) JC;exact⟨_,f,a,i6 (n6 (k7 (fr:=false) (l:=[(tT rows,.strong),(rL wr,.strong),(JV (R:Int)),(JV (C:Int))]) rfl rfl O) rfl) (i6 (Q l y) (D9 F (.inr rfl) p rfl))⟩
def oF:MS:=.fo (.one 5) (.rng [.int 1,.bin .LShift (.int 1) (.bi .len [.ix (.var 0) (.int 0)])]) oB
def Ie(h:Rect n m rows)(W:Rect n m wr)(v:W9 rows)(H:∀i j,0<=mf wr i j)(p:0<n)(A:n<=4)(E:m<=4)(q:0<R)(J:R<2^n)(F:B<=4)(c w l y:Sv):∃f b d a,evS G (JJ (k+4)) fu oF (zS rows wr B (tb3 JT (mf wr) (kys B m R 1 0)) (JE (R:Int)) c w l y)=some (.nx (zS rows wr B (tb3 JT (mf wr) (kys B m (R+1) 1 0)) (JE (R:Int)) f b d a)):=by
 have pm:=p32 (n:=m) JC;have m1:1<=2^m:=eQ;have z:=K0 (i:=5) (I:=λ j g=>∃c w l y,g=zS rows wr B (tb3 JT (mf wr) (kys B m R (j+1) 0)) (JE (R:Int)) c w l y) (2^m - 1) 1
  (λ j hj g I=>by
   obtain⟨c,w,l,y,rfl⟩:=I;rw[show(1:Int)+_=((j+1:Nat):Int) by omega];obtain⟨b,d,a,e⟩:=Ic (fu:=fu) (k:=k) (C:=j+1) h W v H p A E q J JC JC F w l y;exact⟨_,e,_,_,_,_,rfl⟩) ⟨c,w,l,y,rfl⟩
 obtain⟨u,o,f,b,d,a,rfl⟩:=z;rw[show 2^m - 1+1=2^m by omega,Ia q]at o;have x:p7 (evE G (JJ (k+4)) (.rng [.int 1,.bin .LShift (.int 1) (.bi .len [.ix (.var 0) (.int 0)])]) (zS rows wr B (tb3 JT (mf wr) (kys B m R 1 0)) (JE (R:Int)) c w l y))=some (.ok (upTo 1 (2^m - 1)) .fresh):=aJ (mn (T6 h p (f6 rfl)) JC) JC;refine⟨f,b,d,a,?_⟩;have:=D9 x (.inr rfl) o (r:=[]) rfl;unfold evSs at this;split at this
 ·rename_i s e;rw[show oF=.fo _ _ oB from rfl,e];exact this
 ·exact this
abbrev fw(B n m:Nat)(rows wr:on (on Int)):T3:=tb3 JT (mf wr) (kys B m (2^n) 1 0)
def vP(b:Rect n m rows)(W:Rect n m wr)(q:W9 rows)(E:∀i j,0<=mf wr i j)(o:0<n)(z:n<=4)(A:m<=4)(C:B<=4):run G T fu (k+5) 13 [tT rows,rL wr,.int (B:Int)]=some (.v (dG k3 id (fw B n m rows wr)) false):=by
 have pn:=p32 (n:=n) JC;have n1:1<=2^n:=eQ;rw[r9 rfl rfl];have v:=K0 (i:=4) (I:=λ j d=>∃r c w l y,d=zS rows wr B (tb3 JT (mf wr) (kys B m (j+1) 1 0)) r c w l y) (body:=λ a=>evSs G (JJ (k+4)) fu [oF] a) (2^n - 1) 1 (δ:=zS rows wr B [] .no .no .no .no .no)
  (λ j hj d I=>by
   obtain⟨r,c,w,l,y,rfl⟩:=I;rw[show(1:Int)+(j:Int)=((j+1:Nat):Int) by omega];obtain⟨F,u,x,p,e⟩:=Ie (k:=k) (R:=j+1) b W q E o z A JC JC C c w l y;exact⟨_,i6 e rfl,_,_,_,_,_,rfl⟩) ⟨_,_,_,_,_,rfl⟩
 obtain⟨a,h,r',F,u,x,p,rfl⟩:=v;rw[show 2^n - 1+1=2^n by omega]at h;have g:evE G (JJ (k+4)) (.cmp .Gt (.bi .len [.var 0]) (.glb "MOST_WEIGHED")) (o5 9 [tT rows,rL wr,.int (B:Int)])=some (.ok (.bl (decide ((4:Int)<(n:Int)))) .strong):=b_gt (lenT b (f6 rfl)) rfl;have f:evE G (JJ (k+4)) (.cmp .Gt (.bi .len [.ix (.var 0) (.int 0)]) (.glb "MOST_WEIGHED")) (o5 9 [tT rows,rL wr,.int (B:Int)])=some (.ok (.bl (decide ((4:Int)<(m:Int)))) .strong):=b_gt (T6 b o (f6 rfl)) rfl;rw[B4 JC]at g f;exact t5 (x8 (o7 (pL g f)) (i6 (Hs rfl) (D9 (aJ (mn (lenT b (f6 rfl)) JC) JC) (.inr rfl) h (q0 (Hu rfl)))))
end k62
end
noncomputable section
namespace k62
open PySem L2
variable {fu k:Nat} {F:Nat->on DV->Jk Ou} {δ:on Sv} {ds:on DV} {cl:Cl} {n m R C B:Nat} {rows wr:on (on Int)}
abbrev cps(B n m:Nat)(rows wr:on (on Int)):on DV:=[tT rows,rL wr,dG k3 id (fw B n m rows wr)]
def bZ(L:on (c×b)):(dG κ ν L).nolam=true:=by
 show DV.nolams _=true
 induction L with
 | nil=>rfl
 | cons a l d=>exact d
def Ig(d:DV)(l:Int)(hd:d.nolam=true):DV.nolams (d :: .int l::cps B n m rows wr)=true:=by
 show(d.nolam&&(true&&((tT rows).nolam&&((rL wr).nolam&&((dG k3 id _).nolam&&true)))))=true;rw[hd,bV,bX,bZ];rfl
def clB:on MS:=match clo with | some C=>C.body | none=>[]
abbrev pt(R C:Nat):DV:=.tup [.int (R:Int),.int (C:Int)]
def mE(h:evSs G (JJ k) fu clB (o5 6 (pt R C :: .int l::cps B n m rows wr))=some (.rt d false))(hd:d.nolam=true):run G T fu (k+1) E9 (pt R C :: .int l::cps B n m rows wr)=some (.v d false):=by
 show(if 5=2+3/\DV.nolams _=true then(match evSs G _ fu clB (o5 6 _)with
  | some (.rt d false)=>if d.nolam then some (Ou.v d false)else none
  | _=>none)else none)=_
 rw[f8 ⟨rfl,Ig _ _ rfl⟩,h];exact f8 hd
def mF{cs:on DV}(c:capD δ [2,3,4]=some cs)(e:evEs G F es δ=some (.ok l))(a:(l.all λ p=>p.2 == .strong||p.2 == .fresh)=true)(b:l.length=2)(h:F E9 (l.map (·.1)++cs)=some (.v d false))(hd:d.nolam=true):evE G F (.self 2 3 es) δ=some (.ok d .strong):=by
 show(if 2=2/\3=3 then(capD δ [2,3,4]).bind λ cs=>Rs.thn _ λ l=>O5 F 2 cs l else none)=_;rw[f8 ⟨rfl,rfl⟩,c,e];show O5 F 2 cs l=_;unfold O5;rw[f8 ⟨a,b⟩,h];exact f8 hd
def fr_P(p:Pn):frD p.D .strong=false:=by cases p<;>rfl
def Z5(a:0<r)(r1:r<2^n)(c0:0<c)(d:c<2^m)(b:l<=B):(fw B n m rows wr).lookup (r,c,l)=some (bW JT (mf wr) l r c):=(bY _).1 (ee.mpr (.inl ⟨Z2.mpr (.inl ⟨a,r1,c0,d⟩),b⟩))
noncomputable def Pn.wk:Pn->Prop
 | .fin w=>0<=w/\w<=9
 | .ask _ c n y=>1<=c/\c<=255/\n.wk/\y.wk
def Gd(rows wr:on (on Int))(l R C:Nat)(p:Pn):Prop:=p.wk/\p.deep<=l/\pw JT (mf wr) p R C=bW JT (mf wr) l R C
def Ih(b:R<32)(s:Sb h R):pw f g (.ask true h p q) R C=pw f g p (R - h) C+pw f g q h C:=by
 unfold pw;rw[HD b s]
 congr 1
 ·refine dX λ i a j c=>?_;show(if(if h.testBit i then q.rch i j else p.rch i j)=f i j then g i j else 0)=_;rw[iQ.mpr λ z=>(uG s b a).2 (me z)];rfl
 ·refine dX λ i a j c=>?_;show(if(if h.testBit i then q.rch i j else p.rch i j)=f i j then g i j else 0)=_;rw[dW a];rfl
def Ii(b:C<32)(s:Sb h C):pw f g (.ask false h p q) R C=pw f g p R (C - h)+pw f g q R h:=by
 unfold pw;rw[HE b s]
 congr 1
 ·refine dX λ i c j a=>?_;show(if(if h.testBit j then q.rch i j else p.rch i j)=f i j then g i j else 0)=_;rw[iQ.mpr λ z=>(uG s b a).2 (me z)];rfl
 ·refine dX λ i c j a=>?_;show(if(if h.testBit j then q.rch i j else p.rch i j)=f i j then g i j else 0)=_;rw[dW a];rfl
theorem ie(rc:Rect n m rows)(W:Rect n m wr)(w9:W9 rows)(g0:∀i j,0<=mf wr i j)(n0:0<n)(hn:n<=4)(hm:m<=4):∀(l R C:Nat),l<=B->0<R->R<2^n->0<C->C<2^m->∃p:Pn,Gd rows wr l R C p/\run G T fu (k+l+5) E9 (pt R C :: .int (l:Int)::cps B n m rows wr)=some (.v p.D false)
 | 0,R,C,_,R0,R1,C0,C1=>by
  obtain⟨w,w10,hww,e⟩:=vI (fu:=fu) (k:=k) rc W w9 g0 n0 JC JC R0 R1 C0 C1;have c0:evE G (JJ (k+4)) (.cmp .Eq (.var 1) (.int 0)) (o5 6 (pt R C :: .int ((0:Nat):Int)::cps B n m rows wr))=some (.ok (.bl true) .strong):=b_eq (i:=0) (j:=0) (cx:=.strong) (f6 rfl) g8;have ix:∀y d,ixD (pt R C) (.int y)=some d->evE G (JJ (k+4)) (JM 0 y) (o5 6 (pt R C :: .int ((0:Nat):Int)::cps B n m rows wr))=some (.ok d .strong):=λ y d h=>n9 (cx:=.strong) (f6 rfl) g8 h
  have hp:pw JT (mf wr) (.fin (w:Int)) R C=bW JT (mf wr) 0 R C:=by
   rw[←hww];refine dX λ i hi j hj=>?_
   show(if(w:Int)=mf rows i j then mf wr i j else 0)=if mf rows i j=(w:Int)then mf wr i j else 0
   by_cases h:mf rows i j=(w:Int)
   ·rw[f8 h,f8 h.symm]
   ·rw[g9 h,g9 (λ z=>h z.symm)]
  exact⟨.fin (w:Int),⟨⟨by omega,by omega⟩,i8 _,hp⟩,mE (k:=k+4) (bu (o7 c0) (q0 (u7 (cl:=.strong) (D0 (f7 K2 (f7 (k7 (fr:=false) (l:=[(tT rows,.strong),(rL wr,.strong),(JV (R:Int)),(JV (C:Int))]) (f7 (f6 rfl) (f7 (f6 rfl) (f7 (ix 0 _ rfl) (f7 (ix 1 _ rfl) i9)))) rfl e) i9)) (show 2<=n5 by decide) rfl)))) rfl⟩
 | l+1,R,C,hl,R0,R1,C0,C1=>by
  have pn:=p32 (n:=n) JC;have pm:=p32 (n:=m) JC
  let L:=fw B n m rows wr
  let D:on Sv:=o5 6 (pt R C :: .int ((l+1:Nat):Int)::cps B n m rows wr)
  let F:=run G T fu (k+l+5)
  have v0:∀{D':on Sv},D'[0]? = D[0]? -> evE G F (.var 0) D'=some (.ok (pt R C) .strong):=λ h=>f6 (by rw[h];rfl);have v1:∀{D':on Sv},D'[1]? = D[1]? -> evE G F (.var 1) D'=some (.ok (JP ((l+1:Nat):Int)) .strong):=λ h=>f6 (by rw[h];rfl);have sb:∀{D':on Sv},D'[1]? = D[1]? -> evE G F (.bin .Sub (.var 1) (.int 1)) D'=some (.ok (JP (l:Int)) .strong):=λ {D'} h=>by have:=G4 (G:=G) (F:=F) (v1 h) (g8 (i:=1));rw[show((l+1:Nat):Int) - 1=(l:Int) by omega]at this;exact this
  have c0:evE G F (.cmp .Eq (.var 1) (.int 0)) D=some (.ok (.bl false) .strong):=(by have:=b_eq (v1 (D':=D) rfl) (g8 (i:=0));rw[show(((l+1:Nat):Int)==0)=false from y9.mpr JC]at this;exact this);have d1:=V6 (κ:=k3) (ν:=id) (L:=L) (q:=(R,C,l+1)) (X:=dG k3 id L) P0 rfl (f6 (G:=G) (F:=F) (δ:=D) (n:=4) rfl) (ez (v0 rfl) (v1 rfl)) (Z5 R0 R1 C0 C1 hl);have d2:=V6 (κ:=k3) (ν:=id) (L:=L) (q:=(R,C,l)) (X:=dG k3 id L) P0 rfl (f6 (G:=G) (F:=F) (δ:=D) (n:=4) rfl) (ez (v0 rfl) (sb rfl)) (Z5 R0 R1 C0 C1 JC);have c1:=b_eq d1 d2;by_cases q:bW JT (mf wr) (l+1) R C=bW JT (mf wr) l R C
  ·rw[show(id (bW JT (mf wr) (l+1) R C)==id (bW JT (mf wr) l R C))=true from i5.mpr q]at c1;obtain⟨p,gd,e⟩:=ie rc W w9 g0 n0 hn hm l R C JC R0 R1 C0 C1;have sf:=mF (F:=F) (δ:=D) (K8 rfl (bV _) (K8 rfl (bX _) (K8 rfl (bZ _) rfl))) (f7 (v0 rfl) (f7 (sb rfl) i9)) rfl rfl e (Z4 p);refine⟨p,⟨gd.1,Nat.le_succ_of_le gd.2.1,by rw[gd.2.2,q]⟩,mE (k:=k+l+5) (x8 (o7 c0) (bu (o7 c1) (q0 ?_))) (Z4 p)⟩;have:=u7 (fu:=fu) sf;rw[fr_P]at this;exact this
  ·rw[show(id (bW JT (mf wr) (l+1) R C)==id (bW JT (mf wr) l R C))=false from y9.mpr q]at c1;have ne:wl R C≠[]:=λ z=>q (by
    show mxl (bW JT (mf wr) l R C) ((wl R C).map _)=_;rw[z];rfl)
   have parts:∀{w:Wy},w∈wl R C->(0<w.2.2.1.1/\w.2.2.1.1<2^n/\0<w.2.2.1.2/\w.2.2.1.2<2^m)/\0<w.2.2.2.1/\w.2.2.2.1<2^n/\0<w.2.2.2.2/\w.2.2.2.2<2^m:=λ h=>by rcases hV h with⟨g,s,rfl⟩ | ⟨g,s,rfl⟩<;>(have:=s.1;have:=s.2.1;dsimp only;omega)
   have sp:evE G F (.call 6 [.ix (.var 0) (.int 0),.ix (.var 0) (.int 1)]) D=some (.ok (.lst ((wl R C).map wD)) .fresh):=k7 (fr:=true) (l:=[(JV (R:Int)),(JV (C:Int))]) (f7 (n9 (cx:=.strong) (v0 rfl) g8 rfl) (f7 (n9 (cx:=.strong) (v0 rfl) g8 rfl) i9)) rfl (uP (k:=k+l+3) JC JC);have hk:=mD (F:=F) (m:=.lam ⟨["way","numbers","left"],1,.call 14 [.var 1,.var 0,.bin .Sub (.var 2) (.int 1)],G.fnl,G.bll,G.cll⟩ [dG k3 id L,.int ((l+1:Nat):Int)]) (h:=wD) (g:=λ w=>bW JT (mf wr) l w.2.2.1.1 w.2.2.1.2+bW JT (mf wr) l w.2.2.2.1 w.2.2.2.2) (l:=wl R C) (λ w hw=>by
    obtain⟨⟨a1,a2,a3,a4⟩,b1,b2,b3,b4⟩:=parts hw;have nl:(wD w).nolam=true:=by rcases hV hw with⟨g,s,rfl⟩ | ⟨g,s,rfl⟩<;>rfl
    have s2:evE G (JJ (k+l+4)) (.bin .Sub (.var 2) (.int 1)) (([wD w]++[dG k3 id L,.int ((l+1:Nat):Int)]).map Sv.val)=some (.ok (JP (l:Int)) .strong):=(by have:=G4 (G:=G) (F:=run G T fu (k+l+4)) (δ:=([wD w]++[dG k3 id L,.int ((l+1:Nat):Int)]).map Sv.val) (a:=.var 2) (b:=.int 1) (f6 (d:=.int ((l+1:Nat):Int)) rfl) g8;rw[show((l+1:Nat):Int) - 1=(l:Int) by omega]at this;exact this);refine vC (k:=k+l+4) ⟨rfl,rfl,?_,?_⟩ (k7 (fr:=false) (l:=[(dG k3 id L,.strong),(wD w,.strong),(JV (l:Int))]) (f7 (f6 rfl) (f7 (f6 rfl) (f7 s2 i9))) rfl (vM (k:=k+l+3) (L:=L) rfl (Z5 a1 a2 a3 a4 JC) (Z5 b1 b2 b3 b4 JC))) rfl
    ·show((wD w).nolam&&true)=true;rw[nl];rfl
    ·show((dG k3 id L).nolam&&true)=true;rw[bZ];rfl)
   obtain⟨i,hi,hil,hmx⟩:=vF (ks:=(wl R C).map λ w=>bW JT (mf wr) l w.2.2.1.1 w.2.2.1.2+bW JT (mf wr) l w.2.2.2.1 w.2.2.2.2) (λ z=>ne (List.map_eq_nil_iff.mp z));rw[i0]at hil;obtain⟨w,hw⟩:∃w,(wl R C)[i]? = some w:=⟨_,p8 hil⟩;have hwm:=M1 hw;obtain⟨⟨a1,a2,a3,a4⟩,b1,b2,b3,b4⟩:=parts hwm;have mk:=vE sp (K8 (i:=4) (r:=[1]) rfl (bZ _) (K8 (i:=1) (r:=[]) rfl rfl rfl)) hk hi (by rw[q9,hw];rfl);obtain⟨p1,gd1,e1⟩:=ie rc W w9 g0 n0 hn hm l w.2.2.1.1 w.2.2.1.2 JC a1 a2 a3 a4;obtain⟨p2,gd2,e2⟩:=ie rc W w9 g0 n0 hn hm l w.2.2.2.1 w.2.2.2.2 JC b1 b2 b3 b4;have top:bW JT (mf wr) l w.2.2.1.1 w.2.2.1.2+bW JT (mf wr) l w.2.2.2.1 w.2.2.2.2=bW JT (mf wr) (l+1) R C:=by
    have u1:=dZ (f:=mf rows) (g:=mf wr) (l:=l) hwm;have u2:=vj (f:=mf rows) (g:=mf wr) l R C;have u3:bW JT (mf wr) (l+1) R C<=max (bW JT (mf wr) l R C) (bW JT (mf wr) l w.2.2.1.1 w.2.2.1.2+bW JT (mf wr) l w.2.2.2.1 w.2.2.2.2):=dY JC λ y hy=>by have:=hmx y hy;rw[D1,q9,hw]at this;exact R8 this (by show bW JT (mf wr) l w.2.2.1.1 w.2.2.1.2+bW JT (mf wr) l w.2.2.2.1 w.2.2.2.2<=_;omega)
    omega
   let D2:on Sv:=D.set 5 (.val (wD w))
   have w5:∀{y:Int} {d:DV},ixD (wD w) (.int y)=some d->evE G F (JM 5 y) D2=some (.ok d .strong):=λ h=>n9 (cx:=.strong) (f6 rfl) g8 h;have cp:capD D2 [2,3,4]=some (cps B n m rows wr):=K8 rfl (bV _) (K8 rfl (bX _) (K8 rfl (bZ _) rfl));have f1:=mF (F:=F) cp (f7 (w5 (y:=2) rfl) (f7 (sb (D':=D2) rfl) i9)) rfl rfl e1 (Z4 p1);have f2:=mF (F:=F) cp (f7 (w5 (y:=3) rfl) (f7 (sb (D':=D2) rfl) i9)) rfl rfl e2 (Z4 p2);have fin:∀s:Bool,w.1=sd s->Gd rows wr (l+1) R C (.ask s w.2.1 p1 p2)->∃p:Pn,Gd rows wr (l+1) R C p/\run G T fu (k+(l+1)+5) E9 (pt R C :: .int ((l+1:Nat):Int)::cps B n m rows wr)=some (.v p.D false):=λ s hs gg=>by refine⟨.ask s w.2.1 p1 p2,gg,mE (k:=k+l+5) (x8 (o7 c0) (x8 (o7 c1) (i6 (n6 mk (by rcases hV hwm with⟨g,s,rfl⟩ | ⟨g,s,rfl⟩<;>rfl)) (q0 (u7 (cl:=.strong) (my ?_ (w5 rfl) f1 f2)))))) (Z4 _)⟩;rw[show side s=w.1 from hs.symm];exact w5 (y:=0) rfl
   rcases hV hwm with⟨g,s,rfl⟩ | ⟨g,s,rfl⟩
   ·refine fin true rfl ⟨⟨s.1,by have:=s.2.1;show g<=255;omega,gd1.1,gd2.1⟩,by show 1+max p1.deep p2.deep<=l+1;have:=gd1.2.1;have:=gd2.2.1;omega,?_⟩;rw[←top,←gd1.2.2,←gd2.2.2];exact Ih JC s
   ·refine fin false rfl ⟨⟨s.1,by have:=s.2.1;show g<=255;omega,gd1.1,gd2.1⟩,by show 1+max p1.deep p2.deep<=l+1;have:=gd1.2.1;have:=gd2.2.1;omega,?_⟩;rw[←top,←gd1.2.2,←gd2.2.2];exact Ii JC s
def Ij(b:Rect n m rows)(W:Rect n m wr)(g:W9 rows)(w:∀i j,0<=mf wr i j)(a:0<n)(u:n<=4)(q:0<m)(v:m<=4)(y:B<=4):∃p:Pn,Gd rows wr B (2^n - 1) (2^m - 1) p/\run G T fu (k+10) 11 [tT rows,rL wr,.int (B:Int)]=some (.v (.tup [.int (bW JT (mf wr) B (2^n - 1) (2^m - 1)),p.D]) false):=by
 have pn:2<=2^n:=Q7 (n:=2) JD a;have pm:2<=2^m:=Q7 (n:=2) JD q;obtain⟨p,z,e⟩:=ie (fu:=fu) (k:=k+4 - B) (B:=B) b W g w a u v B (2^n - 1) (2^m - 1) (i8 _) JC JC JC JC;rw[show k+4 - B+B+5=k+9 by omega]at e;have H:=vP (fu:=fu) (k:=k+4) b W g w a u v y;refine⟨p,z,?_⟩;rw[r9 rfl rfl]
 let F:=run G T fu (k+9)
 let c:on Sv:=[.val (tT rows),.val (rL wr),.val (JP (B:Int)),.val (dG k3 id (fw B n m rows wr)),.val (pt (2^n - 1) (2^m - 1)),.no]
 have o:∀{e:ME} {x:Nat} {f:on Sv},x<=8->0<x->evE G F e f=some (.ok (JP (x:Int)) .strong)->evE G F (.bin .Sub (.bin .LShift (.int 1) e) (.int 1)) f=some (.ok (JP ((2^x - 1:Nat):Int)) .strong):=λ {e x f} h8 x0 h=>by have:=G4 (mn h JC) (g8 (G:=G) (F:=F) (i:=1));have p1:1<=2^x:=eQ;rw[show((2^x:Nat):Int) - 1=((2^x - 1:Nat):Int) by omega]at this;exact this
 have C:capD c [0,1,3]=some (cps B n m rows wr):=K8 rfl (bV _) (K8 rfl (bX _) (K8 rfl (bZ _) rfl));have A:evS G F fu (.dfr 5 [0,1,3] (.dix (.var 3) (.bin .Add (.var 4) (.tup [.var 2]))) [.var 4,.var 2]) c=some (.rt (.tup [.int (bW JT (mf wr) B (2^n - 1) (2^m - 1)),p.D]) false):=by
  show dfrS G F [0,1,3] _ _ (capD c [0,1,3]) c[5]? = _;rw[(V6 P0 rfl (f6 rfl) (ez (f6 rfl) (f6 rfl)) (Z5 JC JC JC JC (i8 _))),(f7 (f6 rfl) (f7 (f6 rfl) i9)),C];have E:O5 F 2 (cps B n m rows wr) [(pt (2^n - 1) (2^m - 1),.strong),(JV (B:Int))]=some (.ok p.D .strong):=by unfold O5;rw[f8 ⟨rfl,rfl⟩];show(match F E9 (pt (2^n - 1) (2^m - 1) :: .int (B:Int)::cps B n m rows wr)with | some (.v d false)=>if d.nolam then some (Re.ok d .strong)else none | _=>none)=_;rw[show F E9 _=_ from e];exact f8 (Z4 p)
  show(((O5 F 2 (cps B n m rows wr) [(pt (2^n - 1) (2^m - 1),.strong),(JV (B:Int))]).bind λ r=>(match r with
   | .ok d _=>some (Re.ok (.tup [.int (id (bW JT (mf wr) B (2^n - 1) (2^m - 1))),d]) .strong))).bind λ r=>(match r with
   | .ok d _=>some (Out.rt d false)))=_
  rw[E];rfl
 exact t5 (i6 (n6 (k7 (fr:=false) (l:=[(tT rows,.strong),(rL wr,.strong),(JV (B:Int))]) rfl rfl H) rfl) (i6 (n6 (D0 (f7 (o JC a (lenT b (f6 rfl))) (f7 (o JC q (T6 b a (f6 rfl))) i9)) (show 2<=n5 by decide) rfl) rfl) (q0 A)))
end k62
end
noncomputable section
namespace k62
open PySem L2
def vQ:∀n,n<=5->cs (2^n - 1)=List.range n:=by decide +kernel
def Ik(a:n<=5)(b:m<=5):sm2 (2^n - 1) (2^m - 1) f=sum2 n m f:=by
 unfold sm2 sum2;rw[vQ n a,vQ m b]
def eA(i:Int):run G T fu (k+1) 17 [.int i]=some (.v (.bl true) false):=by
 rw[r9 rfl rfl];rfl
def mG{n:Nat}(h:n<=4):run G T fu (k+1) 29 [.int (n:Int)]=some (.v (JP ((2^n:Nat):Int)) false):=by
 rw[r9 rfl rfl]
 match n,h with
 | 0,_=>rfl
 | 1,_=>rfl
 | 2,_=>rfl
 | 3,_=>rfl
 | 4,_=>rfl
noncomputable def q4(q:Ky×Int):DV:=.tup [.int (q.1.1:Int),.int (q.1.2.1:Int),.int (q.1.2.2:Int),.int q.2]
def Il(h:L≠[])(a:evE G F e δ=some (JR (dG k3 id L))):p7 (JO (.itm e))=some (.ok (L.map λ p=>.tup [.tup ((k3 p.1).map .int),.int p.2]) .strong):=by
 have b:evE G F (.itm e) δ=Re.thn _ _:=rfl;rw[b,a,M9];show p7 (if Cl.strong=.strong/\(ksG k3 L).isEmpty=false then(kvp? _ _).map (λ l=>.ok _ .strong)else none)=_;rw[f8 ⟨rfl,by cases L with | nil=>exact absurd rfl h | cons _ _=>rfl⟩,uW];show some _=_;rw[v7];rfl
def Im(b:Rect n m rows)(W:Rect n m wr)(a:W9 rows)(o:∀i j,0<=mf wr i j)(d:0<n)(e:n<=4)(f:m<=4)(l:B<=4)(h:fw B n m rows wr≠[])(g:(fw B n m rows wr).length<=100000) :
  run G T fu (k+6) 12 [tT rows,rL wr,.int (B:Int)]=some (.v (.lst ((fw B n m rows wr).map q4)) true):=by
 rw[r9 rfl rfl];unfold tZ;have c:=k7 (G:=G) (F:=run G T fu (k+5)) (δ:=o5 3 [tT rows,rL wr,.int _]) (es:=[.var 0,.var 1,.var 2]) rfl rfl (vP b W a o d e f l);refine t5 (q0 (u7 (N4 (Il h c) JD (k6 g JD) λ p hp=>?_)));refine⟨[.val _,.val _],.strong,rfl,?_,rfl⟩;exact F0 (f6 rfl) (D0 (f7 (f6 rfl) i9) (le4m JK) rfl) rfl
end k62
end
noncomputable section
namespace k62
open PySem L2
variable {fu k:Nat} {F:Nat->on DV->Jk Ou} {δ:on Sv} {ds:on DV} {cl:Cl} {n m R C B l:Nat} {rows wr:on (on Int)} {f g:Mx}
noncomputable def lv(R:Nat):on Nat:=((JS (R - 1)).map (· + 1)).filter λ h=>h &&& R==h
def ig(h:R<32):(lv R).length<=31:=by
 unfold lv;refine k6 (eK ..) ?_;rw[i0,A8];omega
def ce(q:h∈lv R):Sb h R:=by
 obtain⟨c,b⟩:=E4.mp q;obtain⟨i,a,rfl⟩:=m9.mp c;have:=x5.mp a;exact⟨by omega,by omega,i5.mp b⟩
def vR(q:Sb h R):h∈lv R:=E4.mpr ⟨m9.mpr ⟨h - 1,x5.mpr (by have:=q.1;have:=q.2.1;omega),by have:=q.1;omega⟩,i5.mpr q.2.2⟩
def vS(hR:R<32):run G T fu (k+1) 30 [.int R]=some (.v (.lst (nD (lv R))) true):=by
 rw[r9 rfl rfl];unfold ud;have w:=aJ (F:=run G T fu k) (δ:=o5 1 [.int R]) (b:=.var 0) (f6 rfl) JC;rw[uL]at w;refine t5 (q0 (u7 (md w JD (by rw[i0,A8];exact k6 (show R - 1<=1000 by omega) JD) λ h hh=>?_)));refine⟨[.val _,.val _],rfl,?_,.strong,f6 rfl,rfl⟩;exact o7 (uN (uM (f6 rfl) (f6 rfl)) (f6 rfl))
abbrev Sw:=(Nat×Nat)×(Nat×Nat)
def sl(R C:Nat):on Sw:=(lv R).map (λ h=>((h,C),(R - h,C)))++(lv C).map (λ h=>((R,h),(R,C - h)))
noncomputable def swD(p:Sw):DV:=.tup [.tup [.int (p.1.1:Int),.int (p.1.2:Int)],.tup [.int (p.2.1:Int),.int (p.2.2:Int)]]
def Io(d:R<32)(e:C<32):run G T fu (k+2) 31 [.int R,.int C]=some (.v (.lst ((sl R C).map swD)) true):=by
 rw[r9 (fd:=lV) rfl rfl];unfold lV
 let s1:on Sv:=[.val (.int R),.val (.int C),.val (.lst ((lv R).map λ h=>swD ((h,C),(R - h,C))))]
 have p:=k7 (G:=G) (F:=run G T fu (k+1)) (δ:=o5 3 [.int R,.int C]) (f:=30) (es:=[.var 0]) (l:=[(JV R)]) rfl rfl (vS (k:=k) (fu:=fu) d);have o:=k7 (G:=G) (F:=run G T fu (k+1)) (δ:=s1) (f:=30) (es:=[.var 1]) (l:=[(JV C)]) rfl rfl (vS (k:=k) (fu:=fu) e);have m:p7 (evE G (JJ (k+1)) (.call 30 [.var 0]) (o5 3 [.int R,.int C]))=some (.ok ((lv R).map λ (h:Nat)=>DV.int (h:Int)) .fresh):=by rw[p];rfl
 have g:p7 (evE G (JJ (k+1)) (.call 30 [.var 1]) s1)=some (.ok ((lv C).map λ (h:Nat)=>DV.int (h:Int)) .fresh):=by rw[o];rfl
 have n:=N4 (elt:=.tup [.tup [.var 0,.var 1],.tup [.bin .Sub (.var 2) (.var 0),.var 1]]) (tg:=.one 0) (fr:=[none,some 1,some 0]) m JD (k6 (ig d) JD) λ h c=>
  ⟨[.val (.int h),.val (.int C),.val (.int R)],.strong,rfl,by
   have s:=G4 (G:=G) (F:=run G T fu (k+1)) (δ:=[.val (.int h),.val (.int C),.val (.int R)]) (a:=.var 2) (b:=.var 0) (i:=R) (j:=h) (f6 rfl) (f6 rfl);rw[hU (ce c).2.1]at s;exact D0 (f7 (D0 (f7 (f6 rfl) (f7 (f6 rfl) i9)) (le4m JK) rfl) (f7 (D0 (f7 s (f7 (f6 rfl) i9)) (le4m JK) rfl) i9)) (le4m JK) rfl,rfl⟩
 have m2:=N4 (elt:=.tup [.tup [.var 1,.var 0],.tup [.var 1,.bin .Sub (.var 2) (.var 0)]]) (tg:=.one 0) (fr:=[none,some 0,some 1]) g JD (k6 (ig e) JD) λ h c=>
  ⟨[.val (.int h),.val (.int R),.val (.int C)],.strong,rfl,by
   have s:=G4 (G:=G) (F:=run G T fu (k+1)) (δ:=[.val (.int h),.val (.int R),.val (.int C)]) (a:=.var 2) (b:=.var 0) (i:=C) (j:=h) (f6 rfl) (f6 rfl);rw[hU (ce c).2.1]at s;exact D0 (f7 (D0 (f7 (f6 rfl) (f7 (f6 rfl) i9)) (le4m JK) rfl) (f7 (D0 (f7 (f6 rfl) (f7 s i9)) (le4m JK) rfl) i9)) (le4m JK) rfl,rfl⟩
 refine t5 (i6 (n6 n rfl) (q0 (u7 (cl:=.fresh) ?_)));refine(F0 (cx:=.strong) (f6 rfl) m2 (show binD .Add _ _ .strong .fresh=some (.ok (.lst ((sl R C).map swD)) .fresh)from ?_));show(if _<=n5 then some (Re.ok (.lst _) _)else none)=_;rw[f8]
 ·unfold sl;rw[C3,v7,v7];rfl
 ·rw[i0,i0];exact k6 (fe (ig d) (ig e)) JD
def Iq(k:R<32)(m:C<32):mxl (bW f g l R C) ((sl R C).map λ s=>bW f g l s.1.1 s.1.2+bW f g l s.2.1 s.2.2)=bW f g (l+1) R C:=by
 refine eY (dY (vj l R C) λ y d=>?_) (dY bU.1 λ y d=>?_)
 ·obtain⟨s,j,rfl⟩:=m9.mp d;rcases C7.mp j with a | a
  ·obtain⟨h,b,rfl⟩:=m9.mp a;have c:=ce b;rcases uJ R k h (by have:=c.2.1;omega) c with q | ⟨q,e⟩
   ·have:=dZ (f:=f) (g:=g) (l:=l) (C:=C) (C6 _ (m9.mpr ⟨h,q,rfl⟩));show bW f g l h C+bW f g l (R - h) C<=_;rw[fx];exact this
   ·have:=dZ (f:=f) (g:=g) (l:=l) (C:=C) (C6 _ (m9.mpr ⟨R - h,q,rfl⟩));rw[e]at this;exact this
  ·obtain⟨h,b,rfl⟩:=m9.mp a;have c:=ce b;rcases uJ C m h (by have:=c.2.1;omega) c with q | ⟨q,e⟩
   ·have:=dZ (f:=f) (g:=g) (l:=l) (R:=R) (C:=C) (x9 _ (m9.mpr ⟨h,q,rfl⟩));show bW f g l R h+bW f g l R (C - h)<=_;rw[fx];exact this
   ·have:=dZ (f:=f) (g:=g) (l:=l) (R:=R) (C:=C) (x9 _ (m9.mpr ⟨C - h,q,rfl⟩));rw[e]at this;exact this
 ·obtain⟨w,i,rfl⟩:=m9.mp d;refine bU.2 _ (m9.mpr ?_);rcases C7.mp i with a | a
  ·obtain⟨h,b,rfl⟩:=m9.mp a;exact⟨_,C6 _ (m9.mpr ⟨h,vR (T5 b).1,rfl⟩),fx ..⟩
  ·obtain⟨h,b,rfl⟩:=m9.mp a;exact⟨_,x9 _ (m9.mpr ⟨h,vR (T5 b).1,rfl⟩),fx ..⟩
def Ir(d:JF a cx (.int i))(c:JF b cy (.int j)):evE G F (.bi .max [a,b]) δ=some (.ok (JP (max i j)) .strong):=by
 show Rs.thn _ _=_;rw[f7 d (f7 c i9)];show some _=_;rw[show(if j>i then j else i)=max i j by split<;>omega]
def mH{r s:Nat}(h:asDc X=some (ksG k3 L,vsG id L))(i:δ[0]? = some (.val X))(g:evE G F a δ=some (.ok (JP (r:Int)) .strong))(f:evE G F b δ=some (.ok (JP (s:Int)) .strong))(e:evE G F c δ=some (.ok (JP (l:Int)) .strong))(d:L.lookup (r,s,l)=some z):evE G F (.dix (.var 0) (.tup [a,b,c])) δ=some (.ok (.int z) .strong):=
 V6 (q:=(r,s,l)) P0 h (f6 i) (D0 (f7 g (f7 f (f7 e i9))) (show 3<=n5 by decide) rfl) d
abbrev uK:ME:=.bin .Sub (.var 3) (.int 1)
noncomputable def uB:on MS:=[.set 7 false (.dix (.var 0) (.tup [.ix (.var 5) (.int 0),.ix (.var 5) (.int 1),uK])),.set 4 false (.bi .max [.var 4,.bin .Add (.var 7) (.dix (.var 0) (.tup [.ix (.var 6) (.int 0),.ix (.var 6) (.int 1),uK]))])]
abbrev uS(X:DV)(R C l:Nat)(d:Int)(x y z:Sv):on Sv:=[.val X,.val (JP (R:Int)),.val (JP (C:Int)),.val (JP ((l+1:Nat):Int)),.val (.int d),x,y,z]
def mI(h:δ[3]? = some (JE ((l+1:Nat):Int))):evE G F uK δ=some (.ok (JP (l:Int)) .strong):=by
 have:=G4 (G:=G) (F:=F) (f6 h) (g8 (i:=1));rw[show(_:Int) - 1=(l:Int) by omega]at this;exact this
theorem vT(h:asDc X=some (ksG k3 L,vsG id L)):∀(S:on Sw) (d:Int) (x y z:Sv),(∀s∈S,L.lookup (s.1.1,s.1.2,l)=some (bW f g l s.1.1 s.1.2)/\L.lookup (s.2.1,s.2.2,l)=some (bW f g l s.2.1 s.2.2)) ->
  ∃e c b,t6 (.many [5,6]) (λ a=>evSs G F fu uB a) (S.map swD) (uS X R C l d x y z)=some (.nx (uS X R C l (mxl d (S.map λ s=>bW f g l s.1.1 s.1.2+bW f g l s.2.1 s.2.2)) e c b))
 | [],d,x,y,z,_=>⟨x,y,z,rfl⟩
 | s::S,d,x,y,z,H=>by
  obtain⟨k,j⟩:=H s (o6 ..)
  let p:Sv:=.val (.tup [.int (s.1.1:Int),.int (s.1.2:Int)])
  let q:Sv:=.val (.tup [.int (s.2.1:Int),.int (s.2.2:Int)])
  obtain⟨e,c,b,i⟩:=vT h S _ p q _ λ t ht=>H t (o4 _ ht)
  refine⟨e,c,b,?_⟩;refine(dU rfl ?_).trans i;exact i6 (n6 (mH h rfl (n9 (f6 rfl) (g8) rfl) (n9 (f6 rfl) (g8) rfl) (mI rfl) k) rfl) (i6 (n6 (Ir (f6 rfl) (B2 (f6 rfl) (mH h rfl (n9 (f6 rfl) (g8) rfl) (n9 (f6 rfl) (g8) rfl) (mI rfl) j))) rfl) rfl)
def Iu(n:asDc X=some (ksG k3 L,vsG id L))(o:R<32)(p:C<32)(i:0<R)(j:0<C)(b:∀r c,0<r->r<=R->0<c->c<=C->L.lookup (r,c,l)=some (bW f g l r c)) :
  run G T fu (k+3) 34 [X,.int (R:Int),.int (C:Int),.int ((l+1:Nat):Int)]=some (.v (JP (bW f g (l+1) R C)) false):=by
 rw[r9 rfl rfl];have c:=k7 (G:=G) (F:=run G T fu (k+2)) (δ:=uS X R C l (bW f g l R C) .no .no .no) (f:=31) (es:=[.var 1,.var 2]) rfl rfl (Io (k:=k) (fu:=fu) o p);have w:p7 (evE G (JJ (k+2)) (.call 31 [.var 1,.var 2]) (uS X R C l (bW f g l R C) .no .no .no))=some (.ok ((sl R C).map swD) .fresh):=by rw[c];rfl
 obtain⟨x',y',z',m⟩:=vT n (sl R C) _ .no .no .no λ s u=>by
  rcases C7.mp u with d | d
  ·obtain⟨h,e,rfl⟩:=m9.mp d;have a:=ce e;have s1:=a.1;have q:=a.2.1;exact⟨b h C JC JC j (i8 _),b (R - h) C JC JC j (i8 _)⟩
  ·obtain⟨h,e,rfl⟩:=m9.mp d;have a:=ce e;have s1:=a.1;have q:=a.2.1;exact⟨b R h i (i8 _) JC JC,b R (C - h) i (i8 _) JC JC⟩
 rw[Iq o p]at m;exact t5 (i6 (n6 (mH n rfl (f6 rfl) (f6 rfl) (mI rfl) (b R C i (i8 _) j (i8 _))) rfl) (D9 w (.inr rfl) m (q0 (u7 (cl:=.strong) (f6 rfl)))))
end k62
end
noncomputable section
namespace k62
open PySem L2
variable {fu k:Nat} {F:Nat->on DV->Jk Ou} {δ:on Sv} {ds:on DV} {cl cx cy:Cl} {n m R C B l i:Nat} {rows wr:on (on Int)} {f g:Mx}
def Iv(l:δ[i]? = some (.own (.lst ds)))(g:JF q cx (.int c))(d:0<=c)(h:D7 ds.length c=some j)(f:ds[j]? = some (.int a))(k:JF e cy (.int b)):evS G F fu (.augi i q e) δ=some (.nx (δ.set i (.own (.lst (ds.set j (JP (a+b))))))):=by
 show fQ δ i _ _ δ[i]? = _;rw[l,g,k];show(D7 ds.length c).bind _=_;rw[h];show(ds[j]?).bind _=_;rw[f];show(if 0<=c then _ else none)=_;rw[f8 d]
def vU:∀n,n<=4->∀R,R<2^n->0<R->cs R=(JS n).filter R.testBit:=by decide +kernel
def hE(rows wr:on (on Int))(R C:Nat)(v i j:Nat):Int:=if R.testBit i then(if C.testBit j then(if mf rows i j=(v:Int)then mf wr i j else 0)else 0)else 0
def Iw{p:Bool}{F:Nat->Int}:su (λ j=>if p then F j else 0) m=if p then su F m else 0:=by
 cases p
 ·show su _ m=0
  induction m with
  | zero=>rfl
  | succ m a=>rw[Z3,a];rfl
 ·rfl
def vV(a:n<=4)(b:m<=4)(d:0<R)(c:R<2^n)(f:0<C)(e:C<2^m)(v:Nat):su (λ i=>su (λ j=>hE rows wr R C v i j) m) n=ww JT (mf wr) R C (v:Int):=by
 unfold ww sm2;rw[vU n a R c d,vU m b C e f,ic];show((JS n).map _).sum=_
 congr 1
 refine Q8 λ i hi=>?_;unfold hE;rw[Iw,ic];rfl
def Ix:(iD ((JS 10).map A)).set w (JP (A w+z))=iD ((JS 10).map λ v=>A v+if v=w then z else 0):=by
 unfold iD;rw[←List.map_set]
 congr 1
 refine eR λ j=>?_;rw[List.getElem?_set,q9,q9];by_cases h:w=j
 ·subst h;rw[f8 rfl];by_cases a:w<10
  ·rw[f8 (by rw[i0,A8];exact a),aO a];show some _=some (A w+if w=w then z else 0);rw[f8 rfl]
  ·rw[g9 (by rw[i0,A8];exact a),M0 (by rw[A8];omega)];rfl
 ·rw[g9 h];by_cases b:j<10
  ·rw[aO b];show some (A j)=some (A j+if j=w then z else 0);rw[g9 (λ e=>h e.symm),U6]
  ·rw[M0 (by rw[A8];omega)];rfl
abbrev eS(rows wr:on (on Int))(R C:Nat)(A:Nat->Int)(x y:Sv):on Sv:=[.val (tT rows),.val (rL wr),.val (JP (R:Int)),.val (JP (C:Int)),.own (.lst (iD ((JS 10).map A))),x,y]
abbrev bT(a b:Nat):ME:=.cmp .Eq (.bin .BitAnd (.bin .RShift (.var a) (.var b)) (.int 1)) (.int 1)
def vW{o:Nat}(d:δ[a]? = some (JE (o:Int)))(c:δ[b]? = some (JE (i:Int))):evE G F (bT a b) δ=some (.ok (.bl (o.testBit i)) .strong):=by
 have e:evE G F (.bin .BitAnd _ _) δ=some (.ok (JP (if o.testBit i then 1 else 0)) .strong):=F0 (mt (f6 d) (f6 c) (E8 i)) (g8) (by rw[←gY];rfl);have:=b_eq e (g8 (i:=1));rw[this];cases o.testBit i<;>rfl
noncomputable def eI:MS:=.iff (.and [bT 2 5,bT 3 6]) [.augi 4 (.ix (.ix (.var 0) (.var 5)) (.var 6)) (.ix (.ix (.var 1) (.var 5)) (.var 6))] []
def Iy(z:Rect n m c)(W:Rect n m wr)(B:W9 c)(r:i<n)(q:j<m):evSs G F fu [eI] (eS c wr R C A (JE (i:Int)) (JE (j:Int)))=some (.nx (eS c wr R C (λ v=>A v+hE c wr R C v i j) (JE (i:Int)) (JE (j:Int)))):=by
 have f:=vW (F:=F) (δ:=eS c wr R C A (JE (i:Int)) (JE (j:Int))) (a:=2) (b:=5) rfl rfl;have o:=vW (F:=F) (δ:=eS c wr R C A (JE (i:Int)) (JE (j:Int))) (a:=3) (b:=6) rfl rfl;have w:=mj z B r q;cases g:R.testBit i with
 | false=>
  rw[g]at f;have k:(λ v=>A v+hE c wr R C v i j)=A:=by funext v;unfold hE;rw[g];exact U6 _
  rw[k];exact x8 (o7 (um f)) rfl
 | true=>
  rw[g]at f;cases p:C.testBit j with
  | false=>
   rw[p]at o;have k:(λ v=>A v+hE c wr R C v i j)=A:=by funext v;unfold hE;rw[g,p];exact U6 _
   rw[k];exact x8 (o7 (T4 f (Y9 o))) rfl
  | true=>
   rw[p]at o;have I:=mx (F:=F) (δ:=eS c wr R C A (JE (i:Int)) (JE (j:Int))) (a:=.var 0) (b:=.var 5) (e:=.var 6) z (f6 rfl) (f6 rfl) (f6 rfl) r q;have H:=hZ (F:=F) (δ:=eS c wr R C A (JE (i:Int)) (JE (j:Int))) (a:=.var 1) (b:=.var 5) (e:=.var 6) W (f6 rfl) (f6 rfl) (f6 rfl) r q;have E:(iD ((JS 10).map A)).length=10:=by unfold iD;rw[i0,i0,A8]
   obtain⟨v,hv⟩:∃v:Nat,mf c i j=(v:Int):=⟨(mf c i j).toNat,by omega⟩;have x:v<10:=by omega
   have y:=Iv (fu:=fu) (i:=4) (j:=v) rfl I w.1 (by rw[E,hv];exact lX x) (by unfold iD;rw[q9,q9,aO x];rfl) H;rw[Ix]at y;have k:(λ u=>A u+hE c wr R C u i j)=λ u=>A u+if u=v then mf wr i j else 0:=by
    funext u
    unfold hE;rw[g,p,hv];show A u+(if(v:Int)=(u:Int)then mf wr i j else 0)=_;by_cases h:u=v
    ·rw[f8 h,f8 (by rw[h])]
    ·rw[g9 h,g9 JC]
   rw[k];exact bt (o7 (T4 f (Y9 o))) (i6 y rfl) rfl
theorem mJ{F:Nat->Int}(h:∀i,0<=F i):∀n,0<=su F n
 | 0=>U7 _
 | n+1=>by rw[Z3];have:=mJ h n;have:=h n;omega
def Iz(a:∀i j,0<=mf wr i j)(v i j:Nat):0<=hE rows wr R C v i j:=by
 unfold hE;have:=a i j;split
 ·split
  ·split<;>omega
  ·omega
 ·omega
def IA(h:Rect n m rows)(W:Rect n m wr)(L:W9 rows)(O:∀i j,0<=mf wr i j)(M:0<n)(z:n<=4)(B:m<=4)(H:0<R)(E:R<2^n)(K:0<C)(J:C<2^m):run G T fu (k+1) 33 [tT rows,rL wr,.int (R:Int),.int (C:Int)]=some (.v (JP (bW (mf rows) (mf wr) 0 R C)) false):=by
 rw[r9 (fd:=uf) rfl rfl]
 let D:(Nat->Int)->Sv->Sv->on Sv:=eS rows wr R C
 have o:∀i,i<n->∀(A:Nat->Int) (y:Sv),∃a,t6 (.one 6) (λ a=>evSs G (JJ k) fu [eI] a) (upTo 0 m) (D A (JE (i:Int)) y)=some (.nx a)/\∃c,a=D (λ v=>A v+su (λ j=>hE rows wr R C v i j) m) (JE (i:Int)) c:=λ i p A y=>by
  refine K0 (i:=6) (I:=λ j f=>∃c,f=D (λ v=>A v+su (λ j=>hE rows wr R C v i j) j) (JE (i:Int)) c) m 0 (λ j N f q=>?_) ⟨y,by
   have:(λ v=>A v+su (λ j=>hE rows wr R C v i j) 0)=A:=by funext v;exact U6 _
   rw[this]⟩
  obtain⟨c,rfl⟩:=q;rw[R9];refine⟨_,(Iy h W L p N),.val (JP (j:Int)),?_⟩;have:(λ v=>A v+su (λ j=>hE rows wr R C v i j) j+hE rows wr R C v i j)=λ v=>A v+su (λ j=>hE rows wr R C v i j) (j+1):=by funext v;rw[Z3];omega
  rw[this]
 have l:∃a,t6 (.one 5) (λ a=>evSs G (JJ k) fu [.fo (.one 6) (.rng [.bi .len [.ix (.var 0) (.int 0)]]) [eI]] a) (upTo 0 n) (D (λ _=>0) .no .no)=some (.nx a)/\∃x y,a=D (λ v=>su (λ i=>su (λ j=>hE rows wr R C v i j) m) n) x y:=by
  refine K0 (i:=5) (I:=λ i f=>∃x y,f=D (λ v=>su (λ i=>su (λ j=>hE rows wr R C v i j) m) i) x y) n 0 (λ i p f q=>?_) ⟨.no,.no,rfl⟩;obtain⟨x,y,rfl⟩:=q;rw[R9];obtain⟨a,g,c,rfl⟩:=o i p _ y;have w:p7 (evE G (JJ k) (.rng [.bi .len [.ix (.var 0) (.int 0)]]) (D (λ v=>su (λ i=>su (λ j=>hE rows wr R C v i j) m) i) (JE (i:Int)) y))=some (.ok (upTo 0 m) .fresh):=Q5 (T6 h M (f6 rfl)) JC;refine⟨_,D9 w (.inr rfl) g rfl,.val (JP (i:Int)),c,?_⟩;have:(λ v=>su (λ i=>su (λ j=>hE rows wr R C v i j) m) i+su (λ j=>hE rows wr R C v i j) m)=λ v=>su (λ i=>su (λ j=>hE rows wr R C v i j) m) (i+1):=by funext v;rw[Z3]
  rw[←this]
 obtain⟨a,g,x,y,rfl⟩:=l;have w:p7 (evE G (JJ k) (.rng [.bi .len [.var 0]]) (D (λ _=>0) .no .no))=some (.ok (upTo 0 n) .fresh):=Q5 (lenT h (f6 rfl)) JC;have Q:(λ v=>su (λ i=>su (λ j=>hE rows wr R C v i j) m) n)=λ v:Nat=>ww JT (mf wr) R C (v:Int):=by
  funext v;exact vV z B H E K J v
 have nn:0<=ww JT (mf wr) R C ((0:Nat):Int):=(by rw[←vV z B H E K J 0];exact mJ (λ i=>mJ (λ j=>Iz O 0 i j) m) n);rw[Q]at g;have u:=vO (F:=run G T fu k) (δ:=D (λ v:Nat=>ww JT (mf wr) R C (v:Int)) x y) (e:=.var 4) (r:=((JS 9).map λ v=>ww JT (mf wr) R C ((v+1:Nat):Int))) (da rfl);have P:mxl (ww JT (mf wr) R C ((0:Nat):Int)) ((JS 9).map λ v=>ww JT (mf wr) R C ((v+1:Nat):Int))=bW JT (mf wr) 0 R C:=by show _=mxl (max 0 (ww JT (mf wr) R C ((0:Nat):Int))) ((JS 9).map λ v=>ww JT (mf wr) R C ((v+1:Nat):Int));rw[show max 0 (ww JT (mf wr) R C ((0:Nat):Int))=ww JT (mf wr) R C ((0:Nat):Int) by omega]
 rw[P]at u;exact t5 (i6 (W8 (d:=.lst (iD ((JS 10).map λ _=>0))) rfl) (D9 w (.inr rfl) g (q0 (u7 (cl:=.strong) u))))
end k62
end
noncomputable section
namespace k62
open PySem L2
variable {fu k:Nat} {F:Nat->on DV->Jk Ou} {δ:on Sv} {n m R C B l i:Nat} {rows wr:on (on Int)}
def at_b(b:∀x∈xs,0<=x/\x<2147483647){i:Int}(c:0<=i)(h:i<xs.length):∃v:Int,0<=v/\v<2147483647/\ixD (.lst (iD xs)) (.int i)=some (.int v):=by
 obtain⟨j,rfl⟩:=nB c;have a:j<xs.length:=by omega
 exact⟨xs[j],(b _ (U1 a)).1,(b _ (U1 a)).2,pP a⟩
def top3(x:Int):∃a:Int,0<a/\a<=10^20/\ixD (.lst [.int 2,.int 10,.int (10^20)]) (JP (x%3))=some (.int a):=by
 have:x%3=0\/x%3=1\/x%3=2:=by omega
 rcases this with h | h | h<;>rw[h]
 ·exact⟨2,by decide,by decide,rfl⟩
 ·exact⟨10,by decide,by decide,rfl⟩
 ·exact⟨10^20,by decide,by decide,rfl⟩
abbrev iR(acc:on (on Int)):on DV:=acc.map λ r=>.lst (iD r)
abbrev gS(ns:on Int)(rows:on (on Int))(xs:on Int)(tp:Int)(acc:on (on Int))(a b c d:Sv):on Sv:=[.val (.scr ns),.val (tT rows),.val (.lst (iD xs)),.val (JP tp),.own (.lst (iR acc)),a,b,c,d]
noncomputable def gB:on MS:=[.set 8 false (.bin .Mult (.bin .Mult (.ix (.var 2) (.bin .Add (.bin .Mult (.int 4) (.var 5)) (.var 7))) (.ix (.var 2) (.bin .Mod (.bin .Add (.bin .Add (.bin .Mult (.int 4) (.var 5)) (.var 7)) (.int 5)) (JP 16)))) (JP 10007)),.app 6 (.bin .Mod (.bin .Add (.var 8) (.bin .FloorDiv (.call 18 [.var 0,.bin .Add (.bin .Add (.int 3) (.bin .Mult (.var 5) (.bi .len [.ix (.var 1) (.int 0)]))) (.var 7)]) (JP 10))) (.var 3))]
def IB(o:Rect n m rows)(p:0<n)(hn:n<=4)(hm:m<=4)(hx:xs.length=18)(g:∀x∈xs,0<=x/\x<2147483647)(h:0<b)(hi:i<n)(hj:j<m)(a:on Int)(q:a.length=j)(d:Sv) :
  ∃(y:Int) (B:Sv),evSs G (JJ (k+1)) fu gB (gS ns rows xs b acc (JE (i:Int)) (.own (.lst (iD a))) (JE (j:Int)) d)=some (.nx (gS ns rows xs b acc (JE (i:Int)) (.own (.lst (iD (a++[y%b])))) (JE (j:Int)) B)):=by
 obtain⟨u,u0,u1,z⟩:=at_b g (i:=4*(i:Int)+(j:Int)) JC JC;obtain⟨v,v0,v1,w⟩:=at_b g (i:=(4*(i:Int)+(j:Int)+5)%16) JC JC;obtain⟨c,r⟩:=dQ (fu:=fu) (k:=k) ns (3+i*m+j);have A:(2:Int)^62=4611686018427387904:=by decide
 let F:=run G T fu (k+1)
 let D:Sv->on Sv:=λ d=>gS ns rows xs b acc (JE (i:Int)) (.own (.lst (iD a))) (JE (j:Int)) d
 have f:∀d,evE G F (.bin .Add (.bin .Mult (.int 4) (.var 5)) (.var 7)) (D d)=some (.ok (JP (4*(i:Int)+(j:Int))) .strong):=λ d=>B2 (K1 g8 (f6 rfl) (Z1 JC JC)) (f6 rfl);have J:evE G F (.ix (.var 2) (.bin .Add (.bin .Mult (.int 4) (.var 5)) (.var 7))) (D d)=some (.ok (.int u) .strong):=n9 (cx:=.strong) (f6 rfl) (f d) z;have I:evE G F (.ix (.var 2) (.bin .Mod (.bin .Add (.bin .Add (.bin .Mult (.int 4) (.var 5)) (.var 7)) (.int 5)) (JP 16))) (D d)=some (.ok (.int v) .strong):=n9 (cx:=.strong) (f6 rfl) (E2 (B2 (f d) g8) (g8 (i:=16)) JD) w;have H:=K1 (K1 J I (Z1 JC JC)) (g8 (i:=10007)) (Z1 JC JC);have s1:evE G F (.bin .Add (.bin .Add (.int 3) (.bin .Mult (.var 5) (.bi .len [.ix (.var 1) (.int 0)]))) (.var 7)) (D (JE (u*v*10007)))=some (.ok (JP ((3+i*m+j:Nat):Int)) .strong):=by
  have:=B2 (B2 (g8 (G:=G) (F:=F) (δ:=D (JE (u*v*10007))) (i:=3)) (K1 (f6 (n:=5) rfl) (T6 o p (e:=.var 1) (f6 rfl)) (Z1 JC JC))) (f6 (n:=7) rfl);rw[this]
  congr 2
 have C:evE G F (.call 18 [.var 0,.bin .Add (.bin .Add (.int 3) (.bin .Mult (.var 5) (.bi .len [.ix (.var 1) (.int 0)]))) (.var 7)]) (D (JE (u*v*10007)))=some (.ok (.int c) .strong):=k7 (fr:=false) (l:=[(.scr ns,.strong),(JV ((3+i*m+j:Nat):Int))]) (f7 (f6 rfl) (f7 s1 i9)) rfl r;have E:=E2 (B2 (f6 (n:=8) rfl) (av C (g8 (i:=10)) JD)) (f6 (n:=3) rfl) h;refine⟨u*v*10007+c/10,.val (JP (u*v*10007)),i6 (n6 H rfl) (i6 ?_ rfl)⟩;have:=fU (fu:=fu) (i:=6) (ds:=iD a) rfl E rfl (by unfold iD;rw[i0,q];exact p9 (show j<1000 by omega) JD);rw[uX]at this;exact this
def gO:on MS:=[.set 6 true (.lst []),.fo (.one 7) (.rng [.bi .len [.ix (.var 1) (.int 0)]]) gB,.frz 6,.app 4 (.var 6)]
def IC(acc:on (on Int))(r:on Int):iR acc++[DV.lst (iD r)]=iR (acc++[r]):=by unfold iR;rw[C3];rfl
def ID(H:Rect n m rows)(S:0<n)(hn:n<=4)(hm:m<=4)(ns:on Int):∃wr:on (on Int),Rect n m wr/\(∀r∈wr,∀x∈r,0<=x/\x<10^20)/\run G T fu (k+2) 32 [.scr ns,tT rows]=some (.v (rL wr) true):=by
 obtain⟨c,hc⟩:=dQ (fu:=fu) (k:=k) ns 2;obtain⟨R,M,U,Y⟩:=uY (fu:=fu) (k:=k) c 18 JD;obtain⟨a,_,_,ha⟩:=at_b U (i:=16) JC JC;obtain⟨B,A,X,ht⟩:=top3 a;have Z:∀y:Int,0<=y%B/\y%B<10^20:=λ y=>⟨eX y JC,by have:=eP y A;omega⟩
 let D:=gS ns rows R B
 have L:∀i,i<n->∀(g:on (on Int)) (c d:Sv),∃p,t6 (.one 7) (λ p=>evSs G (JJ (k+1)) fu gB p) (upTo 0 m) (D g (JE (i:Int)) (.own (.lst (iD []))) c d)=some (.nx p)/\∃o v q,o.length=m/\(∀x∈o,0<=x/\x<10^20)/\p=D g (JE (i:Int)) (.own (.lst (iD o))) v q:=λ i O g c d=>by
  refine K0 (i:=7) (I:=λ j z=>∃o v q,o.length=j/\(∀x∈o,0<=x/\x<10^20)/\z=D g (JE (i:Int)) (.own (.lst (iD o))) v q) m 0 (λ j hj z Q=>?_) ⟨[],c,d,rfl,(λ _ h=>nomatch h),rfl⟩;obtain⟨o,v,q,C,u,rfl⟩:=Q;rw[R9];obtain⟨y,d2,e⟩:=IB (fu:=fu) (k:=k) (ns:=ns) (acc:=g) H S hn hm M U A O hj o C q;refine⟨_,e,o++[y%B],_,_,by rw[x4,C];rfl,λ x M=>?_,rfl⟩;rcases C7.mp M with h | h
  ·exact u x h
  ·rw[C2.mp h];exact Z y
 have K:∃p,t6 (.one 5) (λ p=>evSs G (JJ (k+1)) fu gO p) (upTo 0 n) (D [] .no .no .no .no)=some (.nx p)/\∃g a b c d,g.length=n/\(∀r∈g,r.length=m/\∀x∈r,0<=x/\x<10^20)/\p=D g a b c d:=by
  refine K0 (i:=5) (I:=λ i z=>∃g a b c d,g.length=i/\(∀r∈g,r.length=m/\∀x∈r,0<=x/\x<10^20)/\z=D g a b c d) n 0 (λ i O z Q=>?_) ⟨[],.no,.no,.no,.no,rfl,(λ _ h=>nomatch h),rfl⟩;obtain⟨g,a,b,c,d,E,u,rfl⟩:=Q;rw[R9];obtain⟨p,P,o,v,q,C,N,rfl⟩:=L i O g c d;have w:p7 (evE G (JJ (k+1)) (.rng [.bi .len [.ix (.var 1) (.int 0)]]) (D g (JE (i:Int)) (.own (.lst (iD []))) c d))=some (.ok (upTo 0 m) .fresh):=Q5 (T6 H S (f6 rfl)) JC;have W:=fU (fu:=fu) (F:=run G T fu (k+1)) (G:=G) (i:=4) (ds:=iR g) (δ:=D g (JE (i:Int)) (.val (.lst (iD o))) v q) (e:=.var 6) rfl (f6 rfl) rfl (by unfold iR;rw[i0,E];exact p9 (show i<1000 by omega) JD);rw[IC]at W;refine⟨_,i6 (W8 (d:=.lst (iD [])) rfl) (D9 w (.inr rfl) P (vn (d:=.lst (iD o)) rfl (i6 W rfl))),g++[o],_,_,_,_,by rw[x4,E];rfl,λ r h=>?_,rfl⟩;rcases C7.mp h with h | h
  ·exact u r h
  ·rw[C2.mp h];exact⟨C,N⟩
 obtain⟨p,P,g,a5,b5,c5,d5,E,u,rfl⟩:=K;refine⟨g,⟨E,λ r h=>(u r h).1⟩,λ r h=>(u r h).2,?_⟩;rw[r9 (fd:=ue) rfl rfl];have c0:evE G (JJ (k+1)) (.call 18 [.var 0,.int 2]) (o5 9 [.scr ns,tT rows])=some (.ok (.int c) .strong):=k7 (fr:=false) rfl rfl hc;have c1:=k7 (G:=G) (F:=run G T fu (k+1)) (δ:=o5 9 [.scr ns,tT rows]) (f:=19) (es:=[.call 18 [.var 0,.int 2],.bin .Add (.bin .Mult (.int 4) (.int 4)) (.int 2)]) (fr:=true) (l:=[(JV c),(JV ((18:Nat):Int))]) (f7 c0 (f7 (B2 (K1 g8 g8 JD) g8) i9)) rfl Y;have J:evE G (JJ (k+1)) (.lst [.int 2,.int 10,.bin .Pow (JP 10) (JP 20)]) [.val (.scr ns),.val (tT rows),.val (.lst (iD R)),.no,.no,.no,.no,.no,.no]=some (.ok (.lst [.int 2,.int 10,.int (10^20)]) .fresh):=rfl;exact t5 (i6 (n6 (cl:=.fresh) c1 rfl) (i6 (n6 (n9 J (E2 (n9 (f6 rfl) (g8) ha) (g8) JD) ht) rfl) (i6 (W8 (d:=.lst (iR [])) rfl) (D9 (Q5 (lenT H (f6 rfl)) JC) (.inr rfl) P (q0 (u7 (cl:=.top) (da rfl)))))))
def IE(s:Bool):cmpD .Eq (sd s) (.str "column")=some (!s):=by cases s<;>decide +kernel
abbrev lS(p:DV)(i j:Nat)(c:Sv):on Sv:=[.val p,.val (JP (i:Int)),.val (JP (j:Int)),c]
def lrC:ME:=.cmp .Eq (.ix (.var 0) (.int 0)) (.str "ask")
noncomputable def lrB:on MS:=[.set 3 false (.var 1),.iff (.cmp .Eq (JM 0 1) (.str "column")) [.set 3 false (.var 2)] [],.set 0 false (.ix (.var 0) (.bin .Add (.int 3) (.bin .BitAnd (.bin .RShift (JM 0 2) (.var 3)) (.int 1))))]
theorem vX(i j:Nat):∀(p:Pn) (c:Sv) (N:Nat),p.deep<N->∃g,J1 (λ f=>tstD (evE G F lrC f)) (λ f=>evSs G F fu lrB f) N (lS p.D i j c)=some (.nx (lS (Pn.fin (p.rch i j)).D i j g))
 | .fin w,c,N+1,_=>⟨c,pM (o7 (cl:=.strong) (C4 (n9 (cx:=.strong) (f6 rfl) g8 rfl) K2 vp))⟩
 | .ask s o a b,c,N+1,B=>by
  have A:1+max a.deep b.deep<N+1:=B;have z:=gY o (if s then i else j);have k:∀{l:on Sv} {y:Nat} {d:DV},l[0]? = some (.val (Pn.ask s o a b).D)->ixD (Pn.ask s o a b).D (JP (y:Int))=some d->evE G F (JM 0 (y:Int)) l=some (.ok d .strong):=λ h e=>n9 (cx:=.strong) (f6 h) g8 e
  let q:Sv:=.val (JP ((if s then i else j:Nat):Int))
  have r:evE G F (.bin .BitAnd (.bin .RShift (JM 0 2) (.var 3)) (.int 1)) (lS (Pn.ask s o a b).D i j q)=some (.ok (JP (if o.testBit (if s then i else j)then 1 else 0)) .strong):=
   F0 (mt (k (y:=2) rfl rfl) (f6 rfl) (E8 _)) g8 (congrArg (λ x=>some (Re.ok (.int x) .strong)) z)
  have u:∀(t:Bool) (p:Pn),o.testBit (if s then i else j)=t->(if t then b else a)=p->p.deep<N->∃g,J1 (λ f=>tstD (evE G F lrC f)) (λ f=>evSs G F fu lrB f) (N+1) (lS (Pn.ask s o a b).D i j c)=some (.nx (lS (Pn.fin (p.rch i j)).D i j g)):=λ t p ht v C=>by
   rw[ht]at r;obtain⟨g,e⟩:=vX i j p q N C;have n:evE G F (.ix (.var 0) (.bin .Add (.int 3) (.bin .BitAnd (.bin .RShift (JM 0 2) (.var 3)) (.int 1)))) (lS (Pn.ask s o a b).D i j q)=some (.ok p.D .strong):=by refine n9 (cx:=.strong) (f6 rfl) (B2 g8 r) ?_;subst v;cases t<;>rfl
   have m:=o7 (G:=G) (F:=F) (δ:=lS (Pn.ask s o a b).D i j (JE (i:Int))) (C4 (k (y:=1) rfl rfl) K2 (IE s));refine⟨g,pN (o7 (cl:=.strong) (C4 (k (y:=0) rfl rfl) K2 vo)) (i6 (n6 (cl:=.strong) (d:=.int (i:Int)) (f6 rfl) rfl) ?_) e⟩;cases s with
   | true=>exact x8 m (i6 (n6 n rfl) rfl)
   | false=>exact bt m (i6 (n6 (cl:=.strong) (d:=.int (j:Int)) (f6 rfl) rfl) rfl) (i6 (n6 n rfl) rfl)
  show ∃g,_=some (Out.nx (lS (Pn.fin (if o.testBit (if s then i else j)then b.rch i j else a.rch i j)).D i j g));cases ht:o.testBit (if s then i else j)with
  | true=>exact u true b ht rfl JC
  | false=>exact u false a ht rfl JC
def IF(p:Pn)(i j:Nat)(h:p.deep<fu):run G T fu (k+1) 24 [p.D,.int (i:Int),.int (j:Int)]=some (.v (JP (p.rch i j)) false):=by
 obtain⟨c',e⟩:=vX i j p .no fu h;rw[r9 rfl rfl];exact t5 (pO e (q0 (u7 (n9 (f6 rfl) g8 rfl))))
abbrev aS(rows wr:on (on Int))(p:Pn)(t:Int)(x y:Sv):on Sv:=[.val (tT rows),.val (rL wr),.val p.D,.val (.int t),x,y]
noncomputable def aB:on MS:=[.iff (.cmp .Eq (.call 24 [.var 2,.var 4,.var 5]) (.ix (.ix (.var 0) (.var 4)) (.var 5))) [.set 3 false (.bin .Add (.var 3) (.ix (.ix (.var 1) (.var 4)) (.var 5)))] []]
def mK(u:Rect n m rows)(W:Rect n m wr)(J:0<n)(n8:n<=8)(m8:m<=8){p:Pn}(h:p.deep<fu):run G T fu (k+2) 36 [tT rows,rL wr,p.D]=some (.v (JP (rw2 n m rows wr p)) false):=by
 rw[r9 rfl rfl]
 let f:Nat->Nat->Int:=λ i j=>if p.rch i j=mf rows i j then mf wr i j else 0
 let D:=aS rows wr p
 have z:∀i,i<n->∀(t:Int) (y:Sv),∃c,t6 (.one 5) (λ c=>evSs G (JJ (k+1)) fu aB c) (upTo 0 m) (D t (JE (i:Int)) y)=some (.nx c)/\∃g,c=D (t+su (f i) m) (JE (i:Int)) g:=λ i r t y=>by
  refine K0 (i:=5) (I:=λ j o=>∃g,o=D (t+su (f i) j) (JE (i:Int)) g) m 0 (λ j H o C=>?_) ⟨y,by rw[show su (f i) 0=0 from rfl,U6]⟩;obtain⟨g,rfl⟩:=C;rw[R9]
  let E:=D (t+su (f i) j) (JE (i:Int)) (JE (j:Int))
  have L:=mx (F:=run G T fu (k+1)) (δ:=E) (a:=.var 0) (b:=.var 4) (e:=.var 5) u (f6 rfl) (f6 rfl) (f6 rfl) r H;have K:evE G (JJ (k+1)) (.call 24 [.var 2,.var 4,.var 5]) E=some (.ok (JP (p.rch i j)) .strong):=k7 (fr:=false) (l:=[(p.D,.strong),(JV (i:Int)),(JV (j:Int))]) rfl rfl (IF p i j h);have q:=o7 (b_eq K L);refine⟨D _ _ (JE (j:Int)),?_,_,rfl⟩;rw[Z3];show evSs G _ fu aB E=_;by_cases e:p.rch i j=mf rows i j
  ·rw[i5.mpr e]at q;have A:f i j=mf wr i j:=f8 e;rw[A,←jh];exact bt q (i6 (n6 (B2 (f6 rfl) (hZ W (f6 rfl) (f6 rfl) (f6 rfl) r H)) rfl) rfl) rfl
  ·rw[y9.mpr e]at q;have A:f i j=0:=g9 e;rw[A,U6];exact x8 q rfl
 have v:∃c,t6 (.one 4) (λ c=>evSs G (JJ (k+1)) fu [.fo (.one 5) (.rng [.bi .len [.ix (.var 0) (.int 0)]]) aB] c) (upTo 0 n) (D 0 .no .no)=some (.nx c)/\∃x y,c=D (su (λ i=>su (f i) m) n) x y:=(by refine K0 (i:=4) (I:=λ i o=>∃x y,o=D (su (λ i=>su (f i) m) i) x y) n 0 (λ i r o C=>?_) ⟨.no,.no,rfl⟩;obtain⟨x,y,rfl⟩:=C;rw[R9];obtain⟨c,B,g,rfl⟩:=z i r (su (λ i=>su (f i) m) i) y;have w:p7 (evE G (JJ (k+1)) (.rng [.bi .len [.ix (.var 0) (.int 0)]]) (D (su (λ i=>su (f i) m) i) (JE (i:Int)) y))=some (.ok (upTo 0 m) .fresh):=Q5 (T6 u J (f6 rfl)) JC;refine⟨_,D9 w (.inr rfl) B rfl,.val (JP (i:Int)),g,?_⟩;rw[Z3]);obtain⟨c,B,x,y,rfl⟩:=v;have w:p7 (evE G (JJ (k+1)) (.rng [.bi .len [.var 0]]) (D 0 .no .no))=some (.ok (upTo 0 n) .fresh):=Q5 (lenT u (f6 rfl)) JC;exact t5 (i6 (n6 (cl:=.strong) (d:=.int 0) g8 rfl) (D9 w (.inr rfl) B (q0 (u7 (cl:=.strong) (f6 rfl)))))
end k62
end
noncomputable section
namespace k62
open PySem L2
def IG:cmpD .Eq (.str "end") (.str "end")=some true:=by decide +kernel
def IH:cmpD .NotEq (.str "ask") (.str "ask")=some false:=by decide +kernel
def c_in(s:Bool):cmpD .NotIn (sd s) (.tup [.str "row",.str "column"])=some false:=by cases s<;>decide +kernel
def ntup:evE G F (.not (.isi (.var 0) ["tuple"])) [.val (.tup ds),.val r]=some (.ok (.bl false) .strong):=rfl
theorem mL{fu:Nat}:∀(p:Pn) (room K:Nat),p.wk->p.deep<=room->p.deep+2<=K->run G T fu K 25 [p.D,.int (room:Int)]=some (.v (.bl true) false)
 | .fin w,room,K+1,hw,_,hK=>by
  obtain⟨K,rfl⟩:∃K',K=K'+1:=⟨K - 1,by have:0+2<=K+1:=hK;omega⟩;rw[r9 (fd:=lU) rfl rfl]
  let D:on Sv:=[.val (Pn.fin w).D,.val (JP (room:Int))]
  have t1:tstD (evE G (JJ (K+1)) (.or [.not (.isi (.var 0) ["tuple"]),.cmp .Lt (.var 1) (.int 0)]) D)=some (.ok false):=o7 (or_f ntup (or_1 (by rw[b_lt (f6 (n:=1) (d:=.int (room:Int)) rfl) (g8 (i:=0)),B4 JC])));have t2:tstD (evE G (JJ (K+1)) (.cmp .Eq (.bi .len [.var 0]) (.int 2)) D)=some (.ok true):=o7 (b_eq (Y7 (ds:=[.str "end",.int w]) (f6 rfl)) (g8 (i:=2)));have x1:evE G (JJ (K+1)) (JM 0 1) D=some (.ok (.int w) .strong):=n9 (cx:=.strong) (f6 rfl) g8 rfl;have c1:evE G (JJ (K+1)) (.call 17 [.ix (.var 0) (.int 1)]) D=some (.ok (.bl true) .strong):=k7 (fr:=false) (l:=[(JV w)]) (f7 x1 i9) rfl (eA w);have e0:evE G (JJ (K+1)) (.cmp .Eq (.ix (.var 0) (.int 0)) (.str "end")) D=some (.ok (.bl true) .strong):=C4 (n9 (cx:=.strong) (f6 rfl) g8 rfl) K2 IG;have ch:evE G (JJ (K+1)) (.chain .LtE .LtE (.int 0) (JM 0 1) (.int 9)) D=some (.ok (.bl true) .strong):=by
   show Re.thn (evE G (JJ (K+1)) (.int 0) D) (λ x _=>Re.thn (evE G (JJ (K+1)) (JM 0 1) D) λ y _=>match cmpD .LtE x y with
    | none=>none
    | some false=>some (JR (.bl false))
    | some true=>Re.thn (evE G (JJ (K+1)) (.int 9) D) λ z _=>(cmpD .LtE y z).map λ k=>.ok (.bl k) .strong)=_
   rw[x1];show(match(some (decide (0<=w)):Jk Bool)with
    | none=>none
    | some false=>some (Re.ok (.bl false) .strong)
    | some true=>(some (decide (w<=9))).map λ k=>Re.ok (.bl k) .strong)=_
   rw[D5 hw.1,D5 hw.2];rfl
  exact t5 (x8 t1 (bu t2 (q0 (u7 (cl:=.strong) (T4 e0 (T4 c1 (Y9 ch)))))))
 | .ask s c a b,room,K+1,hw,hd,hK=>by
  obtain⟨h1,h2,ha,hb⟩:=hw;have hd':1+max a.deep b.deep<=room:=hd;have hK':1+max a.deep b.deep+2<=K+1:=hK;obtain⟨room,rfl⟩:∃r,room=r+1:=⟨room - 1,by omega⟩;obtain⟨K,rfl⟩:∃K',K=K'+1:=⟨K - 1,by omega⟩;have ia:=mL (fu:=fu) a room (K+1) ha JC JC;have ib:=mL (fu:=fu) b room (K+1) hb JC JC;rw[r9 (fd:=lU) rfl rfl]
  let D:on Sv:=[.val (Pn.ask s c a b).D,.val (JP ((room+1:Nat):Int))]
  let F:=run G T fu (K+1)
  have w0:∀{y:Nat} {d:DV},ixD (Pn.ask s c a b).D (JP (y:Int))=some d->evE G F (JM 0 (y:Int)) D=some (.ok d .strong):=λ e=>n9 (cx:=.strong) (f6 rfl) g8 e;have x2:evE G F (JM 0 2) D=some (.ok (JP (c:Int)) .strong):=w0 (y:=2) rfl;have ln:evE G F (.bi .len [.var 0]) D=some (.ok (.int 5) .strong):=Y7 (ds:=[.str "ask",sd s,.int c,a.D,b.D]) (f6 rfl);have sb:evE G F (.bin .Sub (.var 1) (.int 1)) D=some (.ok (JP (room:Int)) .strong):=(by have:=G4 (G:=G) (F:=F) (δ:=D) (f6 (n:=1) rfl) (g8 (i:=1));rw[show((room+1:Nat):Int) - 1=(room:Int) by omega]at this;exact this);have t1:tstD (evE G F (.or [.not (.isi (.var 0) ["tuple"]),.cmp .Lt (.var 1) (.int 0)]) D)=some (.ok false):=o7 (or_f ntup (or_1 (by rw[b_lt (f6 (n:=1) (d:=.int ((room+1:Nat):Int)) rfl) (g8 (i:=0)),B4 JC])));have t2:tstD (evE G F (.cmp .Eq (.bi .len [.var 0]) (.int 2)) D)=some (.ok false):=o7 (b_eq ln (g8 (i:=2)));have c1:evE G F (.call 17 [.ix (.var 0) (.int 2)]) D=some (.ok (.bl true) .strong):=k7 (fr:=false) (l:=[(JV (c:Int))]) (f7 x2 i9) rfl (eA c);have t3:tstD (evE G F (.or [.cmp .NotEq (.bi .len [.var 0]) (.int 5),.cmp .NotEq (.ix (.var 0) (.int 0)) (.str "ask"),.cmp .NotIn (JM 0 1) (.tup [.str "row",.str "column"]),.not (.call 17 [.ix (.var 0) (.int 2)])]) D)=some (.ok false):=
   o7 (or_f (C4 (t:=false) ln (g8 (i:=5)) rfl) (or_f (C4 (w0 (y:=0) rfl) K2 IH) (or_f (C4 (cy:=.strong) (w0 (y:=1) rfl) rfl (c_in s)) (or_1 (bv c1)))))
  have t4:tstD (evE G F (.or [.cmp .Lt (JM 0 2) (.int 1),.cmp .Gt (JM 0 2) (JP 255)]) D)=some (.ok false):=
   o7 (or_f (cx:=.strong) (by rw[b_lt x2 (g8 (i:=1)),B4 JC]) (or_1 (by rw[b_gt x2 (g8 (i:=255)),B4 JC])))
  have ca:evE G F (.call 25 [.ix (.var 0) (.int 3),.bin .Sub (.var 1) (.int 1)]) D=some (.ok (.bl true) .strong):=k7 (fr:=false) (l:=[(a.D,.strong),(JV (room:Int))]) (f7 (w0 (y:=3) rfl) (f7 sb i9)) rfl ia;have cb:evE G F (.call 25 [.ix (.var 0) (.int 4),.bin .Sub (.var 1) (.int 1)]) D=some (.ok (.bl true) .strong):=k7 (fr:=false) (l:=[(b.D,.strong),(JV (room:Int))]) (f7 (w0 (y:=4) rfl) (f7 sb i9)) rfl ib;exact t5 (x8 t1 (x8 t2 (x8 t3 (x8 t4 (q0 (u7 (cl:=.strong) (T4 ca (Y9 cb))))))))
def mM(b:T[f]? = some d)(a:ds.length=d.np)(h:rxS G (JJ k) 3 d.body (o5 d.n ds)=true):run G T fu (k+1) (rxIx+f) ds=some (.v .non false):=by
 rw[fR (M0 (k6 (show 40<=rxIx by decide) (P4 rxIx f))),g9 (M4 (p9 JD (P4 rxIx f))),g9 (M4 (p9 JD (P4 rxIx f)))];unfold rxR;rw[nG,b];exact f8 ⟨P4 ..,a,h⟩
def rx_c(a:evEs G F es δ=some (.ok l))(h:F (rxIx+f) (l.map (·.1))=some o):rxC G F (.call f es) δ=true:=by
 show(match evEs G F es δ with | some (.ok l)=>(F _ _).isSome | none=>false)=true;rw[a];show(F _ _).isSome=true;rw[h];rfl
def II(c:JF a cx (.bl true)):evE G F (.or [a,b]) δ=some (.ok (.bl true) cx):=by
 show Re.thn _ _=_;rw[c];rfl
def IJ(d:Rect n m rows)(l:0<n)(h:4<n\/4<m)(w b:DV):∀f∈[11,12],run G T fu (k+2) (rxIx+f) [tT rows,w,b]=some (.v .non false):=by
 have c:run G T fu (k+1) (rxIx+13) [tT rows,w,b]=some (.v .non false):=by
  refine mM rfl rfl ?_;have i:evE G (JJ k) (.glb "MOST_WEIGHED") (o5 9 [tT rows,w,b])=some (.ok (.int 4) .strong):=rfl;have a:=b_gt (lenT (F:=run G T fu k) (δ:=o5 9 [tT rows,w,b]) (e:=.var 0) d (f6 rfl)) i;have j:=b_gt (T6 (F:=run G T fu k) (δ:=o5 9 [tT rows,w,b]) (e:=.var 0) d l (f6 rfl)) i;have o:evE G (JJ k) (.or [.cmp .Gt (.bi .len [.var 0]) (.glb "MOST_WEIGHED"),.cmp .Gt (.bi .len [.ix (.var 0) (.int 0)]) (.glb "MOST_WEIGHED")]) (o5 9 [tT rows,w,b])=some (.ok (.bl true) .strong):=by
   by_cases h1:4<n
   ·rw[D5 JC]at a;exact II a
   ·rw[B4 JC]at a;rw[D5 JC]at j;exact or_f a (or_1 j)
  show(match tstD (evE G (JJ k) (.or [.cmp .Gt (.bi .len [.var 0]) (.glb "MOST_WEIGHED"),.cmp .Gt (.bi .len [.ix (.var 0) (.int 0)]) (.glb "MOST_WEIGHED")]) (o5 9 [tT rows,w,b]))with | some (.ok z)=>rxS G _ 2 _ _ | none=>false)=true;rw[o7 o];rfl
 intro f g;simp only[j0,P5,P7]at g;rcases g with rfl | rfl
 ·have q:rxC G (JJ (k+1)) (.call 13 [.var 0,.var 1,.var 2]) (o5 6 [tT rows,w,b])=true:=rx_c rfl c;exact mM rfl rfl q
 ·have q:rxC G (JJ (k+1)) (.call 13 [.var 0,.var 1,.var 2]) (o5 3 [tT rows,w,b])=true:=rx_c rfl c;exact mM rfl rfl q
def IK(h:∀f∈[11,12],run G T fu k (rxIx+f) [t,w,b]=some (.v .non false))(p:Bool):run G T fu (k+1) 37 [t,w,b,.bl p]=some (.v (.bl true) false):=by
 rw[r9 rfl rfl];refine t5 (q0 (f8 ?_));have one:=λ f a=>by have q:rxC G _ (.call f [.var 0,.var 1,.var 2]) [.val t,.val w,.val b,.val (.bl p),.val .non,.no]=true:=rx_c rfl (h f a);exact q
 cases p
 ·exact one 11 JD
 ·exact one 12 JD
end k62
end
noncomputable section
namespace k62
open PySem L2
variable {fu k:Nat} {F:Nat->on DV->Jk Ou} {δ:on Sv} {n m R C B l i:Nat} {rows wr:on (on Int)}
def ii(h:JF e cl (.int (n:Int)))(a:n<=1000):p7 (JO (.rng [e]))=some (.ok ((JS n).map λ (j:Nat)=>DV.int (j:Int)) .fresh):=by
 rw[Q5 h a,He];rfl
abbrev shp(n m:Nat):DV:=.lst [.int (n:Int),.int (m:Int)]
noncomputable def gT(n m:Nat):on (on Int):=(JS n).map λ (r:Nat)=>(JS m).map λ (c:Nat)=>((r:Int)+(c:Int))%2
noncomputable def gW(x:Int)(n m:Nat):on (on Int):=(JS n).map λ (r:Nat)=>(JS m).map λ (c:Nat)=>(7*(r:Int)+3*(c:Int)+x)%11
def vY{f:Nat->Nat->Int}:Rect n m ((JS n).map λ r=>(JS m).map λ c=>f r c):=⟨by rw[i0,A8],λ r a=>by
 obtain⟨i,_,rfl⟩:=m9.mp a;rw[i0,A8]⟩
abbrev mS(x:Int)(B:Nat)(p:Pn)(n m:Nat)(a b c:Sv):on Sv:=[.val (.int x),.val (JP (B:Int)),.val p.D,.val (shp n m),a,b,c]
def IL(hn:n<=8)(hm:m<=8):evE G F (.bi .tuple [.comp (.bi .tuple [.comp (.bin .Mod (.bin .Add (.var 1) (.var 0)) (.int 2)) (.one 0) (.rng [.ix (.var 1) (.int 1)]) [none,some 0]]) (.one 0) (.rng [.ix (.var 3) (.int 0)]) [none,some 3]]) (mS x B p n m a b c)=some (.ok (tT (gT n m)) .strong):=by
 have w:p7 (evE G F (.rng [.ix (.var 3) (.int 0)]) (mS x B p n m a b c))=some _:=ii (n9 (f6 rfl) g8 rfl) JC;have d:=N4 (F:=F) (fr:=[none,some 3]) (tg:=.one 0) (elt:=.bi .tuple [.comp (.bin .Mod (.bin .Add (.var 1) (.var 0)) (.int 2)) (.one 0) (.rng [.ix (.var 1) (.int 1)]) [none,some 0]]) (f:=λ (r:Nat)=>.tup (iD ((JS m).map λ (c:Nat)=>((r:Int)+(c:Int))%2))) w JD (by rw[A8];exact k6 JC JD) λ r hr=>by refine⟨[.val _,.val (shp n m)],.strong,rfl,bQ (c:=.fresh) ?_,rfl⟩;rw[N4 (ii (n9 (f6 rfl) g8 rfl) JC) JD (by rw[A8];exact k6 JC JD) λ c hc=>⟨[.val _,.val _],.strong,rfl,E2 (B2 (f6 rfl) (f6 rfl)) (g8 (i:=2)) JD,rfl⟩];unfold iD;rw[v7];rfl
 rw[bQ d];unfold tT gT;rw[v7];rfl
def IM(hn:n<=8)(hm:m<=8):evE G F (.comp (.comp (.bin .Mod (.bin .Add (.bin .Add (.bin .Mult (.int 7) (.var 1)) (.bin .Mult (.int 3) (.var 0))) (.var 2)) (JP 11)) (.one 0) (.rng [.ix (.var 1) (.int 1)]) [none,some 0,some 2]) (.one 0) (.rng [.ix (.var 3) (.int 0)]) [none,some 3,some 0]) (mS x B p n m a b c)=some (.ok (rL (gW x n m)) .fresh):=by
 have w:p7 (evE G F (.rng [.ix (.var 3) (.int 0)]) (mS x B p n m a b c))=some (.ok ((JS n).map λ (j:Nat)=>DV.int (j:Int)) .fresh):=ii (cl:=.strong) (n9 (cx:=.strong) (f6 rfl) g8 rfl) JC;have h:=N4 (fr:=[none,some 3,some 0]) (tg:=.one 0) (elt:=.comp (.bin .Mod (.bin .Add (.bin .Add (.bin .Mult (.int 7) (.var 1)) (.bin .Mult (.int 3) (.var 0))) (.var 2)) (JP 11)) (.one 0) (.rng [.ix (.var 1) (.int 1)]) [none,some 0,some 2]) (f:=λ (r:Nat)=>.lst (iD ((JS m).map λ (c:Nat)=>(7*(r:Int)+3*(c:Int)+x)%11))) w JD (by rw[A8];exact k6 JC JD) λ r d=>by
  have r8:=x5.mp d;have g:(2:Int)^62=4611686018427387904:=by decide
  refine⟨[.val _,.val _,.val _],.fresh,rfl,?_,rfl⟩;rw[N4 (ii (n9 (f6 rfl) g8 rfl) JC) JD (by rw[A8];exact k6 JC JD) λ c e=>⟨[.val _,.val _,.val _],.strong,rfl,by
   have c8:=x5.mp e;exact E2 (B2 (B2 (K1 g8 (f6 rfl) (Z1 JC JC)) (K1 g8 (f6 rfl) (Z1 JC JC))) (f6 rfl)) (g8 (i:=11)) JD,rfl⟩]
  unfold iD;rw[v7];rfl
 rw[h];unfold rL gW;rw[v7];rfl
noncomputable def mR:on MS:=[.set 4 false (.bi .tuple [.comp (.bi .tuple [.comp (.bin .Mod (.bin .Add (.var 1) (.var 0)) (.int 2)) (.one 0) (.rng [.ix (.var 1) (.int 1)]) [none,some 0]]) (.one 0) (.rng [.ix (.var 3) (.int 0)]) [none,some 3]]),.set 5 false (.comp (.comp (.bin .Mod (.bin .Add (.bin .Add (.bin .Mult (.int 7) (.var 1)) (.bin .Mult (.int 3) (.var 0))) (.var 2)) (JP 11)) (.one 0) (.rng [.ix (.var 1) (.int 1)]) [none,some 0,some 2]) (.one 0) (.rng [.ix (.var 3) (.int 0)]) [none,some 3,some 0]),.set 6 false (.call 10 [.var 4,.var 5,.var 2]),.iff (.or [.not (.call 17 [.var 6]),.cmp .NotEq (.var 6) (.call 36 [.var 4,.var 5,.var 2])]) [.ret (.bl false)] [],.ret (.and [.call 37 [.var 4,.var 5,.var 1,.bl true],.call 37 [.var 4,.var 5,.var 1,.bl false]])]
def vZ(g:0<n)(b:n<=8)(e:m<=8)(h:4<n\/4<m)(i:p.deep<fu)(o:p.deep<=1000):evSs G (JJ (k+3)) fu mR (mS x B p n m .no .no .no)=some (.rt (.bl true) false):=by
 have f:Rect n m (gT n m):=vY;have a:Rect n m (gW x n m):=vY
 let F:=run G T fu (k+3)
 let v:=rw2 n m (gT n m) (gW x n m) p
 let D:Sv->on Sv:=λ c=>mS x B p n m (.val (tT (gT n m))) (.val (rL (gW x n m))) c
 have u:evE G F (.call 36 [.var 4,.var 5,.var 2]) (D (JE v))=some (.ok (.int v) .strong):=k7 (fr:=false) (l:=[(tT (gT n m),.strong),(rL (gW x n m),.strong),(p.D,.strong)]) rfl rfl (mK (k:=k+1) f a g b e i);have q:evE G F (.call 17 [.var 6]) (D (JE v))=some (.ok (.bl true) .strong):=k7 (fr:=false) (l:=[(JV v)]) rfl rfl (eA v);have j:tstD (evE G F (.or [.not (.call 17 [.var 6]),.cmp .NotEq (.var 6) (.call 36 [.var 4,.var 5,.var 2])]) (D (JE v)))=some (.ok false):=o7 (or_f (bv q) (or_1 (by rw[b_ne (f6 (n:=6) (d:=.int v) rfl) u];show some _=_;rw[aa])));have r:∀t:Bool,evE G F (.call 37 [.var 4,.var 5,.var 1,.bl t]) (D (JE v))=some (.ok (.bl true) .strong):=λ t=>k7 (fr:=false) rfl rfl (IK (IJ f g h (rL (gW x n m)) (JP (B:Int))) t);exact i6 (n6 (IL b e) rfl) (i6 (n6 (IM b e) rfl) (i6 (n6 (k7 rfl rfl (vt f a b e i o)) rfl) (x8 j (q0 (u7 (cl:=.strong) (T4 (r true) (Y9 (r false))))))))
def IN(x:Int)(p:Pn)(j:p.deep<fu)(l:p.deep<=1000):run G T fu (k+4) 38 [.int x,.int (B:Int),p.D]=some (.v (.bl true) false):=by
 obtain⟨a,v⟩:∃a:Nat,5+x%4=(a:Int):=⟨(5+x%4).toNat,by omega⟩;obtain⟨b,u⟩:∃b:Nat,1+x/4%8=(b:Int):=⟨(1+x/4%8).toNat,by omega⟩;rw[r9 rfl rfl]
 let F:=run G T fu (k+3)
 let g:on Sv:=o5 7 [.int x,.int (B:Int),p.D]
 have h:evE G F (.lst [.bin .Add (.int 5) (.bin .Mod (.var 0) (.int 4)),.bin .Add (.int 1) (.bin .Mod (.bin .FloorDiv (.var 0) (.int 4)) (.int 8))]) g=some (.ok (shp a b) .fresh):=by have r:=B2 (g8 (G:=G) (F:=F) (δ:=g) (i:=5)) (E2 (f6 (n:=0) (d:=.int x) rfl) (g8 (i:=4)) JD);have o:=B2 (g8 (G:=G) (F:=F) (δ:=g) (i:=1)) (E2 (av (f6 (n:=0) (d:=.int x) rfl) (g8 (i:=4)) JD) (g8 (i:=8)) JD);rw[v]at r;rw[u]at o;show Rs.thn _ _=_;rw[f7 r (f7 o i9)];rfl
 have c:=b_eq (E2 (av (f6 (G:=G) (F:=F) (δ:=mS x B p a b .no .no .no) (n:=0) (d:=.int x) rfl) (g8 (i:=32)) JD) (g8 (i:=2)) JD) (g8 (i:=1));by_cases q:x/32%2=1
 ·rw[i5.mpr q]at c;exact t5 (i6 (n6 h rfl) (bt (o7 c) (i6 (n6 rfl rfl) rfl) (vZ (x:=x) (B:=B) (n:=b) (m:=a) JC JC JC (.inr JC) j l)))
 ·rw[y9.mpr q]at c;exact t5 (i6 (n6 h rfl) (x8 (o7 c) (vZ (x:=x) (B:=B) (n:=a) (m:=b) JC JC JC (.inl JC) j l)))
end k62
end
noncomputable section
namespace k62
open PySem L2
noncomputable def ltK(p q:Ky):Bool:=decide (p.1<q.1)||(p.1==q.1&&(decide (p.2.1<q.2.1)||(p.2.1==q.2.1&&decide (p.2.2<q.2.2))))
def cf:on Ky->Bool
 | p::q::r=>ltK p q&&cf (q::r)
 | _=>true
def mN:∀n,n<=4->∀m,m<=4->∀B,B<=4->cf (kys B m (2^n) 1 0)=true/\(kys B m (2^n) 1 0).length=(2^n - 1)*(2^m - 1)*(B+1):=by decide +kernel
def IP(h1:ltK p q=true)(h2:ltK q r=true):ltK p r=true:=by
 unfold ltK at *;simp only[B5,f9,F3,i5]at *;omega
def IQ:ltK p p=false:=by
 unfold ltK;simp
theorem fX:∀{K:on Ky},cf K=true->K.Pairwise λ p q=>ltK p q=true
 | [],_=>.nil
 | [p],_=>.cons (λ _ h=>nomatch h) .nil
 | p::q::r,h=>by
  have a:(ltK p q&&cf (q::r))=true:=h;rw[f9]at a;have b:=fX a.2;refine .cons (λ x c=>?_) b;rcases j0.mp c with e | e
  ·rw[e];exact a.1
  ·exact IP a.1 ((K9.mp b).1 x e)
noncomputable def toQ(q:Ky×Int):Int×Int×Int×Int:=((q.1.1:Int),(q.1.2.1:Int),(q.1.2.2:Int),q.2)
theorem wa:∀L:T3,quads? (L.map q4)=some (L.map toQ)
 | []=>rfl
 | q::L=>by show(quads? _).map _=_;rw[wa L];rfl
def IR(h:ltK p.1 q.1=true):ltQ (toQ p) (toQ q)=true:=by
 unfold ltK at h;unfold ltQ ltT toQ;simp only[B5,f9,F3,i5]at *;omega
theorem wb{V:Ky->Int}:∀{K:on Ky},cf K=true->Q2 ((K.map λ q=>(q,V q)).map toQ)=true
 | [],_=>rfl
 | [p],_=>rfl
 | p::q::r,h=>by have a:(ltK p q&&cf (q::r))=true:=h;rw[f9]at a;show(ltQ _ _&&Q2 _)=true;rw[f9];exact⟨IR a.1,wb a.2⟩
theorem mO:∀L:T3,DV.plains 59 (L.map q4)=true
 | []=>rfl
 | q::L=>by show(DV.plain 59 (q4 q)&&DV.plains 59 _)=true;rw[mO L];rfl
theorem mP:∀L:T3,deqs (L.map q4) (L.map q4)=true
 | []=>rfl
 | q::L=>by show(deq (q4 q) (q4 q)&&deqs _ _)=true;rw[mP L];show(((_==_)&&((_==_)&&((_==_)&&((q.2==q.2)&&true))))&&true)=true;simp
def eC(a:n<=4)(b:m<=4)(c:B<=4):(fw B n m rows wr).length=(2^n - 1)*(2^m - 1)*(B+1):=by
 show(tb3 _ _ _).length=_;unfold tb3;rw[i0];exact(mN n a m b B c).2
def mQ:∀n,n<=4->∀m,m<=4->∀B,B<=4->(2^n - 1)*(2^m - 1)*(B+1)<=1125:=by decide +kernel
def IS(a:n<=4)(b:m<=4)(c:B<=4)(h:evE G F e δ=some (JR (.lst ((fw B n m rows wr).map q4)))):evE G F (.cmp .NotEq e (.bi .sorted [e])) δ=some (.ok (.bl false) .strong):=by
 have s:evE G F (.bi .sorted [e]) δ=some _:=(by show Rs.thn _ _=_;rw[f7 h i9];show(match quads? ((fw B n m rows wr).map q4)with | some ps=>if Q2 ps=true/\ps.length<=2000 then some (Re.ok _ _)else none | none=>none)=_;rw[wa];show(if Q2 _=true/\((fw B n m rows wr).map toQ).length<=2000 then some (Re.ok (.lst ((fw B n m rows wr).map q4)) (Cl.anew .strong .strong))else none)=_;rw[f8 ⟨wb (mN n a m b B c).1,by rw[i0,eC a b c];exact k6 (mQ n a m b B c) JD⟩]);refine C4 h s ?_;show(if(DV.plain 60 (.lst ((fw B n m rows wr).map q4))&&DV.plain 60 (.lst ((fw B n m rows wr).map q4)))=true then some (!deq (.lst ((fw B n m rows wr).map q4)) (.lst ((fw B n m rows wr).map q4)))else none)=some false;have p:DV.plain 60 (.lst ((fw B n m rows wr).map q4))=true:=mO _;have d:deq (.lst ((fw B n m rows wr).map q4)) (.lst ((fw B n m rows wr).map q4))=true:=mP _;rw[p,d];rfl
end k62
end
noncomputable section
namespace k62
open PySem L2
variable {fu k:Nat} {F:Nat->on DV->Jk Ou} {δ:on Sv} {n m R C B l i:Nat} {rows wr:on (on Int)} {f g:Mx}
theorem wc:∀{L:T3},q∉L.map (·.1)->L.lookup q=none
 | [],_=>rfl
 | (p,z)::L,h=>by
  rw[F9,show(q==p)=false from y9.mpr λ e=>h (by rw[e];exact o6 ..)];exact wc λ w=>h (o4 _ w)
def IT(h:δ[i]? = some (.od (lG k3 id L)))(f:JF e cx (.int q.2))(g:JF a cy (q4 q))(b:L.lookup q.1=none)(c:L.length<100000):evS G F fu (.dpv i a 3 e) δ=some (.nx (δ.set i (.od (lG k3 id (L++[q]))))):=by
 show((asOd δ[i]?).bind λ p=>Re.thnS δ _ λ d _=>Re.thnS δ _ λ x _=>dpvD i δ p x 3 d)=_;rw[h];show Re.thnS δ _ _=_;rw[f];show Re.thnS δ _ _=_;rw[g];show(if 0<3/\3<4/\(ksG k3 L).length<n5/\3<=3 then some (Out.nx (δ.set i (.od (.dcl (putD (kG k3 q.1) _ _ _).1 (putD (kG k3 q.1) _ _ _).2))))else none)=_;rw[f8 ⟨by decide,by decide,by unfold ksG;rw[i0];exact R7 c JD,by decide⟩];unfold putD;rw[g9 (no_G P0 b)];unfold lG ksG vsG;rw[C3,C3];rfl
abbrev oS(P:DV)(rows wr:on (on Int))(B:Nat)(L:T3)(a b c d e g:Sv):on Sv:=[.val P,.val (tT rows),.val (rL wr),.val (JP (B:Int)),.od (lG k3 id L),a,b,c,d,e,g]
noncomputable def oFl:on MS:=[.iff (.or [.not (.isi (.var 5) ["tuple"]),.cmp .NotEq (.bi .len [.var 5]) (.int 4),.cmp .NotEq (.bi .len [.compi (.var 0) (.one 0) (.var 5) (.call 17 [.var 0]) [none]]) (.int 4)]) [.ret (.non)] [],.dpv 4 (.var 5) 3 (JM 5 3)]
def IU(h:D[5]? = some (.val (q4 q))):evE G (JJ (k+1)) (.bi .len [.compi (.var 0) (.one 0) (.var 5) (.call 17 [.var 0]) [none]]) D=some (.ok (.int 4) .strong):=by
 have w:p7 (evE G (JJ (k+1)) (.var 5) D)=some (.ok (([(q.1.1:Int),(q.1.2.1:Int),(q.1.2.2:Int),q.2]:on Int).map DV.int) .strong):=by rw[f6 h];rfl
 show Rs.thn _ _=_;rw[f7 (md w JD (le4m JK) λ x _=>⟨[.val (.int x)],rfl,o7 (k7 rfl rfl (eA x)),.strong,f6 rfl,rfl⟩) i9];rfl
theorem fill{g:Sv}:∀(Q L:T3) (a:Sv),((L++Q).map (·.1)).Nodup->(L++Q).length<100000->∃l,t6 (.one 5) (λ f=>evSs G (JJ (k+1)) fu oFl f) (Q.map q4) (oS P rows wr B L a b c d e g)=some (.nx (oS P rows wr B (L++Q) l b c d e g))
 | [],L,a,_,_=>⟨a,by rw[C8];rfl⟩
 | q::Q,L,a,h,m=>by
  have j:L++q::Q=(L++[q])++Q:=by rw[N7];rfl
  obtain⟨l,n⟩:=fill Q _ (.val (q4 q)) (by rw[←j];exact h) (by rw[←j];exact m);refine⟨l,?_⟩;rw[j];refine(dU rfl ?_).trans n
  let D:=oS P rows wr B L (.val (q4 q)) b c d e g
  have t:tstD (evE G (JJ (k+1)) (.or [.not (.isi (.var 5) ["tuple"]),.cmp .NotEq (.bi .len [.var 5]) (.int 4),.cmp .NotEq (.bi .len [.compi (.var 0) (.one 0) (.var 5) (.call 17 [.var 0]) [none]]) (.int 4)]) D)=some _:=
   o7 (or_f rfl (or_f (C4 (t:=false) (Y7 (ds:=[.int (q.1.1:Int),.int (q.1.2.1:Int),.int (q.1.2.2:Int),.int q.2]) (f6 rfl)) (g8 (i:=4)) rfl) (or_1 (C4 (t:=false) (IU rfl) (g8 (i:=4)) rfl))))
  have o:=λ w=>by rw[C3,List.nodup_append]at h;exact h.2.2 _ w _ (o6 ..) rfl
  exact x8 t (i6 (IT rfl (n9 (f6 rfl) g8 rfl) (f6 rfl) (wc o) (by rw[x4]at m;omega)) rfl)
end k62
end
noncomputable section
namespace k62
open PySem L2
noncomputable def oI:on MS:=[.set 6 false (.bin .Add (.var 6) (.int 1)),.iff (.cmp .NotIn (.tup [.var 7,.var 8,.var 9]) (.var 4)) [.ret (.non)] [],.set 10 false (.call 33 [.var 1,.var 2,.var 7,.var 8]),.iff (.cmp .Gt (.var 9) (.int 0)) [.set 10 false (.call 34 [.var 4,.var 7,.var 8,.var 9])] [],.iff (.cmp .NotEq (.dix (.var 4) (.tup [.var 7,.var 8,.var 9])) (.var 10)) [.ret (.non)] []]
def IV(a:0<q.1)(r1:q.1<2^n)(c0:0<q.2.1)(c:q.2.1<2^m)(b:q.2.2<=B):kG k3 q∈ksG k3 (fw B n m rows wr):=by
 unfold ksG;refine m9.mpr ⟨_,m9.mpr ⟨q,ee.mpr (.inl ⟨Z2.mpr (.inl ⟨a,r1,c0,c⟩),b⟩),rfl⟩,rfl⟩
def IW{R C l:Nat}(J:Rect n m rows)(W:Rect n m wr)(I:W9 rows)(S:∀i j,0<=mf wr i j)(M:0<n)(N:n<=4)(O:m<=4)(h:0<R)(v:R<2^n)(o:0<C)(w:C<2^m)(H:l<=B) :
  ∃U,evSs G (JJ (k+3)) fu oI (oS P rows wr B (fw B n m rows wr) a (JE t) (JE (R:Int)) (JE (C:Int)) (JE (l:Int)) g)=some (.nx (oS P rows wr B (fw B n m rows wr) a (JE (t+1)) (JE (R:Int)) (JE (C:Int)) (JE (l:Int)) U)):=by
 have pn:=p32 (n:=n) JC;have pm:=p32 (n:=m) JC
 let L:=fw B n m rows wr
 let F:=run G T fu (k+3)
 let D:Sv->on Sv:=λ g=>oS P rows wr B L a (JE (t+1)) (JE (R:Int)) (JE (C:Int)) (JE (l:Int)) g
 have E:∀g,evE G F (.tup [.var 7,.var 8,.var 9]) (D g)=some (.ok (.tup ((k3 (R,C,l)).map .int)) .strong):=λ g=>D0 (f7 (f6 rfl) (f7 (f6 rfl) (f7 (f6 rfl) i9))) (show 3<=n5 by decide) rfl;have p:∀g,evE G F (.var 4) (D g)=some (.ok (.dcl (ksG k3 L) (vsG id L)) .weak):=λ g=>mi rfl;have A:tstD (evE G F (.cmp .NotIn (.tup [.var 7,.var 8,.var 9]) (.var 4)) (D g))=some (.ok false):=(by refine o7 (C4 (E g) (p g) ?_);show some (!decide (kG k3 (R,C,l)∈ksG k3 L))=some false;rw[D5 (IV (q:=(R,C,l)) h v o w H)];rfl);have u:evE G F (.call 33 [.var 1,.var 2,.var 7,.var 8]) (D g)=some (.ok (JP (bW (mf rows) (mf wr) 0 R C)) .strong):=k7 (fr:=false) rfl rfl (IA (k:=k+2) J W I S M N O h v o w);have Y:∀g,evE G F (.dix (.var 4) (.tup [.var 7,.var 8,.var 9])) (D g)=some (.ok (JP (bW (mf rows) (mf wr) l R C)) .strong):=λ g=>V6 (q:=(R,C,l)) (ν:=id) (L:=L) P0 rfl (p g) (E g) (Z5 h v o w H);have z:∀b,b=bW JT (mf wr) l R C->tstD (evE G F (.cmp .NotEq (.dix (.var 4) (.tup [.var 7,.var 8,.var 9])) (.var 10)) (D (JE b)))=some (.ok false):=λ b Q=>by refine o7 (x:=false) (cl:=.strong) ?_;rw[b_ne (Y _) (f6 (n:=10) (d:=.int b) rfl),Q,aa]
 have e:=b_gt (f6 (G:=G) (F:=F) (δ:=D (JE (bW (mf rows) (mf wr) 0 R C))) (n:=9) (d:=.int (l:Int)) rfl) (g8 (i:=0));have y:evS G F fu (.set 6 false (.bin .Add (.var 6) (.int 1))) (oS P rows wr B L a (JE t) (JE (R:Int)) (JE (C:Int)) (JE (l:Int)) g)=some (.nx (D g)):=n6 (B2 (f6 rfl) (g8 (i:=1))) rfl;cases l with
 | zero=>
  rw[B4 JC]at e;exact⟨_,i6 y (x8 A (i6 (n6 u rfl) (x8 (o7 e) (x8 (z _ rfl) rfl))))⟩
 | succ l=>
  rw[D5 JC]at e;have Z:=Iu (fu:=fu) (k:=k) (X:=.dcl (ksG k3 L) (vsG id L)) (L:=L) (f:=mf rows) (g:=mf wr) (l:=l) (R:=R) (C:=C) rfl JC JC h o λ r c K r1 c0 u=>Z5 K JC c0 JC JC
  exact⟨_,i6 y (x8 A (i6 (n6 u rfl) (bt (o7 e) (i6 (n6 (jT (f7 (p _) (f7 (f6 rfl) (f7 (f6 rfl) (f7 (f6 rfl) i9)))) rfl Z) rfl) rfl) (x8 (z _ rfl) rfl))))⟩
end k62
end
noncomputable section
namespace k62
open PySem L2
variable {fu k:Nat} {F:Nat->on DV->Jk Ou} {δ:on Sv} {n m R C B l i:Nat} {rows wr:on (on Int)} {f g:Mx}
def oL:on MS:=[.fo (.one 9) (.rng [.bin .Add (.var 3) (.int 1)]) oI]
def oC:on MS:=[.fo (.one 8) (.rng [.int 1,.call 29 [.bi .len [.ix (.var 1) (.int 0)]]]) oL]
abbrev oT(P:DV)(rows wr:on (on Int))(n m B:Nat)(a:Sv)(t:Int)(c d e g:Sv):on Sv:=oS P rows wr B (fw B n m rows wr) a (JE t) c d e g
def IX(r:Rect n m rows)(W:Rect n m wr)(o:W9 rows)(z:∀i j,0<=mf wr i j)(u:0<n)(x:n<=4)(y:m<=4)(hB:B<=4)(E:0<R)(A:R<2^n)(K:0<C)(J:C<2^m)(t:Int)(e g:Sv) :
  ∃c b,evSs G (JJ (k+3)) fu oL (oT P rows wr n m B a t (JE (R:Int)) (JE (C:Int)) e g)=some (.nx (oT P rows wr n m B a (t+((B+1:Nat):Int)) (JE (R:Int)) (JE (C:Int)) c b)):=by
 have v:=K0 (i:=9) (I:=λ j f=>∃e g,f=oT P rows wr n m B a (t+(j:Int)) (JE (R:Int)) (JE (C:Int)) e g) (B+1) 0 (λ j hj f H=>by
  obtain⟨e,g,rfl⟩:=H;rw[R9];obtain⟨b,p⟩:=IW (fu:=fu) (k:=k) (l:=j) (B:=B) r W o z u x y E A K J JC;exact⟨_,p,.val _,b,by rw[show t+_+1=t+((j+1:Nat):Int) by omega]⟩) ⟨e,g,by rw[show t+_=t by omega]⟩
 obtain⟨h,q,c,b,rfl⟩:=v;have w:=Q5 (by
  have:=B2 (f6 (G:=G) (F:=run G T fu (k+3)) (δ:=oT P rows wr n m B a t (JE (R:Int)) (JE (C:Int)) e g) (n:=3) (d:=.int (B:Int)) rfl) (g8 (i:=1));rw[show(B:Int)+1=((B+1:Nat):Int) by omega]at this;exact this) JC
 exact⟨c,b,D9 w (.inr rfl) q rfl⟩
def IY(l:Rect n m rows)(W:Rect n m wr)(u:W9 rows)(z:∀i j,0<=mf wr i j)(o:0<n)(x:n<=4)(p:m<=4)(y:B<=4)(E:0<R)(A:R<2^n)(t:Int)(d e g:Sv) :
  ∃f c b,evSs G (JJ (k+3)) fu oC (oT P rows wr n m B a t (JE (R:Int)) d e g)=some (.nx (oT P rows wr n m B a (t+(((2^m - 1)*(B+1):Nat):Int)) (JE (R:Int)) f c b)):=by
 have pm:=p32 (n:=m) JC;have w:=K0 (i:=8) (I:=λ j h=>∃d e g,h=oT P rows wr n m B a (t+((j*(B+1):Nat):Int)) (JE (R:Int)) d e g) (2^m - 1) 1 (λ j hj h F=>by
  obtain⟨d,e,g,rfl⟩:=F;rw[show(1:Int)+_=((j+1:Nat):Int) by omega];obtain⟨c,b,v⟩:=IX (fu:=fu) (k:=k) (C:=j+1) l W u z o x p y E A JC JC _ e g;exact⟨_,v,_,c,b,by rw[show t+_+_=t+(((j+1)*(B+1):Nat):Int) by rw[ft];omega]⟩) ⟨d,e,g,by rw[Nat.zero_mul,show t+_=t by omega]⟩
 obtain⟨r,q,f,c,b,rfl⟩:=w;exact⟨f,c,b,D9 (aJ (k7 (f7 (T6 l o (f6 rfl)) i9) rfl (mG p)) JC) (.inr rfl) q rfl⟩
def IZ(p:Rect n m rows)(W:Rect n m wr)(v:W9 rows)(C:∀i j,0<=mf wr i j)(x:0<n)(r:n<=4)(z:m<=4)(A:B<=4)(c d e g:Sv) :
  ∃l h f b,evSs G (JJ (k+3)) fu [.fo (.one 7) (.rng [.int 1,.call 29 [.bi .len [.var 1]]]) oC] (oT P rows wr n m B a 0 c d e g)=some (.nx (oT P rows wr n m B a (((2^n - 1)*((2^m - 1)*(B+1)):Nat):Int) l h f b)):=by
 have pn:=p32 (n:=n) JC;have y:=K0 (i:=7) (I:=λ j o=>∃c d e g,o=oT P rows wr n m B a ((j*((2^m - 1)*(B+1)):Nat):Int) c d e g) (2^n - 1) 1 (δ:=oT P rows wr n m B a 0 c d e g) (λ j hj o E=>by
  obtain⟨c,d,e,g,rfl⟩:=E;rw[show(1:Int)+_=((j+1:Nat):Int) by omega];obtain⟨h,f,b,w⟩:=IY (fu:=fu) (k:=k) (R:=j+1) p W v C x r z A JC JC _ d e g;exact⟨_,w,_,h,f,b,by rw[show((j*((2^m - 1)*(B+1)):Nat):Int)+_=(((j+1)*((2^m - 1)*(B+1)):Nat):Int) by rw[ft];omega]⟩) ⟨c,d,e,g,by rw[Nat.zero_mul];rfl⟩
 obtain⟨u,q,l,h,f,b,rfl⟩:=y;exact⟨l,h,f,b,D9 (aJ (k7 (f7 (lenT p (f6 rfl)) i9) rfl (mG r)) JC) (.inr rfl) q rfl⟩
end k62
end
noncomputable section
namespace k62
open PySem L2
def Ja(h:evSs G F fu [s] δ=some (.nx δ')):evS G F fu s δ=some (.nx δ'):=by
 have b:(match evS G F fu s δ with | some (.nx a)=>evSs G F fu [] a | o=>o)=some _:=h;cases q:evS G F fu s δ with
 | none=>rw[q]at b;cases b
 | some o=>
  rw[q]at b;cases o with
  | nx a=>exact b
  | rt d fr=>cases b
def Jb(a:n<=4)(b:m<=4)(c:B<=4):((fw B n m rows wr).map (·.1)).Nodup:=by
 have e:(fw B n m rows wr).map (·.1)=kys B m (2^n) 1 0:=(by show(tb3 _ _ _).map _=_;unfold tb3;rw[v7];exact List.map_id' _);rw[e];exact(fX (mN n a m b B c).1).imp λ h z=>by rw[z,IQ]at h;cases h
def Jc(h:JF e c (.lst ds)):evE G F (.bi .len [e]) δ=some (.ok (JP (ds.length:Int)) .strong):=by
 show Rs.thn _ _=_;rw[f7 h i9];rfl
def Jd(h:Rect n m rows)(W:Rect n m wr)(g:W9 rows)(q:∀i j,0<=mf wr i j)(l:0<n)(a:n<=4)(b:m<=4)(f:B<=4):run G T fu (k+4) 35 [.lst ((fw B n m rows wr).map q4),tT rows,rL wr,.int (B:Int)]=some (.v (dG k3 id (fw B n m rows wr)) false):=by
 let L:=fw B n m rows wr
 let P:DV:=.lst (L.map q4)
 have p:L.length<=1125:=by rw[eC a b f];exact mQ n a m b B f
 obtain⟨a',r⟩:=fill L [] .no (Jb a b f) (T9 (p) JD);obtain⟨c',d',e',g',o⟩:=IZ h W g q l a b f .no .no .no .no;rw[r9 rfl rfl]
 let F:=run G T fu (k+3)
 have w:p7 (evE G F (.var 0) (oS P rows wr B [] .no .no .no .no .no .no))=some (.ok (L.map q4) .strong):=by rw[f6 (d:=P) rfl];rfl
 exact t5 (x8 (o7 (or_f rfl (or_1 (IS a b f (f6 rfl))))) (i6 rfl (D9 w (.inl rfl) r (i6 (n6 g8 rfl) (i6 (Ja o) (x8 ((by refine o7 (x:=false) (cl:=.strong) ?_;rw[b_ne (f6 (n:=6) (d:=.int (((2^n - 1)*((2^m - 1)*(B+1)):Nat):Int)) rfl) (Jc (e:=.var 0) (ds:=L.map q4) (c:=.strong) (f6 rfl)),i0,show L.length=(2^n - 1)*((2^m - 1)*(B+1)) by rw[eC a b f,Nat.mul_assoc],aa])) (q0 rfl)))))))
def Je(h:∀r∈wr,∀x∈r,0<=x/\x<10^20)(i j:Nat):0<=mf wr i j:=by
 show 0<=(wr.getD i []).getD j 0;by_cases c:i<wr.length
 ·have a:=Y8 c;by_cases b:j<(wr.getD i []).length
  ·exact(h _ a _ (uU b)).1
  ·rw[D1,M0 JC];exact U7 0
 ·rw[D1 (l:=wr),M0 JC];exact U7 0
theorem we:∀a:on Int,deqs (iD a) (iD a)=true
 | []=>rfl
 | x::a=>by show((x==x)&&deqs (iD a) (iD a))=true;rw[we a,N8];rfl
theorem wf:∀w:on (on Int),deqs (w.map λ r=>.lst (iD r)) (w.map λ r=>.lst (iD r))=true
 | []=>rfl
 | r::w=>by show(deqs (iD r) (iD r)&&deqs _ _)=true;rw[wf w,we];rfl
theorem wg:∀w:on (on Int),DV.plains 59 (w.map λ r=>.lst (iD r))=true
 | []=>rfl
 | r::w=>by show(DV.plain 59 _&&DV.plains 59 _)=true;rw[wg w,Hc];rfl
def wj(e:JF a g (rL wr))(c:JF b f (rL wr)):evE G F (.cmp .NotEq a b) δ=some (.ok (.bl false) .strong):=by
 refine C4 e c ?_;have p:DV.plain 60 (rL wr)=true:=wg wr;have d:deq (rL wr) (rL wr)=true:=wf wr;show(if(DV.plain 60 _&&DV.plain 60 _)=true then some (!deq _ _)else none)=some false;rw[p,d];rfl
def Jf{L:T3}(e:evE G F a δ=some (.ok (.lst (L.map q4)) g))(c:evE G F b δ=some (.ok (.lst (L.map q4)) f)):evE G F (.cmp .Eq a b) δ=some (.ok (.bl true) .strong):=by
 refine C4 e c ?_;have p:DV.plain 60 (.lst _)=true:=mO L;have d:deq (.lst _) (.lst _)=true:=mP L;show(if(DV.plain 60 _&&DV.plain 60 _)=true then some (deq _ _)else none)=some true;rw[p,d];rfl
def ij(x:Str)(N:Nat):DV.plain N (.str x)=x.cps.all (· < 0x110000):=by cases N<;>(unfold DV.plain;rfl)
def ik(N:Nat):(DV.plain N (.str "end")=true/\deq (.str "end") (.str "end")=true)/\DV.plain N (.str "ask")=true/\deq (.str "ask") (.str "ask")=true:=by
 rw[ij,ij];decide +kernel
def wm(s:Bool)(N:Nat):DV.plain N (sd s)=true/\deq (sd s) (sd s)=true:=by
 cases s
 ·show DV.plain N (.str "column")=true/\deq _ _=true;rw[ij];decide +kernel
 ·show DV.plain N (.str "row")=true/\deq _ _=true;rw[ij];decide +kernel
theorem mT:∀(p:Pn) (N:Nat),p.deep<N->DV.plain N p.D=true/\deq p.D p.D=true
 | .fin w,N+1,_=>by
  constructor
  ·show(DV.plain N _&&(DV.plain N (.int w)&&true))=true;rw[(ik N).1.1,lY];rfl
  ·show(deq (.str "end") (.str "end")&&((w==w)&&true))=true;rw[(ik N).1.2,N8];rfl
 | .ask s c a b,N+1,h=>by
  have h':1+max a.deep b.deep<N+1:=h;have e:=mT a N JC;have d:=mT b N JC;constructor
  ·show(DV.plain N _&&(DV.plain N (sd s)&&(DV.plain N (.int c)&&(DV.plain N a.D&&(DV.plain N b.D&&true)))))=true;rw[(ik N).2.1,(wm s N).1,lY,e.1,d.1];rfl
  ·show(deq (.str "ask") (.str "ask")&&(deq (sd s) (sd s)&&(((c:Int)==(c:Int))&&(deq a.D a.D&&(deq b.D b.D&&true)))))=true;rw[(ik N).2.2,(wm s N).2,N8,e.2,d.2];rfl
def Jg{p:Pn}(hp:p.deep<50)(d:JF a f (.tup [.int v,p.D]))(c:JF b e (.tup [.int v,p.D])):evE G F (.cmp .Eq a b) δ=some (.ok (.bl true) .strong):=by
 refine C4 d c ?_;have q:=mT p 59 JC;show(if((DV.plain 59 (.int v)&&(DV.plain 59 p.D&&true))&&(DV.plain 59 (.int v)&&(DV.plain 59 p.D&&true)))=true then some ((v==v)&&(deq p.D p.D&&true))else none)=some true;rw[lY,q.1,q.2,N8];rfl
def Jh(hn:n<=4)(hm:m<=4)(p:Pn):rw2 n m rows wr p=pw JT (mf wr) p (2^n - 1) (2^m - 1):=by
 unfold rw2 pw;rw[←Ik JC JC]
theorem wq:∀L:T3,DV.immuts (vsG id L)=true
 | []=>rfl
 | q::L=>wq L
def Ji{xs:on Int}(h:xs.length=70):∃a:on Int,a.length=50/\cutD (xs.map DV.int) (some 20) none=a.map DV.int:=by
 refine⟨(xs.drop 20).take 50,by rw[W1,eT];omega,?_⟩;unfold cutD;have c:slIx (xs.map DV.int).length 0 (some 20)=20:=by rw[i0,h];rfl
 have b:slIx (xs.map DV.int).length (xs.map DV.int).length none=70:=by rw[i0,h];rfl
 rw[c,b,jg,List.map_drop]
def Jj(ns:on Int)(a9:ns.length<=63):run G T 500 60 39 [.scr ns]=some (.v (.bl true) false):=by
 obtain⟨n,m,j,J,M,m0,N,I,w9,et⟩:=HM (fu:=500) (k:=57) ns a9;obtain⟨A,W,hw,ew⟩:=ID (fu:=500) (k:=57) I J M N ns;have g0:=Je hw;obtain⟨c2,b3⟩:=dQ (fu:=500) (k:=58) ns 2;obtain⟨K,S,st⟩:=mq (fu:=500) (k:=58) c2 70 JD;obtain⟨b0,b5⟩:=fV (l:=K) (i:=17) JC (by rw[S];decide);obtain⟨b1,b4⟩:=fV (l:=K) (i:=18) JC (by rw[S];decide);obtain⟨B,O,eB⟩:∃B:Nat,B<=4/\b0%5=(B:Int):=⟨(b0%5).toNat,by omega,by omega⟩;obtain⟨zs,hz,Y⟩:=Ji S;obtain⟨a8,a1⟩:=HP (fu:=500) (k:=58) I J m0 JC JC;obtain⟨p0,U,ed⟩:=mz (fu:=500) (xs:=zs) JC 59 4 0 JD;obtain⟨q,hq,ef⟩:=mB (fu:=500) (ws:=j.flatten) (by rw[a8];exact Nat.mul_pos J m0) p0 59 (T9 U JD);have q4d:q.deep<=4:=k6 hq U;have hl:(fw B n m j A).length<=1125:=by rw[eC M N O];exact mQ n M m N B O
 have p1:2<=2^n:=Q7 (n:=2) JD J;have p2:2<=2^m:=Q7 (n:=2) JD m0;have b2:fw B n m j A≠[]:=λ z=>by have:=eC (rows:=j) (wr:=A) M N O;rw[z]at this;have h3:0<(2^n - 1)*(2^m - 1)*(B+1):=Nat.mul_pos (Nat.mul_pos JC JC) JC;rw[←this]at h3;exact absurd h3 JD
 have ep:=Im (fu:=500) (k:=53) I W w9 g0 J M N O b2 (k6 hl JD);have eo:=Jd (fu:=500) (k:=55) I W w9 g0 J M N O;obtain⟨p,Z,eb⟩:=Ij (fu:=500) (k:=49) I W w9 g0 J M m0 N O;have eg:=IN (fu:=500) (k:=55) (B:=B) b1 q JC JC;have ei:=mL (fu:=500) p B 59 Z.1 Z.2.1 (by have:=Z.2.1;omega);have pd:p.deep<=4:=k6 Z.2.1 O;have ea:=mK (fu:=500) (k:=57) (p:=p) I W J JC JC JC;rw[Jh M N,Z.2.2]at ea;have er:=vt (fu:=500) (k:=56) (p:=q) I W JC JC JC JC;have eq:=mK (fu:=500) (k:=57) (p:=q) I W J JC JC JC;have lk:=Z5 (B:=B) (rows:=j) (wr:=A) (n:=n) (m:=m) (r:=2^n - 1) (c:=2^m - 1) (l:=B) JC JC JC JC (i8 _);generalize bW (mf j) (mf A) B (2^n - 1) (2^m - 1)=v at eb ea lk;generalize rw2 n m j A q=u at er eq;generalize j.flatten=ws at a1 ef;have a7:DV.immuts (vsG id (fw B n m j A))=true:=wq _;have hL:asDc (dG k3 id (fw B n m j A))=some (ksG k3 (fw B n m j A),vsG id (fw B n m j A)):=rfl
 let F:=run G T 500 59
 let P:DV:=.lst ((fw B n m j A).map q4)
 let D:Sv->Sv->Sv->Sv->Sv->Sv->Sv->on Sv:=λ a b c d e f g=>[.val (.scr ns),.val (tT j),.val (rL A),.val (.lst (K.map DV.int)),.val (JP (B:Int)),.val (rL A),a,b,c,d,e,f,g]
 rw[r9 (fd:=lW) rfl rfl];have a0:evE G F (.call 18 [.var 0,.int 2]) [.val (.scr ns),.val (tT j),.val (rL A),.no,.no,.no,.no,.no,.no,.no,.no,.no,.no]=some (.ok (JP c2) .strong):=k7 (fr:=false) (l:=[(.scr ns,.strong),(JV ((2:Nat):Int))]) rfl rfl b3;have s3:=k7 (G:=G) (F:=F) (f:=19) (fr:=true) (l:=[(JV c2),(JV ((70:Nat):Int))]) (f7 a0 (f7 (g8 (i:=70)) i9)) rfl st;have s4:evE G F (.bin .Mod (JM 3 17) (.int 5)) [.val (.scr ns),.val (tT j),.val (rL A),.val (.lst (K.map DV.int)),.no,.no,.no,.no,.no,.no,.no,.no,.no]=some (.ok (JP (B:Int)) .strong):=by have:=E2 (n9 (G:=G) (F:=F) (δ:=[.val (.scr ns),.val (tT j),.val (rL A),.val (.lst (K.map DV.int)),.no,.no,.no,.no,.no,.no,.no,.no,.no]) (cx:=.strong) (a:=.var 3) (b:=.int 17) (f6 rfl) g8 b5) (g8 (i:=5)) JD;rw[eB]at this;exact this
 have s5:evE G F (.comp (.bi .list [.var 0]) (.one 0) (.var 2) [none]) [.val (.scr ns),.val (tT j),.val (rL A),.val (.lst (K.map DV.int)),.val (JP (B:Int)),.no,.no,.no,.no,.no,.no,.no,.no]=some (.ok (rL A) .fresh):=
  N4 (l:=A) (h:=λ r=>.lst (iD r)) (f:=λ r=>.lst (iD r)) (cl:=.strong) rfl JD (by rw[W.1];exact k6 (show n<=1000 by omega) JD) λ r _=>⟨[.val (.lst (iD r))],.fresh,rfl,rfl,rfl⟩
 have s6:evE G F (.call 12 [.var 1,.var 5,.var 4]) (D .no .no .no .no .no .no .no)=some (.ok P .fresh):=k7 (fr:=true) (l:=[(tT j,.strong),(rL A,.strong),(JV (B:Int))]) rfl rfl ep;have s7:evE G F (.call 35 [.var 6,.var 1,.var 2,.var 4]) (D (.own P) .no .no .no .no .no .no)=some (.ok (dG k3 id (fw B n m j A)) .weak):=jT (fr:=false) (l:=[(P,.top),(tT j,.strong),(rL A,.strong),(JV (B:Int))]) rfl rfl eo;have i7:stro (dG k3 id (fw B n m j A)) .weak=true:=a7;generalize hX:dG k3 id (fw B n m j A)=X at s7 i7 hL eo;have x7:cmpD .Is X .non=some false:=by rw[←hX];rfl
 have sl:evE G F (.slf (.var 3) (JP 20)) (D (.own P) (.val X) .no .no .no .no .no)=some (.ok (.lst (zs.map DV.int)) .fresh):=(by show(slD (.lst (K.map DV.int)) (some 20) none).map (λ d=>Re.ok d .fresh)=_;show some (Re.ok (.lst (cutD (K.map DV.int) (some 20) none)) .fresh)=_;rw[Y]);have a3:evE G F (.call 21 [.var 1]) (D (.own P) (.val X) .no .no .no .no .no)=some (.ok (.lst (ws.map DV.int)) .strong):=k7 (fr:=false) (l:=[(tT j,.strong)]) rfl rfl a1;have s8:=k7 (fr:=false) (l:=[(p0.D,.strong),(.lst (ws.map DV.int),.strong)]) (f7 (k7 (f7 sl (f7 g8 (f7 g8 i9))) rfl ed) (f7 a3 i9)) rfl ef
 let D8:=D (.own P) (.val X) (.val q.D)
 have g1:evE G F (.call 38 [.ix (.var 3) (JP 18),.var 4,.var 8]) (D8 .no .no .no .no)=some (.ok (.bl true) .strong):=k7 (fr:=false) (l:=[(JV b1),(JV (B:Int)),(q.D,.strong)]) (f7 (n9 (cx:=.strong) (f6 rfl) g8 b4) (f7 (f6 rfl) (f7 (f6 rfl) i9))) rfl eg;have t1:tstD (evE G F (.or [.cmp .Is (.var 7) (.non),.cmp .NotEq (.var 5) (.var 2),.not (.call 38 [.ix (.var 3) (JP 18),.var 4,.var 8])]) (D8 .no .no .no .no))=some (.ok false):=o7 (or_f (C4 (t:=false) (cy:=.strong) (f6 (n:=7) (d:=X) rfl) rfl x7) (or_f (wj (f6 rfl) (f6 rfl)) (or_1 (bv g1))));have R:=λ {e x H} S h=>by have c:evE G F (.call 29 [e]) H=some (.ok (JP ((2^x:Nat):Int)) .strong):=k7 (fr:=false) (l:=[(JV (x:Int))]) (f7 h i9) rfl (mG (k:=58) S);have:=G4 c (g8 (G:=G) (F:=F) (i:=1));have o:1<=2^x:=eQ;rw[show((2^x:Nat):Int) - 1=((2^x - 1:Nat):Int) by omega]at this;exact this
 have s9:evE G F (.dix (.var 7) (.tup [.bin .Sub (.call 29 [.bi .len [.var 1]]) (.int 1),.bin .Sub (.call 29 [.bi .len [.ix (.var 1) (.int 0)]]) (.int 1),.var 4])) (D8 .no .no .no .no)=some (.ok (.int v) .strong):=
  V6 (q:=(2^n - 1,2^m - 1,B)) (ν:=id) (L:=fw B n m j A) P0 hL (f6 rfl) (D0 (f7 (R M (lenT I (f6 rfl))) (f7 (R N (T6 I J (f6 rfl))) (f7 (f6 rfl) i9))) (show 3<=n5 by decide) rfl) lk
 let Q:DV:=.tup [.int v,p.D]
 have a6:evE G F (.call 11 [.var 1,.var 5,.var 4]) (D8 (JE v) .no .no .no)=some (.ok Q .strong):=k7 (fr:=false) (l:=[(tT j,.strong),(rL A,.strong),(JV (B:Int))]) rfl rfl eb
 let C:=D8 (JE v) (.val Q)
 have x0:∀{f g:Sv},evE G F (JM 10 0) (C f g)=some (.ok (.int v) .strong):=λ {f g}=>n9 (cx:=.strong) (f6 rfl) g8 rfl;have x1:∀{f g:Sv},evE G F (JM 10 1) (C f g)=some (.ok p.D .strong):=λ {f g}=>n9 (cx:=.strong) (f6 rfl) g8 rfl;have E:∀{e:ME} {x:Int} {H:on Sv},evE G F e H=some (JR (.int x))->evE G F (.not (.call 17 [e])) H=some (.ok (.bl false) .strong):=λ {e x H} h=>bv (k7 (fr:=false) (l:=[(JV x)]) (f7 h i9) rfl (eA (k:=58) x));have ne:∀{a b:ME} {x:Int} {H:on Sv},evE G F a H=some (JR (.int x))->evE G F b H=some (JR (.int x))->evE G F (.cmp .NotEq a b) H=some (.ok (.bl false) .strong):=λ {a b x H} ha hb=>by rw[b_ne ha hb,aa]
 have b8:evE G F (.call 25 [.ix (.var 10) (.int 1),.var 4]) (C .no .no)=some (.ok (.bl true) .strong):=k7 (fr:=false) (l:=[(p.D,.strong),(JV (B:Int))]) (f7 x1 (f7 (f6 rfl) i9)) rfl ei;have b7:evE G F (.call 36 [.var 1,.var 2,.ix (.var 10) (.int 1)]) (C .no .no)=some (.ok (.int v) .strong):=k7 (fr:=false) (l:=[(tT j,.strong),(rL A,.strong),(p.D,.strong)]) (f7 (f6 rfl) (f7 (f6 rfl) (f7 x1 i9))) rfl ea;have t3:tstD (evE G F (.or [.not (.call 25 [.ix (.var 10) (.int 1),.var 4]),.cmp .NotEq (.call 36 [.var 1,.var 2,.ix (.var 10) (.int 1)]) (.var 9),.cmp .NotEq (.var 5) (.var 2)]) (C .no .no))=some (.ok false):=o7 (or_f (bv b8) (or_f (ne b7 (f6 rfl)) (or_1 (wj (f6 rfl) (f6 rfl)))));have a5:evE G F (.call 10 [.var 1,.var 5,.var 8]) (C .no .no)=some (.ok (.int u) .strong):=k7 (fr:=false) (l:=[(tT j,.strong),(rL A,.strong),(q.D,.strong)]) rfl rfl er;have a2:evE G F (.call 36 [.var 1,.var 2,.var 8]) (C (JE u) .no)=some (.ok (.int u) .strong):=k7 (fr:=false) (l:=[(tT j,.strong),(rL A,.strong),(q.D,.strong)]) rfl rfl eq;have t4:tstD (evE G F (.or [.not (.call 17 [.var 11]),.cmp .NotEq (.var 11) (.call 36 [.var 1,.var 2,.var 8])]) (C (JE u) .no))=some (.ok false):=o7 (or_f (E (x:=u) (f6 rfl)) (or_1 (ne (f6 rfl) a2)));have a4:evE G F (.bi .list [.var 6]) (C (JE u) .no)=some (.ok P .fresh):=rfl
 let DZ:on Sv:=[.val (.scr ns),.val (tT j),.val (rL A),.val (.lst (K.map DV.int)),.val (JP (B:Int)),.val (rL A),.own (.lst []),.val X,.val q.D,.val (.int v),.val Q,.val (.int u),.val P]
 have z1:evE G F (.call 12 [.var 1,.var 2,.var 4]) DZ=some (.ok P .fresh):=k7 (fr:=true) (l:=[(tT j,.strong),(rL A,.strong),(JV (B:Int))]) rfl rfl ep;have z2:evE G F (.call 11 [.var 1,.var 2,.var 4]) DZ=some (.ok Q .strong):=k7 (fr:=false) (l:=[(tT j,.strong),(rL A,.strong),(JV (B:Int))]) rfl rfl eb;have b6:=T4 (Jf z1 (f6 (n:=12) (d:=P) rfl)) (Y9 (Jg JC z2 (f6 (n:=10) (d:=Q) rfl)));exact t5 (i6 (n6 (cl:=.strong) (k7 (fr:=false) (l:=[(.scr ns,.strong),(JV 3),(JV 4)]) rfl rfl et) rfl) (i6 (n6 (cl:=.fresh) (k7 (fr:=true) (l:=[(.scr ns,.strong),(tT j,.strong)]) rfl rfl ew) rfl) (i6 (n6 (cl:=.fresh) s3 rfl) (i6 (n6 s4 rfl) (i6 (n6 s5 rfl) (i6 (W8 s6) (i6 (n6 s7 i7) (i6 (n6 s8 (by rfl)) (x8 t1 (i6 (n6 s9 rfl) (i6 (n6 a6 rfl) (x8 (o7 (or_f rfl (or_f (ne (Y7 (f6 rfl)) g8) (or_f (E x0) (or_1 (ne x0 (f6 rfl))))))) (x8 t3 (i6 (n6 a5 rfl) (x8 t4 (i6 (n6 a4 rfl) (i6 (δ':=DZ) rfl (q0 (u7 (cl:=.strong) b6)))))))))))))))))))
open PySem.W PySem.Spec PyProof.Rows
def lnS(h:b.length=n+1):∃a r,b=a::r/\r.length=n:=by cases b with | nil=>cases h | cons a r=>exact⟨a,r,rfl,Nat.succ.inj h⟩
def ln0(h:a.length=0):a=[]:=Z7.mp h
def ln1{α:Type}{us:on α}(h:us.length=1):∃a0,us=[a0]:=by obtain⟨_,_,rfl,h0⟩:=lnS h;obtain rfl:=ln0 h0;exact⟨_,rfl⟩
def ln2{α:Type}{us:on α}(h:us.length=2):∃a0 a1,us=[a0,a1]:=by obtain⟨_,_,rfl,h0⟩:=lnS h;obtain⟨_,_,rfl,h1⟩:=lnS h0;obtain rfl:=ln0 h1;exact⟨_,_,rfl⟩
def ln3{α:Type}{us:on α}(h:us.length=3):∃a0 a1 a2,us=[a0,a1,a2]:=by obtain⟨_,_,rfl,h0⟩:=lnS h;obtain⟨_,_,rfl,h1⟩:=lnS h0;obtain⟨_,_,rfl,h2⟩:=lnS h1;obtain rfl:=ln0 h2;exact⟨_,_,_,rfl⟩
def ln4{α:Type}{us:on α}(h:us.length=4):∃a0 a1 a2 a3,us=[a0,a1,a2,a3]:=by obtain⟨_,_,rfl,h0⟩:=lnS h;obtain⟨_,_,rfl,h1⟩:=lnS h0;obtain⟨_,_,rfl,h2⟩:=lnS h1;obtain⟨_,_,rfl,h3⟩:=lnS h2;obtain rfl:=ln0 h3;exact⟨_,_,_,_,rfl⟩
def ln5{α:Type}{us:on α}(h:us.length=5):∃a0 a1 a2 a3 a4,us=[a0,a1,a2,a3,a4]:=by obtain⟨_,_,rfl,h0⟩:=lnS h;obtain⟨_,_,rfl,h1⟩:=lnS h0;obtain⟨_,_,rfl,h2⟩:=lnS h1;obtain⟨_,_,rfl,h3⟩:=lnS h2;obtain⟨_,_,rfl,h4⟩:=lnS h3;obtain rfl:=ln0 h4;exact⟨_,_,_,_,_,rfl⟩
def fn:on Str:=fnl
def bl:on Str:=bll
def cl:on Str:=cll
def ok39:okD fn bl cl lW ["_law_script","_law_table","_law_weights_here","_law_xs","_law_bits","_law_handed","_law_paper","_law_known","_law_plan","_law_every","_law_found","_law_told","_law_held"] ["_law_script"] (top 51)=true:=by decide +kernel
abbrev ck(P:Params)(x:Str)(f:Jn)(i:Nat)(dV pm:Jl)(cd:Jn):Prop:=(nsIn (kK P) mainGlobals x,(kK P).lookup f,codeIn (kK P) (.ref cd) x,keepIn (kK P) (.ref f))=(some (some (.ref f)),some (fo x i dV pm cd),true,true)
def ck4{P:Params}{x:Str}{f:Jn}{i:Nat}{dV pm:Jl}{cd:Jn}(q:ck P x f i dV pm cd):nsIn (kK P) mainGlobals x=some (some (.ref f))/\(kK P).lookup f=some (fo x i dV pm cd)/\codeIn (kK P) (.ref cd) x=true/\keepIn (kK P) (.ref f)=true:=by
 obtain⟨a,b⟩:=fy q;obtain⟨b,c⟩:=fy b;exact⟨a,b,fy c⟩
def kN(P:Params):((kK P).map (·.1)).Nodup:=by rw[show(kK P).map (·.1)=zA by kernel_rfl];decide +kernel
def kM(P:Params):((A5 (kK P)).map (·.1)).Nodup:=by rw[show(A5 (kK P)).map (·.1)=kT.map (·.1) by kernel_rfl];decide +kernel
def zz(P:Params):bl.map (nsIn (kK P) mainGlobals)=bl.map λ _=>some none:=by kernel_rfl
abbrev zd(j:Nat):Rw:=zD.getD j ⟨"",0,0,0,0,false,0,0,0⟩
def sk{w:Jr}{h:Jo}{mg:Str->Jk Jl}(j:Nat){d:FD}(N:on Str)(X:(kK w.params).In h)(Ns:h.Ns mainGlobals mg)(ok:okD fn bl cl d N (N.take d.np) (top (zd j).i)=true:=by decide +kernel)(q:ck w.params (zd j).n ((zd j).c+1) (zd j).i .none (zP (zd j).m) (zd j).c:=by kernel_rfl)(hb:∀(kV doc pm:Jl) (an:Jk Jn) (cdv ct:Jl) (us:on Jl),us.length=(N.take d.np).length->bindArgs (fnOf (zd j).n (zd j).n (al (top (zd j).i)) (G9 (top (zd j).i)) (t8 (top (zd j).i)) .none kV doc pm an cdv ct) ⟨us,[]⟩=pure ((N.take d.np).zip us):=by(intro _ _ _ _ _ _ us hl;first | (obtain⟨_,rfl⟩:=ln1 hl;rfl) | (obtain⟨_,_,rfl⟩:=ln2 hl;rfl) | (obtain⟨_,_,_,rfl⟩:=ln3 hl;rfl) | (obtain⟨_,_,_,_,rfl⟩:=ln4 hl;rfl) | (obtain⟨_,_,_,_,_,rfl⟩:=ln5 hl;rfl)))(dq:dqB (zd j).n (t8 (top (zd j).i)).names=true:=by decide +kernel):Stands (kK w.params) mg fn bl cl d (zd j).n ((zd j).c+1) (fnOf (zd j).n (zd j).n (al (top (zd j).i)) (G9 (top (zd j).i)) (t8 (top (zd j).i)) .none .none .none (zP (zd j).m) none (.ref (zd j).c) .none) (N.take d.np):=by
 obtain⟨a,l,c,k⟩:=ck4 q;exact lP X Ns (gR ok).1 (.inl (gR ok).2) a l c k hb dq
open PySem.W
def all_mk{l:OpenLaw}{w:Jr}{h:Jo}{mg:Str->Jk Jl}{fa:Jn}(X:(kK w.params).In h)(Ns:h.Ns mainGlobals mg)(hfa:mg "law" = some (.ref fa)):∃fd:FuncData,(∀(s:Jm) (v:Jl),BindsTo s fd ⟨[v],[]⟩ [("_law_script",v)])/\∀base:Jo,(kK w.params).In base->base.Ns mainGlobals mg->FnOk l.prog w (kK w.params) mg base CX0 60 fa fd ["_law_script"] (spS (kK w.params)):=by
 obtain⟨a37,l37,c37,k37⟩:=ck4 (P:=w.params) (x:="_law_refused") (f:=307) (i:=49) (dV:=.none) (pm:=(.str "law_talkleast_k62_weight_papers" 417)) (cd:=306) (by kernel_rfl);have S37:Stands (kK w.params) mg fn bl cl ug _ _ _ _:=lP (N:=["_law_table","_law_weights_here","_law_bits","_law_paper","_law_caught","error"]) (ps:=["_law_table","_law_weights_here","_law_bits","_law_paper"]) (st:=top 49) X Ns (by decide +kernel) (.inr ⟨_,rfl,by decide +kernel,by refine⟨_,_,_,_,_,_,_,_,_,_,_,_,_,_,_,_,_,_,_,_,_,_,_,_,_,_,_,_,_,_,_,_,_,_,_,_,_,_,_,_,_,_,?_,rfl⟩;decide +kernel⟩) a37 l37 c37 k37 λ _ _ _ _ _ _ us hl=>by obtain⟨_,_,_,_,rfl⟩:=ln4 hl;rfl
 obtain⟨a39,l39,c39,k39⟩:=ck4 (P:=w.params) (x:="law") (f:=317) (i:=51) (dV:=.none) (pm:=(.str "law_talkleast_k62_weight_papers" 417)) (cd:=316) (by kernel_rfl);have S39:=lP X Ns (gR ok39).1 (.inl (gR ok39).2) a39 l39 c39 k39 λ _ _ _ _ _ _ us hl=>by obtain⟨_,rfl⟩:=ln1 hl;rfl
 have e:=hfa.symm.trans (mg_of X Ns a39);cases e;have HC:∀x d,G.con.lookup x=some d->∃u v,mg x=some u/\RelV v u/\∀H,Rep ⟨kK w.params,mg⟩ H d v:=by
  intro x d h;have g0:nsIn (kK w.params) mainGlobals "MOST_WEIGHED" = some (some (.int 4 346)):=by kernel_rfl
  exact Gx ⟨_,.int _,mg_of X Ns g0,⟨_,rfl⟩,λ H=>A7.mpr rfl⟩ (Gw) x d h
 have x0:nsIn (kK w.params) mainGlobals "TooGreat" = some (some (.ref 61)):=by kernel_rfl
 have x1:nsIn (kK w.params) mainGlobals "TalkError" = some (some (.ref 24)):=by kernel_rfl
 have x2:nsIn (kK w.params) mainGlobals "NoTable" = some (some (.ref 37)):=by kernel_rfl
 have x3:nsIn (kK w.params) mainGlobals "NoCard" = some (some (.ref 49)):=by kernel_rfl
 have HX:XF (kK w.params) mg 61:=⟨mg_of X Ns x0,⟨_,_,_,[.type "ValueError",.type "Exception",.type "BaseException",.type "object"],PySem.F.excBase_ValueError,_,_,_,_,_,_,_,_,_,_,_,_,_,_,_,_,rfl,by kernel_rfl,by kernel_rfl,by kernel_rfl⟩,by constructor<;>kernel_rfl,⟨_,mg_of X Ns x1,by kernel_rfl⟩,by kernel_rfl,by kernel_rfl,⟨_,mg_of X Ns x2,by kernel_rfl⟩,⟨_,mg_of X Ns x3,by kernel_rfl⟩⟩;have HSS:HS (kK w.params) mg fn bl cl T fn:=(r6 (sk 0 ["thing","least","most"] X Ns) (r6 (sk 1 ["table","rows","columns"] X Ns) (r6 (sk 2 ["cards","size"] X Ns) (r6 (sk 3 ["cards"] X Ns) (r6 (sk 4 ["table","rows","columns"] X Ns) (r6 (sk 5 ["table","words","row"] X Ns) (r6 (sk 6 ["rows","columns","by_rows","by_columns"] X Ns) (r6 (sk 7 ["cards"] X Ns) (r6 (sk 8 ["plan","row","column","bits","place","card","bit"] X Ns) (r6 (sk 9 ["plan","row","column"] X Ns) (r6 (sk 10 ["table","weights","plan","total","row","words","column","word"] X Ns) (r6 (sk 11 ["table","weights","bits","numbers","whole","plan_of"] X Ns) (r6 (sk 12 ["table","weights","bits"] X Ns) (r6 (sk 13 ["table","weights","bits","numbers","rows","columns","word","left","ways"] X Ns) (r6 (sk 14 ["numbers","way","left"] X Ns) (r6 (sk 15 ["table","weights","rows","columns"] X Ns) (r6 (sk 16 ["table","weights","rows","columns","word","total","row"] X Ns) (r6 (sk 17 ["_law_found"] X Ns) (r6 (sk 18 ["_law_script","_law_k"] X Ns) (r6 (sk 19 ["_law_cell","_law_many","_law_found","_law_number","_law_k"] X Ns) (r6 (sk 20 ["_law_script","_law_start","_law_most","_law_xs","_law_many","_law_wide","_law_top","_law_words_here","_law_k"] X Ns) (r6 (sk 21 ["_law_table","_law_words_here","_law_row"] X Ns) (r6 (sk 22 ["_law_xs","_law_at","_law_room","_law_number","_law_no","_law_yes"] X Ns) (r6 (sk 23 ["_law_plan","_law_words_here"] X Ns) (r6 (sk 24 ["_law_plan","_law_row","_law_column","_law_card"] X Ns) (r6 (sk 25 ["_law_plan","_law_room"] X Ns) (r6 (sk 0 ["thing","least","most"] X Ns) (r6 (sk 0 ["thing","least","most"] X Ns) (r6 (sk 0 ["thing","least","most"] X Ns) (r6 (sk 26 ["_law_many","_law_found","_law_k"] X Ns) (r6 (sk 27 ["_law_some"] X Ns) (r6 (sk 28 ["_law_rows","_law_columns","_law_found"] X Ns) (r6 (sk 29 ["_law_script","_law_table","_law_xs","_law_top","_law_weights_here","_law_r","_law_row","_law_c","_law_number"] X Ns) (r6 (sk 30 ["_law_table","_law_weights_here","_law_rows","_law_columns","_law_by_word","_law_r","_law_c"] X Ns) (r6 (sk 31 ["_law_known","_law_rows","_law_columns","_law_bits","_law_due_here","_law_one","_law_other","_law_left"] X Ns) (r6 (sk 32 ["_law_paper","_law_table","_law_weights_here","_law_bits","_law_known","_law_row","_law_every","_law_rows","_law_columns","_law_many","_law_due_here"] X Ns) (r6 (sk 33 ["_law_table","_law_weights_here","_law_plan","_law_found","_law_r","_law_c"] X Ns) (r6 S37 (r6 (sk 35 ["_law_number","_law_bits","_law_plan","_law_shape","_law_table","_law_weights_here","_law_told"] X Ns) (r6 S39 Gu))))))))))))))))))))))))))))))))))))))));refine⟨_,λ s v=>.of_eq rfl,λ base _ _=>Gy (T:=T) (G:=G) (fu:=500) rfl HSS (λ x hx=>mg_none_of X Ns (List.map_inj_left.mp (zz _) x hx)) HC (i:=39) rfl rfl S39 (λ _=>⟨⟨rfl,rfl,rfl⟩,by decide,λ i d x qual st fa fd _ _ _ F=>GA (K:=kK w.params) (by kernel_rfl) F⟩) (by unfold T;repeat' (first | (refine List.forall_mem_cons.mpr ⟨?_,?_⟩) | exact Or.inl rfl | exact Or.inr rfl | exact λ _ h=>nomatch h)) HX JD Jj⟩
end k62
open PySem PySem.W PyProof.Rows
set_option maxRecDepth 100000 in
set_option maxHeartbeats 0 in
theorem PySem.Challenge.cw_talkleast_k62_weight_papers_holds : PySem.Challenge.rw_talkleast_k62_weight_papers.Holds := by
 refine holds_law (by kernel_rfl) λ said => ?_
 refine holds_open (q := k62.kQ) (loose := k62.kL) (Xt := λ s => xlAt k62.kQ [] s && recOk (RowW.records (OpenRow.toRowW (OpenLaw.row PySem.Challenge.rw_talkleast_k62_weight_papers))) s) (XP := XL k62.kQ []) (Yf := (kHook k62.kAll k62.zB k62.kE).obs) (Ya := (kHook k62.kAll k62.zB k62.kE).val) (YP := (kHook k62.kAll k62.zB k62.kE).says) (N := 4344) k62.kLeft (kHook k62.kAll k62.zB k62.kE).of (kHook k62.kAll k62.zB k62.kE).keeps (λ s e => xl_of s (J9.mp e).1) XL.keeps (by rfl) (by rfl) (by rfl) (λ s e => recFacts_of (J9.mp e).2) (by rfl) said (by decide +kernel) ⟨rfl, rfl, rfl, rfl, rfl, by decide +kernel⟩ ?hw ?hc
 case hw => w_witness2
 exact L2.walkE (l := PySem.Challenge.rw_talkleast_k62_weight_papers) (k := 60) (p := "_law_script") rfl rfl ⟨rfl, by decide, by decide⟩ (λ w h Y => (L2.in_app (kIn_of Y) (by kernel_rfl)).1) (λ w h Y => ⟨L2.htb_of (T := k62.kT) (L2.in_app (kIn_of Y) (by kernel_rfl)).1 (L2.in_app (kIn_of Y) (by kernel_rfl)).2 (k62.kN _) (by kernel_rfl), k62.kM _⟩) λ w mg fa h KX G hmg => k62.all_mk KX G hmg
end

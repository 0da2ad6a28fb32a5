import PyProof.Rows.All
import Wide.All
import OpenK.AllK
import PySem.Challenge.RW_talkleast_k24_ends_papers_and_plans
set_option compiler.extract_closed false
set_option genSizeOf false
set_option genInjectivity false
set_option bootstrap.genMatcherCode false
set_option Elab.async false
set_option linter.all false
set_option maxRecDepth 100000
set_option maxHeartbeats 4000000
set_option hygiene false
local macro_rules|`(KE)=>`((by omega))|`(KL)=>`((by decide))|`(KN)=>`((model prog w))|`(KO)=>`((model X.prog X.w))|`(KP)=>`((by intro z;cases z))|`(KQ)=>`((flip m rows))|`(KS)=>`((by simp))|`(KZ)=>`((dE X.D δ q))|`(Ld)=>`(((s.heap.update a (Obj.mapSeq λ _=>(#[]:Kx Ks))).push (seqObj "tuple" vs.toArray 0)))|`(Le)=>`(on (on Int))|`(Lf)=>`((FI rows))|`(Lg)=>`((cxX P w K mg base N qual scope f cd A outer s H E))|`(Lh)=>`((R.hid.mono s1))|`(Lj)=>`((mf rest))|`(Lk)=>`(⟨N,(u9 st).names,fn,bl,cl,true,true,cloB d.clo fn bl cl⟩)|`(Lm)=>`((Same.refl H))|`(Ln)=>`((q0 X.env.cells sc.names []))|`(Lo)=>`(Nat->on DV->Kr Ou)|`(Ls)=>`((.ref s.heap.objs.size))|`(Lu)=>`((x==("__debug__" : Str)))|`(Lz)=>`((λ _ _=>rfl))|`(LB)=>`(∀i x v,N[ps.length+i]? = some x->ws[i]? = some v->∃c u,cl.lookup x=some c/\s.heap.IsCell c (some u)/\RelV v u)|`(LD)=>`((l.all λ p=>p.2 == .strong||p.2 == .fresh))|`(LF)=>`(on (Ku×Obj))|`(LG)=>`(Rect n m rows)|`(LI)=>`((λ z=>nomatch z))|`(LJ)=>`((.comp (.bin .Add (.bin .Add (.slt (.var 0) (.var 1)) (.lst [.ix (.var 0) (.var 2)])) (.slf (.var 0) (.var 1))) (.one 0) (.var 3) [none,some 5,some 6]))|`(LK)=>`((congrArg C t.2))|`(LL)=>`((.bl false))|`(LN)=>`((∀b o,s.heap.get? b=some o->h'.get? b=some o))|`(LO)=>`(∀y∈sc.names,y.2=NameKind.free->∃a,X.env.cells.lookup y.1=some a)|`(LP)=>`((seqObj "list" #[] 0))|`(LS)=>`(∀(j i:Nat),fr[j]? = some i->∃y,m.N[m.np+j]? = some y/\X.N[i]? = some y/\(X.env.kindOf y=some .cell\/X.env.kindOf y=some .free))|`(LU)=>`((by decide +kernel))|`(LV)=>`(⟨K5 sg tn fr,cp.sc.names,sg.fn,sg.bl,sg.cl,false,false,noCo⟩)|`(LX)=>`(⟨K5 sg tn fr,c.sc.names,sg.fn,sg.bl,sg.cl,false,false,noCo⟩)|`(LY)=>`(⟨_,rfl⟩)|`(LZ)=>`((v6 X scope L (D+1) j a H fp))|`(Ma)=>`(A.handled=none)|`(Mb)=>`((Re.thn ra λ x _=>Re.thn rb λ y _=>(cmpD op x y).map λ k=>.ok (.bl k) .strong))|`(Mc)=>`((tT rows))|`(Me)=>`(evEs G F es δ=some (.ok l))|`(Mh)=>`((X.env.qual ++ "<lambda>"))|`(Mj)=>`((d.push {cls:=.type "tuple",data:=.seq #[.int k a,x]}))|`(Mk)=>`(X.calm=true)|`(Mm)=>`((rst m rows))|`(Mn)=>`((by grind))|`(Mp)=>`((flip m (fsts rows)))|`(Mv)=>`((.inl rfl))|`(Mw)=>`(⟨4,by decide,by decide,rfl⟩)|`(My)=>`((model P w))|`(Mz)=>`((by kernel_rfl))|`(MA)=>`((f.2 b (q9 (t7 (k9 e) I.ok.above))))|`(MB)=>`((R.mono s1))|`(MF)=>`((by size_fits))|`(MG)=>`((q ++ ".<locals>." ++ "<lambda>"))|`(MH)=>`((dA X.D δ q))|`(MI)=>`(t.fits es.size=true)|`(MJ)=>`((s.heap.push {cls:=.type "range",data:=.fields #[.int a t,.int d u,.int 1 v]}))|`(MK)=>`((x,NameKind.free))|`(MM)=>`((.frz o (.own c)))
local macro_rules|`(KM $a $b $c)=>`(evE G F $a δ=some (.ok $c $b))|`(KR $a)=>`(Inv X $a σ H s)|`(KU $a)=>`((.val (.int $a)))|`(KW $a $b)=>`((.ix (.var $a) $b))|`(KY $a)=>`((run G T fu $a))|`(La $a)=>`((evE G F $a δ))|`(Lb $a)=>`((List.range $a))|`(Lc $a)=>`((.ok $a .strong))|`(Li $a)=>`((.int $a))|`(Ll $a)=>`((L2.wo $a H))|`(Lq $a)=>`((by simpa using $a))|`(Lr $a)=>`((.bi .len [.ix (.var $a) (.int 0)]))|`(Lv $a)=>`((.bi .len [.var $a]))|`(Lw $a)=>`((.lst $a))|`(Lx $a $b)=>`((.bin .BitAnd (.bin .RShift $b (.var $a)) (.int 1)))|`(Ly $a $b)=>`(evE G F $a δ=some $b)|`(LC $a)=>`((.Call (.Name $a p) (e::es) [] pos))|`(LH $a $b)=>`((.call $a [.var $b]))|`(LM $a)=>`((g7 (f6 rfl) $a))|`(LQ $a)=>`(⟨L7.mpr $a,L7.mpr $a⟩)|`(LR $a)=>`((.comp (.comp $a (.one 0) (.rng [.var 1]) [none,some 0]) (.one 0) (.rng [.var 4]) [none,some 5]))|`(LW $a)=>`(Hid O W $a H)|`(Md $a)=>`((some (.ref $a)))|`(Mf $a $b)=>`((backTo $a (starEach $b X.env)))|`(Mg $a)=>`(CompScope X.N $a scope X.env.scope fr)|`(Mi $a)=>`((.int $a,.strong))|`(Ml $a)=>`((by simpa[DV.plain]using $a))|`(Mo $a)=>`((.Name x $a))|`(Mq $a)=>`((Ne.symm $a))|`(Mr $a)=>`(RSt $a H σ δ O W)|`(Ms $a)=>`((eval $a X.env))|`(Mu $a)=>`((false,eval $a X.env))|`(MC $a)=>`((L.map λ p=>.int $a))|`(MD $a)=>`((.rng [.bi .len [.ix $a (.int 0)]]))|`(ML $a)=>`((if stro d $a then some (.nx (δ.set i (.val d)))else none))|`(MN $a)=>`((.BoolOp .And $a pos))
set_option hygiene true
section
open PySem PySem.Spec PyProof.Rows
abbrev on:=@List
abbrev Kr:=@Option
abbrev Ks:=@Value
abbrev Kt:=@Shared
abbrev Ku:=@Addr
abbrev Kv:=@Heap
abbrev Kw:=@Expr
abbrev Kx:=@Array
abbrev Ky:=@World
abbrev Kz:=@Program
abbrev KA:=@Around
abbrev KB:=@Stmt
abbrev KC:=@PySem.W.Frag
abbrev KD:=@Scope
abbrev KG:=@Arguments
abbrev KH:=@SetTable
abbrev KI:=@NameKind
abbrev KJ:=@String
abbrev f0:=@wpAny_bind
abbrev f7:=@Bool.and_eq_true
abbrev g8:=@List.length_map
abbrev m7:=@List.getElem?_eq_getElem
abbrev n7:=@Heap.get?_push_of_some
abbrev f9:=@wpAny_pure
abbrev o4:=@List.mem_cons_of_mem
abbrev h8:=@beq_iff_eq
abbrev i6:=@List.mem_cons
abbrev o5:=@List.mem_cons_self
abbrev i7:=@Nat.le_trans
abbrev i8:=@List.mem_map
abbrev u8:=@List.getD_eq_getElem?_getD
abbrev f8:=@if_pos
abbrev i9:=@Nat.le_refl
abbrev r9:=@Heap.get?_push_size
abbrev k9:=@Heap.lt_size
abbrev t7:=@Nat.lt_of_lt_of_le
abbrev z7:=@List.getElem?_eq_some_iff
abbrev t9:=@List.length_append
abbrev g9:=@if_neg
abbrev t5:=@List.getElem?_map
abbrev z9:=@Option.bind_eq_some_iff
abbrev u5:=@Bool.not_eq_true'
abbrev o9:=@List.map_map
abbrev A0:=@List.mem_append_right
abbrev w4:=@List.mem_singleton
abbrev A6:=@Option.map_eq_some_iff
abbrev v5:=@List.size_toArray
abbrev x8:=@beq_eq_false_iff_ne
abbrev A2:=@List.getElem?_set_ne
abbrev u0:=@List.mem_range
abbrev q9:=@Nat.ne_of_lt
abbrev x9:=@List.length_cons
abbrev B5:=@Bool.false_ne_true
abbrev C2:=@Array.length_toList
abbrev B6:=@Int.toNat_natCast
abbrev C8:=@PySem.mem_of_lookup
abbrev B7:=@decide_eq_true_eq
abbrev E3:=@List.mem_append_left
abbrev C3:=@List.length_range
abbrev B3:=@List.append_nil
abbrev C9:=@wpAny_newObj_type
abbrev A3:=@List.map_cons
abbrev F7:=@Bool.and_eq_true_iff
abbrev B8:=@decide_eq_false
abbrev C4:=@List.map_append
abbrev D5:=@Option.some.inj
abbrev D6:=@List.mem_filter
abbrev C5:=@decide_eq_true
abbrev K6:=@List.getElem?_set_self
abbrev D8:=@Bool.or_eq_true
abbrev G2:=@Int.natCast_nonneg
abbrev E4:=@List.length_set
abbrev F8:=@List.length_take
abbrev F1:=@List.mem_append
abbrev K7:=@List.mem_of_getElem?
abbrev L8:=@Array.getElem?_toList
abbrev L9:=@List.contains_iff_mem
abbrev G3:=@wpAny_call_entry
abbrev G4:=@List.lookup_cons
abbrev M0:=@Bool.or_eq_false_iff
abbrev Q5:=@List.getElem?_append_left
abbrev J0:=@List.all_eq_true
abbrev B4:=@wpAny_mono
abbrev M1:=@List.map_congr_left
abbrev T4:=@List.getElem?_append_right
abbrev Q6:=@wpAny_callSpecial?_slot
abbrev M2:=@List.pairwise_cons
abbrev M3:=@decide_eq_true_iff
abbrev F9:=@wpAny_holding
abbrev N4:=@Heap.SameBut.update
abbrev G0:=@List.any_cons
abbrev D9:=@Nat.zero_le
abbrev T5:=@Option.isSome_iff_exists
abbrev N5:=@wpAny_setField_rec
abbrev W1:=@Array.getElem?_eq_getElem
abbrev N6:=@Nat.lt_succ_of_lt
abbrev T6:=@Array.getElem?_eq_none
abbrev Q7:=@Nat.pow_le_pow_right
abbrev Q8:=@Bool.false_eq_true
abbrev M4:=@Heap.size_push
abbrev Y3:=@List.getElem?_take_of_lt
abbrev O8:=@Option.bind_some
abbrev O9:=@List.not_mem_nil
abbrev W3:=@List.length_singleton
abbrev W4:=@List.getElem?_eq_none
abbrev J1:=@wpAny_field
abbrev Q9:=@List.append_assoc
abbrev P0:=@List.nodup_cons
abbrev P1:=@Option.map_some
abbrev T7:=@Nat.lt_of_le_of_lt
abbrev R4:=@beq_self_eq_true
abbrev R5:=@Nat.le_add_right
abbrev bj:=@List.exists_mem_of_length_pos
abbrev T8:=@wpAny_truthy_bool
abbrev bn:=@Array.getD_eq_getD_getElem?
abbrev aC:=@List.length_eq_zero_iff
abbrev Y4:=@Around.under_plainId
abbrev T9:=@List.any_eq_true
abbrev P2:=@Nat.lt_irrefl
abbrev N7:=@Nat.ne_of_gt
abbrev aD:=@PySem.F.plain_min_loop
abbrev Y5:=@List.replicate_succ
abbrev U0:=@codeAny_builtin
abbrev U1:=@Bool.eq_iff_iff
abbrev U2:=@Nat.two_pow_pos
abbrev aE:=@Heap.get?_update_self
abbrev Y6:=@bne_self_eq_false
abbrev U3:=@wpAny_attempt
abbrev Y7:=@Nat.lt_succ_self
abbrev Y8:=@List.getElem_mem
abbrev aF:=@wpAny_Call_Name_kw
abbrev bo:=@List.mem_iff_getElem?
abbrev aG:=@List.getElem?_drop
abbrev R6:=@sizeLine_eq
abbrev U4:=@codeAny_mono
abbrev Y9:=@PySem.W.kia_one
abbrev aH:=@List.flatten_cons
abbrev W5:=@plainId_quiet
abbrev cN:=@List.getElem?_replicate
abbrev cO:=@List.filter_cons_of_pos
abbrev bp:=@List.map_eq_nil_iff
abbrev aI:=@List.length_drop
abbrev Z0:=@wpAny_setField
abbrev W6:=@Nat.le_of_lt
abbrev bq:=@wpAny_pyIter_tuple
abbrev fw:=@PyProof.Rows.callWith_type1
abbrev br:=@List.mem_filterMap
abbrev bt:=@Obj.data_mapFields
abbrev W7:=@Nat.lt_or_ge
abbrev fx:=@List.idxOf_lt_length_of_mem
abbrev aJ:=@wpAny_passesOwn
abbrev cP:=@List.length_replicate
abbrev cQ:=@wpAny_loadPart'
abbrev aK:=@List.range_succ
abbrev cR:=@List.length_filter_le
abbrev fy:=@F.slot_tuple_iterator_next
abbrev Z1:=@List.map_take
abbrev bu:=@wpAny_setState_of
abbrev bv:=@Heap.get?_push_ne
abbrev cS:=@Heap.get?_none_of_le
abbrev fz:=@List.getElem?_zip_eq_some
abbrev aL:=@wpAny_seqItems
abbrev bw:=@wpAny_askSetting
abbrev bx:=@wpAny_isInstance
abbrev P3:=@or_false
abbrev Z2:=@List.any_map
abbrev bz:=@List.filter_cons
abbrev cT:=@wpAny_setEntries_of
abbrev cU:=@Array.toList_append
abbrev cV:=@List.flatMap_append
abbrev fA:=@List.filter_cons_of_neg
abbrev bA:=@List.find?_cons
abbrev jn:=@wpAny_typeNameOfWhole_itemiter
abbrev W8:=@bne_iff_ne
abbrev cW:=@List.getElem_idxOf
abbrev fB:=@PySem.W.cellsFrom_some
abbrev fC:=@Heap.get?_update_other
abbrev fD:=@Calls.callWith_builtin
abbrev fE:=@List.length_pos_of_mem
abbrev jo:=@wpAny_typeNameOfWhole_keyiter
abbrev bB:=@wpAny_fieldsOf
abbrev P4:=@Iff.rfl
abbrev fF:=@F.slot_enumerate_next
abbrev bC:=@wpAny_tryCatch
abbrev cX:=@Heap.size_update
abbrev cY:=@Option.getD_some
abbrev cZ:=@List.flatMap_nil
abbrev bD:=@Bool.true_and
abbrev aM:=@Nat.le_succ
abbrev aN:=@wpAny_of_eq
abbrev fG:=@List.filterMap_cons
abbrev fH:=@List.getElem?_range
abbrev fI:=@List.length_pos_iff
abbrev fK:=@List.drop_succ_cons
abbrev da:=@wpAny_execs_nil
abbrev db:=@List.of_mem_zip
abbrev de:=@wpAny_updateSeq
abbrev dg:=@Nat.not_lt_zero
abbrev jp:=@List.mem_of_find?_eq_some
abbrev dh:=@Nat.min_eq_left
abbrev jq:=@Nat.ge_two_pow_of_testBit
abbrev fL:=@tupleKind_room_in1
abbrev bE:=@Int.le_trans
abbrev fM:=@Int.emod_lt_of_pos
abbrev di:=@Bool.false_and
abbrev dm:=@isSubtype_stop
abbrev dr:=@List.drop_zero
abbrev jr:=@F.plain_set_update_loop
abbrev js:=@decide_eq_false_iff_not
abbrev fN:=@List.take_sublist
abbrev fO:=@wpAny_pyIter_slot
abbrev fP:=@wpAny_dictEntries
abbrev fQ:=@List.map_inj_left
abbrev fR:=@List.flatMap_cons
abbrev jt:=@List.pairwise_lt_range
abbrev bF:=@intItems_at
abbrev ju:=@List.take_of_length_le
abbrev bG:=@wpAny_letGo
abbrev jv:=@PySem.F.entry_min_loop
abbrev jw:=@wpAny_isOneOf_itemiter
abbrev dt:=@List.cons.inj
abbrev du:=@nums_intItems
abbrev fT:=@wpAny_eqBool_int
abbrev Z3:=@numAt_eq
abbrev fU:=@Nat.zero_testBit
abbrev jx:=@Obj.isFreed_of_fields
abbrev pv:=@PyProof.Rows.slot_tuple_getitem
abbrev jy:=@Around.frames_deeper
abbrev jz:=@Calls.evalArgs_plain
abbrev fV:=@List.foldl_cons
abbrev fW:=@List.nil_append
abbrev dv:=@Nat.lt_trans
abbrev jA:=@List.pairwise_append
abbrev jB:=@codeAny_call_builtin
abbrev bH:=@size_push'
abbrev fX:=@wpAny_dictEpoch
abbrev jC:=@List.mem_of_mem_take
abbrev jD:=@List.mem_of_mem_drop
abbrev fY:=@Int.emod_nonneg
abbrev pz:=@F.slot_dict_itemiterator_next
abbrev jF:=@PySem.W.hideAll_get
abbrev jG:=@List.filter_sublist
abbrev pA:=@F.args_tuple_iterator_next_1
abbrev fZ:=@Bool.and_false
abbrev gb:=@List.nodup_nil
abbrev pB:=@F.slot_dict_keyiterator_next
abbrev gc:=@Nat.mul_le_mul
abbrev gf:=@Nat.add_le_add
abbrev dw:=@Nat.one_mul
abbrev jH:=@PySem.W.callWith_K
abbrev bI:=@eq_of_beq
abbrev pC:=@F.entry_tuple_iterator_next
abbrev jI:=@Nat.eq_zero_or_pos
abbrev jJ:=@Int.lt_of_le_of_lt
abbrev pD:=@Nat.testBit_two_pow_sub_one
abbrev gh:=@Paired.length
abbrev pE:=@Calls.Name_function_global
abbrev gj:=@wpAny_standAt
abbrev pF:=@Int.fdiv_eq_ediv_of_nonneg
abbrev gk:=@Bool.or_false
abbrev gl:=@wpAny_newList
abbrev gm:=@listUpdate_at
abbrev gn:=@List.all_cons
abbrev gp:=@List.map_drop
abbrev gq:=@List.sum_cons
abbrev jK:=@wpAny_pyIter_list
abbrev jL:=@Obj.cls_mapFields
abbrev jM:=@fits_of_scanBound
abbrev jN:=@List.ext_getElem?
abbrev jO:=@of_decide_eq_true
abbrev jP:=@List.Pairwise.imp
abbrev dz:=@wpAny_Name
abbrev dB:=@wpAny_call
abbrev dF:=@wpAny_rule
abbrev pG:=@List.pairwise_iff_getElem
abbrev pH:=@Calls.call_function_entry
abbrev pI:=@List.drop_eq_getElem_cons
abbrev pJ:=@Option.isNone_iff_eq_none
abbrev pK:=@PySem.F.args_tuple_add_2
abbrev gr:=@wpAny_typeOf
abbrev gu:=@Nat.succ_mul
abbrev jQ:=@Nat.le_of_not_lt
abbrev pL:=@wpAny_comprehension_free
abbrev pM:=@PySem.F.slot_tuple_index
abbrev gw:=@Nat.zero_add
abbrev jR:=@List.isEmpty_nil
abbrev gy:=@Bool.or_true
abbrev jS:=@List.drop_length
abbrev jT:=@decide_eq_decide
abbrev jU:=@Nat.min_eq_right
abbrev pN:=@List.Nodup.idxOf_getElem
abbrev pO:=@PySem.F.entry_tuple_add
abbrev pP:=@wpAny_Call_method0_late
abbrev pQ:=@F.entry_set_update_loop
abbrev pR:=@List.pairwise_singleton
abbrev pS:=@F.args_enumerate_next_1
abbrev pT:=@List.getElem?_cons_succ
abbrev pU:=@PySem.F.plainAttrs_list
abbrev pV:=@PySem.F.slot_dict_items
abbrev pW:=@Nat.add_sub_cancel_left
abbrev jV:=@pushCells_keeps
abbrev jW:=@List.length_nil
abbrev jX:=@wpAny_ite_split
abbrev jY:=@List.find?_some
abbrev pX:=@PySem.F.slot_tuple_add
abbrev pY:=@subscriptTail_builtinR
abbrev pZ:=@wpAny_Call_method_late
abbrev qa:=@List.range_succ_eq_map
abbrev gz:=@Prod.mk.inj
abbrev gA:=@Nat.log2_lt
abbrev gB:=@Int.le_refl
abbrev qb:=@F.entry_enumerate_next
abbrev qc:=@F.slot_dict_items_iter
abbrev gC:=@Nat.add_mul
abbrev qd:=@Nat.testBit_lt_two_pow
abbrev qe:=@List.length_eq_one_iff
abbrev qf:=@wpAny_isTrue_Compare1
abbrev qg:=@codeAny_call_function
abbrev qh:=@builtinLookup_eq_fast
abbrev jZ:=@isSubtype_type
abbrev ke:=@wpAny_newTuple
abbrev qi:=@List.pairwise_reverse
abbrev qj:=@wpAny_notOrdered_dict
abbrev qk:=@wpAny_isOneOf_keyiter
abbrev gD:=@Walks.list
abbrev kf:=@wpAny_handled
abbrev kg:=@Bool.false_or
abbrev kh:=@seqIndex_neg
abbrev ki:=@Nat.add_comm
abbrev kj:=@List.map_nil
abbrev kq:=@listItems_at
abbrev kr:=@wpAny_mkText
abbrev kt:=@Nat.sub_self
abbrev ky:=@Nat.pow_succ
end
noncomputable section
noncomputable section
namespace L2
open PySem
noncomputable def aO(s:KB):KG:=match s with
 | .FunctionDef _ a _ _ _ _ _ _ _ _=>a
 | _=>{posonlyargs:=[],args:=[],vararg:=none,kwonlyargs:=[],kw_defaults:=[],kwarg:=none,defaults:=[]}
noncomputable def J2(s:KB):on KB:=match s with
 | .FunctionDef _ _ b _ _ _ _ _ _ _=>b
 | _=>[]
noncomputable def u9(s:KB):KD:=match s with
 | .FunctionDef _ _ _ _ _ _ sc _ _ _=>sc
 | _=>{kind:=.function,names:=[],isGenerator:=false,isCoroutine:=false}
end L2
namespace k24
open PySem PySem.W L2 PySem.Spec PyProof.Rows
noncomputable def top(i:Nat):KB:=PySem.Challenge.pw_talkleast_k24_ends_papers_and_plans.main.body.getD i (.Pass ⟨0,0,0,0⟩)
def fo(n:Str)(i:Nat)(dV pm:Ks)(cd:Ku):Obj:=⟨.type "function",none,.func (fnOf n n (aO (top i)) (J2 (top i)) (u9 (top i)) dV .none .none pm none (.ref cd) .none),#[]⟩
noncomputable def en(P:Params)(s:Str)(t:Nat)(v:Ks):DictEntry:=⟨PyData.keyHash P s,.str s t,v⟩
structure Rw where
 n:Str
 c:Nat
 t:Nat
 l:Int
 a:Int
 k:Bool
 q:Nat
 i:Nat
 m:Nat
noncomputable def zD:on Rw:=⟨"is_int",20,189,2,3,true,195,1,0⟩::⟨"flipped",74,270,15,1,false,273,9,1⟩::⟨"cut",81,276,17,3,true,282,10,1⟩::⟨"check_cards",88,285,21,2,true,290,11,1⟩::⟨"cards_in",93,293,24,1,false,296,12,1⟩::⟨"crossing",98,299,26,3,false,302,13,1⟩::⟨"row_kinds",103,305,28,1,false,308,14,1⟩::⟨"column_kinds",110,311,30,1,true,315,15,1⟩::⟨"trimmed",117,318,32,1,true,322,16,1⟩::⟨"is_small",124,325,34,1,true,330,17,1⟩::⟨"check_small",131,333,37,1,true,337,18,1⟩::⟨"words_in",138,340,40,1,true,346,19,1⟩::⟨"ends_paper",145,351,46,1,true,355,21,2⟩::⟨"paper",150,358,48,1,false,361,22,2⟩::⟨"ends_numbers",157,364,50,1,true,368,23,2⟩::⟨"joined_ends",164,371,52,2,true,376,24,2⟩::⟨"least_numbers",169,379,54,3,false,382,25,2⟩::⟨"splits",174,385,66,2,false,388,26,2⟩::⟨"halves",179,391,70,1,false,394,27,2⟩::⟨"fewest_ends",186,399,73,1,true,403,29,3⟩::⟨"fewest_plan",193,406,75,1,true,410,30,3⟩::⟨"plan_by",200,413,77,3,true,424,31,3⟩::⟨"sets_of_kinds",205,427,90,1,false,430,32,3⟩::⟨"widened",210,433,92,2,false,436,33,3⟩::⟨"_law_int",217,441,95,1,true,445,35,4⟩::⟨"_law_cell_at",224,448,97,2,true,453,36,4⟩::⟨"_law_stream",231,456,101,2,true,464,37,4⟩::⟨"_law_core",236,467,108,3,false,470,38,4⟩::⟨"_law_table",241,473,124,2,false,476,39,4⟩::⟨"_law_trimmed",246,479,136,1,false,482,40,4⟩::⟨"_law_power",253,485,141,1,true,491,41,4⟩::⟨"_law_halves",258,494,146,1,false,497,42,4⟩::⟨"_law_splits",263,500,148,2,false,503,43,4⟩::⟨"_law_one_word",270,506,151,3,true,515,44,4⟩::⟨"_law_known",275,518,158,2,false,521,45,4⟩::⟨"_law_great",280,524,173,1,false,527,46,4⟩::⟨"_law_reached",287,530,181,3,true,537,47,4⟩::⟨"_law_is_plan",294,540,188,3,true,547,48,4⟩::⟨"_law_ends",308,557,205,1,true,561,50,4⟩::⟨"_law_settles",315,564,209,2,true,571,51,4⟩::⟨"_law_refused",322,574,215,2,true,581,52,4⟩::⟨"_law_obeys",327,584,229,2,false,587,53,4⟩::⟨"law",334,590,237,1,true,603,54,4⟩::[]
noncomputable def zP(j:Nat):Ks:=[.str "talkleast.checks" 187,.str "talkleast.tables" 266,.str "talkleast.parts" 349,.str "talkleast.least" 397,.str "law_talkleast_k24_ends_papers_and_plans" 439].getD j .none
def zO(r:Rw):Frag:=[(r.c,⟨.type "code",none,.fields #[.str r.n r.t,.str r.n (r.t+1),.str "/claim/cut.py" (r.t+2),.int r.l 0,.int r.a 0,.int 0 0,.int 0 0,.int 3 0,.ref (r.c - if r.k then 5 else 3),.bool true,.int 181 0,.ref (r.c - if r.k then 4 else 2),.none,if r.k then .ref (r.c - 3)else .none,if r.k then .ref (r.c - 2)else .none,.ref (r.c - 1),.int r.q 0,.int r.l 0,.str "/claim/cut.py" (r.q+1)],#[]⟩),(r.c+1,fo r.n r.i .none (zP r.m) r.c)]
def zX(P:Params)(n:Str)(c t:Nat)(l:Int):Frag:=[(c - 1,⟨.type "dict",none,.dict #[en P "__module__" (t+7) (.str "talkleast.errors" 198),en P "__firstlineno__" (t+11) (.int l (t+10)),en P "__static_attributes__" (t+12) (.ref (c - 2)),en P "__doc__" (t+13) .none] 2,#[]⟩),(c,⟨.type "type",none,.cls ⟨n,[.ref 31],[.ref c,.ref 31,.type "ValueError",.type "Exception",.type "BaseException",.type "object"],c - 1,n,true,[],[],false,none,false⟩,#[some (.ref (c - 9)),none,some (.str n t),some (.str n (t+8)),some (.builtin "ValueError.__new__"),some (.bool true)]⟩)]
def kK(P:Params):Frag:=let ge (r:Rw):=en P r.n (r.q+2) (.ref (r.c+1));[(2,⟨.none,none,.dict #[] 0,#[]⟩),(3,⟨.type "dict",none,.dict ([en P "__name__" 165 (.str "law_talkleast_k24_ends_papers_and_plans" 439),en P "__doc__" 166 .none,en P "__package__" 167 .none,en P "__loader__" 168 (.builtin "__main__.__loader__#opaque"),en P "__spec__" 169 .none,en P "__annotations__" 170 (.ref 6),en P "__builtins__" 171 (.ref 4),en P "__file__" 173 (.str "/claim/cut.py" 172),en P "__cached__" 174 .none]++((zD.drop 0).take 1).map ge++[en P "TalkError" 217 (.ref 31),en P "NoTable" 233 (.ref 44),en P "NoCard" 249 (.ref 56),en P "TooGreat" 265 (.ref 68),en P "SMALL_LINES" 269 (.int 5 268)]++((zD.drop 1).take 37).map ge++[en P "_law_deep" 556 (.ref 302)]++((zD.drop 38).take 5).map ge).toArray 58,#[]⟩),(30,⟨.type "dict",none,.dict #[en P "__module__" 207 (.str "talkleast.errors" 198),en P "__firstlineno__" 211 (.int 5 210),en P "__static_attributes__" 212 (.ref 29),en P "__weakref__" 214 (.ref 32),en P "__doc__" 215 .none] 3,#[]⟩),(31,⟨.type "type",none,.cls ⟨"TalkError",[.type "ValueError"],[.ref 31,.type "ValueError",.type "Exception",.type "BaseException",.type "object"],30,"TalkError",true,[],[.ref 44,.ref 56,.ref 68],false,none,false⟩,#[some (.ref 22),none,some (.str "TalkError" 200),some (.str "TalkError" 208),some (.builtin "ValueError.__new__"),some (.bool true)]⟩),(32,⟨.type "getset_descriptor",none,.fields #[.str "__weakref__" 213,.ref 31,.builtin "ExceptionGroup.__weakref__",.none],#[]⟩)]++zX P "NoTable" 44 218 7++zX P "NoCard" 56 234 9++zX P "TooGreat" 68 250 11++zD.flatMap zO
noncomputable def zA:on Ku:=[2,3,30,31,32,43,44,55,56,67,68]++zD.flatMap λ r=>[r.c,r.c+1]
noncomputable def kT:Frag:=zD.map λ r=>(r.c - if r.k then 4 else 2,⟨.none,none,.fields #[],#[]⟩)
def kAll(P:Params):Frag:=kT++kK P
def zB:on Ku:=kT.map (·.1)++zA
def kE:∀P,zB=(kAll P).map (·.1):=λ _=>by kernel_rfl
noncomputable def kQ:Kz:=view PySem.Challenge.pw_talkleast_k24_ends_papers_and_plans [1,3,4,5,6,8,9,10,11,12,13,14,15,16,17,18,19,21,22,23,24,25,26,27,29,30,31,32,33,35,36,37,38,39,40,41,42,43,44,45,46,47,48,49,50,51,52,53,54]
def kL:on Str:=[]
set_option maxHeartbeats 0 in
def kLeft:LeftO PySem.Challenge.pw_talkleast_k24_ends_papers_and_plans kQ kL (λ s=>xlAt kQ [] s&&recOk (RowW.records (OpenRow.toRowW (OpenLaw.row PySem.Challenge.rw_talkleast_k24_ends_papers_and_plans))) s) (kHook kAll zB kE).obs (kHook kAll zB kE).val 4444:=by
 intro w
 kernel_rfl
end k24
end
noncomputable section
namespace L2
open PySem PySem.Spec PyProof.Rows
abbrev Key:=Sum Int Str
noncomputable def bJ:Key->Ks->Bool
 | .inl k,v=>Value.isInt k v
 | .inr x,v=>Value.isStrOf x v
noncomputable def keyH(w:Ky):Key->Int
 | .inl k=>hashInt k
 | .inr x=>hashStr w x
def X0:∀{k:Key} {v:Ks},bJ k v=true->(∃i t,k=Sum.inl i/\v=Value.int i t)\/(∃x t,k=Sum.inr x/\v=Value.str x t)
 | .inl i,v,h=>by obtain⟨t,e⟩:=Value.isInt_shape h;exact .inl ⟨i,t,rfl,e⟩
 | .inr x,v,h=>by obtain⟨t,e⟩:=Value.isStrOf_shape h;exact .inr ⟨x,t,rfl,e⟩
def yn(i:Int)(t:Tok):bJ (.inl i) (.int i t)=true:=by simp[bJ,Value.isInt]
def yp(x:Str)(t:Tok):bJ (.inr x) (.str x t)=true:=by simp[bJ,Value.isStrOf]
def yq(a b:Int):decide ((Sum.inl a:Key)=Sum.inl b)=(a==b):=by
 by_cases e:a=b
 ·subst e;simp
 ·have h:¬(Sum.inl a:Key)=Sum.inl b:=λ q=>e (Sum.inl.inj q);rw[B8 h];exact(x8.mpr e).symm
def yt(a b:Str):decide ((Sum.inr a:Key)=Sum.inr b)=decide (a=b):=by
 by_cases e:a=b
 ·subst e;simp
 ·have h:¬(Sum.inr a:Key)=Sum.inr b:=λ q=>e (Sum.inr.inj q);rw[B8 h,B8 e]
def yu(a:Int)(b:Str):decide ((Sum.inl a:Key)=Sum.inr b)=false:=B8 (λ q=>nomatch q)
def yv(a:Str)(b:Int):decide ((Sum.inr a:Key)=Sum.inl b)=false:=B8 (λ q=>nomatch q)
def G5(prog:Kz)(w:Ky):PySem.KeyKind prog w Key where
 is:=bJ
 hash:=keyH w
 inj:=λ v a b ha hb=>by
  rcases X0 ha with⟨i,t,rfl,rfl⟩ | ⟨x,t,rfl,rfl⟩
  ·rcases X0 hb with⟨j,u,rfl,e⟩ | ⟨y,u,rfl,e⟩
   ·injection e with e1 _;rw[e1]
   ·exact nomatch e
  ·rcases X0 hb with⟨j,u,rfl,e⟩ | ⟨y,u,rfl,e⟩
   ·exact nomatch e
   ·injection e with e1 _;rw[e1]
 byValue:=λ k v h=>by rcases X0 h with⟨i,t,rfl,rfl⟩ | ⟨x,t,rfl,rfl⟩<;>rfl
 pyHash:=λ hv h=>by
  rcases X0 hv with⟨i,t,rfl,rfl⟩ | ⟨x,t,rfl,rfl⟩
  ·exact wpAny_pyHash_int h
  ·exact wpAny_pyHash_str h
 eqBool:=λ hu hv h=>by
  rcases X0 hu with⟨i,t,rfl,rfl⟩ | ⟨x,t,rfl,rfl⟩
  ·rcases X0 hv with⟨j,u,rfl,rfl⟩ | ⟨y,u,rfl,rfl⟩
   ·rw[yq]at h;exact fT h
   ·rw[yu]at h;exact SeqAt.EqAt.int_str i t y u _ _ _ _ h
  ·rcases X0 hv with⟨j,u,rfl,rfl⟩ | ⟨y,u,rfl,rfl⟩
   ·rw[yv]at h;exact SeqAt.EqAt.str_int x t j u _ _ _ _ h
   ·rw[yt]at h;exact wpAny_eqBool_str h
 «strs»:=λ k x t v h=>by
  rcases X0 h with⟨i,u,rfl,e⟩ | ⟨y,u,rfl,e⟩
  ·exact nomatch e
  ·injection e with e1 _
   subst e1;cases v<;>rfl
def yw(prog:Kz)(w:Ky)(i:Int)(t:Tok):(G5 prog w).is (.inl i) (.int i t)=true:=yn i t
def yx(prog:Kz)(w:Ky)(x:Str)(t:Tok):(G5 prog w).is (.inr x) (.str x t)=true:=yp x t
end L2
namespace L2
open PySem PySem.Spec PyProof.Rows
inductive V where
 | non | bl (b:Bool) | int (i:Int) | str (x:Str) | byt (b:Array UInt8) | flt (b:UInt64) | ref (a:Addr) | ty (n:String)
 deriving DecidableEq
noncomputable def RelV:V->Ks->Prop
 | .non,u=>u=Value.none
 | .bl b,u=>u=Value.bool b
 | .int i,u=>∃t,u=Value.int i t
 | .str x,u=>∃t,u=Value.str x t
 | .byt b,u=>∃t,u=Value.bytes b t
 | .flt b,u=>∃t,u=Value.float b t
 | .ref a,u=>u=Value.ref a
 | .ty n,u=>u=Value.type n
abbrev Vals:on V->on Ks->Prop:=Paired RelV
theorem Vals.length(r:Vals xs a):xs.length=a.length:=gh r
theorem Vals.get:∀{xs:on V} {us:on Ks} {i:Nat} {x:V},Vals xs us->xs[i]? = some x->∃u,us[i]? = some u/\RelV x u
 | _,_,_,_,.nil,e=>by simp at e
 | _,_,0,_,.cons r _,e=>by simp at e;subst e;exact⟨_,rfl,r⟩
 | _,_,i+1,x,.cons _ t,e=>by obtain⟨u,b,a⟩:=Vals.get t (Lq e);exact⟨u,by simpa using b,a⟩
theorem Vals.set(r:RelV x u):∀{xs:on V} {us:on Ks} (i:Nat),Vals xs us->Vals (xs.set i x) (us.set i u)
 | _,_,_,.nil=>.nil
 | _,_,0,.cons _ t=>.cons r t
 | _,_,i+1,.cons q t=>.cons q (Vals.set r i t)
theorem Vals.append:∀{xs a:on V} {us ws:on Ks},Vals xs us->Vals a ws->Vals (xs++a) (us++ws)
 | _,_,_,_,.nil,s=>s
 | _,_,_,_,.cons r t,s=>.cons r (Vals.append t s)
theorem Vals.take:∀{xs:on V} {us:on Ks} (n:Nat),Vals xs us->Vals (xs.take n) (us.take n)
 | _,_,0,_=>.nil
 | _,_,_+1,.nil=>.nil
 | _,_,n+1,.cons r t=>.cons r (Vals.take n t)
theorem Vals.drop:∀{xs:on V} {us:on Ks} (n:Nat),Vals xs us->Vals (xs.drop n) (us.drop n)
 | _,_,0,r=>r
 | _,_,_+1,.nil=>.nil
 | _,_,n+1,.cons _ t=>Vals.drop n t
def RelO:Kr V->Kr Ks->Prop
 | some v,some u=>RelV v u
 | none,none=>True
 | _,_=>False
def KV{κ:Type}:on (κ×V)->on (κ×Ks)->Prop:=Paired λ (p:κ×V) (q:κ×Ks)=>p.1=q.1/\RelV p.2 q.2
def kV:Key->V
 | .inl i=>.int i
 | .inr x=>.str x
inductive HO where
 | lst (xs:List V)
 | tup (xs:List V)
 | dK (kvs:List (Key×V)) | dT (kvs:List (List Key×V))
 | set (S:Int->Bool) (n:Nat)
 | ins (C dx:Addr) (fs:List (Str×V))
 | own (x:Addr)
 | xd (fs:List (Str×V))
 | met (f x:Addr)
 | rng (lo hi:Int)
 | frz (o:Obj) (u:HO)
 | tbl (q:Str)
 | ext (φ:Heap->Prop)
abbrev Hp:=Ku->Kr HO
noncomputable def upd(H:Hp)(a:Ku)(o:HO):Hp:=λ b=>if b=a then some o else H b
def y9:upd H a o a=some o:=by unfold upd;rw[f8 rfl]
def n6(h:b≠a):upd H a o b=H b:=by unfold upd;rw[g9 h]
def yy{H:Hp}(h:H a=some o)(h':H b=some u)(d:o≠u):a≠b:=by
 intro e;subst e;rw[h]at h';exact d (D5 h')
def A7{H:Hp}(h:H a=some o)(h':H b=none):a≠b:=by
 intro e;subst e;rw[h]at h';cases h'
def U5(h:Kv)(a:Ku)(items:Kx Ks):Prop:=∃o,h.get? a=some o/\(o.cls=.type "tuple" /\ o.dict=none)/\∃n,o.data=.seq items n
def U5.tup(x:U5 h a items):IsTup h a items:=let ⟨o,ho,hc,r⟩:=x;⟨o,ho,hc.1,r⟩
def U5.lt(x:U5 h a items):a<h.objs.size:=let ⟨_,ho,_⟩:=x;k9 ho
def U5.new(h:Kv)(items:Kx Ks):U5 (h.push {cls:=.type "tuple",data:=.seq items}) h.objs.size items:=⟨_,r9 _ rfl,⟨rfl,rfl⟩,_,rfl⟩
section
variable (P:Kz) (w:Ky)
noncomputable def N9(q:Str):Bool:=q == "plan_by.<locals>.plan_of" || q == "best_right.<locals>.plan_of"
def u6(H:Hp)(h:Kv)(a:Ku):HO->Prop
 | .lst xs=>xs.length<=sizeLine/\∃(its:on Ks) (n:Nat),Vals xs its/\h.get? a=some {cls:=.type "list",data:=.seq its.toArray n}
 | .tup xs=>xs.length<=sizeLine/\∃its:on Ks,Vals xs its/\U5 h a its.toArray
 | .dK kvs=>kvs.length<=sizeLine/\(a==sysModules)=false/\∃vs,KV kvs vs/\h.DictOf (G5 P w) a vs
 | .dT kvs=>kvs.length<=sizeLine/\(a==sysModules)=false/\∃xs:on (on Key×Ku×Ks),
   Paired (λ (p:on Key×V) (q:on Key×Ku×Ks)=>p.1=q.1/\H q.2.1=some (.tup (p.1.map kV))/\RelV p.2 q.2.2) kvs xs /\
   ∃o es ep,h.get? a=some o/\o.ExactDict/\o.data=.dict es ep/\es.toList=xs.map (entryOfKey (tupleKind (G5 P w)))/\(xs.map (·.1)).Nodup
 | .set S n=>h.SetOf (intKind P w) a S n
 | .ins C dx fs=>H dx=some (.own a)/\fs.length<=1000/\dx≠a/\h.get? a=some (PySem.W.instObj C dx) /\
   ∃mA,h.Ns1 dx mA/\(∀f,RelO (fs.lookup f) (mA f))/\PySem.Within mA (fs.map (·.1))
 | .own _=>∃o,h.get? a=some o
 | .xd fs=>∃mA,h.Ns1 a mA/\∀f,RelO (fs.lookup f) (mA f)
 | .rng lo hi=>∃t u v,h.get? a=some {cls:=.type "range",data:=.fields #[.int lo t,.int hi u,.int 1 v]}
 | .frz o u=>h.get? a=some o/\u6 H h a u
 | .tbl q=>∃ps:Kx Ks,h.get? a=some {cls:=.none,data:=.fields ps} /\ TriplesOk ps.toList/\∀pos cv,codeAmong pos ps.toList=some cv->∃c oc u vs t,cv=.ref c/\H c=some (.frz oc u)/\oc.data=.fields vs/\vs[1]? = some (.str q t)/\(N9 q=true->oc.cls=.type "code" /\ ∃(T:Ku) (file:Str) (tf:Tok) (flags:Int) (tg:Tok) (inF:Bool) (text:Int) (tt:Tok),vs[11]? = some (.ref T)/\vs.getD 11 .none=.ref T/\vs.getD 18 .none=.str file tf/\vs.getD 7 .none=.int flags tg/\vs.getD 9 .none=.bool inF/\vs.getD 10 .none=.int text tt/\c≠T/\H T=some (.tbl MG))
 | .met f x=>h.get? a=some (PySem.W.methodObj (.ref f) (.ref x))
 | .ext φ=>φ h/\(∃o,h.get? a=some o)/\∀h1 h2:Kv,φ h1->(∀o,h1.get? a=some o->h2.get? a=some o)->φ h2
def HOk(H:Hp)(h:Kv):Prop:=∀a o,H a=some o->u6 P w H h a o
end
theorem u6.lt(x:u6 P w H h a o):a<h.objs.size:=by
 cases o with
 | lst c=>obtain⟨_,_,_,_,e⟩:=x;exact k9 e
 | tup c=>obtain⟨_,_,_,p⟩:=x;exact p.lt
 | dK b=>obtain⟨_,_,_,_,o,_,_,e,_⟩:=x;exact k9 e
 | dT b=>obtain⟨_,_,_,_,o,_,_,e,_⟩:=x;exact k9 e
 | set S n=>obtain⟨o,_,_,_,e,_⟩:=x;exact k9 e
 | ins C dx fs=>obtain⟨_,_,_,e,_⟩:=x;exact k9 e
 | own y=>obtain⟨_,e⟩:=x;exact k9 e
 | xd fs=>obtain⟨_,⟨_,_,_,e,_⟩,_⟩:=x;exact k9 e
 | rng lo hi=>obtain⟨_,_,_,e⟩:=x;exact k9 e
 | frz ob u=>obtain⟨e,_⟩:=x;exact k9 e
 | tbl q=>obtain⟨_,e,_⟩:=x;exact k9 e
 | met f y=>exact k9 (x)
 | ext φ=>obtain⟨_,⟨_,e⟩,_⟩:=x;exact k9 e
theorem Paired.mapP:∀{c:on e} {l₂:on d},Paired F c l₂->(∀a b,F a b->G a b)->Paired G c l₂
 | _,_,.nil,_=>.nil
 | _,_,.cons r t,f=>.cons (f _ _ r) (Paired.mapP t f)
def u6.stay(x:u6 P w H h a o)(k:∀b u,(b=a\/H b=some (.own a))->h.get? b=some u->h'.get? b=some u)
  (ho:∀b,H b=some (.own a)->E b=some (.own a)) (ht:∀b xs,H b=some (.tup xs)->E b=some (.tup xs)) (hy:∀b q,H b=some (.tbl q)->E b=some (.tbl q)) (hz:∀b o u vs,o.data=.fields vs->H b=some (.frz o u)->E b=some (.frz o u)):u6 P w E h' a o:=by
 induction o with
 | lst xs=>obtain⟨z,l,n,r,e⟩:=x;exact⟨z,l,n,r,k _ _ Mv e⟩
 | tup xs=>obtain⟨z,l,r,g,e,c⟩:=x;exact⟨z,l,r,g,k _ _ Mv e,c⟩
 | dK K=>obtain⟨z,y,vs,r,g,i,j,e,c⟩:=x;exact⟨z,y,vs,r,g,i,j,k _ _ Mv e,c⟩
 | dT K=>
  obtain⟨z,y,xs,r,g,i,j,e,c⟩:=x;exact⟨z,y,xs,Paired.mapP r λ p q z=>⟨z.1,ht _ _ z.2.1,z.2.2⟩,g,i,j,k _ _ Mv e,c⟩
 | set S n=>obtain⟨g,i,j,t,e,c⟩:=x;exact⟨g,i,j,t,k _ _ Mv e,c⟩
 | ins C dx fs=>
  obtain⟨d,z,ne,e,J,⟨I,i,j,M,c⟩,r⟩:=x;exact⟨ho _ d,z,ne,k _ _ Mv e,J,⟨I,i,j,k _ _ (.inr d) M,c⟩,r⟩
 | own y=>obtain⟨g,e⟩:=x;exact⟨g,k _ _ Mv e⟩
 | xd fs=>obtain⟨J,⟨I,i,j,e,c⟩,r⟩:=x;exact⟨J,⟨I,i,j,k _ _ Mv e,c⟩,r⟩
 | rng lo hi=>obtain⟨t,u,v,e⟩:=x;exact⟨t,u,v,k _ _ Mv e⟩
 | frz g u ih=>obtain⟨e,q⟩:=x;exact⟨k _ _ Mv e,ih q⟩
 | tbl q=>
  obtain⟨ps,e,t,f⟩:=x;refine⟨ps,k a _ Mv e,t,λ F cv z=>?_⟩;obtain⟨c,oc,u,vs,t',e1,M,O,e4,e5⟩:=f F cv z;refine⟨c,oc,u,vs,t',e1,hz _ _ _ _ O M,O,e4,λ y=>?_⟩;obtain⟨y0,T,B,tf,m,tg,L,A,tt,y1,Z,Y,X,W,U,R,Q⟩:=e5 y;exact⟨y0,T,B,tf,m,tg,L,A,tt,y1,Z,Y,X,W,U,R,hy _ _ Q⟩
 | met f y=>
  have e:=x;show h'.get? a=some _;exact k a _ Mv e
 | ext φ=>obtain⟨p,⟨o,e⟩,N⟩:=x;exact⟨N _ _ p λ o q=>k _ _ Mv q,⟨o,k _ _ Mv e⟩,N⟩
theorem HOk.lt(x:HOk P w H h)(e:H a=some o):a<h.objs.size:=(x a o e).lt
def HOk.fresh(x:HOk P w H h)(e:h.objs.size<=a):H a=none:=by
 cases q:H a with
 | none=>rfl
 | some u=>exact absurd (t7 (x.lt q) e) (P2 _)
def HOk.kept(x:HOk P w H h)(k:∀b u,h.get? b=some u->h'.get? b=some u):HOk P w H h':=λ a o e=>
 (x a o e).stay (λ b u _ q=>k b u q) (λ _ q=>q) (λ _ _ q=>q) (λ _ _ q=>q) λ _ _ _ _ _ q=>q
def HOk.laid(x:HOk P w H h)(k:∀b u,h.get? b=some u->h'.get? b=some u)(i:h.objs.size<=a)(new:u6 P w (upd H a o) h' a o):HOk P w (upd H a o) h':=λ b u e=>by
 have d:=x.fresh i;by_cases f:b=a
 ·subst f;rw[y9]at e;cases e;exact new
 ·rw[n6 f]at e;exact(x b u e).stay (λ c v _ q=>k c v q) (λ c q=>by rw[n6 (A7 q d)];exact q) (λ c g q=>by rw[n6 (A7 q d)];exact q) (λ c g q=>by rw[n6 (A7 q d)];exact q) λ c _ _ _ _ q=>by rw[n6 (A7 q d)];exact q
def Rd(H:Hp)(a:Ku)(u:HO):Prop:=H a=some u\/∃o,H a=some (.frz o u)
def Rd.ok(r:Rd H a u)(x:HOk P w H h):u6 P w H h a u:=by
 rcases r with r | ⟨o,r⟩
 ·exact x a u r
 ·obtain⟨_,q⟩:=x a _ r;exact q
noncomputable def Mut:Kr HO->Prop
 | some (.lst _)=>True
 | some (.dK _)=>True
 | some (.dT _)=>True
 | some (.set _ _)=>True
 | some (.ins _ _ _)=>True
 | some (.ext _)=>True
 | _=>False
def HOk.write(ok:HOk P w H h)(f:Mut (H x))(A:e=x\/H e=some (.own x))(k:∀b u,b≠e->h.get? b=some u->h'.get? b=some u)(n:∃u,h'.get? e=some u)
  (new:u6 P w (upd H x m) h' x m):HOk P w (upd H x m) h':=λ b u q=>by
 have d:∀c y,H c=some (.own y)->c≠x:=λ c y r z=>by subst z;rw[r]at f;exact f
 have i:∀c g,H c=some (.tup g)->c≠x:=λ c g r z=>by subst z;rw[r]at f;exact f
 by_cases l:b=x
 ·subst l;rw[y9]at q;cases q;exact new
 ·rw[n6 l]at q;by_cases a:b=e
  ·have p:H b=some (.own x):=by
    rcases A with z | z
    ·exact absurd (a.trans z) l
    ·rw[a];exact z
   rw[q]at p;cases p;obtain⟨v,hv⟩:=n;exact⟨v,by rw[a];exact hv⟩
  ·refine(ok b u q).stay (λ c v j r=>k c v ?_ r) (λ c r=>by rw[n6 (d c b r)];exact r) (λ c g r=>by rw[n6 (i c g r)];exact r) (λ c g r=>by rw[n6 λ z=>by subst z;rw[r]at f;exact f];exact r) λ c o v _ _ r=>by rw[n6 λ z=>by subst z;rw[r]at f;exact f];exact r
   rcases j with rfl | j
   ·exact a
   ·rintro rfl
    rcases A with z | z
    ·exact d c b j z
    ·rw[j]at z;cases z;exact l rfl
structure Un(fs ex:List Addr)(H H':Hp)(h h':Heap):Prop where
 keep:∀b o,h.get? b=some o->H b=none->b∉fs->b∉ex->h'.get? b=some o
 slot:∀b o,h.get? b=some o->H b=none->b∈fs->b∉ex->∃sl,h'.get? b=some {o with slots:=sl}
 free:∀b o,h.get? b=some o->H b=none->b∉ex->H' b=none
 there:∀b o,h.get? b=some o->b∉ex->∃o',h'.get? b=some o'
 tups:∀b xs,H b=some (.tup xs)->H' b=some (.tup xs)
 frzs:∀b o u,H b=some (.frz o u)->H' b=some (.frz o u)
 tbls:∀b q,H b=some (.tbl q)->H' b=some (.tbl q)
def Un.any(u:Un fs ex H g h e)(q:h.get? b=some a)(n:H b=none)(c:b∉ex):∃f,e.get? b=some {a with slots:=f}:=by
 by_cases d:b∈fs
 ·exact u.slot b a q n d c
 ·exact⟨a.slots,u.keep b a q n d c⟩
def Un.kept(k:∀b u,h.get? b=some u->h'.get? b=some u):Un fs ex H H h h':=
 ⟨λ b a q _ _ _=>k b a q,λ b a q _ _ _=>⟨a.slots,k b a q⟩,λ _ _ _ n _=>n,λ b a q _=>⟨a,k b a q⟩,λ _ _ q=>q,λ _ _ _ q=>q,λ _ _ q=>q⟩
def Un.refl:Un fs ex H H h h:=Un.kept λ _ _ q=>q
def Un.laid(k:∀b u,h.get? b=some u->h'.get? b=some u)(e:h.objs.size<=a)(c:H a=none):Un fs ex H (upd H a o) h h' where
 keep:=λ b u q _ _ _=>k b u q
 slot:=λ b u q _ _ _=>⟨u.slots,k b u q⟩
 free:=λ b u q n _=>by rw[n6 (q9 (t7 (k9 q) e))];exact n
 there:=λ b u q _=>⟨u,k b u q⟩
 tups:=λ b d q=>by rw[n6 (A7 q c)];exact q
 frzs:=λ b u d q=>by rw[n6 (A7 q c)];exact q
 tbls:=λ b ps q=>by rw[n6 (A7 q c)];exact q
def Un.write(c:Mut (H x))(m:e=x\/H e=some (.own x))(k:∀b u,b≠e->h.get? b=some u->h'.get? b=some u)(f:∃u,h'.get? e=some u):Un fs ex H (upd H x o) h h':=by
 have g:∀b,H b=none->b≠x:=λ b n z=>by subst z;rw[n]at c;exact c
 have i:∀b,H b=none->b≠e:=λ b n z=>by
  subst z;rcases m with r | r
  ·exact g b n r
  ·rw[n]at r;cases r
 have d:∀b u,H b=some u->¬Mut (some u)->b≠x:=λ b u q l z=>by subst z;rw[q]at c;exact l c
 refine⟨λ b u q n _ _=>k b u (i b n) q,λ b u q n _ _=>⟨u.slots,k b u (i b n) q⟩,λ b u q n _=>by rw[n6 (g b n)];exact n,λ b u q _=>?_,
  λ b j q=>by rw[n6 (d b _ q λ z=>z)];exact q,λ b u j q=>by rw[n6 (d b _ q λ z=>z)];exact q,λ b ps q=>by rw[n6 (d b _ q λ z=>z)];exact q⟩
 by_cases a:b=e
 ·subst a;exact f
 ·exact⟨u,k b u a q⟩
noncomputable def trk(h:Kv)(H:Hp):on Ku:=(Lb h.objs.size).filter λ a=>(H a).isSome
def hidT(h:Kv)(H:Hp):Kv:=PySem.W.hideAll h (trk h H)
def yz(h:Kv)(H:Hp):(hidT h H).objs.size=h.objs.size:=PySem.W.hideAll_size _ _
def yA(e:h.get? b=some o)(n:H b=none):(hidT h H).get? b=some o:=
 jF _ e λ a=>by have q:=(D6.mp a).2;rw[n]at q;simp at q
def yC(e:(hidT h H).get? b=some o):h.get? b=some o/\H b=none:=by
 have a:=PySem.W.of_hideAll _ e;refine⟨a,?_⟩;cases q:H b with
 | none=>rfl
 | some x=>
  have z:(hidT h H).get? b=none:=PySem.W.hideAll_none _ (D6.mpr ⟨u0.mpr (k9 a),by simp[q]⟩);rw[z]at e;cases e
noncomputable def yD(g h:Kv)(L:Ku):on (Ku×Obj):=(Lb h.objs.size).filterMap λ a=>if a=L\/(g.get? a).isSome=true then none else(h.get? a).map λ o=>(a,o)
def rest(g h:Kv)(L d:Ku):on (Ku×Obj):=(yD g h L).filter λ p=>decide (p.1≠d)
end L2
namespace L2
open PySem PySem.Spec PyProof.Rows
structure Mod(K:PySem.W.Frag)(mg:Str->Option Value)(base:Heap):Prop where
 kin:K.In base
 glob:base.Ns mainGlobals mg
 blt:∃mb,base.Ns builtinsNs mb/\∀x:Str,x ≠ "__name__" -> mb x=bootBuiltins x
 nolimit:base.NoLimit
 bmod:∃bm ob,mg "__builtins__" = some (.ref bm)/\bm≠builtinsNs/\base.get? bm=some ob/\ob.cls=.type "module" /\ ob.dict=some builtinsNs/\ob.data=.plain
set_option genInjectivity true in
structure Cx where
 prog:Program
 w:World
 K:PySem.W.Frag
 mg:Str->Option Value
 base:Heap
 A:Around
 N:List Str
 s₀:Shared
 H₀:Hp
 env:Env
 outer:List Env
 stack:List Env
 ex:List Addr
 fn:Str->Bool
 calm:Bool
 pn:List (Addr×Obj)
 xe:Value->Shared->Prop
def tagQ(q:Str):Str:=if N9 (q ++ ".<locals>." ++ "plan_of")then q ++ ".<locals>." ++ "plan_of" else q ++ ".<locals>." ++ "<lambda>"
def A8(K:KC):on (Ku×Str):=K.filterMap λ p=>match p.2.cls,p.2.data with
 | .type "code",.fields vs=>(match(vs[11]?:Kr Ks),(vs[1]?:Kr Ks)with
  | some (.ref P),some (.str q _)=>if(K.lookup P).isNone then some (P,tagQ q)else none
  | _,_=>none)
 | _,_=>none
def dG(K:KC)(H:Hp):Prop:=∀p∈A8 K,H p.1=some (.tbl p.2)
def frs(l:on Env):on Ku:=l.filterMap (·.frame)
abbrev Cx.fs(X:Cx):on Ku:=frs X.outer
def Vis(sc:KD)(x:Str):Prop:=sc.names.lookup x=some .local\/sc.names.lookup x=some .cell\/sc.names.lookup x=some .free
def Loc(sc:KD)(x:Str):Prop:=sc.names.lookup x=some .local\/sc.names.lookup x=some .cell
def Look(env:Env)(h:Kv)(m:Str->Kr Ks)(x:Str)(u:Ks):Prop:=
 (env.kindOf x=some .local/\m x=some u)\/((env.kindOf x=some .cell\/env.kindOf x=some .free)/\∃c,env.cells.lookup x=some c/\h.IsCell c (some u))
structure Cx.Ok(X:Cx):Prop where
 mod:Mod X.K X.mg X.base
 kind:X.env.scope.kind=.function
 glob:X.env.globals=mainGlobals
 blt:X.env.builtins=builtinsNs
 above:X.s₀.heap.objs.size<=X.env.locals
 inj:∀x y c,X.env.cells.lookup x=some c->X.env.cells.lookup y=some c->x=y
 has:∀x,(X.env.kindOf x=some .cell\/X.env.kindOf x=some .free)->∃c,X.env.cells.lookup x=some c
 cab:∀x c,X.fn x=true->X.env.cells.lookup x=some c->X.s₀.heap.objs.size<=c
 hd:X.calm=true->X.A.handled=none
 frames:X.A.frames=some X.stack
 stk:X.stack=X.outer\/(X.stack=X.env::X.outer/\X.env.frame=some X.env.locals)
 exf:∀b∈X.ex,b≠X.env.locals/\∀x c,X.env.cells.lookup x=some c->c≠b
 bs:∀b o,X.base.get? b=some o->X.s₀.heap.get? b=some o/\X.H₀ b=none
 bsz:X.base.objs.size<=X.s₀.heap.objs.size
 noex:∀b o,X.base.get? b=some o->b∉X.ex
 exfs:∀b∈X.ex,b∉X.fs
 funs:X.s₀.heap.FunFrames X.base X.outer
 frf:(∀b∈X.fs,X.H₀ b=none)/\dG X.K X.H₀
structure Inv(X:Cx)(pins:List (Addr×Obj))(σ:List (Option V))(H:Hp)(s:Shared):Prop where
 ok:X.Ok
 os:s.os=X.s₀.os
 bare:AllBare s.gens
 base:Un X.fs X.ex X.H₀ H X.s₀.heap s.heap
 loc:∃m,s.heap.Ns X.env.locals m/\∀(i:Nat) (x:Str) (v:V),X.N[i]? = some x->σ[i]? = some (some v)->Vis X.env.scope x->∃u,RelV v u/\Look X.env s.heap m x u
 cell:∀x c,X.env.cells.lookup x=some c->∃v,s.heap.IsCell c v
 free:H X.env.locals=none
 freeC:∀x c,X.env.cells.lookup x=some c->H c=none
 pin:∀p∈X.pn++pins,s.heap.get? p.1=some p.2/\H p.1=none/\p.1≠X.env.locals/\p.1∉X.fs/\∀v,p.2.data ≠ .cell v
 hok:HOk X.prog X.w H s.heap
 len:σ.length=X.N.length
def Cx.Ok.nofr{X:Cx}(ok:X.Ok)(e:X.base.get? b=some o):b∉X.fs:=λ a=>by
 have:=(ok.funs.mem a).1;rw[e]at this;cases this
theorem Inv.bs(I:KR a):∀b o,X.base.get? b=some o->s.heap.get? b=some o/\H b=none:=λ b o e=>
 ⟨I.base.keep b o (I.ok.bs b o e).1 (I.ok.bs b o e).2 (I.ok.nofr e) (I.ok.noex b o e),I.base.free b o (I.ok.bs b o e).1 (I.ok.bs b o e).2 (I.ok.noex b o e)⟩
def Inv.bk(I:KR a):∀b o,X.base.get? b=some o->s.heap.get? b=some o:=λ b o e=>(I.bs b o e).1
theorem Inv.mod(I:KR a):Mod X.K X.mg X.base:=I.ok.mod
def Inv.tabs(I:KR a):dG X.K H:=λ p b=>I.base.tbls p.1 p.2 (I.ok.frf.2 p b)
def Inv.kIn(I:KR a):X.K.In s.heap:=I.ok.mod.kin.keeps I.bk
theorem Inv.lt(I:KR a):X.env.locals<s.heap.objs.size:=let ⟨_,hn,_⟩:=I.loc;hn.lt
def Inv.sz(I:KR a):X.s₀.heap.objs.size<=s.heap.objs.size:=i7 I.ok.above (W6 I.lt)
def Inv.nofs(I:KR b)(h:s.heap.objs.size<=a):a∉X.fs:=λ d=>by
 obtain⟨_,o,c,_⟩:=I.ok.funs.mem d
 exact absurd (t7 (k9 c) (i7 I.sz h)) (P2 _)
def Inv.cne(I:KR a):∀x c,X.env.cells.lookup x=some c->c≠X.env.locals:=λ x c e z=>by
 obtain⟨v,o,f,hd⟩:=I.cell x c e;obtain⟨m,⟨o',es,ep,b,d,_⟩,_⟩:=I.loc;rw[z,b]at f;cases f;rw[d]at hd;cases hd
theorem Inv.funs(I:KR a):s.heap.FunFrames X.base X.outer:=by
 have all:∀(l:on Env),(∀b∈frs l,b∈X.fs)->X.s₀.heap.FunFrames X.base l->s.heap.FunFrames X.base l:=by
  intro l
  induction l with
  | nil=>intro _ _;trivial
  | cons p r h=>
   intro g m;obtain⟨n,⟨L,o,c,k,j,hd⟩,i⟩:=m;have f:=g L (by unfold frs;rw[fG,c];exact o5);obtain⟨sl,e⟩:=I.base.slot L o j (I.ok.frf.1 L f) f λ z=>I.ok.exfs L z f
   exact⟨n,⟨L,_,c,k,e,hd⟩,h (λ b d=>g b (by unfold frs;rw[fG,c];exact o4 _ d)) i⟩
 exact all X.outer (λ _ d=>d) I.ok.funs
theorem Inv.stack(I:KR a):s.heap.FunFrames X.base X.stack:=by
 rcases I.ok.stk with e | ⟨e,hf⟩
 ·rw[e];exact I.funs
 ·rw[e];obtain⟨m,b,_⟩:=I.loc;refine .cons (by rw[I.ok.kind];decide) hf b ?_ I.funs
  exact cS (i7 I.ok.bsz I.ok.above)
def Inv.stkSub(I:KR c):∀b∈frs X.stack,b∈X.env.locals::X.fs:=λ b a=>by
 rcases I.ok.stk with e | ⟨e,hf⟩
 ·rw[e]at a;exact o4 _ a
 ·rw[e]at a;unfold frs at a;rw[fG,hf]at a;exact a
def Inv.stkFree(I:KR a):∀b∈frs X.stack,H b=none:=λ b c=>by
 rcases i6.mp (I.stkSub b c)with e | c
 ·rw[e];exact I.free
 ·obtain⟨_,o,d,_⟩:=I.ok.funs.mem c
  exact I.base.free b o d (I.ok.frf.1 b c) λ z=>I.ok.exfs b z c
def Inv.step{ch:on Ku}(I:KR f)
  (h:∀b∈ch,(b∈X.ex\/X.s₀.heap.objs.size<=b)/\b≠X.env.locals/\(∀x c,X.env.cells.lookup x=some c->c≠b)/\∀p∈X.pn++f,p.1≠b)
  (keep:∀b o,b≠X.env.locals->b∉X.fs->b∉ch->s.heap.get? b=some o->H b=none->h'.get? b=some o)
  (slot:∀b o,b≠X.env.locals->b∈X.fs->b∉ch->s.heap.get? b=some o->H b=none->∃M,h'.get? b=some {o with slots:=M}) (free:∀b o,b∉ch->s.heap.get? b=some o->H b=none->C b=none)
  (there:∀b o,b∉ch->s.heap.get? b=some o->∃F,h'.get? b=some F)
  (tups:∀b xs,H b=some (.tup xs)->C b=some (.tup xs)) (K:∀b o u,H b=some (.frz o u)->C b=some (.frz o u)) (E:∀b q,H b=some (.tbl q)->C b=some (.tbl q))
  (U:∀m,s.heap.Ns X.env.locals m->h'.Ns X.env.locals m) (N:HOk X.prog X.w C h') (Z:AllBare S) :
  Inv X f σ C {s with heap:=h',gens:=S,drawn:=d',toks:=t'}:=by
 have J:∀b o,X.s₀.heap.get? b=some o->b≠X.env.locals:=λ b o e=>q9 (t7 (k9 e) I.ok.above);have w:∀b o,X.s₀.heap.get? b=some o->b∉X.ex->b∉ch:=λ b o e a y=>by
  rcases(h b y).1 with z | z
  ·exact a z
  ·exact absurd (t7 (k9 e) z) (P2 _)
 have j:∀x c,X.env.cells.lookup x=some c->∀v,s.heap.IsCell c v->h'.IsCell c v:=λ x c e v ⟨o,B,hd⟩=>by
  have g:c∉ch:=λ z=>(h c z).2.2.1 x c e rfl;by_cases R:c∈X.fs
  ·obtain⟨M,q⟩:=slot c o (I.cne x c e) R g B (I.freeC x c e);exact⟨_,q,hd⟩
  ·exact⟨o,keep c o (I.cne x c e) R g B (I.freeC x c e),hd⟩
 refine⟨I.ok,I.os,Z,⟨λ b o e n y a=>?_,λ b o e n y a=>?_,λ b o e n a=>?_,λ b o e a=>?_,λ b xs e=>tups b xs (I.base.tups b xs e),λ b o xs e=>K b o xs (I.base.frzs b o xs e),λ b ps e=>?_⟩,?_,λ x c e=>?_,?_,λ x c e=>?_,λ p Q=>?_,N,I.len⟩
 ·exact keep b o (J b o e) y (w b o e a) (I.base.keep b o e n y a) (I.base.free b o e n a)
 ·obtain⟨M,A⟩:=I.base.slot b o e n y a;obtain⟨L,O⟩:=slot b _ (J b o e) y (w b o e a) A (I.base.free b o e n a);exact⟨L,O⟩
 ·obtain⟨F,A⟩:=I.base.there b o e a;exact free b F (w b o e a) A (I.base.free b o e n a)
 ·obtain⟨F,A⟩:=I.base.there b o e a;exact there b F (w b o e a) A
 ·exact E b ps (I.base.tbls b ps e)
 ·obtain⟨m,W,Y⟩:=I.loc;refine⟨m,U m W,λ i x v A O e3=>?_⟩;obtain⟨u,r,l⟩:=Y i x v A O e3;refine⟨u,r,?_⟩;rcases l with l | ⟨k,c,e,z⟩
  ·exact .inl l
  ·exact .inr ⟨k,c,e,j x c e _ z⟩
 ·obtain⟨v,z⟩:=I.cell x c e;exact⟨v,j x c e v z⟩
 ·obtain⟨m,⟨o,_,_,B,_⟩,_⟩:=I.loc;exact free _ o (λ z=>(h _ z).2.1 rfl) B I.free
 ·obtain⟨v,o,B,hd⟩:=I.cell x c e;exact free c o (λ z=>(h c z).2.2.1 x c e rfl) B (I.freeC x c e)
 ·obtain⟨e,n,ne,P,d⟩:=I.pin p Q;have g:p.1∉ch:=λ z=>(h p.1 z).2.2.2 p Q rfl
  exact⟨keep p.1 p.2 ne P g e n,free p.1 p.2 g e n,ne,P,d⟩
def Inv.un(I:KR a)(u:Un X.fs [] H i s.heap h')(d:HOk X.prog X.w i h'):Inv X a σ i {s with heap:=h',toks:=t'}:=by
 obtain⟨m,⟨o,es,ep,j,r⟩,_⟩:=id I.loc;obtain⟨sl,p⟩:=u.any j I.free KS;exact I.step (ch:=[]) (λ _ z=>nomatch z) (λ b o _ f _ e n=>u.keep b o e n f KS) (λ b o _ f _ e n=>u.slot b o e n f KS) (λ b o _ e n=>u.free b o e n KS) (λ b o _ e=>u.there b o e KS) u.tups u.frzs u.tbls (λ m' l=>by
  obtain⟨o',g,h,c,k⟩:=l;rw[j]at c;cases c;exact⟨_,g,h,p,k⟩) d I.bare
def Inv.call(I:KR a)(u:Un (frs X.stack) ch H l s.heap h')(h:HOk X.prog X.w l h')(A:AllBare v)
  (g:∀b∈ch,(b∈X.ex\/X.s₀.heap.objs.size<=b)/\b≠X.env.locals/\(∀x c,X.env.cells.lookup x=some c->c≠b)/\∀p∈X.pn++a,p.1≠b) :
  Inv X a σ l {s with heap:=h',gens:=v,drawn:=C,toks:=t'}:=by
 obtain⟨m,⟨o,es,ep,q,r⟩,_⟩:=id I.loc;obtain⟨sl,i⟩:=u.any q I.free λ z=>(g _ z).2.1 rfl
 exact I.step g (λ b o i B d e n=>u.keep b o e n (λ z=>(i6.mp (I.stkSub b z)).elim i B) d) (λ b o _ _ d e n=>u.any e n d) (λ b o d e n=>u.free b o e n d) (λ b o d e=>u.there b o e d) u.tups u.frzs u.tbls (λ m' y=>by
  obtain⟨o',j,k,f,w⟩:=y;rw[q]at f;cases f;exact⟨_,j,k,i,w⟩) h A
def Inv.turned(I:KR a)(k:∀b o,b≠it->s.heap.get? b=some o->h'.get? b=some o)(i:H it=none)(g:it≠X.env.locals)
  (A:it∈X.ex\/X.s₀.heap.objs.size<=it) (y:∀x c,X.env.cells.lookup x=some c->c≠it) (w:∀p∈X.pn++a,p.1≠it):Inv X a σ H {s with heap:=h',toks:=t'}:=by
 have f:∀b u,H b=some u->b≠it:=λ b u e z=>by rw[z,i]at e;cases e
 refine I.step (ch:=[it]) (λ b l=>?_) (λ b o _ _ d e _=>k b o (λ z=>d (by simp[z])) e) (λ b o _ _ d e _=>⟨o.slots,k b o (λ z=>d (by simp[z])) e⟩) (λ _ _ _ _ n=>n)
  (λ b o d e=>⟨o,k b o (λ z=>d (by simp[z])) e⟩) (λ _ _ e=>e) (λ _ _ _ e=>e) (λ _ _ e=>e) (λ m j=>?_) (λ b u e=>?_) I.bare
 ·have e:b=it:=by simpa using l
  subst e;exact⟨A,g,y,w⟩
 ·obtain⟨o,B,C,h,r⟩:=j;exact⟨o,B,C,k _ o (Mq g) h,r⟩
 ·refine(I.hok b u e).stay (λ c v d q=>k c v ?_ q) (λ _ q=>q) (λ _ _ q=>q) (λ _ _ q=>q) λ _ _ _ _ _ q=>q;rcases d with z | z
  ·rw[z];exact f b u e
  ·exact f c _ z
def Inv.tok(I:KR a)(t:Nat):Inv X a σ H {s with toks:=t}:=I.un Un.refl I.hok
theorem Inv.kept(I:KR a)(k:∀b u,s.heap.get? b=some u->h'.get? b=some u):Inv X a σ H {s with heap:=h',toks:=t'}:=I.un (Un.kept k) (I.hok.kept k)
theorem Inv.laid(I:KR c)(k:∀b u,s.heap.get? b=some u->h'.get? b=some u)(d:s.heap.objs.size<=a)(new:u6 X.prog X.w (upd H a o) h' a o) :
  Inv X c σ (upd H a o) {s with heap:=h',toks:=t'}:=I.un (Un.laid k d (I.hok.fresh d)) (I.hok.laid k d new)
theorem Inv.write(I:KR a)(d:Mut (H x))(f:e=x\/H e=some (.own x))(k:∀b u,b≠e->s.heap.get? b=some u->h'.get? b=some u)(c:∃u,h'.get? e=some u)
  (new:u6 X.prog X.w (upd H x o) h' x o):Inv X a σ (upd H x o) {s with heap:=h',toks:=t'}:=I.un (Un.write d f k c) (I.hok.write d f k c new)
def Inv.pins_of(I:KR a)(h:∀p∈pins',s.heap.get? p.1=some p.2/\H p.1=none/\p.1≠X.env.locals/\p.1∉X.fs/\∀v,p.2.data ≠ .cell v):Inv X pins' σ H s:=
 ⟨I.ok,I.os,I.bare,I.base,I.loc,I.cell,I.free,I.freeC,λ p b=>(F1.mp b).elim (λ z=>I.pin p (E3 _ z)) (h p),I.hok,I.len⟩
def gE{N:on Str}(c:N.Nodup){j:Nat}(a:N[i]? = some x)(b:N[j]? = some x):i=j:=by
 obtain⟨h1,e⟩:=z7.mp a;obtain⟨h2,d⟩:=z7.mp b;exact(List.getElem_inj c).mp (e.trans d.symm)
def ql(I:KR J)(hN:X.N.Nodup)(W:X.N[i]? = some x)(B:Loc X.env.scope x)(r:RelV v u)
  (h:∀s',Inv X J (σ.set i (some v)) H s'->(∃a,Heap.SameBut a s.heap s'.heap/\(a=X.env.locals\/X.env.cells.lookup x=some a))->Q () s') (hf:X.fn x=true\/X.env.scope.names.lookup x=some .local:=by first | exact .inl rfl | exact .inr rfl | assumption):wpAny M A (storeName X.env x u) Q E s:=by
 obtain⟨m,hn,hl⟩:=id I.loc;have Y:(X.env.scope.kind == .class||(X.env.scope.kind == .module&&X.env.locals != X.env.globals))=false:=by rw[I.ok.kind];rfl
 have L:i<σ.length:=by rw[I.len];exact(z7.mp W).1
 have cne:=I.cne;have g:∀{a:Ku} {R:Kv},(∃o,s.heap.get? a=some o/\H a=none)->Heap.SameBut a s.heap R->HOk X.prog X.w H R:=λ {a R} ha f b ob e=>by
  obtain⟨_,_,C⟩:=ha;refine(I.hok b ob e).stay (λ c w' w q=>(f.2 c ?_).trans q) (λ _ q=>q) (λ _ _ q=>q) (λ _ _ q=>q) λ _ _ _ _ _ q=>q
  rintro rfl
  rcases w with rfl | w
  ·rw[C]at e;cases e
  ·rw[C]at w;cases w
 rcases B with K | K
 ·refine wpAny_storeName_local K hn (λ R a2 f=>?_) Y;obtain⟨oL,_,_,a1,_⟩:=id hn;refine h _ ⟨I.ok,I.os,I.bare,⟨λ b o e n P B=>?_,λ b o e n P B=>?_,I.base.free,λ b o e B=>?_,I.base.tups,I.base.frzs,I.base.tbls⟩,⟨_,a2,λ j y v' l F e3=>?_⟩,λ y c e=>?_,I.free,I.freeC,λ p hp=>?_,g ⟨oL,a1,I.free⟩ f,by simpa using I.len⟩ ⟨_,f,.inl rfl⟩
  ·exact(MA).trans (I.base.keep b o e n P B)
  ·obtain⟨sl,l⟩:=I.base.slot b o e n P B;exact⟨sl,(MA).trans l⟩
  ·obtain⟨o',l⟩:=I.base.there b o e B;exact⟨o',(MA).trans l⟩
  ·by_cases N:j=i
   ·subst N;rw[W]at l;cases l;rw[K6 L]at F;cases F;exact⟨u,r,.inl ⟨K,by simp⟩⟩
   ·rw[A2 (Mq N)]at F;obtain⟨u',r',q⟩:=hl j y v' l F e3;refine⟨u',r',?_⟩;rcases q with⟨k,e⟩ | ⟨k,c,e,z⟩
    ·refine .inl ⟨k,?_⟩;have:y≠x:=λ e=>N (gE hN l (e▸W));simp[this,e]
    ·exact .inr ⟨k,c,e,z.sameBut f (cne y c e)⟩
  ·obtain⟨w',z⟩:=I.cell y c e;exact⟨w',z.sameBut f (cne y c e)⟩
  ·obtain⟨e,n,ne,nf,d⟩:=I.pin p hp;exact⟨(f.2 p.1 ne).trans e,n,ne,nf,d⟩
 ·have O:X.fn x=true:=by
   rcases hf with z | z
   ·exact z
   ·rw[z]at K;cases K
  obtain⟨c,w⟩:=I.ok.has x (.inl K);obtain⟨w',z⟩:=I.cell x c w;refine wpAny_storeName_cell I.ok.kind K w z (λ R a0 f=>?_);obtain⟨oc,U,S⟩:=id z;refine h {s with heap:=R} ⟨I.ok,I.os,I.bare,⟨λ b o e n P B=>?_,λ b o e n P B=>?_,I.base.free,λ b o e B=>?_,I.base.tups,I.base.frzs,I.base.tbls⟩,⟨m,hn.sameBut f (Mq (cne x c w)),λ j y v' l F e3=>?_⟩,λ y c' e=>?_,I.free,I.freeC,λ p hp=>?_,g ⟨oc,U,I.freeC x c w⟩ f,by simpa using I.len⟩ ⟨c,f,.inr w⟩
  ·exact(f.2 b (q9 (t7 (k9 e) (I.ok.cab x c O w)))).trans (I.base.keep b o e n P B)
  ·obtain⟨sl,l⟩:=I.base.slot b o e n P B;exact⟨sl,(f.2 b (q9 (t7 (k9 e) (I.ok.cab x c O w)))).trans l⟩
  ·obtain⟨o',l⟩:=I.base.there b o e B;exact⟨o',(f.2 b (q9 (t7 (k9 e) (I.ok.cab x c O w)))).trans l⟩
  ·by_cases N:j=i
   ·subst N;rw[W]at l;cases l;rw[K6 L]at F;cases F;exact⟨u,r,.inr ⟨.inl K,c,w,a0⟩⟩
   ·rw[A2 (Mq N)]at F;obtain⟨u',r',q⟩:=hl j y v' l F e3;refine⟨u',r',?_⟩;rcases q with q | ⟨k,c',e,z'⟩
    ·exact .inl q
    ·refine .inr ⟨k,c',e,z'.sameBut f ?_⟩
     rintro rfl
     exact N (gE hN l (I.ok.inj _ _ _ e w▸W))
  ·by_cases Z:c'=c
   ·subst Z;exact⟨_,a0⟩
   ·obtain⟨w2,z2⟩:=I.cell y c' e;exact⟨w2,z2.sameBut f Z⟩
  ·obtain⟨e,n,ne,nf,d⟩:=I.pin p hp;refine⟨(f.2 p.1 ?_).trans e,n,ne,nf,d⟩;intro q;rw[q,U]at e;exact d w' (by rw[←(D5 e)];exact S)
def gF(I:KR a)(f:X.N.Nodup)(d:X.N[i]? = some x)(c:Loc X.env.scope x)(r:RelV v u)
  (h:∀b,Inv X a (σ.set i (some v)) H b->Q () b) (e:X.fn x=true\/X.env.scope.names.lookup x=some .local:=by first | exact .inl rfl | exact .inr rfl | assumption):wpAny M A (storeName X.env x u) Q E s:=
 ql I f d c r (λ b g _=>h b g) e
def Inv.call'(I:KR a)(i:d.os=s.os)(u:Un (frs X.stack) ch H h s.heap d.heap)(f:HOk X.prog X.w h d.heap)(j:AllBare d.gens)
  (g:∀b∈ch,(b∈X.ex\/X.s₀.heap.objs.size<=b)/\b≠X.env.locals/\(∀x c,X.env.cells.lookup x=some c->c≠b)/\∀p∈X.pn++a,p.1≠b):Inv X a σ h d:=by
 obtain⟨h',g',d',t',o'⟩:=d;have e:=i;subst e;exact I.call u f j g
abbrev XK:=Ks->Kr Ku->Hp->Prop
abbrev St:=on (Kr V)
abbrev VK:=V->Hp->Prop
abbrev TE:=St->Hp->VK->Prop
abbrev TT:=St->Hp->(Bool->Hp->Prop)->Prop
abbrev TA:=St->Hp->(on V->Hp->Prop)->Prop
structure Ends where
 nx:St->Hp->Prop
 rt:VK
 bk:St->Hp->Prop:=λ _ _=>False
 ct:St->Hp->Prop:=λ _ _=>False
abbrev TS:=Ends->St->Hp->Prop
def EP(X:Cx)(pins:LF)(σ:St)(Q:VK)(u:Ks)(s':Kt):Prop:=∃v H',Inv X pins σ H' s'/\RelV v u/\Q v H'
def TP(X:Cx)(pins:LF)(σ:St)(Q:Bool->Hp->Prop)(b:Bool)(s':Kt):Prop:=∃H',Inv X pins σ H' s'/\Q b H'
def AP(X:Cx)(pins:LF)(σ:St)(Q:on V->Hp->Prop)(us:on Ks)(s':Kt):Prop:=∃vs H',Inv X pins σ H' s'/\Vals vs us/\Q vs H'
def SP(X:Cx)(pins:LF)(D:Ends)(f:Flow)(s':Kt):Prop:=
 match f with
 | .next=>∃σ' H',Inv X pins σ' H' s'/\D.nx σ' H'
 | .brk=>∃σ' H',Inv X pins σ' H' s'/\D.bk σ' H'
 | .cont=>∃σ' H',Inv X pins σ' H' s'/\D.ct σ' H'
 | .ret u=>∃v σ' H',Inv X pins σ' H' s'/\RelV v u/\D.rt v H'
def PE(X:Cx)(e:Kw)(t:TE):Prop:=
 ∀(pins:LF) (s:Kt) (σ:St) (H:Hp) (Q:VK),Inv X pins σ H s->t σ H Q->wpAny KO X.A (Ms e) (EP X pins σ Q) X.xe s
def PT(X:Cx)(e:Kw)(t:TT):Prop:=
 ∀(pins:LF) (s:Kt) (σ:St) (H:Hp) (Q:Bool->Hp->Prop),Inv X pins σ H s->t σ H Q->wpAny KO X.A (isTrue e X.env (Ms e)) (TP X pins σ Q) X.xe s
def PW(X:Cx)(e:Kw)(t:TT):Prop:=
 ∀(whole:Sem Ks) (pins:LF) (s:Kt) (σ:St) (H:Hp) (Q:Bool->Hp->Prop),Inv X pins σ H s->t σ H Q->wpAny KO X.A (isTrue e X.env whole) (TP X pins σ Q) X.xe s
def PW.pt(h:PW X e t):PT X e t:=h _
def PA(X:Cx)(es:on Kw)(t:TA):Prop:=
 ∀(pos:Pos) (pins:LF) (s:Kt) (σ:St) (H:Hp) (Q:on V->Hp->Prop),Inv X pins σ H s->t σ H Q->wpAny KO X.A (spliced (Mf pos es)) (AP X pins σ Q) X.xe s
def PS(X:Cx)(st:KB)(t:TS):Prop:=
 ∀(pins:LF) (s:Kt) (σ:St) (H:Hp) (D:Ends),Inv X pins σ H s->t D σ H->wpAny KO X.A (exec st X.env) (SP X pins D) X.xe s
def PSs(X:Cx)(st:on KB)(t:TS):Prop:=
 ∀(pins:LF) (s:Kt) (σ:St) (H:Hp) (D:Ends),Inv X pins σ H s->t D σ H->wpAny KO X.A (execs st X.env) (SP X pins D) X.xe s
def thn(h:wpAny M A t Q E s)(c:∀a s,Q a s->Q' a s):wpAny M A t Q' E s:=B4 h c λ _ _ x=>x
end L2
namespace L2
open PySem PySem.Spec PyProof.Rows
section
variable {X:Cx}
def bin(r:PE X a l)(q:PE X b tb){R:V->V->Hp->Prop}(I:KR c)(h:l σ H λ x j=>tb σ j λ y d=>R x y d)
     {Q:k->Kt->Prop} {f:Ks->Ks->Sem k}
    (p:∀v u i x y d,Inv X c σ d i->RelV x v->RelV y u->R x y d->wpAny KO X.A (f v u) Q X.xe i) :
    wpAny KO X.A (Ms a) (λ v g=>wpAny KO X.A (Ms b) (λ u e=>wpAny KO X.A (f v u) Q X.xe e) X.xe g) X.xe s:=by
  refine thn (r c s σ H _ I h) λ v s1 t0=>?_;obtain⟨x,j,z,r1,o⟩:=t0;refine thn (q c s1 σ j _ z o) λ u i t0=>?_;obtain⟨y,d,w,m,n⟩:=t0;exact p v u i x y d w r1 m n
noncomputable def tVar(i:Nat):TE:=λ σ H Q=>∃v,σ[i]? = some (some v)/\Q v H
def tC(v:V):TE:=λ _ H Q=>Q v H
def O0(o:X.N[i]? = some x)(hv:Vis X.env.scope x)(hd:Lu=false:=by decide)(f:(x==("__classdict__" : Str))=false:=by decide):PE X (Mo pos) (tVar i):=by
 intro d s g H Q I h;obtain⟨v,e,h⟩:=h;obtain⟨m,j,n⟩:=I.loc;obtain⟨u,r,l⟩:=n i x v o e hv;have b:EP X d g Q u s:=⟨v,H,I,r,h⟩;rcases l with⟨a,k⟩ | ⟨a,c,hc,hcell⟩
 ·exact dz (wpAny_loadName_local I.ok.kind a j k b) hd
 ·rcases a with a | a
  ·exact dz (wpAny_loadName_cell I.ok.kind a hc hcell b) hd
  ·exact dz (wpAny_loadName_free I.ok.kind a hc hcell b f) hd
def yE:PE X (.Constant (.int i) j pos) (tC (.int i)):=λ _ _ _ H _ I h=>wpAny_Constant_int ⟨.int i,H,I.tok _,LY,h⟩
def qm:PE X (.Constant (.bool b) j pos) (tC (.bl b)):=λ _ _ _ H _ I h=>Constant_bool ⟨.bl b,H,I,rfl,h⟩
def qo:PE X (.Constant .none j pos) (tC .non):=λ _ _ _ H _ I h=>Constant_none ⟨.non,H,I,rfl,h⟩
def kz:PE X (.Constant (.str x) j pos) (tC (.str x)):=λ _ _ _ H _ I h=>Calls.Constant_str ⟨.str x,H,I.tok _,LY,h⟩
def Gl(X:Cx)(x:Str):Prop:=X.env.kindOf x=some .globalImplicit
def dH(I:KR a)(c:Gl X x)(b:X.mg x=some u)(h:Q u s)
  (hd:Lu=false:=by decide):wpAny KO X.A (eval (Mo pos) X.env) Q E s:=
 pE I.ok.kind c (Calls.loadGlobal_global (by rw[I.ok.glob];exact I.mod.glob.keeps I.bk) b h) hd
def aP(I:KR a)(d:Gl X x)(c:X.mg x=none)(hv:bootBuiltins x=some u)(h:Q u s)
  (b:x ≠ "__name__":=by decide) (hd:Lu=false:=by decide):wpAny KO X.A (eval (Mo pos) X.env) Q E s:=by
 obtain⟨mb,f,e⟩:=I.mod.blt;exact pE I.ok.kind d (Calls.loadGlobal_builtin (by rw[I.ok.glob];exact I.mod.glob.keeps I.bk) c (by rw[I.ok.blt];exact f.keeps I.bk) ((e x b).trans hv) h) hd
def qp(b:Gl X x)(a:X.mg x=some u)(r:RelV v u)(hd:Lu=false:=by decide):PE X (Mo pos) (tC v):=
 λ _ _ _ H _ I h=>dH I b a ⟨v,H,I,r,h⟩ hd
def qr(c:Gl X x)(b:X.mg x=none)(hv:bootBuiltins x=some u)(r:RelV v u)(a:x ≠ "__name__":=by decide)(hd:Lu=false:=by decide):PE X (Mo pos) (tC v):=
 λ _ _ _ H _ I h=>aP I c b hv ⟨v,H,I,r,h⟩ a hd
variable {a b:Kw} {ta tb:TE} {pos:Pos}
def PC(X:Cx)(op:CmpOp)(a b:Kw)(t:TE):Prop:=
 ∀(pins:LF) (s:Kt) (σ:St) (H:Hp) (Q:VK),Inv X pins σ H s->t σ H Q ->
  wpAny KO X.A (Ms a) (λ v s₁=>wpAny KO X.A (Ms b) (λ u s₂=>wpAny KO X.A (compareOp op v u) (EP X pins σ Q) X.xe s₂) X.xe s₁) X.xe s
def qt(b:Kw){a:CmpOp}(h:a ≠ .In)(c:a ≠ .NotIn):behindInMarks a b=false:=by
 have e:(a==CmpOp.In)=false:=by cases a<;>first | rfl | exact absurd rfl h
 have d:(a==CmpOp.NotIn)=false:=by cases a<;>first | rfl | exact absurd rfl c
 cases b<;>simp[behindInMarks,e,d]
noncomputable def tIsN(ta:TE):TE:=λ σ H Q=>ta σ H λ x H1=>Q (.bl (decide (x=.non))) H1
def RelV.none_iff(r:RelV x v):(v==Value.none)=decide (x=.non):=by
 cases x with
 | non=>cases r;rfl
 | bl _=>cases r;rfl
 | int _=>obtain⟨t,rfl⟩:=r;rfl
 | str _=>obtain⟨t,rfl⟩:=r;rfl
 | byt _=>obtain⟨t,rfl⟩:=r;rfl
 | flt _=>obtain⟨t,rfl⟩:=r;rfl
 | ref _=>cases r;rfl
 | ty _=>cases r;rfl
def yF(e:PE X a ta):PC X .Is a (.Constant .none j pos') (tIsN ta):=by
 intro b s c H Q I h;refine thn (e b s c H _ I h) λ v s1 t0=>?_;obtain⟨x,g,f,r1,d⟩:=t0
 exact Constant_none (is_none_gen ⟨.bl _,g,f,by rw[r1.none_iff];rfl,d⟩)
noncomputable def tB(t:TE):TT:=λ σ H Q=>t σ H λ x H1=>∃c,x=.bl c/\Q c H1
def yG(h:PC X d a b t)(g:behindInMarks d b=false:=by first | exact qt _ (by decide) KL | rfl):PE X (.Compare a [d] [b] pos) t:=λ c s e H Q I f=>wpAny_Compare1 (h c s e H Q I f) g
def qu(h:PC X f a b t)(g:behindInMarks f b=false:=by first | exact qt _ (by decide) KL | rfl):PT X (.Compare a [f] [b] pos) (tB t):=by
 intro e s i H Q I k;refine qf (thn (h e s i H _ I k) λ v s1 g=>thn g λ u s2 l=>thn l λ c s3 ⟨x,n,m,r1,j⟩=>?_) g;obtain⟨d,rfl,q⟩:=j;cases r1;exact T8 ⟨n,m,q⟩
def qv(h:PE X e t)(i:∀a,isTrue e X.env a=(do let v ←a;standAt e.pos;holding [v] (truthy v)):=by intro _;rfl):PT X e (tB t):=by
 intro b s c H Q I g;refine isTrue_plain (thn (h b s c H _ I g) λ v s1 ⟨x,k,j,r1,f⟩=>?_) (i _);obtain⟨d,rfl,q⟩:=f;cases r1;exact T8 ⟨k,j,q⟩
noncomputable def tAnd(t u:TT):TT:=λ σ H Q=>t σ H λ c H1=>if c=true then u σ H1 Q else Q false H1
noncomputable def tOr(t u:TT):TT:=λ σ H Q=>t σ H λ c H1=>if c=true then Q true H1 else u σ H1 Q
def tNot(t:TT):TT:=λ σ H Q=>t σ H λ c H1=>Q (!c) H1
def yH(g:PT X a d):PW X (.BoolOp .And [a] pos) d:=by
 intro wh b s f H Q I h;refine isTrue_and (thn (g b s f H Q I h) λ c s1 e=>?_);cases c with
 | true=>exact isTrue_and_nil e
 | false=>exact e
def qw(g:PT X a d):PW X (.BoolOp .Or [a] pos) d:=by
 intro wh b s f H Q I h;refine isTrue_or (thn (g b s f H Q I h) λ c s1 e=>?_);cases c with
 | false=>exact isTrue_or_nil e
 | true=>exact e
def qx{rest:on Kw}(n:PT X a g)(m:PW X (MN (b::rest)) e):PW X (MN (a::b::rest)) (tAnd g e):=by
 intro l d s f H Q I h;refine isTrue_and (thn (n d s f H _ I h) λ c s1 t0=>?_);obtain⟨k,j,i⟩:=t0;cases c with
 | true=>exact m l d s1 f k Q j i
 | false=>exact⟨k,j,i⟩
def gG{rest:on Kw}(n:PT X a g)(m:PW X (.BoolOp .Or (b::rest) pos) e):PW X (.BoolOp .Or (a::b::rest) pos) (tOr g e):=by
 intro l d s f H Q I h;refine isTrue_or (thn (n d s f H _ I h) λ c s1 t0=>?_);obtain⟨k,j,i⟩:=t0;cases c with
 | true=>exact⟨k,j,i⟩
 | false=>exact m l d s1 f k Q j i
def kA(e:PT X a c):PT X (.UnaryOp .Not a pos) (tNot c):=by
 intro b s d H Q I h;exact isTrue_not (e b s d H _ I h)
noncomputable def yI(ta tb:TE):TE:=λ σ H Q=>ta σ H λ x H1=>∃c,x=.bl c/\if c=true then tb σ H1 Q else Q LL H1
noncomputable def yJ(ta:TE):TE:=λ σ H Q=>ta σ H λ x H1=>∃c,x=.bl c/\Q (.bl (!c)) H1
def kC(h:PE X a t):PE X (.BoolOp op [a] pos) t:=λ b s c H Q I d=>BoolOp_one (h b s c H Q I d)
def yK{rest:on Kw}(k:PE X a ta)(j:PE X (MN (b::rest)) tb):PE X (MN (a::b::rest)) (yI ta tb):=by
 intro d s f H Q I h;refine BoolOp_and (thn (k d s f H _ I h) λ v s1 t0=>?_);obtain⟨x,i,g,r1,e⟩:=t0;obtain⟨c,rfl,e⟩:=e;cases r1;refine T8 ?_;cases c with
 | true=>exact j d s1 f i Q g e
 | false=>exact⟨.bl false,i,g,rfl,e⟩
def qy(f:PE X a ta):PE X (.UnaryOp .Not a pos) (yJ ta):=by
 intro b s e H Q I h;refine UnaryOp_ (thn (f b s e H _ I h) λ v s1 t0=>?_);obtain⟨x,i,g,r1,d⟩:=t0;obtain⟨c,rfl,d⟩:=d;cases r1;exact not_of (T8 ⟨.bl (!c),i,g,rfl,d⟩)
end
end L2
namespace L2
open PySem PySem.Spec PyProof.Rows
def SqL(K:KC)(H:Hp)(a:Ku)(xs:on V):Prop:=
 Rd H a (Lw xs) \/
  ∃(o:Obj) (its:Kx Ks) (n:Nat),K.lookup a=some o/\o.cls=.type "list" /\ o.dict=none/\o.data=.seq its n/\its.size<=sizeLine/\Vals xs its.toList
def SqT(K:KC)(H:Hp)(a:Ku)(xs:on V):Prop:=
 Rd H a (.tup xs) \/
  ∃(o:Obj) (its:Kx Ks) (n:Nat),K.lookup a=some o/\(o.cls=.type "tuple" /\ o.dict=none)/\o.data=.seq its n/\its.size<=sizeLine/\Vals xs its.toList
noncomputable def absV:Ks->Kr V
 | .none=>some .non
 | .bool b=>some (.bl b)
 | .int i _=>some (.int i)
 | .str x _=>some (.str x)
 | .bytes b _=>some (.byt b)
 | .float b _=>some (.flt b)
 | .ref a=>some (.ref a)
 | .type n=>some (.ty n)
 | _=>none
def RelV.abs(r:RelV x u):absV u=some x:=by
 cases x with
 | non=>cases r;rfl
 | bl _=>cases r;rfl
 | int _=>obtain⟨t,rfl⟩:=r;rfl
 | str _=>obtain⟨t,rfl⟩:=r;rfl
 | byt _=>obtain⟨t,rfl⟩:=r;rfl
 | flt _=>obtain⟨t,rfl⟩:=r;rfl
 | ref _=>cases r;rfl
 | ty _=>cases r;rfl
def RelV.inj(r:RelV x u)(q:RelV y u):x=y:=D5 (r.abs.symm.trans q.abs)
theorem Vals.inj(h:Vals xs b):Vals a b->xs=a:=by
 induction h generalizing a with
 | nil=>intro t;cases t;rfl
 | cons r _ e=>intro t;cases t with | cons d c=>rw[r.inj d,e c]
def SqL.of{K:KC}(h:H a=some (Lw xs)):SqL K H a xs:=.inl (.inl h)
def SqT.of{K:KC}(h:H a=some (.tup xs)):SqT K H a xs:=.inl (.inl h)
def Inv.list(I:KR c)(h:SqL X.K H a xs):∃b:on Ks,Vals xs b/\PlainL s.heap a b.toArray/\xs.length<=sizeLine:=by
 rcases h with h | ⟨o,b,n,hk,hc,hd,hs,hz,r⟩
 ·obtain⟨z,b,n,r,e⟩:=h.ok I.hok;exact⟨b,r,⟨_,n,e,rfl,rfl,rfl⟩,z⟩
 ·refine⟨b.toList,r,⟨o,n,I.kIn a o hk,hc,hd,by simpa using hs⟩,?_⟩;have e:=r.length;simp only[C2]at e;omega
def Inv.tuple(I:KR c)(h:SqT X.K H a xs):∃b:on Ks,Vals xs b/\IsTup s.heap a b.toArray/\xs.length<=sizeLine:=by
 rcases h with h | ⟨o,b,n,hk,hc,hs,hz,r⟩
 ·obtain⟨z,b,r,p⟩:=h.ok I.hok;exact⟨b,r,p.tup,z⟩
 ·refine⟨b.toList,r,⟨o,I.kIn a o hk,hc.1,n,by simpa using hs⟩,?_⟩;have e:=r.length;simp only[C2]at e;omega
def Inv.tupleN(I:KR b)(h:SqT X.K H a xs):∃o,s.heap.get? a=some o/\o.cls=.type "tuple" /\ o.dict=none:=by
 rcases h with h | ⟨o,d,n,hk,hc,hs,hz,r⟩
 ·obtain⟨z,d,r,o,e,c,_⟩:=h.ok I.hok;exact⟨o,e,c.1,c.2⟩
 ·exact⟨o,I.kIn a o hk,hc.1,hc.2⟩
def Inv.list_inj(I:KR b)(h:SqL X.K H a xs)(h':SqL X.K H a g):xs=g:=by
 obtain⟨f,r,⟨o,n,e,_,_,d⟩,_⟩:=I.list h;obtain⟨c,k,⟨o',n',i,_,_,j⟩,_⟩:=I.list h';rw[e]at i;cases i;rw[d]at j;injection j with d1 _
 have:f=c:=by simpa using congrArg Array.toList d1
 subst this;exact r.inj k
def Inv.tuple_inj(I:KR b)(h:SqT X.K H a xs)(h':SqT X.K H a g):xs=g:=by
 obtain⟨f,r,⟨o,e,_,n,d⟩,_⟩:=I.tuple h;obtain⟨c,k,⟨o',i,_,n',j⟩,_⟩:=I.tuple h';rw[e]at i;cases i;rw[d]at j;injection j with d1 _
 have:f=c:=by simpa using congrArg Array.toList d1
 subst this;exact r.inj k
section
variable {X:Cx} {st:KB} {rest:on KB} {t u:TS} {e:Kw} {te:TE} {pos:Pos}
def yL:TS:=λ D σ H=>D.nx σ H
def tSeq(t u:TS):TS:=λ D σ H=>t {D with nx:=u D} σ H
def qz:PSs X [] yL:=λ _ _ a H _ I h=>da ⟨a,H,I,h⟩
def X1(e:PS X st t)(d:PSs X rest u):PSs X (st::rest) (tSeq t u):=by
 intro a s c H D I h;refine wpAny_execs_cons (thn (e a s c H {D with nx:=u D} I h) λ f s1 q=>?_);cases f with
 | next=>
  obtain⟨b,i,g,q⟩:=q;exact d a s1 b i D g q
 | ret v=>exact q
 | brk=>exact q
 | cont=>exact q
def kF(c:PS X st t):PSs X [st] t:=by
 intro a s b H D I h;refine wpAny_execs_cons (thn (c a s b H D I h) λ f s1 q=>?_);cases f with
 | next=>exact da q
 | ret v=>exact q
 | brk=>exact q
 | cont=>exact q
def Inv.quiet(I:KR a):interactive X.env=false:=by simp[interactive,I.ok.kind]
noncomputable def yM(te:TE):TS:=λ D σ H=>te σ H λ _ H1=>D.nx σ H1
def gH(f:PE X e te)(d:swapsWith e none pos.line X.env=pure false:=by rfl):PS X (.Expr e pos) (yM te):=by
 intro a s b H D I h;exact wpAny_Expr_any (thn (f a s b H _ I h) λ v s1 ⟨x,i,g,r1,c⟩=>⟨b,i,g,c⟩) I.quiet d
def tRet(te:TE):TS:=λ D σ H=>te σ H D.rt
def bK(d:PE X e te):PS X (.Return (some e) pos) (tRet te):=by
 intro a s b H D I h;exact wpAny_Return_some (thn (d a s b H _ I h) λ v s1 ⟨x,g,f,r1,c⟩=>⟨x,b,g,f,r1,c⟩)
noncomputable def tIfS(c:TT)(t u:TS):TS:=λ D σ H=>c σ H λ b H1=>if b=true then t D σ H1 else u D σ H1
def dJ(l:PT X c g)(n:PSs X a t)(m:PSs X b u):PS X (.If c a b pos) (tIfS g t u):=by
 intro e s f H D I h;refine wpAny_If (thn (l e s f H _ I h) λ d s1 t0=>?_);obtain⟨k,j,i⟩:=t0;cases d with
 | true=>exact n e s1 f k D j i
 | false=>exact m e s1 f k D j i
def yN:TS:=λ _ _ _=>False
def gI:PSs X a yN:=λ _ _ _ _ _ _ h=>h.elim
end
abbrev TG:=V->St->Hp->(St->Hp->Prop)->Prop
abbrev TGs:=on V->St->Hp->(St->Hp->Prop)->Prop
def PG(X:Cx)(target:Kw)(t:TG):Prop:=
 ∀(pins:LF) (s:Kt) (σ:St) (H:Hp) (v:V) (u:Ks) (Q:St->Hp->Prop),Inv X pins σ H s->RelV v u->t v σ H Q ->
  wpAny KO X.A (assign target X.env u) (λ _ s'=>∃σ' H',Inv X pins σ' H' s'/\Q σ' H') X.xe s
def PGs(X:Cx)(ts:on Kw)(t:TGs):Prop:=
 ∀(pins:LF) (s:Kt) (σ:St) (H:Hp) (vs:on V) (us:on Ks) (Q:St->Hp->Prop),Inv X pins σ H s->Vals vs us->t vs σ H Q ->
  wpAny KO X.A (assignInOrder ((assignEach ts X.env).map (·.2)) us) (λ _ s'=>∃σ' H',Inv X pins σ' H' s'/\Q σ' H') X.xe s
abbrev TSet:=V->V->V->Hp->(Hp->Prop)->Prop
def PSet(X:Cx)(t:TSet):Prop:=
 ∀(pins:LF) (s:Kt) (σ:St) (H:Hp) (o i v:V) (ov iv u:Ks) (Q:Hp->Prop),Inv X pins σ H s->RelV o ov->RelV i iv->RelV v u->t o i v H Q ->
  wpAny KO X.A (setItem ov iv u) (λ _ s'=>∃H',Inv X pins σ H' s'/\Q H') X.xe s
def dL(i:Nat):TG:=λ v σ H Q=>Q (σ.set i (some v)) H
def qA(e:X.N.Nodup)(c:X.N[i]? = some x)(b:Loc X.env.scope x)(d:X.fn x=true\/X.env.scope.names.lookup x=some .local:=by first | exact .inl rfl | exact .inr rfl | assumption):PG X (.Name x pos) (dL i):=by
 intro a s σ H v u Q I r h;exact wpAny_assign_Name (gF I e c b r (λ s' f=>⟨_,H,f,h⟩) d)
def gNil:TGs:=λ vs σ H Q=>vs=[]/\Q σ H
noncomputable def qB(t:TG)(u:TGs):TGs:=λ vs σ H Q=>∃v r,vs=v::r/\t v σ H λ σ' H'=>u r σ' H' Q
def yO:PGs X [] gNil:=by
 intro a s b H vs us Q I r h;obtain⟨e,h⟩:=h;subst e;cases r;exact assignInOrder_nil ⟨b,H,I,h⟩
def yP(j:PG X e t)(i:PGs X es u)
  (g:(assignEach (e::es) X.env).map (·.2)=assign e X.env::(assignEach es X.env).map (·.2):=by rfl):PGs X (e::es) (qB t u):=by
 intro a s c H vs us Q I r h;obtain⟨v,vr,k,h⟩:=h;subst k;cases r with
 | cons r d=>
  rw[g];refine assignInOrder_cons (thn (j a s c H _ _ _ I r h) λ _ s1 t0=>?_);obtain⟨b,m,l,f⟩:=t0;exact i a s1 b m _ _ Q l d f
noncomputable def gTup(K:KC)(n:Nat)(t:TGs):TG:=λ v σ H Q=>∃a xs,v=.ref a/\SqT K H a xs/\xs.length=n/\t xs σ H Q
def yQ(y:Mk)(h:PGs X es t)
  (w:(assignEach es X.env).length=n:=by rfl) (f:(assignEach es X.env).findIdx? (·.1)=none:=by rfl):PG X (.Tuple es k pos) (gTup X.K n t):=by
 intro c s i H v u Q I r d;obtain⟨a,j,z,q,x,d⟩:=d;subst z;cases r;obtain⟨l,g,p,hz⟩:=I.tuple q;refine assign_Tuple_tuple (I.ok.hd y) p (by simp[w,←x,g.length]) f λ h' m=>?_
 exact h c _ i H j _ Q (I.kept λ b o e=>m b o (q9 (k9 e)) e) (Lq g) d
noncomputable def gSub(to ti:TE)(t:TSet):TG:=λ v σ H Q=>to σ H λ o H1=>ti σ H1 λ i H2=>t o i v H2 λ H3=>Q σ H3
def yR(n:PE X o d)(p:PE X i e)(m:PSet X t)
  (q:∀v,assign (.Subscript o i pos) X.env v=(do
   let ov ←holding [v] (Ms o)
   let b ←holding [v,ov] (Ms i)
   standAt pos
   holding [v,ov,b] (setItem ov b v)
   release [v,ov,b] []):=by intro _;rfl):PG X (.Subscript o i pos) (gSub d e t):=by
 intro a s c H v u Q I r h;rw[q];refine f0 (F9 (thn (n a s c H _ I h) λ ov s1 t0=>?_));obtain⟨x,E,A,r1,l⟩:=t0;refine f0 (F9 (thn (p a s1 c E _ A l) λ b f t0=>?_));obtain⟨y,C,z,g,k⟩:=t0;refine f0 (gj (f0 (F9 (thn (m a f c C x y v ov b u _ z r1 g r k) λ _ s3 t0=>?_))));obtain⟨B,w,j⟩:=t0;exact wpAny_release ⟨c,B,w,j⟩
noncomputable def tAsg(te:TE)(g:TG):TS:=λ D σ H=>te σ H λ x H1=>g x σ H1 D.nx
def yT(j:PE X e c)(i:PG X tg g)(f:swapsWithSole [tg] e pos.line X.env=pure false:=by rfl)(hw:swappedStores [tg] e X.env=pure none:=by rfl)
  (k:(assignEach [tg] X.env).map (·.2)=[assign tg X.env]:=by rfl):PS X (.Assign [tg] e pos) (tAsg c g):=by
 intro a s b H D I h;refine wpAny_Assign_stores (thn (j a s b H _ I h) λ v s1 ⟨x,m,l,r1,d⟩=>?_) f hw;rw[k];exact thn (i a s1 b m x v _ l r1 d) λ _ s2 q=>q
def gJ(m:X.N.Nodup)(j:X.N[i]? = some x)(f:Loc X.env.scope x)(l:PE X e b)(g:swapsWith e (some (Mo pos')) pos.line X.env=pure false:=by rfl)(k:X.fn x=true\/X.env.scope.names.lookup x=some .local:=by first | exact .inl rfl | exact .inr rfl | assumption) :
  PS X (.Assign [.Name x pos'] e pos) (tAsg b (dL i)):=by
 intro a s c H D I h;refine wpAny_Assign_Name (thn (l a s c H _ I h) λ v s1 ⟨y,p,o,r1,d⟩=>?_) g;exact gF o m j f r1 (λ s2 n=>⟨_,p,n,d⟩) k
noncomputable def yU(c:TT)(tb:TS):TS:=λ D σ H=>∃W:Nat->St->Hp->Prop,(∃m,W m σ H)/\∀m σ H,W m σ H ->
 c σ H λ b H1=>if b=true then ∃N:St->Hp->Prop,(∀σ' H',N σ' H'->∃m',m'<m/\W m' σ' H')/\tb {D with nx:=N,ct:=N,bk:=D.nx} σ H1 else D.nx σ H1
def yV(u:PassesOwn KO X.A X.env X.xe)(J:PT X c r)(K:PSs X body tb):PS X (.While c body [] pos) (yU r tb):=by
 intro d s A H D I h;obtain⟨W,⟨F,B⟩,g⟩:=h;refine wpAny_While (codeAny_whileLoop (λ n E=>∃e z,Inv X d e z E/\W n e z) ?_ F ⟨A,H,I,B⟩)
 rintro n s1 ⟨σ1,H1,I1,w1⟩
 refine aJ u (thn (J d s1 σ1 H1 _ I1 (g n σ1 H1 w1)) λ b C t0=>?_);obtain⟨y,x,k⟩:=t0;cases b with
 | true=>
  obtain⟨N,w,k⟩:=k;rw[f8 rfl];refine aJ u (thn (K d C σ1 y _ x k) λ f s3 j=>?_);cases f with
  | next=>
   obtain⟨a,i,q,m⟩:=j;obtain⟨o,p,l⟩:=w a i m;exact⟨o,p,a,i,q,l⟩
  | cont=>
   obtain⟨a,i,q,m⟩:=j;obtain⟨o,p,l⟩:=w a i m;exact⟨o,p,a,i,q,l⟩
  | brk=>exact j
  | ret v=>exact j
 | false=>
  rw[g9 B5];exact da ⟨σ1,y,x,k⟩
structure It where
 go:Nat->Hp->Prop
 yld:Nat->Hp->V->Hp->Prop
 stop:Nat->Hp->Prop
def FpOk(X:Cx)(pins:LF)(H:Hp)(b:Ku):Prop:=
 H b=none/\b≠X.env.locals/\b∉X.fs/\(b∈X.ex\/X.s₀.heap.objs.size<=b)/\(∀x c,X.env.cells.lookup x=some c->c≠b)/\∀p∈X.pn++pins,p.1≠b
def Inv.fpOk(I:KR a)(d:s.heap.objs.size<=b)(h:f b=none):FpOk X a f b:=by
 refine⟨h,N7 (t7 I.lt d),I.nofs d,.inr (i7 I.sz d),λ x c e z=>?_,λ p g z=>?_⟩
 ·obtain⟨v,q⟩:=I.cell x c e;exact absurd (t7 q.lt (by rw[z];exact d)) (P2 _)
 ·exact absurd (t7 (k9 (I.pin p g).1) (by rw[z];exact d)) (P2 _)
structure Turn(P:Program)(w:World)(K:PySem.W.Frag)(tg:Expr)(J:It)(fp:List Addr)(it:Addr)(tn:Nat->Heap->Prop):Prop where
 mem:it∈fp
 obj:∀i h,tn i h->∀b∈fp,∃o,h.get? b=some o/\∀v,o.data ≠ .cell v
 keep:∀i h h',tn i h->(∀b∈fp,∀o,h.get? b=some o->h'.get? b=some o)->tn i h'
 item:∀(X:Cx),X.prog=P->X.w=w->X.K=K->X.calm=true->∀(i:Nat) (pins:List (Addr×Obj)) (s:Shared) (σ:St) (H:Hp) (E:Value->Shared->Prop),Inv X pins σ H s->(∀b∈fp,FpOk X pins H b)->tn i s.heap->J.go i H ->
  wpAny My X.A (pyNext (.ref it)) (λ r s1=>∃u,r=some u /\
   wpAny My X.A (letOwnedTupleGo tg (.ref it) u) (λ _ s2=>∃x H',Inv X pins σ H' s2/\RelV x u/\J.yld i H x H'/\tn (i+1) s2.heap/\∀b∈fp,H' b=none) E s1) E s
 done:∀(X:Cx),X.prog=P->X.w=w->X.K=K->X.calm=true->∀(i:Nat) (pins:List (Addr×Obj)) (s:Shared) (σ:St) (H:Hp) (E:Value->Shared->Prop),Inv X pins σ H s->(∀b∈fp,FpOk X pins H b)->tn i s.heap->J.stop i H ->
  wpAny My X.A (pyNext (.ref it)) (λ r s1=>r=none/\Inv X pins σ H s1) E s
 self:∀(A:Around) (i:Nat) (s:Shared) (Q:Value->Shared->Prop) (E:Value->Shared->Prop),tn i s.heap->Q (.ref it) s->wpAny My A (pyIter (.ref it)) Q E s
abbrev TI:=St->Hp->(It->Hp->Prop)->Prop
def PIE(X:Cx)(pins:LF)(σ:St)(tg:Kw)(R:It->Hp->Prop)(itv:Ks)(s2:Kt):Prop:=
 ∃(it:Ku) (fp:on Ku) (tn:Nat->Kv->Prop) (J:It) (H':Hp),itv=.ref it/\Inv X pins σ H' s2/\Turn X.prog X.w X.K tg J fp it tn/\tn 0 s2.heap/\(∀b∈fp,FpOk X pins H' b)/\R J H'
def PI(X:Cx)(tg iter:Kw)(wi:TI):Prop:=
 ∀(pins:LF) (s:Kt) (σ:St) (H:Hp) (R:It->Hp->Prop),Inv X pins σ H s->wi σ H R ->
  wpAny KO X.A (Ms iter) (λ v s1=>wpAny KO X.A (pyIter v) (PIE X pins σ tg R) X.xe s1) X.xe s
def gK(b:s.heap.get? it=some o)(d:o.cls=.type n)(hd:o.data=.fields vs)
    (c : ["enumerate","zip","dict_itemiterator","dict_reverseitemiterator","odict_iterator","itertools.zip_longest","itertools.pairwise"].contains n=false) (a:Q () s):wpAny M A (letOwnedTupleGo tg (.ref it) u) Q E s:=by
  unfold letOwnedTupleGo;cases tg<;>first
    | exact f9 a
    | (cases u<;>first
        | exact f9 a
        | (refine f0 (wpAny_load b ?_)
           rw[d,hd];show wpAny M A (if(["enumerate","zip","dict_itemiterator","dict_reverseitemiterator","odict_iterator","itertools.zip_longest","itertools.pairwise"].contains n&&vs[0]? == some _)=true then _ else _) Q E s;rw[g9 (by intro h;rw[c,di]at h;cases h)];exact f9 a))
noncomputable def Itl(K:KC)(a:Ku):It:=
 ⟨λ i H=>∃xs x,SqL K H a xs/\xs[i]? = some x,λ i H x H'=>H'=H/\∀xs,SqL K H a xs->xs[i]? = some x,λ i H=>∃xs,SqL K H a xs/\xs.length<=i⟩
noncomputable def Itt(K:KC)(a:Ku):It:=
 ⟨λ i H=>∃xs x,SqT K H a xs/\xs[i]? = some x,λ i H x H'=>H'=H/\∀xs,SqT K H a xs->xs[i]? = some x,λ i H=>∃xs,SqT K H a xs/\xs.length<=i⟩
noncomputable def Itr(lo:Int)(n:Nat):It:=⟨λ i _=>i<n,λ i H x H'=>H'=H/\x=.int (lo+i),λ i _=>n<=i⟩
def yW{K:KC}(a it:Ku):Turn P w K tg (Itl K a) [it] it (λ i h=>h.IsListIter it a i) where
 mem:=by simp
 obj:=λ i h f b g=>by
  have e:b=it:=by simpa using g
  subst e;obtain⟨o,e,c,d⟩:=f;exact⟨o,e,λ v z=>by rw[d]at z;cases z⟩
 keep:=λ i h R f k=>f.at λ o e=>k it KS o e
 item:=by
  intro X C A F Q i l s S H E I n f B;subst C A F;obtain⟨U,x,m,y⟩:=B;obtain⟨r,q,p,Z⟩:=I.list m;obtain⟨u,hu,Y⟩:=q.get y;obtain⟨O,N,f2,M,L,J⟩:=n it KS;refine wpAny_pyNext_list_item f p.isList (Lq hu) λ R j W=>?_
  obtain⟨o,e,c,d⟩:=id j;exact⟨u,rfl,gK e c d KL ⟨x,H,(I.turned (λ b o g e=>(W.2 b g).trans e) O N M L J),Y,⟨rfl,λ ys hy=>by rw[I.list_inj hy m];exact y⟩,j,λ b g=>(n b g).1⟩⟩
 done:=by
  intro X C A F Q i l s S H E I n f B;subst C A F;obtain⟨U,m,y⟩:=B;obtain⟨r,q,p,Z⟩:=I.list m;obtain⟨O,N,f2,M,L,J⟩:=n it KS;have hl:=q.length;exact wpAny_pyNext_list_end (I.ok.hd Q) f p.isList (by simp;omega) λ R eb=>⟨rfl,I.turned (λ b o g e=>eb b o g e) O N M L J⟩
 self:=λ _ _ _ _ _ f h=>wpAny_pyIter_listiter f h
def yX{K:KC}(a it:Ku):Turn P w K tg (Itt K a) [it] it (λ i h=>h.IsTupleIter it a i) where
 mem:=by simp
 obj:=λ i h f b g=>by
  have e:b=it:=by simpa using g
  subst e;obtain⟨o,e,c,d⟩:=f;exact⟨o,e,λ v z=>by rw[d]at z;cases z⟩
 keep:=λ i h R f k=>f.at λ o e=>k it KS o e
 item:=by
  intro X C A F Q i l s S H E I n f B;subst C A F;obtain⟨U,x,m,y⟩:=B;obtain⟨r,q,p,Z⟩:=I.tuple m;obtain⟨u,hu,Y⟩:=q.get y;obtain⟨O,N,f2,M,L,J⟩:=n it KS;refine wpAny_pyNext_tuple_item f (p) (Lq hu) λ R j W=>?_
  obtain⟨o,e,c,d⟩:=id j;exact⟨u,rfl,gK e c d KL ⟨x,H,(I.turned (λ b o g e=>(W.2 b g).trans e) O N M L J),Y,⟨rfl,λ ys hy=>by rw[I.tuple_inj hy m];exact y⟩,j,λ b g=>(n b g).1⟩⟩
 done:=by
  intro X C A F Q i l s S H E I n f B;subst C A F;obtain⟨U,m,y⟩:=B;obtain⟨r,q,p,Z⟩:=I.tuple m;obtain⟨O,N,f2,M,L,J⟩:=n it KS;have hl:=q.length;exact wpAny_pyNext_tuple_end (I.ok.hd Q) f (p) (by simp;omega) λ R eb=>⟨rfl,I.turned (λ b o g e=>eb b o g e) O N M L J⟩
 self:=λ _ _ _ _ _ f h=>wpAny_pyIter_tupleiter f h
def yY{K:KC}(it:Ku)(g:Int)(n:Nat):Turn P w K tg (Itr g n) [it] it (λ i h=>IsRangeIter h it (g+(i:Nat)*1) ((n:Int) - (i:Nat)) 1) where
 mem:=by simp
 obj:=λ i h a b c=>by
  have e:b=it:=by simpa using c
  subst e;exact⟨_,a,λ v z=>by
   have J:=z;cases J⟩
 keep:=λ i h C a k=>k it KS _ a
 item:=by
  intro X q l r p i f s F H E I j a m;subst q l r;obtain⟨B,A,L,y,x,u⟩:=j it KS;refine (Walks.range (I.ok.hd p) it g 1 n).item i s _ _ m a λ v C tk hv d kk=>?_
  obtain⟨t,rfl⟩:=hv;refine⟨_,rfl,gK d rfl rfl KL ⟨.int (g+i),H,(I.turned (λ b o c e=>kk b o (Lq c) e) B A y x u),⟨t,?_⟩,⟨rfl,rfl⟩,d,λ b c=>(j b c).1⟩⟩;rw[Int.mul_one]
 done:=by
  intro X q l r p i f s F H E I j a m;subst q l r;obtain⟨B,A,L,y,x,u⟩:=j it KS;exact wpAny_pyNext_range_end (I.ok.hd p) a (by have:n<=i:=m;omega) λ C M=>⟨rfl,I.turned (λ b o c e=>M b o c e) B A y x u⟩
 self:=λ _ _ _ _ _ a h=>wpAny_pyIter_rangeiter a h
end L2
namespace L2
open PySem PySem.Spec PyProof.Rows
def yZ(K:KC)(tl:TE):TI:=λ σ H R=>tl σ H λ x H1=>∃a,x=.ref a/\(∃xs,SqL K H1 a xs)/\R (Itl K a) H1
def iTup(K:KC)(tl:TE):TI:=λ σ H R=>tl σ H λ x H1=>∃a,x=.ref a/\(∃xs,SqT K H1 a xs)/\R (Itt K a) H1
def qC(m:PE X l f):PI X tg l (yZ X.K f):=by
 intro c s g H R I h;refine thn (m c s g H _ I h) λ v s1 t0=>?_;obtain⟨x,r,d,r1,i⟩:=t0
 obtain⟨a,e,⟨xs,k⟩,q⟩:=i;subst e;cases r1;obtain⟨j,rv,p,hz⟩:=d.list k;refine jK p.isList ?_;refine⟨s1.heap.objs.size,[s1.heap.objs.size],_,_,r,rfl,d.kept λ b o e=>n7 _ e,yW a _,⟨_,r9 _ rfl,rfl,rfl⟩,λ b n=>?_,q⟩;have e:b=s1.heap.objs.size:=by simpa using n
 subst e;exact d.fpOk (i9 _) (d.hok.fresh (i9 _))
def za(m:PE X l f):PI X tg l (iTup X.K f):=by
 intro c s g H R I h;refine thn (m c s g H _ I h) λ v s1 t0=>?_;obtain⟨x,r,d,r1,i⟩:=t0
 obtain⟨a,e,⟨xs,k⟩,q⟩:=i;subst e;cases r1;obtain⟨j,rv,p,hz⟩:=d.tuple k;refine bq (p) ?_;refine⟨s1.heap.objs.size,[s1.heap.objs.size],_,_,r,rfl,d.kept λ b o e=>n7 _ e,yX a _,⟨_,r9 _ rfl,rfl,rfl⟩,λ b n=>?_,q⟩;have e:b=s1.heap.objs.size:=by simpa using n
 subst e;exact d.fpOk (i9 _) (d.hok.fresh (i9 _))
def qD(I:KR c)(k : -(2^62)<=a)(j:a<2^62)(i : -(2^62)<=d)(h:d<2^62)
  (q:R (Itr a (d - a).toNat) H):wpAny KO X.A (pyIter Ls) (PIE X c σ tg R) E {s with heap:=s.heap.push {cls:=.type "range",data:=.fields #[.int a t,.int d u,.int 1 v]},toks:=tk}:=by
 refine wpAny_pyIter_range (IsRange.new ..) (small_one k j i h) ?_;have f:Inv X c σ H {s with heap:=s.heap.push {cls:=.type "range",data:=.fields #[.int a t,.int d u,.int 1 v]},toks:=tk}:=I.kept λ b o e=>n7 _ e;refine⟨(MJ).objs.size,[(MJ).objs.size],_,_,H,rfl,
  f.kept λ b o e=>n7 _ e,yY _ a (d - a).toNat,?_,λ b g=>?_,q⟩
 ·have m:a+((0:Nat):Int)*1=a:=by simp
  have l:(((d - a).toNat:Nat):Int) - ((0:Nat):Int)=Builtin.Range.rangeSize a d 1:=by rw[rangeSize_one];split<;>omega
  show IsRangeIter _ _ _ _ 1;rw[m,l];exact r9 _ rfl
 ·have e:b=(MJ).objs.size:=by simpa using g
  subst e;exact f.fpOk (i9 _) (f.hok.fresh (i9 _))
def zb(ta:TA):TI:=λ σ H R=>ta σ H λ vs H1=>∃j:Int,vs=[.int j] /\ -(2^62)<=j/\j<2^62/\R (Itr 0 j.toNat) H1
def zc(ta:TA):TI:=λ σ H R=>ta σ H λ vs H1=>∃i j:Int,vs=[.int i,.int j]/\(-(2^62)<=i/\i<2^62 /\ -(2^62)<=j/\j<2^62)/\R (Itr i (j - i).toNat) H1
def ze(m:Gl X "range")(l:X.mg "range" = none)(n:PA X [a] d)(k:starEach [a] X.env=[(Mu a)]:=by rfl):PI X tg (.Call (.Name "range" p) [a] [] pos) (zb d):=by
 intro b s f H R I h;refine Call_ (aP I m l boot_range (fw (thn (n pos b s f H _ I h) λ us s1 ⟨vs,H1,o,r1,c⟩=>?_) k rfl));obtain⟨j,e,c,i,q⟩:=c;subst e;cases r1 with
 | cons r g=>
  cases g;obtain⟨t,rfl⟩:=r;exact call_range_1 (qD o KE KE c i (Lq q))
def zf(x:Gl X "range")(w:X.mg "range" = none)(y:PA X [a,b] k)(v:starEach [a,b] X.env=[(Mu a),(Mu b)]:=by rfl)(d:starEach [b] X.env=[(Mu b)]:=by rfl) :
  PI X tg (.Call (.Name "range" p) [a,b] [] pos) (zc k):=by
 intro c s l H R I h;refine Call_ (aP I x w boot_range (fw (thn (y pos c s l H _ I h) λ us s1 ⟨vs,H1,z,r1,g⟩=>?_) (by rw[v,d]) (by rw[d];rfl)));obtain⟨i,j,e,⟨g,u,o,n⟩,q⟩:=g;subst e;cases r1 with
 | cons r f=>
  cases f with
  | cons m f=>
   cases f;obtain⟨t,rfl⟩:=r;obtain⟨t',rfl⟩:=m;exact call_range_2 (qD z g u o n q)
noncomputable def tFor(wi:TI)(g:TG)(tb:TS):TS:=λ D σ H=>wi σ H λ J H1=>∃W:Nat->Nat->St->Hp->Prop,(∃m,W 0 m σ H1)/\∀i m σ H,W i m σ H ->
 (J.stop i H/\D.nx σ H)\/(J.go i H/\∃N:St->Hp->Prop,(∀σ' H',N σ' H'->∃m',m'<m/\W (i+1) m' σ' H')/\∀x H',J.yld i H x H'->g x σ H' λ σ2 H2=>tb {D with nx:=N,ct:=N,bk:=D.nx} σ2 H2)
noncomputable def gL(fp:on Ku)(h:Kv):on (Ku×Obj):=fp.filterMap λ b=>(h.get? b).map λ o=>(b,o)
def Z4(a:b∈fp)(e:h.get? b=some o):(b,o)∈gL fp h:=br.mpr ⟨b,a,by rw[e];rfl⟩
def zg(a:p∈gL fp h):p.1∈fp/\h.get? p.1=some p.2:=by
 obtain⟨b,c,e⟩:=br.mp a;cases q:h.get? b with
 | none=>rw[q]at e;cases e
 | some o=>
  rw[q]at e;have d:=D5 e;subst d;exact⟨c,q⟩
def Inv.pinned(I:KR a)(i:∀b∈fp,FpOk X a H b)(h:∀b∈fp,∃o,s.heap.get? b=some o/\∀v,o.data ≠ .cell v):Inv X (a++gL fp s.heap) σ H s:=
 I.pins_of λ p g=>(F1.mp g).elim (λ z=>I.pin p (A0 _ z)) λ z=>by obtain⟨c,e⟩:=zg z;obtain⟨l,k,j,_⟩:=i p.1 c;obtain⟨o,f,d⟩:=h p.1 c;rw[e]at f;cases f;exact⟨e,l,k,j,d⟩
def Inv.unpinned(I:KR (a++b)):Inv X a σ H s:=I.pins_of λ p c=>I.pin p (A0 _ (E3 _ c))
def zh(K:PassesOwn KO X.A X.env X.xe)(hc:Mk)(hi:PI X tg l Y)(hg:PG X tg g)(p:PSs X body tb)
  (hs:∀x,foldedSetIterable l X.env x=pure x:=by intro _;rfl):PS X (.For tg l body [] pos) (tFor Y g tb):=by
 intro c s U H D I h;refine wpAny_For (thn (hi c s U H _ I h) λ v s1 h1=>thn h1 λ itv s2 h2=>?_) hs;obtain⟨it,L,Z,J,H2,e,I2,T,O,f2,W,⟨m0,w0⟩,C⟩:=h2;subst e;have k:∀{z:Hp},(∀b∈L,z b=none)->∀b∈L,FpOk X c z b:=λ hn b p=>⟨hn b p,(f2 b p).2⟩
 refine codeAny_forLoop_any (λ n s'=>∃i j z,Inv X c j z s'/\Z i s'.heap/\(∀b∈L,z b=none)/\W i n j z) ?_ m0 ⟨0,U,H2,I2,O,λ b p=>(f2 b p).1,w0⟩
 rintro n s3 ⟨i,σ3,H3,I3,st3,fr3,w3⟩
 rcases C i n σ3 H3 w3 with⟨E,qn⟩ | ⟨go,N,hN,step⟩
 ·refine aJ K (thn (T.done X rfl rfl rfl hc i c s3 σ3 H3 X.xe I3 (k fr3) st3 E) λ r s4 t0=>?_);obtain⟨Q,I4⟩:=t0;subst Q;exact da ⟨σ3,H3,I4,qn⟩
 ·refine aJ K (thn (T.item X rfl rfl rfl hc i c s3 σ3 H3 X.xe I3 (k fr3) st3 go) λ r s4 t0=>?_);obtain⟨u,Q,h4⟩:=t0;subst Q;refine aJ K (thn h4 λ _ s5 t0=>?_);obtain⟨x,H5,I5,r5,y5,B,R⟩:=t0;have S:=I5.pinned (k R) (T.obj _ _ B);refine aJ K (thn (hg _ s5 σ3 H5 x u _ S r5 (step x H5 y5)) λ _ s6 t0=>?_);obtain⟨M,H6,I6,q6⟩:=t0;refine aJ K (thn (p _ s6 M H6 _ I6 q6) λ f P A=>?_);have q:∀{a:St} {y:Hp},Inv X _ a y P->N a y->∃m,m<n/\∃i j z,Inv X c j z P/\Z i P.heap/\(∀b∈L,z b=none)/\W i m j z:=λ {a y} w F=>by obtain⟨m',hm,w7⟩:=hN a y F;refine⟨m',hm,i+1,a,y,w.unpinned,T.keep _ _ _ B λ b p o e=>(w.pin (b,o) (A0 _ (A0 _ (Z4 p e)))).1,λ b p=>?_,w7⟩;obtain⟨o,e,d⟩:=T.obj _ _ B b p;exact(w.pin (b,o) (A0 _ (A0 _ (Z4 p e)))).2.1
  cases f with
  | next=>obtain⟨a,y,w,F⟩:=A;exact q w F
  | cont=>obtain⟨a,y,w,F⟩:=A;exact q w F
  | brk=>obtain⟨a,y,w,A⟩:=A;exact⟨a,y,w.unpinned,A⟩
  | ret v=>obtain⟨x7,a,y,w,r7,A⟩:=A;exact⟨x7,a,y,w.unpinned,r7,A⟩
end L2
namespace L2
open PySem PySem.Spec PyProof.Rows
abbrev R2:=V->V->Hp->VK->Prop
def OpR(X:Cx)(f:Ks->Ks->Sem Ks)(r:R2):Prop:=
 ∀(pins:LF) (s:Kt) (σ:St) (H:Hp) (x y:V) (v u:Ks) (Q:VK),Inv X pins σ H s->RelV x v->RelV y u->r x y H Q ->
  wpAny KO X.A (f v u) (EP X pins σ Q) X.xe s
def UnR(X:Cx)(f:Ks->Sem Ks)(r:V->Hp->VK->Prop):Prop:=
 ∀(pins:LF) (s:Kt) (σ:St) (H:Hp) (x:V) (v:Ks) (Q:VK),Inv X pins σ H s->RelV x v->r x H Q ->
  wpAny KO X.A (f v) (EP X pins σ Q) X.xe s
def A9(X:Cx)(f:Ks)(r:on V->Hp->VK->Prop):Prop:=
 ∀(pins:LF) (s:Kt) (σ:St) (H:Hp) (xs:on V) (us:on Ks) (Q:VK),Inv X pins σ H s->Vals xs us->r xs H Q ->
  wpAny KO X.A (call f us) (EP X pins σ Q) X.xe s
def TruR(X:Cx)(r:V->Hp->(Bool->Hp->Prop)->Prop):Prop:=
 ∀(pins:LF) (s:Kt) (σ:St) (H:Hp) (x:V) (v:Ks) (Q:Bool->Hp->Prop),Inv X pins σ H s->RelV x v->r x H Q ->
  wpAny KO X.A (truthy v) (TP X pins σ Q) X.xe s
noncomputable def tOp(r:R2)(ta tb:TE):TE:=λ σ H Q=>ta σ H λ x H1=>tb σ H1 λ y H2=>r x y H2 Q
noncomputable def tUn(r:V->Hp->VK->Prop)(ta:TE):TE:=λ σ H Q=>ta σ H λ x H1=>r x H1 Q
noncomputable def rI(C:Int->Int->Prop)(g:Int->Int->V):R2:=λ x y H Q=>∃i j,x=.int i/\y=.int j/\C i j/\Q (g i j) H
noncomputable def rI0(g:Int->Int->V):R2:=λ x y H Q=>∃i j,x=.int i/\y=.int j/\Q (g i j) H
noncomputable def rU(g:Int->V):V->Hp->VK->Prop:=λ x H Q=>∃i,x=.int i/\Q (g i) H
def binT(q:PE X a k)(p:PE X b tb){R:V->V->Hp->Prop}(I:KR c)
  (h:k σ H λ x j=>tb σ j λ y d=>R x y d)  {f:Ks->Ks->Sem Ks}
  (o:∀v u i x y d,Inv X c σ d i->RelV x v->RelV y u->R x y d->wpAny KO X.A (f v u) Q X.xe i) :
  wpAny KO X.A (Ms a) (λ v g=>wpAny KO X.A (Ms b) (λ u e=>wpAny KO X.A (f v u) Q X.xe e) X.xe g) X.xe s:=by
 refine thn (q c s σ H _ I h) λ v s1 t0=>?_;obtain⟨x,j,w,r1,n⟩:=t0;refine thn (p c s1 σ j _ w n) λ u i t0=>?_;obtain⟨y,d,r,l,m⟩:=t0;exact o v u i x y d r r1 l m
def zi(k:OpR X (binaryOp e) r)(m:PE X a d)(l:PE X b tb):PE X (.BinOp a e b pos) (tOp r d tb):=by
 intro c s f H Q I h;exact wpAny_BinOp (binT m l I h λ v u g x y o n j i q=>k c g f o x y v u Q n j i q)
def zj(g:UnR X (unaryOp e) r)(i:PE X a d):PE X (.UnaryOp e a pos) (tUn r d):=by
 intro b s c H Q I h;exact UnaryOp_ (thn (i b s c H _ I h) λ v s1 ⟨x,k,j,r1,f⟩=>g b s1 c k x v Q j r1 f)
def opI{g:Int->Int->Int}
  (a:∀(i j:Int) (t u:Tok) (s:Kt) (Q:Ks->Kt->Prop) (E:Ks->Kt->Prop),C i j->Q (.int (g i j) s.toks) {s with toks:=s.toks+1} -> wpAny KO X.A (f (.int i t) (.int j u)) Q E s) :
  OpR X f (rI C λ i j=>.int (g i j)):=by
 intro b s σ H x y v u Q I e d h;obtain⟨i,j,rfl,rfl,k,q⟩:=h;obtain⟨t,rfl⟩:=e;obtain⟨c,rfl⟩:=d;exact a i j t c s _ _ k ⟨.int _,H,I.tok _,LY,q⟩
def opI0{g:Int->Int->Int}
  (a:∀(i j:Int) (t u:Tok) (s:Kt) (Q:Ks->Kt->Prop) (E:Ks->Kt->Prop),Q (.int (g i j) s.toks) {s with toks:=s.toks+1} -> wpAny KO X.A (f (.int i t) (.int j u)) Q E s) :
  OpR X f (rI0 λ i j=>.int (g i j)):=by
 intro b s σ H x y v u Q I e d h;obtain⟨i,j,rfl,rfl,q⟩:=h;obtain⟨t,rfl⟩:=e;obtain⟨c,rfl⟩:=d;exact a i j t c s _ _ ⟨.int _,H,I.tok _,LY,q⟩
def opB0{g:Int->Int->Bool}
  (a:∀(i j:Int) (t u:Tok) (s:Kt) (Q:Ks->Kt->Prop) (E:Ks->Kt->Prop),Q (.bool (g i j)) s->wpAny KO X.A (f (.int i t) (.int j u)) Q E s) :
  OpR X f (rI0 λ i j=>.bl (g i j)):=by
 intro b s σ H x y v u Q I e d h;obtain⟨i,j,rfl,rfl,q⟩:=h;obtain⟨t,rfl⟩:=e;obtain⟨c,rfl⟩:=d;exact a i j t c s _ _ ⟨.bl _,H,I,rfl,q⟩
def CPow(i j:Int):Prop:=0<=j/\j<=1000000/\i.natAbs<2^64
def CMul(i j:Int):Prop:=(-(2^64)<i/\i<2^64)\/(-(2^64)<j/\j<2^64)
def CMul.ok(h:CMul i j):IntMulOk i j:=by
 rcases h with⟨b,a⟩ | ⟨b,a⟩
 ·exact .of_left (intBits_le_64 b a)
 ·exact .of_right (intBits_le_64 b a)
def zk(k:Nat):(0:Int)<=2^k:=by
 rw[two_pow_cast];exact G2 _
def zm:OpR X (binaryOp .Add) (rI0 λ i j=>.int (i+j)):=opI0 λ _ _ _ _ _ _ _ q=>add_int q
def zn:OpR X (binaryOp .Sub) (rI0 λ i j=>.int (i - j)):=opI0 λ _ _ _ _ _ _ _ q=>sub_int q
def zo:OpR X (binaryOp .Mod) (rI (λ _ j=>0<j) λ i j=>.int (i%j)):=opI λ i j _ _ _ _ _ a q=>by
 have h1:=a;exact mod_int' KE (by rw[Int.fmod_eq_emod_of_nonneg i KE];exact q)
def zp:OpR X (binaryOp .Mod) (rI (λ _ j=>j≠0) λ i j=>.int (i.fmod j)):=opI λ _ _ _ _ _ _ _ a q=>mod_int' a q
def zq:OpR X (binaryOp .LShift) (rI CPow λ i j=>.int (i*2^j.toNat)):=opI λ _ _ _ _ _ _ _ a q=>lshift_int_small a.1 a.2.1 a.2.2 q
def zr:OpR X (binaryOp .RShift) (rI (λ _ j=>0<=j) λ i j=>.int (i/2^j.toNat)):=opI λ i j _ _ _ _ _ a q=>
 rshift_int a (by rw[pF i (zk _)];exact q)
def zt:OpR X (binaryOp .BitAnd) (rI0 λ i j=>.int (Builtin.bitAnd i j)):=opI0 λ _ _ _ _ _ _ _ q=>and_int q
def unI{g:Int->Int}
  (a:∀(i:Int) (t:Tok) (s:Kt) (Q:Ks->Kt->Prop) (E:Ks->Kt->Prop),Q (.int (g i) s.toks) {s with toks:=s.toks+1} -> wpAny KO X.A (f (.int i t)) Q E s) :
  UnR X f (rU λ i=>.int (g i)):=by
 intro b s σ H x v Q I c h;obtain⟨i,rfl,q⟩:=h;obtain⟨t,rfl⟩:=c;exact a i t s _ _ ⟨.int (g i),H,I.tok _,LY,q⟩
def zu:UnR X (unaryOp .USub) (rU λ i=>.int (-i)):=unI λ _ _ _ _ _ q=>neg_int q
section
variable {X:Cx} {a b c:Kw} {ta tb tc:TE} {pos:Pos}
def zv{a:on (Ku×Obj)}{b:Bool}(I:KR a)(q:Q (.bl k) H)(e:k=b):EP X a σ Q (.bool b) s:=by
 subst e;exact⟨.bl k,H,I,rfl,q⟩
def zw:OpR X (compareOp .Lt) (rI0 λ i j=>.bl (decide (i<j))):=opB0 λ _ _ _ _ _ _ _ q=>lt_int q
def zx:OpR X (compareOp .LtE) (rI0 λ i j=>.bl (decide (i<=j))):=opB0 λ _ _ _ _ _ _ _ q=>le_int q
def zy:OpR X (compareOp .GtE) (rI0 λ i j=>.bl (decide (j<=i))):=opB0 λ _ _ _ _ _ _ _ q=>ge_int q
def zC:OpR X (compareOp .Is) (λ x y H Q=>y=.non/\Q (.bl (decide (x=.non))) H):=by
 intro b s σ H x y v u Q I a c h;obtain⟨rfl,q⟩:=h;cases c;refine is_none_gen (zv I q ?_);cases x<;>first
  | (cases a;rfl)
  | (obtain⟨t,rfl⟩:=a;rfl)
def OpR.or(h:OpR X f r)(h':OpR X f e):OpR X f (λ x y H Q=>r x y H Q\/e x y H Q):=by
 intro a s b H x y v u Q I d c q;rcases q with q | q
 ·exact h a s b H x y v u Q I d c q
 ·exact h' a s b H x y v u Q I d c q
def zE(j:OpR X (compareOp d) r)(m:PE X a ta)(l:PE X b tb)(k:behindInMarks d b=false):PE X (.Compare a [d] [b] pos) (tOp r ta tb):=by
 intro c s e H Q I h;exact wpAny_Compare1 (binT m l I h λ v u f x y o n i g q=>j c f e o x y v u Q n i g q) k
noncomputable def qE(t:TE):TT:=λ σ H Q=>t σ H λ x H'=>∃k,x=.bl k/\Q k H'
def zF(p:OpR X (compareOp g) r)(A:PE X a ta)(w:PE X b tb)(q:behindInMarks g b=false):PT X (.Compare a [g] [b] pos) (qE (tOp r ta tb)):=by
 intro d s f H Q I h;refine qf (thn (A d s f H _ I h) λ v s1 ⟨x,K,E,r1,o⟩=>thn (w d s1 f K _ E o) λ u i ⟨y,J,C,l,n⟩=>
  thn (p d i f J x y v u _ C r1 l n) λ c s3 ⟨z,F,B,j,k,e,m⟩=>?_) q
 subst e;cases j;exact T8 ⟨F,B,m⟩
noncomputable def kG(r r':R2)(ta tb tc:TE):TE:=λ σ H Q=>ta σ H λ x H1=>tb σ H1 λ y H2=>r x y H2 λ z H3=>∃k,z=.bl k /\
 (if k=true then tc σ H3 λ w' H4=>r' y w' H4 Q else Q LL H3)
def zG(N:OpR X (compareOp j) r)(l:OpR X (compareOp g) n)(S:PE X a ta)(R:PE X b tb)(P:PE X c tc)
  (O:lastMarks [j,g] [b,c]=false:=by with_unfolding_all rfl):PE X (.Compare a [j,g] [b,c] pos) (kG r n ta tb tc):=by
 intro f s i H Q I h;refine Compare_chain (thn (S f s i H _ I h) λ v s1 ⟨x,H1,Y,r1,M⟩=>chain_link (thn (R f s1 i H1 _ Y M) λ u E ⟨y,H2,W,m,L⟩=>
  thn (N f E i H2 x y v u _ W r1 m L) λ d C ⟨z,q,p,J,k,e,o⟩=>?_)) O
 subst e;cases J;refine T8 ?_;cases k with
 | false=>exact ite_ff ⟨.bl false,q,p,rfl,o⟩
 | true=>exact ite_tt (chain_last (thn (P f C i q _ p o) λ A B ⟨w,Z,U,F,K⟩=>l f B i Z y w u A Q U m F K))
def zH(R:OpR X (compareOp j) r)(l:OpR X (compareOp g) n)(Y:PE X a ta)(W:PE X b tb)(U:PE X c tc)
  (S:lastMarks [j,g] [b,c]=false:=by with_unfolding_all rfl):PT X (.Compare a [j,g] [b,c] pos) (qE (kG r n ta tb tc)):=by
 intro f s i H Q I h;refine isTrue_chain (thn (Y f s i H _ I h) λ v s1 ⟨x,H1,I1,r1,O⟩=>test_link (thn (W f s1 i H1 _ I1 O) λ u E ⟨y,H2,I2,m,N⟩=>
  thn (R f E i H2 x y v u _ I2 r1 m N) λ d C ⟨z,q,p,K,k,e,o⟩=>?_)) S
 subst e;cases K;refine T8 ?_;cases k with
 | false=>
  obtain⟨k',e',P⟩:=o;cases e';exact ite_ff ⟨q,p,P⟩
 | true=>
  refine ite_tt (test_last (thn (U f C i q _ p o) λ A B ⟨w,H4,I4,J,M⟩=>thn (l f B i H4 y w u A _ I4 m J M) λ d' s5 t0=>?_));obtain⟨z2,H5,I5,F,k2,Z,L⟩:=t0;subst Z;cases F;exact T8 ⟨H5,I5,L⟩
def TruV(K:KC)(x:V)(H:Hp)(k:Bool):Prop:=
 match x with
 | .non=>k=false
 | .bl b=>k=b
 | .int i=>k=(i != 0)
 | .str y=>y.length<=sizeLine/\k=((y.length:Int) != 0)
 | .byt y=>y.size<=sizeLine/\k=((y.size:Int) != 0)
 | .ref p=>(∃xs,SqL K H p xs/\k = !xs.isEmpty)\/(∃xs,SqT K H p xs/\k = !xs.isEmpty)\/∃kvs,H p=some (.dK kvs)/\k = !kvs.isEmpty
 | _=>False
def zI{a:on (κ×V)}{vs:on (κ×Ks)}(r:KV a vs):(!vs.isEmpty) = !a.isEmpty:=by
 cases r<;>rfl
def qF{a:on Ks}(r:Vals xs a):(!a.toArray.isEmpty) = !xs.isEmpty:=by
 cases r<;>simp
def bL:(sizeLine:Nat)<2^63:=by rw[R6];decide
def gM:TruR X (λ x H Q=>∃k,TruV X.K x H k/\Q k H):=by
 intro A s σ H x v Q I j h;obtain⟨k,e,q⟩:=h;have hl:=bL;have hs:=R6;cases x with
 | non=>
  cases j;have c:=e;subst c;exact truthy_none ⟨H,I,q⟩
 | bl b=>
  cases j;have c:=e;subst c;exact T8 ⟨H,I,q⟩
 | int i=>
  obtain⟨t,rfl⟩:=j;have c:=e;subst c;exact PySem.P.truthy_int ⟨H,I,q⟩
 | str y=>
  obtain⟨t,rfl⟩:=j;obtain⟨E,c⟩:y.length<=sizeLine/\k=_:=e;subst c;exact PySem.P.truthy_str KE ⟨H,I.tok _,q⟩
 | byt y=>
  obtain⟨t,rfl⟩:=j;obtain⟨E,c⟩:y.size<=sizeLine/\k=_:=e;subst c;exact PySem.W.truthy_bytes KE ⟨H,I.tok _,q⟩
 | ref p=>
  cases j;have c:=e;rcases c with⟨C,n,c⟩ | ⟨C,n,c⟩ | ⟨l,n,c⟩
  ·subst c;obtain⟨z,r,w,B⟩:=I.list n;have g:=r.length;exact wpAny_truthy_list w.isList (by simp only[v5];omega) ⟨H,I.tok _,by rw[qF r];exact q⟩
  ·subst c;obtain⟨z,r,w,B⟩:=I.tuple n;have g:=r.length;exact truthy_tuple w (by simp only[v5];omega) ⟨H,I.tok _,by rw[qF r];exact q⟩
  ·subst c;obtain⟨B,F,u,r,m⟩:l.length<=sizeLine/\_=false/\∃u,KV l u/\s.heap.DictOf _ p u:=I.hok p _ n;have g:=gh r;exact wpAny_truthy_dict F m KE ⟨H,I.tok _,by rw[zI r];exact q⟩
 | _=>exact(e).elim
def zJ(i:PE X a ta)(g:∀b,isTrue a X.env b=(do let v ←b;standAt a.pos;holding [v] (truthy v))) :
  PT X a (λ d H Q=>ta d H λ x e=>∃k,TruV X.K x e k/\Q k e):=by
 intro c s d H Q I h;exact isTrue_plain (thn (i c s d H _ I h) λ v s1 ⟨x,l,j,r1,f⟩=>gM c s1 d l x v Q j r1 f) (g _)
def K8{a:on Ks}(r:Vals [x] a):∃u,a=[u]/\RelV x u:=by
 cases r with
 | cons r1 b=>cases b;exact⟨_,rfl,r1⟩
def dM{b:on Ks}(r:Vals [x,y] b):∃u a,b=[u,a]/\RelV x u/\RelV y a:=by
 cases r with
 | cons r1 e=>
  cases e with
  | cons d c=>cases c;exact⟨_,_,rfl,r1,d⟩
def zK(d:Mk):A9 X (.builtin "max") (λ b H Q=>∃i j,b=[.int i,.int j]/\Q (Li (if j>i then j else i)) H):=by
 intro c s σ H b us Q I r h;obtain⟨i,j,rfl,q⟩:=h;obtain⟨u,w',rfl,⟨t,rfl⟩,⟨t',rfl⟩⟩:=dM r;refine max_two_ints (I.ok.hd d) λ h' tk k=>⟨_,H,I.kept k,?_,q⟩
 by_cases a:j>i
 ·rw[f8 a,f8 a];exact LY
 ·rw[g9 a,g9 a];exact LY
def zL(d:Mk):A9 X (.builtin "min") (λ b H Q=>∃i j,b=[.int i,.int j]/\Q (Li (if j<i then j else i)) H):=by
 intro c s σ H b us Q I r h;obtain⟨i,j,rfl,q⟩:=h;obtain⟨u,w',rfl,⟨t,rfl⟩,⟨t',rfl⟩⟩:=dM r;refine min_two_ints (I.ok.hd d) λ h' tk k=>⟨_,H,I.kept k,?_,q⟩
 by_cases a:j<i
 ·rw[f8 a,f8 a];exact LY
 ·rw[g9 a,g9 a];exact LY
def qG:A9 X (.type "int") (λ a H Q=>(∃i,a=[.int i]/\Q (.int i) H)\/∃k,a=[.bl k]/\Q (Li (if k then 1 else 0)) H):=by
 intro b s σ H a us Q I r h;rcases h with⟨i,rfl,q⟩ | ⟨k,rfl,q⟩
 ·obtain⟨u,rfl,t,rfl⟩:=K8 r;exact call_int_int ⟨.int i,H,I,LY,q⟩
 ·obtain⟨u,rfl,r1⟩:=K8 r;cases r1;exact call_int_bool ⟨.int _,H,I.tok _,LY,q⟩
end
end L2
namespace L2
open PySem PySem.Spec PyProof.Rows
structure ObjM(h:Heap)(x dx C:Addr)(mA:Str->Option Value):Prop where
 obj:h.get? x=some (PySem.W.instObj C dx)
 ns:h.Ns1 dx mA
 ne:dx≠x
def RelO.some_of(r:RelO (some v) o):∃u,o=some u/\RelV v u:=by
 cases o with
 | none=>exact(r).elim
 | some u=>exact⟨u,rfl,r⟩
def qH(g:HOk P w H h)(e:H a=some (.ins C c fs)):∃b,ObjM h a c C b/\(∀f,RelO (fs.lookup f) (b f))/\PySem.Within b (fs.map (·.1))/\fs.length<=1000/\H c=some (.own a):=by
 obtain⟨d,z,ne,i,b,n,r,q⟩:=(show u6 P w H h a (.ins C c fs)from g a _ e);exact⟨b,⟨i,n,ne⟩,r,q,z,d⟩
structure Cls(K:PySem.W.Frag)(C:Addr):Prop where
 pg:PySem.W.plainGet K C Str.empty=true
 hd:PySem.W.hasDictIn K C=true
 po:PySem.W.plainOver K C=true
 sa:PySem.W.findIn K (.ref C) "__setattr__" = some (some (.builtin "object.__setattr__"))
section
variable {X:Cx} {pins:on (Ku×Obj)} {σ:St} {H:Hp} {s:Kt} {A:KA} {E:Ks->Kt->Prop} {Q:Ks->Kt->Prop} {c:Ks} {b:Bool}
inductive TyOf (K:PySem.W.Frag) (H:Hp):V->Value->Prop where
 | non:TyOf K H .non (.type "NoneType")
 | bl (x:Bool):TyOf K H (.bl x) (.type "bool")
 | int (i:Int):TyOf K H (.int i) (.type "int")
 | str (x:Str):TyOf K H (.str x) (.type "str")
 | flt (x:UInt64):TyOf K H (.flt x) (.type "float")
 | lst {a:Addr} {xs:List V} (e:H a=some (.lst xs)):TyOf K H (.ref a) (.type "list")
 | frz {a:Addr} {o:Obj} {xs:List V} (e:H a=some (.frz o (.lst xs))):TyOf K H (.ref a) (.type "list")
 | tup {a:Addr} {xs:List V} (e:H a=some (.tup xs)):TyOf K H (.ref a) (.type "tuple")
 | dK {a:Addr} {kvs:List (Key×V)} (e:H a=some (.dK kvs)):TyOf K H (.ref a) (.type "dict")
 | dT {a:Addr} {kvs:List (List Key×V)} (e:H a=some (.dT kvs)):TyOf K H (.ref a) (.type "dict")
 | ins {a C dx:Addr} {fs:List (Str×V)} (e:H a=some (.ins C dx fs)) (cl:Cls K C) (ha:PySem.W.findIn K (.ref C) "__class__" = some (some (.builtin "object.__class__")))
   (hn:PySem.W.specialIn K (.builtin "object.__class__") "__get__" = some (some (.builtin "getset_descriptor.__get__"))) (htk:PySem.W.takesIn K (.builtin "object.__class__")=some true)
   (hm:PySem.W.mroIn K C (.type "object")=some true):TyOf K H (.ref a) (.ref C)
end
end L2
namespace L2
open PySem PySem.Spec PyProof.Rows
structure Room(k:Nat)(A:Around):Prop where
 hd:A.handled=none
 dp:A.depth+3*k+5<recursionLimit
 un:A.units+16*k+200<cLine
theorem Room.deeper(r:Room (k+1) A)(env:Env):Room k (A.deeper env):=
 ⟨r.hd,by have:=r.dp;show A.depth+1+3*k+5<_;omega,by have:=r.un;show A.units+3+16*k+200<_;omega⟩
theorem Room.depth(r:Room k A):A.depth<recursionLimit:=by have:=r.dp;omega
theorem Room.units(r:Room k A):A.units+64<cLine:=by have:=r.un;omega
def tNil:TA:=λ _ H Q=>Q [] H
noncomputable def kH(ta:TE)(tr:TA):TA:=λ σ H Q=>ta σ H λ x H1=>tr σ H1 λ xs H2=>Q (x::xs) H2
section
variable {X:Cx} {e:Kw} {es:on Kw} {te:TE} {t:TA} {pos:Pos}
def X2:PA X [] tNil:=λ _ _ _ _ H Q I h=>Calls.spliced_nil ⟨[],H,I,.nil,h⟩
def M5(l:PE X e te)(k:PA X es t)(j:starEach (e::es) X.env=(Mu e)::starEach es X.env:=by rfl):PA X (e::es) (kH te t):=by
 intro b a s c H Q I h;rw[j];show wpAny _ _ _ _ _ s;refine Calls.spliced_cons (thn (l a s c H _ I h) λ u s1 t0=>?_);obtain⟨x,p,n,r1,i⟩:=t0;exact thn (k b a s1 c p _ n i) λ us s2 ⟨d,o,m,f,g⟩=>⟨x::d,o,m,.cons r1 f,g⟩
def tTup(t:TA):TE:=λ σ H Q=>t σ H λ xs H1=>xs.length<=sizeLine/\∀p,H1 p=none->Q (.ref p) (upd H1 p (.tup xs))
def tLst(t:TA):TE:=λ σ H Q=>t σ H λ xs H1=>xs.length<=sizeLine/\∀p,H1 p=none->Q (.ref p) (upd H1 p (Lw xs))
def qI(h:PA X es t):PE X (.Tuple es x1 pos) (tTup t):=by
 intro a s d H Q I g;refine wpAny_Tuple_spliced (thn (h pos a s d H _ I g) λ f s1 ⟨xs,i,c,r,z,q⟩=>⟨by rw[←r.length];exact z,?_⟩);refine⟨.ref s1.heap.objs.size,upd i s1.heap.objs.size _,c.laid (λ b u e=>n7 _ e) (i9 _) ?_,rfl,q _ (c.hok.fresh (i9 _))⟩;exact⟨z,f,r,⟨_,r9 _ rfl,⟨rfl,rfl⟩,_,rfl⟩⟩
def zM(h:PA X es t):PE X (.List es pos) (tLst t):=by
 intro a s d H Q I g;refine wpAny_List_spliced (thn (h pos a s d H _ I g) λ f s1 ⟨xs,i,c,r,z,q⟩=>⟨by rw[←r.length];exact z,?_⟩);refine⟨.ref s1.heap.objs.size,upd i s1.heap.objs.size _,c.laid (λ b u e=>n7 _ e) (i9 _) ?_,rfl,q _ (c.hok.fresh (i9 _))⟩;exact⟨z,f,0,r,r9 _ rfl⟩
end
abbrev Sp:=on V->Hp->VK->XK->Prop
abbrev CXT:=on Env->Hp->Kt->XK->Ks->Kt->Prop
structure Env0(P:Program)(w:World)(K:PySem.W.Frag)(mg:Str->Option Value)(base:Heap)(A:Around)(outer:List Env)(s:Shared)(H:Hp):Prop where
 frames:A.frames=some outer
 mod:Mod K mg base
 bs:∀b o,base.get? b=some o->s.heap.get? b=some o/\H b=none
 bsz:base.objs.size<=s.heap.objs.size
 funs:s.heap.FunFrames base outer
 frf:(∀b∈frs outer,H b=none)/\dG K H
 hok:HOk P w H s.heap
 bare:AllBare s.gens
def CE(outer:on Env)(P:Kz)(w:Ky)(H:Hp)(s:Kt)(Q:VK)(u:Ks)(s':Kt):Prop:=
 ∃v H',s'.os=s.os/\AllBare s'.gens/\Un (frs outer) [] H H' s.heap s'.heap/\HOk P w H' s'.heap/\RelV v u/\Q v H'
def CR(CX:CXT)(outer:on Env)(P:Kz)(w:Ky)(H:Hp)(s:Kt)(Q:VK)(E:XK)(r:Result)(s':Kt):Prop:=
 match r with
 | .ok (.ret u)=>CE outer P w H s Q u s'
 | .ok _=>False
 | .error e=>CX outer H s E e s'
structure FnOk(P:Program)(w:World)(K:PySem.W.Frag)(mg:Str->Option Value)(base:Heap)(CX:CXT)(k:Nat)(f:Addr)(fd:FuncData)(ps:List Str)(sp:Sp):Prop where
 len:∀vs H Q E,sp vs H Q E->vs.length=ps.length
 run:∀(A:Around) (outer:List Env) (s:Shared) (H:Hp) (args:Args) (us:List Value) (vs:List V) (Q:VK) (E:XK),Room k A->Env0 P w K mg base A outer s H->BindsTo s fd args (ps.zip us)->Vals vs us->sp vs H Q E ->
  codeAny My A (.call (.ref f) args) (CR CX outer P w H s Q E) s
def Inv.env0(I:KR a):Env0 X.prog X.w X.K X.mg X.base X.A X.stack s H:=
 ⟨I.ok.frames,I.ok.mod,I.bs,i7 I.ok.bsz I.sz,I.stack,⟨I.stkFree,I.tabs⟩,I.hok,I.bare⟩
def Inv.after(I:KR a)(h:CE X.stack X.prog X.w H s Q u e):EP X a σ Q u e:=by
 obtain⟨v,k,j,c,un,i,r,q⟩:=h;obtain⟨hh,g,d,t,f⟩:=e;obtain rfl:f=s.os:=j;exact⟨v,k,I.call un i c (λ b z=>absurd z KS),r,q⟩
noncomputable def kJ(sp:Sp)(dvs:on V)(E:XK)(t:TA):TE:=λ σ H Q=>t σ H λ vs H1=>sp (vs++dvs) H1 Q E
def O1(K:KC)(fd:FuncData)(ps:on Str)(ds:on Ks):Prop:=
 ∀(s:Kt) (us:on Ks),K.In s.heap->(us++ds).length=ps.length->BindsTo s fd ⟨us,[]⟩ (ps.zip (us++ds))
def O1.all{K:KC}(h:∀a:on Ks,a.length=ps.length->bindArgs fd ⟨a,[]⟩=pure (ps.zip a)):O1 K fd ps []:=λ s a _ b=>by
 rw[B3]at b ⊢;exact .of_eq (h a b)
def bM(CX:CXT)(X:Cx)(E:XK):Prop:=∀(pins:LF) (σ:St) (H:Hp) (s:Kt) (e:Ks) (s':Kt),Inv X pins σ H s->CX X.stack H s E e s'->X.xe e s'
def qK(F:FnOk X.prog X.w X.K X.mg X.base CX k f fd ps g)(m:Room k X.A)(o:O1 X.K fd ps ds)(hd:Vals d ds)(l:bM CX X E)
  (I:KR a) (r:Vals vs b) (h:g (vs++d) H Q E):wpAny KO X.A (call (.ref f) b) (EP X a σ Q) X.xe s:=by
 have i:=r.append hd;have n:(b++ds).length=ps.length:=by rw[←i.length];exact F.len _ _ _ _ h
 refine dB (U4 (F.run X.A X.stack s H ⟨b,[]⟩ _ _ Q E m I.env0 (o s b I.kIn n) i h) λ r j c=>?_);cases r with
 | error e=>exact l a σ H s e j I c
 | ok p=>
  cases p with
  | ret u=>exact I.after c
  | next=>exact False.elim c
  | brk=>exact False.elim c
  | cont=>exact False.elim c
def qL(F:FnOk X.prog X.w X.K X.mg X.base CX k f fd ps g)(m:Room k X.A)(u:Gl X x)(n:X.mg x=some (.ref f))(o:PySem.W.keepIn X.K (.ref f)=true)(w:O1 X.K fd ps ds)(hd:Vals b ds)(l:bM CX X E)
  (y:PA X (e::es) t) (d:Lu=false:=by decide) (v:starEach (e::es) X.env=(Mu e)::starEach es X.env:=by rfl) (c:(Mf pos es).any (·.1)=false:=by rfl) :
  PE X (LC x) (kJ g b E t):=by
 intro a s j H Q I h;refine aF (dH I u n ?_ d);refine jH I.ok.mod.kin o (thn (y pos a s j H _ I h) λ us s1 ⟨vs,H1,i,r,q⟩=>⟨i.kIn,?_⟩) v c;exact qK F m w hd l i r q
def PK(X:Cx)(kws:on Keyword)(t:TA):Prop:=
 ∀(pos:Pos) (pins:LF) (s:Kt) (σ:St) (H:Hp) (Q:on V->Hp->Prop),Inv X pins σ H s->t σ H Q->wpAny KO X.A (evalAll ((backToKw pos (keywordEach kws X.env)).map (·.2))) (AP X pins σ Q) X.xe s
def zN:PK X [] tNil:=λ _ _ _ _ H Q I h=>wpAny_evalAll_nil ⟨[],H,I,.nil,h⟩
def zQ(m:PE X e f)(l:PK X b t):PK X (⟨nm,e,kpos⟩::b) (kH f t):=by
 intro c a s d H Q I h;show wpAny _ _ _ _ _ s;refine wpAny_evalAll_cons (f0 (thn (m a s d H _ I h) λ u s1 ⟨x,q,o,r1,k⟩=>f0 (gj (f9 ?_))));exact thn (l c a s1 d q _ o k) λ us s2 ⟨g,p,n,i,j⟩=>⟨x::g,p,n,.cons r1 i,j⟩
structure FnScope(N P:List Str)(sc:Scope):Prop where
 kind:sc.kind=.function
 co:sc.isCoroutine=false
 gen:sc.isGenerator=false
 nd:N.Nodup
 pre:N.take P.length=P
 par:∀x∈P,sc.names.lookup x=some .local\/sc.names.lookup x=some .cell
 nofree:∀y∈sc.names,y.2 ≠ .free
theorem qM:∀{a:on (Str×Ks)} {m:Str->Kr Ks},(∀v,(x,v)∉a)->bindL b a m x=m x
 | [],_,_=>rfl
 | (n,v)::r,m,h=>by
  unfold bindL;rw[qM λ w c=>h w (o4 _ c)];split
  ·have:x≠n:=by rintro rfl;exact h v o5
   simp[this]
  ·rfl
theorem qN:∀{a:on (Str×Ks)} {m:Str->Kr Ks},(∀v,(x,v)∉a)->bindC b a m x=m x
 | [],_,_=>rfl
 | (n,v)::r,m,h=>by
  unfold bindC;rw[qN λ w c=>h w (o4 _ c)];split
  ·rfl
  ·have:x≠n:=by rintro rfl;exact h v o5
   simp[this]
theorem qO:∀{P:on Str} {b:on Ks} {i:Nat} {m:Str->Kr Ks},P.Nodup->P[i]? = some x->b[i]? = some v->a x=some .local ->
  bindL a (P.zip b) m x=some v
 | [],_,_,_,_,h,_,_=>by simp at h
 | _::_,[],_,_,_,_,h,_=>by simp at h
 | p::P,w::b,0,m,e,d,c,f=>by simp at d c;subst d;subst c;show bindL a ((p,w)::P.zip b) m p=_;unfold bindL;rw[qM λ v hv=>(P0.mp e).1 (db hv).1,f8 f];simp
 | p::P,w::b,i+1,m,e,d,c,f=>by show bindL a _ m x=_;unfold bindL;exact qO (P0.mp e).2 (Lq d) (Lq c) f
theorem qP:∀{P:on Str} {b:on Ks} {i:Nat} {m:Str->Kr Ks},P.Nodup->P[i]? = some x->b[i]? = some v->a x≠some .local ->
  bindC a (P.zip b) m x=some v
 | [],_,_,_,_,h,_,_=>by simp at h
 | _::_,[],_,_,_,_,h,_=>by simp at h
 | p::P,w::b,0,m,e,d,c,f=>by simp at d c;subst d;subst c;show bindC a ((p,w)::P.zip b) m p=_;unfold bindC;rw[qN λ v hv=>(P0.mp e).1 (db hv).1,g9 f];simp
 | p::P,w::b,i+1,m,e,d,c,f=>by show bindC a _ m x=_;unfold bindC;exact qP (P0.mp e).2 (Lq d) (Lq c) f
noncomputable def start(N:on Str)(vs:on V):St:=vs.map some++List.replicate (N.length - vs.length) none
noncomputable def cxOf(CX:CXT)(P:Kz)(w:Ky)(K:KC)(mg:Str->Kr Ks)(base:Kv)(N:on Str)(qual:Str)(scope:KD)(f:Ku)(cd:Ks)(A:KA)(outer:on Env)(s:Kt)(H:Hp)(E:XK):Cx where
 prog:=P
 w:=w
 K:=K
 mg:=mg
 base:=base
 A:=A.deeper (envOfC qual scope s.heap.objs.size f cd)
 N:=N
 s₀:=s
 H₀:=H
 env:=envOfC qual scope s.heap.objs.size f cd
 outer:=outer
 stack:=envOfC qual scope s.heap.objs.size f cd::outer
 ex:=[]
 calm:=true
 fn:=λ _=>true
 pn:=[]
 xe:=λ e s'=>wpAny My (A.deeper (envOfC qual scope s.heap.objs.size f cd)) (leaving (envOfC qual scope s.heap.objs.size f cd) e) (λ _ s''=>CX outer H s E e s'') (λ e' s''=>CX outer H s E e' s'') s'
def qQ{sc:KD}(h:sc.names.lookup x=some .cell):∃c,(cellsFrom n sc.names []).lookup x=some c:=by
 exact T5.mp (fB sc.names n [] (.inl h))
def zR{K:KC}
  (S:FnScope N ps scope) (hd:Ma) (j:Env0 P w K mg base A outer s H) (hl:vs.length=ps.length) (r:Vals vs F)
  (x:InCallC s s.heap.objs.size (bindL (envOfC d scope s.heap.objs.size f cd).kindOf (ps.zip F) λ _=>none) (cellsFrom (s.heap.objs.size+1) scope.names []) (bindC (envOfC d scope s.heap.objs.size f cd).kindOf (ps.zip F) λ _=>none) s1) :
  Inv (cxOf CX P w K mg base N d scope f cd A outer s H E) [] (start N vs) H s1:=by
 have M:ps.length<=N.length:=by have:=congrArg List.length S.pre;rw[F8]at this;omega
 obtain⟨C,tk,rfl,J⟩:=x.done;have l:∀b:Ku,b∉(cxOf CX P w K mg base N d scope f cd A outer s H E).ex:=λ b z=>absurd (show b∈([]:on Ku)from z) KS
 refine⟨⟨j.mod,S.kind,rfl,rfl,i9 _,λ y z c C g=>?_,λ y m=>?_,λ y c _ h=>?_,λ _=>hd,jy j.frames,.inr ⟨rfl,rfl⟩,λ b z=>absurd z (l b),j.bs,j.bsz,λ b _ _=>l b,λ b z=>absurd z (l b),j.funs,j.frf⟩,
  rfl,j.bare,Un.kept J,⟨_,x.toInCall.ns,λ i y v C g h3=>?_⟩,λ y c h=>⟨_,x.cell y c h⟩,j.hok.fresh (i9 _),λ y c h=>?_,λ p o=>absurd (show p∈([]:on _)from o) KS,j.hok.kept J,?_⟩
 ·exact name_of_addr x.apart (C8 C) (C8 g)
 ·have m:=m;rcases m with m | m
  ·exact qQ m
  ·exact absurd rfl (S.nofree _ (C8 m))
 ·exact W6 (x.above y c (C8 h))
 ·have B:i<vs.length:=by
   unfold start at g;by_cases B:i<vs.length
   ·exact B
   ·rw[T4 (Lq B)]at g;rw[cN]at g;split at g<;>cases g
  have O:vs[i]? = some v:=by
   unfold start at g;rw[Q5 (Lq B),t5]at g;cases e:vs[i]? with
   | none=>rw[e]at g;cases g
   | some a=>rw[e]at g;cases g;rfl
  obtain⟨u,I,L⟩:=r.get O;have o:ps[i]? = some y:=(by rw[←S.pre,Y3 KE];exact C);have n:ps.Nodup:=by rw[←S.pre];exact S.nd.sublist (fN _ _)
  refine⟨u,L,?_⟩;rcases S.par y (K7 o)with k | k
  ·exact .inl ⟨k,qO n o I k⟩
  ·obtain⟨c,e⟩:=qQ k;refine .inr ⟨.inl k,c,e,?_⟩;have q:=x.cell y c e;rw[qP n o I (by show scope.names.lookup y≠_;rw[k];decide)]at q;exact q
 ·exact j.hok.fresh (W6 (x.above y c (C8 h)))
 ·unfold start;show _=N.length;rw[t9,g8,cP];omega
def qR{K:KC}{kV U:Ks}
       (lk:K.lookup f=some ⟨oc,od,.func (PySem.W.fnOf h a c body scope dV kV C pm X d U),M⟩) (R:PySem.W.codeIn K d a=true) (S:FnScope N ps scope)
    (len:∀vs H Q E,F vs H Q E->vs.length=ps.length)
    (l:∀(A:KA) (outer:on Env) (s:Kt) (H:Hp) (vs:on V) (Q:VK) (E:XK),Room k (A.deeper (envOfC a scope s.heap.objs.size f d))->F vs H Q E ->
      ∃t,PSs (cxOf CX P w K mg base N a scope f d A outer s H E) body t/\t {nx:=λ _ i=>Q .non i,rt:=Q} (start N vs) H) :
    FnOk P w K mg base CX (k+1) f (PySem.W.fnOf h a c body scope dV kV C pm X d U) ps F:=by
  refine⟨len,λ A outer s H W Z vs Q E O B hb r p=>?_⟩;have hl:=len _ _ _ _ p;have Y:=B.mod.kin.keeps λ b o e=>(B.bs b o e).1;have j:∀y∈ps.zip Z,scope.names.lookup y.1=some .local\/(scope.names.lookup y.1=some .cell/\((cellsFrom (s.heap.objs.size+1) scope.names []).lookup y.1).isSome=true):=λ ⟨n,v⟩ hy=>by
    rcases S.par n (db hy).1 with q | q
    · exact .inl q
    · exact .inr ⟨q,fB _ _ _ (.inl q)⟩
  refine qg O.depth (Y _ _ lk) rfl S.co S.gen rfl (PySem.W.codeRec_of Y R) (hb _ _ _ _ ?_)
  refine wpAny_newFunctionEnv_cells S.kind j λ env he s1 x=>?_;subst he;refine⟨(B.mod.nolimit.keeps λ b o e=>(B.bs b o e).1).keeps x.toInCall.keep,codeAny_func ?_⟩;obtain⟨t,ht,hq⟩:=l A outer s H vs Q E (O.deeper _) p;refine B4 (ht [] s1 _ H _ (zR S O.hd B hl r x) hq) (λ fl I m=>?_) λ e I m=>m;have z:∀{g:St} {i:Hp} {v:V} {u:Ks},Inv (cxOf CX P w K mg base N a scope f d A outer s H E) [] g i I->RelV v u->Q v i->CE outer P w H s Q u I:=
    λ {g i v u} J L q=>⟨v,i,J.os,J.bare,J.base,J.hok,L,q⟩
  cases fl with
  | ret u=>
    obtain⟨v,g,i,J,L,q⟩:=m;exact z J L q
  | next=>
    obtain⟨g,i,J,q⟩:=m;exact z (v:=V.non) J rfl q
  | brk=>
    obtain⟨_,_,_,q⟩:=m;exact False.elim q
  | cont=>
    obtain⟨_,_,_,q⟩:=m;exact False.elim q
end L2
namespace L2
open PySem PySem.Spec PyProof.Rows
section
variable {X:Cx} {x:Str} {p pos:Pos} {e:Kw} {es:on Kw} {t:TA} {id T:KJ} {r:on V->Hp->VK->Prop}
noncomputable def tCB(r:on V->Hp->VK->Prop)(t:TA):TE:=λ σ H Q=>t σ H λ vs H1=>r vs H1 Q
def gO(n:A9 X (.builtin id) r)(l:Gl X x)(k:X.mg x=none)(hv:bootBuiltins x=some (.builtin id))(o:PA X (e::es) t)(j:x ≠ "__name__":=by decide)(c:Lu=false:=by decide)
  (m:starEach (e::es) X.env=(Mu e)::starEach es X.env:=by rfl) (b:(Mf pos es).any (·.1)=false:=by rfl):PE X (LC x) (tCB r t):=by
 intro a s d H Q I h;refine aF (aP I l k hv ?_ j c);exact PyProof.Rows.callWith_builtin1 (thn (o pos a s d H _ I h) λ g s1 ⟨f,u,q,r1,i⟩=>n a s1 d u f g Q q r1 i) m b
def qU(n:A9 X (.type T) r)(l:Gl X x)(k:X.mg x=none)(hv:bootBuiltins x=some (.type T))(o:PA X (e::es) t)(j:x ≠ "__name__":=by decide)(c:Lu=false:=by decide)
  (m:starEach (e::es) X.env=(Mu e)::starEach es X.env:=by rfl) (b:(Mf pos es).any (·.1)=false:=by rfl):PE X (LC x) (tCB r t):=by
 intro a s d H Q I h;refine aF (aP I l k hv ?_ j c);exact fw (thn (o pos a s d H _ I h) λ g s1 ⟨f,u,q,r1,i⟩=>n a s1 d u f g Q q r1 i) m b
end
end L2
namespace HT
open PySem PyProof.Rows
def cat_tup(u:IsTup s.heap t vs.toArray)(v:IsTup s.heap b ws.toArray)(hv:vs≠[])
  (y:ws=[]->Q (.ref t) s) (x:ws≠[]->Q Ls {s with heap:=s.heap.push {cls:=.type "tuple",data:=.seq (vs++ws).toArray}})
  (j:vs.length+ws.length<=sizeLine):wpAny KN A (binaryOp .Add (.ref t) (.ref b)) Q E s:=by
 obtain⟨⟨z,p,q,l⟩,i,o,n,hd⟩:=id u;obtain⟨⟨r,g,k,c⟩,a,f,m,d⟩:=id v;simp only at o hd f d;subst o hd f d;have e:vs.toArray++ws.toArray=(vs++ws).toArray:=by simp
 by_cases h:ws=[]
 ·exact concat_meets ⟨_,i,rfl⟩ ⟨_,a,rfl⟩ noFill_tuple_add seq_tuple_add pX pO (pK _ _)
   (tuple_addW1 t b vs.toArray ws.toArray n m p g l c (Lq hv) (by simp[h])) ⟨i,a,y h⟩
 ·refine concat_meets ⟨_,i,rfl⟩ ⟨_,a,rfl⟩ noFill_tuple_add seq_tuple_add pX pO (pK _ _)
   (tuple_addW2 t b vs.toArray ws.toArray n m p g l c (Lq hv) (Lq h) (by rw[v5,v5];exact j)) ⟨i,a,?_⟩
  rw[e];exact x h
noncomputable def sIx(n d:Nat):Kr Int->Nat
 | none=>d
 | some v=>if v<0 then(v+(n:Int)).toNat else min v.toNat n
def zS(n d:Nat)(hd:d<=n)(o:Kr Int):sIx n d o<=n:=by
 cases o with
 | none=>exact hd
 | some v=>
  show(if v<0 then(v+_).toNat else min v.toNat n)<=n;by_cases hv:v<0
  ·rw[f8 hv];omega
  ·rw[g9 hv];exact Nat.min_le_right _ _
def qV(v:Int)(n d:Nat):(if v<0 then max (v+(n:Int)) 0 else min v (n:Int))=((sIx n d (some v):Nat):Int):=by
 show(if v<0 then max _ 0 else min v _)=(((if v<0 then(v+_).toNat else min v.toNat n):Nat):Int);by_cases hv:v<0
 ·simp only[f8 hv];omega
 ·simp only[g9 hv];omega
def zT(a b:Kr Int)(n:Nat):Builtin.Slice.sliceAdjust a b 1 (n:Int)=(((sIx n 0 a:Nat):Int),((sIx n n b:Nat):Int)):=by
 have c:¬((1:Int)<0):=by omega
 unfold Builtin.Slice.sliceAdjust;simp only[c,if_false];refine Prod.ext ?_ ?_
 ·cases a with
  | none=>rfl
  | some v=>exact qV v n 0
 ·cases b with
  | none=>rfl
  | some v=>exact qV v n n
def zU(i j:Nat):Builtin.Slice.slicePlaces (i:Int) (j:Int) 1=j - i:=by
 unfold Builtin.Slice.slicePlaces;have a:(1:Int)>0:=by omega
 simp only[a,if_true,Int.ediv_one];split<;>omega
def qW(p:IsPart v o)(h:Q o s):wpAny KN A (Builtin.Slice.slicePartIndex v) Q E s:=by
 cases p with
 | none=>exact slicePart_none h
 | int i t=>exact slicePart_int h
def zV{n:Nat}(k:s.heap.IsSliceOf g f e .none)(j:IsPart f a)(i:IsPart e d)
  (h:Q (((sIx n 0 a:Nat):Int),1,sIx n n d - sIx n 0 a) s):wpAny KN A (Builtin.Slice.sliceApplied (.ref g) (pure (n:Int))) Q E s:=by
 obtain⟨os,b,l,c⟩:=id k;unfold Builtin.Slice.sliceApplied Builtin.Slice.sliceFields;refine f0 (f0 (J1 b c rfl (f0 (J1 b c rfl (f0 (J1 b c rfl (f9 ?_)))))));refine f0 (slicePart_none ?_);show wpAny _ _ _ _ _ s;rw[g9 KL];refine f0 (qW j (f0 (qW i (f0 (f9 ?_)))));show wpAny _ _ (match Builtin.Slice.sliceAdjust a d 1 (n:Int)with | (a,d)=>pure (a,_,Builtin.Slice.slicePlaces a d 1)) _ _ s;rw[zT a d n];show wpAny _ _ (pure _) _ _ s;rw[zU];exact f9 h
def zW(xs:Kx Ks)(i k:Nat):((Lb k).filterMap λ (m:Nat)=>xs[((i:Int)+(m:Int)*1).toNat]?).toArray=((xs.toList.drop i).take k).toArray:=by
 have e:(λ (m:Nat)=>xs[((i:Int)+(m:Int)*1).toNat]?)=λ m=>xs[i+m]?:=by
  funext m
  have:((i:Int)+(m:Int)*1).toNat=i+m:=by omega
  rw[this]
 rw[e];have:=pick_run xs i k;rw[List.filterMap_map]at this;have a:(_ ∘ λ x=>i+x)=λ m=>xs[i+m]?:=rfl
 rw[a]at this;rw[this]
def getItem_tuple_cut(d:IsTup s.heap t items)(l:s.heap.IsSliceOf k j i .none)(n:IsPart j a)(m:IsPart i b)
  (hw:¬(sIx items.size 0 a=0/\sIx items.size items.size b=items.size))
  (h:Q Ls {s with heap:=s.heap.push {cls:=.type "tuple",data:=.seq ((items.toList.drop (sIx items.size 0 a)).take (sIx items.size items.size b - sIx items.size 0 a)).toArray}})
  (p:items.size<=sizeLine):wpAny KN A (getItem (.ref t) (.ref k)) Q E s:=by
 have c:=(by show((items.toList.drop (sIx items.size 0 a)).take (sIx items.size items.size b - sIx items.size 0 a)).toArray.size<=sizeLine;rw[v5,F8,aI,C2];omega);have hj:sIx items.size items.size b<=items.size:=zS _ _ (i9 _) b;obtain⟨o,e,g,r⟩:=id l;unfold getItem
 try with_reducible refine F9 ?_
 first | refine f0 (f9 ?_) | skip
 refine f0 (wpAny_sequenceKey d.typeIs KL ?_);refine f0 (Q6 d.typeIs pv
  (G3 pv d.typeIs entry_tuple_getitem ?_ (args_tuple_getitem _ _)))
 show wpAny _ _ (Builtin.Tuple.tupleItemsOf _ >>= _) _ _ s;refine f0 (tupleItemsOf_ d ?_);refine f0 (gr (⟨o,e,g⟩) ?_);rw[f8 KL];refine f0 (zV l n m ?_);have f:¬((((sIx items.size 0 a:Nat):Int)==0&&(1:Int)==1&&(sIx items.size items.size b - sIx items.size 0 a)==items.size)=true):=by intro q;rw[f7,f7]at q;have q1:=bI q.1.1;have q2:=bI q.2;exact hw ⟨by omega,by omega⟩
 show wpAny _ _ (if(((sIx items.size 0 a:Nat):Int)==0&&(1:Int)==1&&(sIx items.size items.size b - sIx items.size 0 a)==items.size)=true then _ else _) _ _ s;rw[g9 f,zW]
 first
  | exact f0 (C9 (f9 ⟨_,rfl,f9 h⟩) c)
  | exact f0 _
  | exact f0 _
  | exact f0 _
end HT
namespace L2
open PySem PySem.Spec PyProof.Rows
abbrev TO:=St->Hp->(Kr Int->Hp->Prop)->Prop
def PO(X:Cx)(e:Kr Kw)(t:TO):Prop:=
 ∀(pins:LF) (s:Kt) (σ:St) (H:Hp) (Q:Kr Int->Hp->Prop),Inv X pins σ H s->t σ H Q ->
  wpAny KO X.A (evalPart e X.env) (λ u s'=>∃o H',Inv X pins σ H' s'/\IsPart u o/\Q o H') X.xe s
def zY:TO:=λ _ H Q=>Q none H
noncomputable def Aa(t:TE):TO:=λ σ H Q=>t σ H λ x H1=>∃i,x=.int i/\Q (some i) H1
section
variable {X:Cx} {e:Kw} {te:TE} {lo hi:Kr Kw} {tl th:TO} {pos p2:Pos}
def qX:PO X none zY:=by
 intro a s σ H Q I h;rw[evalPart_none];exact f9 ⟨none,H,I,.none,h⟩
def Ab(h:PE X e te):PO X (some e) (Aa te):=by
 intro a s b H Q I d;rw[evalPart_some];refine thn (h a s b H _ I d) λ u s1 t0=>?_;obtain⟨x,g,f,r1,c⟩:=t0
 obtain⟨i,rfl,q⟩:=c;obtain⟨t,rfl⟩:=r1;exact⟨some i,g,f,.int i t,q⟩
def SlR(X:Cx)(r:V->Kr Int->Kr Int->Hp->VK->Prop):Prop:=
 ∀(pins:LF) (s:Kt) (σ:St) (H:Hp) (x:V) (v vl vu:Ks) (lo hi:Kr Int) (sl:Ku) (Q:VK),Inv X pins σ H s->RelV x v->s.heap.IsSliceOf sl vl vu .none->IsPart vl lo->IsPart vu hi->r x lo hi H Q ->
  ∃T id,typeLookup (.type T) "__getitem__" = pure (some (.builtin id))/\s.TypeIs v T/\wpAny KO X.A (getItem v (.ref sl)) (EP X pins σ Q) X.xe s
def SlR.or(h:SlR X r)(h':SlR X j):SlR X (λ x b c H Q=>r x b c H Q\/j x b c H Q):=by
 intro a s d H x v f e b c g Q I i m l k q;rcases q with q | q
 ·exact h a s d H x v f e b c g Q I i m l k q
 ·exact h' a s d H x v f e b c g Q I i m l k q
noncomputable def tSl(r:V->Kr Int->Kr Int->Hp->VK->Prop)(te:TE)(tl th:TO):TE:=λ σ H Q=>te σ H λ x H1=>tl σ H1 λ l H2=>th σ H2 λ u H3=>r x l u H3 Q
def kO(y:SlR X r)(B:PE X e te)(z:PO X lo tl)(p:PO X hi th):PE X (.Subscript e (.Slice lo hi none p2) pos) (tSl r te tl th):=by
 intro a s d H Q I h;refine Subscript_ (thn (B a s d H _ I h) λ v s1 t0=>?_);obtain⟨x,M,J,r1,m⟩:=t0;refine wpAny_Slice (thn (z a s1 d M _ J m) λ g i ⟨l,L,F,o,k⟩=>thn (p a i d L _ F k) λ f c t0=>?_);obtain⟨u,K,E,n,j⟩:=t0;rw[evalPart_none];refine f9 ?_;obtain⟨T,id,C,w,A⟩:=y a {c with heap:=c.heap.push {cls:=.type "slice",data:=.fields #[g,f,.none]}} d K x v g f l u c.heap.objs.size Q (E.kept λ b ob q=>n7 _ q) r1 (Heap.IsSliceOf.new ..) o n j;show wpAny _ X.A _ _ X.xe {c with heap:=c.heap.push {cls:=.type "slice",data:=.fields #[g,f,.none]}};exact tail_any w C A (by with_unfolding_all rfl)
def cutV(xs:on V)(lo hi:Kr Int):on V:=(xs.drop (HT.sIx xs.length 0 lo)).take (HT.sIx xs.length xs.length hi - HT.sIx xs.length 0 lo)
def qY(xs:on V)(a b:Kr Int):(cutV xs a b).length<=xs.length:=by
 unfold cutV;rw[F8,aI];omega
def rSlT(K:KC):V->Kr Int->Kr Int->Hp->VK->Prop:=λ x lo hi H Q=>∃a xs,x=.ref a/\SqT K H a xs /\
 ¬(HT.sIx xs.length 0 lo=0/\HT.sIx xs.length xs.length hi=xs.length)/\∀p,H p=none->Q (.ref p) (upd H p (.tup (cutV xs lo hi)))
def Ac:SlR X (rSlT X.K):=by
 intro f s σ H x v vl vu m u sl Q I j p l k h;obtain⟨a,e,rfl,n,o,q⟩:=h;cases j;obtain⟨d,r,i,g⟩:=I.tuple n;have c:d.toArray.size=e.length:=by rw[v5];exact r.length.symm
 refine⟨"tuple",_,PyProof.Rows.slot_tuple_getitem.lookup,i.typeIs,?_⟩;refine HT.getItem_tuple_cut i p l k (by rw[c];exact o) ?_ (by rw[c];exact g);rw[c];refine⟨.ref s.heap.objs.size,_,I.laid (λ b ob q=>n7 _ q) (i9 _) ?_,rfl,q _ (I.hok.fresh (i9 _))⟩;exact⟨i7 (qY e m u) g,_,(r.drop _).take _,U5.new _ _⟩
def qZ(K:KC):R2:=λ x y H Q=>∃a b xs ys,x=.ref a/\y=.ref b/\SqT K H a xs/\SqT K H b ys/\xs≠[]/\xs.length+ys.length<=sizeLine /\
 (ys=[]->Q (.ref a) H)/\(ys≠[]->∀p,H p=none->Q (.ref p) (upd H p (.tup (xs++ys))))
def Vals.nil_iff(r:Vals xs a):a=[]↔xs=[]:=by
 cases r with
 | nil=>simp
 | cons _ _=>simp
def Ad:OpR X (binaryOp .Add) (qZ X.K):=by
 intro d s σ H x y v u Q I i g h;obtain⟨a,b,xs,ys,rfl,rfl,o,n,m,f,k,j⟩:=h;cases i;cases g;obtain⟨l,r1,p1,_⟩:=I.tuple o;obtain⟨e,c,p2,_⟩:=I.tuple n;refine HT.cat_tup p1 p2 (λ z=>m (r1.nil_iff.mp z)) (λ z=>⟨.ref a,H,I,rfl,k (c.nil_iff.mp z)⟩) (λ z=>?_) (by rw[←r1.length,←c.length];exact f);refine⟨.ref s.heap.objs.size,_,I.laid (λ b ob q=>n7 _ q) (i9 _) ?_,rfl,j (λ w=>z (c.nil_iff.mpr w)) _ (I.hok.fresh (i9 _))⟩;exact⟨by rw[t9];exact f,_,r1.append c,U5.new _ _⟩
end
end L2
namespace L2
open PySem PySem.Spec PyProof.Rows
noncomputable def ixN(n:Nat)(i:Int):Kr Nat:=if 0<=i then(if i<n then some i.toNat else none)else if -(n:Int)<=i then some (i+n).toNat else none
def atI{α:Type}(xs:on α)(i:Int):Kr α:=(ixN xs.length i).bind λ j=>xs[j]?
def rd(h:ixN n i=some j):seqIndex? i n=some j/\j<n /\ -(n:Int)<=i/\i<n:=by
 unfold ixN at h;by_cases b:0<=i
 ·rw[f8 b]at h;by_cases a:i<n
  ·rw[f8 a]at h;have e:=D5 h;exact⟨by rw[seqIndex_of b a,e],by omega,by omega,a⟩
  ·rw[g9 a]at h;cases h
 ·rw[g9 b]at h;by_cases a : -(n:Int)<=i
  ·rw[f8 a]at h;have e:=D5 h;exact⟨by rw[kh KE a,e],by omega,a,by omega⟩
  ·rw[g9 a]at h;cases h
def kR(h:atI xs i=some v):∃j,seqIndex? i xs.length=some j/\xs[j]? = some v/\j<xs.length /\ -(xs.length:Int)<=i/\i<xs.length:=by
 unfold atI at h;cases e:ixN xs.length i with
 | none=>rw[e]at h;cases h
 | some j=>
  rw[e]at h;obtain⟨f,d,c,b⟩:=rd e;exact⟨j,f,h,d,c,b⟩
def rg(b:Kw):Prop:=∀o i,subscripted b false o i=operate [o,i] (getItem o i)
def IxR(X:Cx)(r:R2):Prop:=
 ∀(value slice:Kw) (pins:LF) (s:Kt) (σ:St) (H:Hp) (x y:V) (v u:Ks) (Q:VK),Inv X pins σ H s->RelV x v->RelV y u->r x y H Q ->
  subscripted slice false v u=operate [v,u] (getItem v u)->wpAny KO X.A (subscriptTail value slice v u) (EP X pins σ Q) X.xe s
def MtR(X:Cx)(id:KJ)(r:V->on V->Hp->VK->Prop):Prop:=
 ∀(pins:LF) (s:Kt) (σ:St) (H:Hp) (x:V) (xs:on V) (v:Ks) (us:on Ks) (Q:VK),Inv X pins σ H s->RelV x v->Vals xs us->r x xs H Q ->
  wpAny KO X.A (call (.builtin id) (v::us)) (EP X pins σ Q) X.xe s
section
variable {X:Cx} {a b:Kw} {ta tb:TE} {pos:Pos}
def IxR.or(h:IxR X r)(h':IxR X g):IxR X (λ x y H Q=>r x y H Q\/g x y H Q):=by
 intro a b c s d H x y v u Q I f e q i;rcases q with q | q
 ·exact h a b c s d H x y v u Q I f e q i
 ·exact h' a b c s d H x y v u Q I f e q i
def kU(j:IxR X r)(l:PE X a ta)(k:PE X b tb)(i:rg b):PE X (.Subscript a b pos) (tOp r ta tb):=by
 intro c s d H Q I h;exact Subscript_ (binT l k I h λ v u e x y n m g f q=>j a b c e d n x y v u Q m g f q (i _ _))
def rIxL(K:KC):R2:=λ x y H Q=>∃p xs i v,x=.ref p/\y=.int i/\SqL K H p xs/\atI xs i=some v/\Q v H
def rIxT(K:KC):R2:=λ x y H Q=>∃p xs i v,x=.ref p/\y=.int i/\SqT K H p xs/\atI xs i=some v/\Q v H
def rIxS:R2:=λ x y H Q=>∃z i c,x=.str z/\y=.int i/\z.length<=sizeLine/\atI z.cps.toList i=some c/\Q (.str ⟨#[c]⟩) H
def Ae:IxR X (rIxL X.K):=by
 intro d e a s A H x y v u Q I C B h m;obtain⟨p,xs,i,z,rfl,rfl,E,J,q⟩:=h;cases C;obtain⟨t,rfl⟩:=B;obtain⟨k,r,g,hz⟩:=I.list E;obtain⟨j,c,M,h3,L,K⟩:=kR J;obtain⟨w,o,f⟩:=r.get M;have F:=r.length;have hn:=bL;have b:EP X a A Q w s:=⟨z,H,I,f,q⟩;by_cases n:0<=i
 ·have l:i.toNat=j:=by
   rw[seqIndex_of n K]at c;exact D5 c
  exact item_listR g.isList n KE (by rw[l];simpa using o) b m
 ·have l:(i+(k.toArray.size:Int)).toNat=j:=by
   rw[kh KE L]at c;rw[v5,←F];exact D5 c
  exact pY g.isList.typeIs slot_list_getitem.lookup
   (wpAny_getItem_list_neg g.isList KE (by rw[v5]<;>omega) KE (by rw[l];simpa using o) ⟨rfl,b⟩) m
def kW:IxR X (rIxT X.K):=by
 intro a b e s σ H x y v u Q I g f h l;obtain⟨p,xs,i,z,rfl,rfl,m,n,q⟩:=h;cases g;obtain⟨t,rfl⟩:=f;obtain⟨k,r,d,hz⟩:=I.tuple m;obtain⟨j,A,o,h3,h4,h5⟩:=kR n;obtain⟨w,B,c⟩:=r.get o;have hn:=bL;exact pY d.typeIs slot_tuple_getitem.lookup
  (getItem_tuple d KE KE (by rw[v5,←r.length];exact A) (Lq B) ⟨rfl,(⟨z,H,I,c,q⟩)⟩) l
def Af:IxR X rIxS:=by
 intro a b d s σ H x y v u Q I g f h k;obtain⟨z,i,c,rfl,rfl,hz,m,q⟩:=h;obtain⟨t,rfl⟩:=g;obtain⟨t',rfl⟩:=f;obtain⟨j,e,p,h3,o,n⟩:=kR m;have l:z.cps.toList.length=z.length:=by simp[Str.length]
 rw[l]at e o n;have hn:=bL;exact tail_any (typeIs_str s z t) slot_str_getitem.lookup (getItem_str (by
  rw[(B8 KE),(B8 KE),gk]) (by rw[e];simpa using p) ⟨.str ⟨#[c]⟩,H,I.tok _,LY,q⟩) k
def rIx(K:KC):R2:=λ x y H Q=>rIxL K x y H Q\/rIxT K x y H Q\/rIxS x y H Q
def Ag:IxR X (rIx X.K):=Ae.or (kW.or Af)
def Ah(a:on Ks)(n j:Nat)(u:Ks):Obj.mapSeq (·.setIfInBounds j u) {cls:=.type "list",data:=.seq a.toArray n} = {cls:=.type "list",data:=.seq (a.set j u).toArray n}:=by
 simp[Obj.mapSeq]
theorem Inv.lst{b:on (Ku×Obj)}(I:KR b)(h:H p=some (Lw xs)) :
  ∃(a:on Ks) (n:Nat),Vals xs a/\s.heap.get? p=some {cls:=.type "list",data:=.seq a.toArray n} /\ xs.length<=sizeLine:=by
 obtain⟨z,a,n,r,e⟩:=I.hok p _ h;exact⟨a,n,r,e,z⟩
def Inv.lstUpd{d a:on Ks}(I:KR c)(h:H p=some (Lw xs))
  (l:s.heap.get? p=some {cls:=.type "list",data:=.seq d.toArray n}) (j:f {cls:=.type "list",data:=.seq d.toArray n} = {cls:=.type "list",data:=.seq a.toArray i}) (r:Vals g a) (k:g.length<=sizeLine) (t:Nat) :
  Inv X c σ (upd H p (.lst g)) {s with heap:=s.heap.update p f,toks:=t}:=by
 have e:(s.heap.update p f).get? p=some {cls:=.type "list",data:=.seq a.toArray i}:=(by rw[aE f l (by rw[j]<;>rfl),j]);refine I.write (by rw[h];trivial) Mv (λ b u m q=>(fC _ _ (Mq m)).trans q) ⟨_,e⟩ ?_;exact⟨k,a,i,r,e⟩
def Ai:V->V->V->Hp->(Hp->Prop)->Prop:=λ o i v H Q=>∃p xs k j,o=.ref p/\i=.int k/\H p=some (Lw xs)/\ixN xs.length k=some j/\Q (upd H p (Lw (xs.set j v)))
def Aj:PSet X Ai:=by
 intro f s σ H o i v ov iv u Q I z A y h;obtain⟨p,xs,k,j,rfl,rfl,g,C,q⟩:=h;cases z;obtain⟨t,rfl⟩:=A;obtain⟨a,n,r,c,B⟩:=I.lst g;obtain⟨b,h2,m,l⟩:=rd C;have d:=r.length;have hn:=bL;have x:=
  I.lstUpd g c (Ah a n j u) (r.set y j) (by rw[E4];exact B) s.toks
 by_cases w:0<=k
 ·have e:k.toNat=j:=by
   rw[seqIndex_of w l]at b;exact D5 b
  exact PySem.W.ki_setAt c w KE (by rw[v5,←d];exact l) (by rw[e];exact⟨_,x,q⟩)
 ·have e:(k+(a.toArray.size:Int)).toNat=j:=by
   rw[kh KE m]at b;rw[v5,←d];exact D5 b
  exact PySem.W.ki_setBack c KE (by rw[v5,←d];exact m) KE (by rw[e];exact⟨_,x,q⟩)
def Ak(a b:Kr Int)(n:Nat):(sliceBounds a b none n).1=((HT.sIx n 0 a:Nat):Int)/\(sliceBounds a b none n).2.1=((HT.sIx n n b:Nat):Int)/\(sliceBounds a b none n).2.2=1:=by
 refine⟨?_,?_,rfl⟩
 ·cases a with
  | none=>simp[sliceBounds,HT.sIx]
  | some i=>
   simp only[sliceBounds,HT.sIx,Option.getD_none,show(1:Int)>0 by decide,if_true];by_cases h:i<0
   ·simp only[h,if_true]<;>omega
   ·simp only[h,if_false]<;>omega
 ·cases b with
  | none=>simp[sliceBounds,HT.sIx]
  | some i=>
   simp only[sliceBounds,HT.sIx,Option.getD_none,show(1:Int)>0 by decide,if_true];by_cases h:i<0
   ·simp only[h,if_true]<;>omega
   ·simp only[h,if_false]<;>omega
def Al(a:on Ks)(b c:Kr Int):slicePick a.toArray b c none=((a.drop (HT.sIx a.length 0 b)).take (HT.sIx a.length a.length c - HT.sIx a.length 0 b)).toArray:=by
 obtain⟨f,e,d⟩:=Ak b c a.toArray.size;unfold slicePick;rw[f,e,d];simp only[sliceRange_one,pick_run,v5]<;>rfl
def rSlL(K:KC):V->Kr Int->Kr Int->Hp->VK->Prop:=λ x lo hi H Q=>∃a xs,x=.ref a/\SqL K H a xs/\∀p,H p=none->Q (.ref p) (upd H p (Lw (cutV xs lo hi)))
def Am:SlR X (rSlL X.K):=by
 intro d s σ H x v vl vu k p sl Q I g o j i h;obtain⟨a,f,rfl,n,q⟩:=h;cases g;obtain⟨l,r,e,m⟩:=I.list n;have c:=r.length;refine⟨"list",_,slot_list_getitem.lookup,e.isList.typeIs,?_⟩;refine wpAny_getItem_list_slice e.isList o j i .none KS ?_ (by rw[v5]<;>omega);rw[Al,←c];refine⟨.ref s.heap.objs.size,_,I.laid (λ b ob q=>n7 _ q) (i9 _) ?_,rfl,q _ (I.hok.fresh (i9 _))⟩;exact⟨i7 (qY f k p) m,_,0,(r.drop _).take _,r9 _ rfl⟩
def kX:A9 X (.builtin "len") (λ g H Q=>∃p b,g=[.ref p]/\(SqL X.K H p b\/SqT X.K H p b)/\Q (Li b.length) H):=by
 intro i s σ H g us Q I r h;obtain⟨p,b,rfl,c,q⟩:=h;obtain⟨u,rfl,j⟩:=K8 r;cases j;have hn:=bL;rcases c with c | c
 ·obtain⟨f,d,e,k⟩:=I.list c;have a:=d.length;exact Calls.call_len_list e.isList (by simp only[v5]<;>omega) ⟨.int b.length,H,I.tok _,⟨s.toks+1,by rw[v5,a]⟩,q⟩
 ·obtain⟨f,d,e,k⟩:=I.tuple c;have a:=d.length;exact len_tuple e (by simp only[v5]<;>omega) ⟨.int b.length,H,I.tok _,⟨s.toks+1,by rw[v5,a]⟩,q⟩
def kY:A9 X (.type "list") (λ z H Q=>∃p c,z=[.ref p]/\(SqL X.K H p c\/SqT X.K H p c)/\∀l,H l=none->Q (.ref l) (upd H l (.lst c))):=by
 intro g s A H z us Q I r h;obtain⟨p,c,rfl,k,q⟩:=h;obtain⟨u,rfl,B⟩:=K8 r;cases B;have v:∀(a:on Ks),Vals c a->c.length<=sizeLine->∀(b:Kv) (f:Nat),_ ->
   b.get? s.heap.objs.size=some {cls:=.type "list",dict:=none,data:=.seq a.toArray f,slots:=#[]} -> EP X g A Q _ {s with heap:=b}:=λ a d j b f i e=>
  ⟨.ref s.heap.objs.size,_,I.laid i (i9 _) (show u6 X.prog X.w _ b _ (.lst c)from⟨j,a,f,d,e⟩),rfl,q _ (I.hok.fresh (i9 _))⟩
 rcases k with k | k
 ·obtain⟨a,d,w,j⟩:=I.list k;have m:=d.length;obtain⟨o,x,y,n,hd⟩:=w.isList;exact call_list_seq p Mv x y hd (λ b f i e=>v a d j b f i e) (by simp only[v5]<;>omega)
 ·obtain⟨a,d,w,j⟩:=I.tuple k;have m:=d.length;obtain⟨o,x,y,n,hd⟩:=w;exact call_list_seq p (.inr rfl) x y hd (λ b f i e=>v a d j b f i e) (by simp only[v5]<;>omega)
def rh:A9 X (.type "tuple") (λ i H Q=>∃p a,i=[.ref p]/\((SqL X.K H p a/\∀l,H l=none->Q (.ref l) (upd H l (.tup a)))\/(SqT X.K H p a/\Q (.ref p) H))):=by
 intro j s σ H i us Q I r h;obtain⟨p,a,rfl,h⟩:=h;obtain⟨u,rfl,v⟩:=K8 r;cases v;rcases h with⟨g,q⟩ | ⟨g,q⟩
 ·obtain⟨c,d,f,k⟩:=I.list g;have m:=d.length;refine call_tuple_list f.isList (λ x w=>?_) (by simp only[v5]<;>omega);have n:=I.kept (t':=s.toks) w;have y:=
   n.laid (t':=s.toks) (λ b o e=>n7 _ e) (i9 _) (show u6 X.prog X.w _ _ _ (.tup a)from⟨k,c,d,U5.new _ _⟩)
  exact⟨.ref x.objs.size,_,y,rfl,q _ (n.hok.fresh (i9 _))⟩
 ·obtain⟨c,d,f,k⟩:=I.tuple g;exact call_tuple_same f ⟨.ref p,H,I,rfl,q⟩
def tyV(K:KC)(T:KJ)(x:V)(H:Hp):Prop:=match x with
 | .str _=>T = "str"
 | .int _=>T = "int"
 | .ref p=>(T = "list" /\ ∃xs,SqL K H p xs)\/(T = "tuple" /\ ∃o,K.lookup p=some o/\o.cls=.type "tuple" /\ o.dict=none) \/
   (T = "dict" /\ ((∃kvs,H p=some (.dK kvs))\/∃kvs,H p=some (.dT kvs)))\/(T = "set" /\ ∃S n,H p=some (.set S n))
 | _=>False
def rj(I:KR d)(r:RelV x v)(ty:tyV X.K T x H) :
  s.TypeIs v T/\∀a,v=.ref a->∃j,s.heap.get? a=some j/\j.dict=none:=by
 cases x with
 | str z=>
  obtain⟨t,rfl⟩:=r;cases(ty);exact⟨typeIs_str s z t,λ _ e=>nomatch e⟩
 | int i=>
  obtain⟨t,rfl⟩:=r;cases(ty);exact⟨typeIs_int s i t,λ _ e=>nomatch e⟩
 | ref p=>
  cases r;rcases ty with⟨rfl,xs,l⟩ | ⟨rfl,o,b,hc,hd⟩ | ⟨rfl,b⟩ | ⟨rfl,S,n,b⟩
  ·obtain⟨k,_,h,_⟩:=I.list l;refine⟨h.isList.typeIs,λ a e=>?_⟩;cases e;obtain⟨o,n,e,c,hd,_⟩:=h;exact⟨o,e,hd⟩
  ·refine⟨⟨o,I.kIn p o b,hc⟩,λ a e=>?_⟩;cases e;exact⟨o,I.kIn _ o b,hd⟩
  ·have z:∃o,s.heap.get? p=some o/\o.ExactDict:=by
    rcases b with⟨f,b⟩ | ⟨f,b⟩
    ·obtain⟨_,_,_,_,o,_,_,e,ex,_⟩:=I.hok p _ b;exact⟨o,e,ex⟩
    ·obtain⟨_,_,_,_,o,_,_,e,ex,_⟩:=I.hok p _ b;exact⟨o,e,ex⟩
   obtain⟨o,e,ex⟩:=z;refine⟨⟨o,e,ex.1⟩,λ a g=>?_⟩;cases g;exact⟨o,e,ex.2.1⟩
  ·obtain⟨o,_,_,_,e,ex,_⟩:=I.hok p _ b;refine⟨⟨o,e,ex.1⟩,λ a g=>?_⟩;cases g;exact⟨o,e,ex.2.1⟩
 | _=>exact False.elim ty
noncomputable def tBM0(K:KC)(T:KJ)(r:V->on V->Hp->VK->Prop)(to:TE):TE:=λ σ H Q=>to σ H λ x H1=>tyV K T x H1/\r x [] H1 Q
noncomputable def tBM(K:KC)(T:KJ)(r:V->on V->Hp->VK->Prop)(to:TE)(t:TA):TE:=λ σ H Q=>to σ H λ x H1=>tyV K T x H1/\t σ H1 λ xs H2=>r x xs H2 Q
def An{a:Str}(n:PlainAttrs T)(slot:Slot T a g)(i:typeOf (.builtin g)=pure (.type "method_descriptor"))(q:MtR X g r)(p:PE X o k)
  (f:attributeBase o a X.env (Ms o)=eval o X.env:=by rfl) (e:(d.endLine==c.line)=true:=by rfl):PE X (.Call (.Attribute o a d) [] [] c) (tBM0 X.K T r k):=by
 intro b s j H Q I h;refine pP f e (thn (p b s j H _ I h) λ v s1 t0=>?_);obtain⟨x,y,l,r1,ty,m⟩:=t0;obtain⟨w,u⟩:=rj l r1 ty;exact⟨T,g,n,slot,i,w,u,fD rfl (PySem.evalArgs_none (q b s1 j y x [] v [] Q l r1 .nil m))⟩
def rm{a:Pos}(F:PlainAttrs T)(slot:Slot T d m)(p:typeOf (.builtin m)=pure (.type "method_descriptor"))(L:MtR X m r)(K:PE X o q)(M:PA X (e::es) t)
  (j:attributeBase o d X.env (Ms o)=eval o X.env:=by rfl)
  (l:((Mf a (e::es)).all (λ x=>!x.1)&&(backToKw a (keywordEach [] X.env)).all (λ x=>x.1.isSome)
   && decide ((e::es).length+([]:on Keyword).length+(if([]:on Keyword).isEmpty then 0 else 1)<30))=true:=by rfl)
  (i:(g.endLine==a.line)=true:=by rfl) (J:starEach (e::es) X.env=(Mu e)::starEach es X.env:=by rfl) (f:(Mf a es).any (·.1)=false:=by rfl) :
  PE X (.Call (.Attribute o d g) (e::es) [] a) (tBM X.K T r q t):=by
 intro c s n H Q I h;refine pZ j l i rfl (thn (K c s n H _ I h) λ v s1 t0=>?_);obtain⟨x,S,w,r1,ty,E⟩:=t0;obtain⟨O,N⟩:=rj w r1 ty;refine⟨T,m,F,slot,p,O,N,?_⟩;have u:=M a c s1 n S _ w E;rw[J]at u ⊢;refine fD (by show(false||(backTo a _).any (·.1))=false;rw[f]<;>rfl) (jz ?_);exact thn u λ z A ⟨y,R,P,B,C⟩=>L c A n R x y v z Q P r1 B C
end
end L2
namespace L2
open PySem PySem.Spec PyProof.Rows
def MtM(X:Cx)(id:KJ)(r:V->on V->Hp->VK->Prop):Prop:=
 ∀(pins:LF) (s:Kt) (σ:St) (H:Hp) (x:V) (xs:on V) (v:Ks) (us:on Ks) (Q:VK),Inv X pins σ H s->RelV x v->Vals xs us->r x xs H Q ->
  wpAny KO X.A (call (.builtin id) (v::us)) (EP X pins σ Q) X.xe s
def Vals.unc(h:Vals (x::xs) b):∃u a,b=u::a/\RelV x u/\Vals xs a:=by
 cases h with
 | cons r t=>exact⟨_,_,rfl,r,t⟩
def Vals.nl(h:Vals [] a):a=[]:=by cases h;rfl
def Vals.one{x:V}{us:on Ks}(h:Vals [x] us):∃u,us=[u]/\RelV x u:=by
 obtain⟨u,ws,rfl,r,t⟩:=h.unc;cases t.nl;exact⟨_,rfl,r⟩
def Vals.two{x y:V}{us:on Ks}(h:Vals [x,y] us):∃u v,us=[u,v]/\RelV x u/\RelV y v:=by
 obtain⟨u,ws,rfl,r,t⟩:=h.unc;obtain⟨v,rfl,q⟩:=t.one;exact⟨_,_,rfl,r,q⟩
theorem Vals.rep(h:Vals xs a):∀k:Nat,Vals (List.replicate k xs).flatten (List.replicate k a).flatten
 | 0=>.nil
 | k+1=>by rw[Y5,Y5,aH,aH];exact Vals.append h (Vals.rep h k)
theorem rn(a:on Ks):∀(k:Nat) (b:on Ks),
  List.foldl (λ d c=>d++c) b.toArray (List.replicate k a.toArray)=(b++(List.replicate k a).flatten).toArray
 | 0,b=>by simp
 | k+1,b=>by
  have e:b.toArray++a.toArray=(b++a).toArray:=by simp
  have f:_++(List.replicate k a).flatten=b++(List.replicate (k+1) a).flatten:=(by rw[Y5,aH,Q9]);rw[←f,←rn a k _,←e,Y5,fV]
def Inv.lset{c:on Ks}(I:KR b)(k:H l=some (Lw xs))
  (e:s.heap.get? l=some {cls:=.type "list",data:=.seq c.toArray n}) (i:f c.toArray=a.toArray) (hv:Vals d a) (g:d.length<=sizeLine) :
  Inv X b σ (upd H l (.lst d)) {s with heap:=s.heap.update l (Obj.mapSeq f),toks:=t'}:=by
 have q:=PySem.IsL.update e f;rw[i]at q;refine I.write (by rw[k];exact trivial) Mv (λ b' u j h=>(fC s.heap _ (Mq j)).trans h) ⟨_,q⟩ ?_;exact⟨g,a,_,hv,q⟩
def Inv.lnew(I:KR a)(hv:Vals c b)(d:c.length<=sizeLine) :
  Inv X a σ (upd H s.heap.objs.size (.lst c)) {s with heap:=s.heap.push {cls:=.type "list",data:=.seq b.toArray},toks:=t'}:=
 I.laid (λ _ _ q=>n7 _ q) (i9 _) ⟨d,b,0,hv,r9 _ rfl⟩
theorem Inv.fresh(I:KR a):H s.heap.objs.size=none:=I.hok.fresh (i9 _)
def Inv.lstM(I:KR b)(c:H l=some (Lw xs)):xs.length<=sizeLine/\∃(a:on Ks) (n:Nat),Vals xs a/\xs.length=a.length/\s.heap.get? l=some {cls:=.type "list",data:=.seq a.toArray n}:=by
 obtain⟨z,a,n,r,e⟩:=I.hok l _ c;exact⟨z,a,n,r,r.length,e⟩
def ro(h:n<=sizeLine):Builtin.List.listTooLong n=false:=by
 unfold Builtin.List.listTooLong;exact B8 KE
def Ao:V->on V->Hp->VK->Prop:=λ x vs H Q=>∃l xs y,x=.ref l/\vs=[y]/\H l=some (Lw xs)/\xs.length<sizeLine/\Q .non (upd H l (Lw (xs++[y])))
def Ap:MtM X "list.append" Ao:=by
 intro b s σ H x vs v us Q I d f h;obtain⟨l,xs,y,rfl,rfl,c,hz,q⟩:=h;cases d;obtain⟨u,rfl,g⟩:=f.one;obtain⟨z,a,n,r,hl,e⟩:=I.lstM c;refine call_meets F.slot_list_append ⟨_,e,rfl⟩ F.entry_list_append (F.args_list_append_2 _ _) (PySem.list_append l a.toArray n u (by rw[v5];omega)) ⟨e,?_⟩;refine⟨.non,_,I.lset c e KS (r.append (.cons g .nil)) ?_,rfl,q⟩;rw[t9,W3];omega
def rCat:R2:=λ x y H Q=>∃l b xs zs,x=.ref l/\y=.ref b/\H l=some (Lw xs)/\H b=some (Lw zs)/\xs.length+zs.length<=sizeLine/\∀p,H p=none->Q (.ref p) (upd H p (Lw (xs++zs)))
def Aq:OpR X (binaryOp .Add) rCat:=by
 intro d s σ H x y v u Q I g f h;obtain⟨l,b,xs,zs,rfl,rfl,k,m,hz,q⟩:=h;cases g;cases f;obtain⟨z,c,n,r,hl,e⟩:=I.lstM k;obtain⟨z2,a,n2,i,j,p⟩:=I.lstM m;refine PySem.P.add_list e p ?_ (by rw[v5,v5];omega);have o:c.toArray++a.toArray=(c++a).toArray:=by simp
 rw[o];exact⟨.ref _,_,I.lnew (r.append i) (by rw[t9];omega),rfl,q _ I.fresh⟩
def rRep:R2:=λ x y H Q=>∃l k xs,x=.ref l/\y=.int k/\H l=some (Lw xs) /\ -(2^63)<=k/\k<2^63/\xs.length*k.toNat<=sizeLine /\
 ∀p,H p=none->Q (.ref p) (upd H p (.lst (List.replicate k.toNat xs).flatten))
def Ar(xs:on a)(k:Nat):(List.replicate k xs).flatten.length=k*xs.length:=by
 induction k with
 | zero=>simp
 | succ k b=>rw[Y5,aH,t9,b,gu,ki]
def As:OpR X (binaryOp .Mult) rRep:=by
 intro g s σ H x y v u Q I A w h;obtain⟨l,k,xs,rfl,rfl,C,J,E,i,q⟩:=h;cases A;obtain⟨t,rfl⟩:=w;obtain⟨z,b,n,r,B,e⟩:=I.lstM C;have d:b.toArray.size*k.toNat<=sizeLine:=by rw[v5,←B];exact i
 have f:¬b.toArray.size*k.toNat>(2^63 - 1)/8:=by
  have:(sizeLine:Nat)<=(2^63 - 1)/8:=by decide
  omega
 have c:List.foldl (λ o j=>o++j) #[] (List.replicate (if b.toArray.isEmpty=true then 0 else k.toNat) b.toArray)=(List.replicate k.toNat b).flatten.toArray:=by
  have K:=λ m=>by have:=rn b m [];rw[fW]at this;exact this
  rw[K];cases b with
  | nil=>simp
  | cons a r'=>rw[g9 KS]
 refine wpAny_binaryOp_repeat_ref KL ⟨_,e,rfl⟩ (λ p=>typeIs_int p k t) noFill_list_mul F.fills_int_mul F.slot_int_rmul repeat_list F.slot_int_index.lookup
  (call_meets F.slot_int_rmul (typeIs_int s k t) F.entry_int_rmul (F.args_int_rmul_2 _ _) (int___rmul___int_list k t l b.toArray n)
   ⟨e,rfl,⟨_,e,rfl⟩,call_meets F.slot_list_mul ⟨_,e,rfl⟩ F.entry_list_mul (F.args_list_mul_2 _ _) (AutoListH.list___mul___list_int_3 l b.toArray n k t ((by rw[fitsIndex_both J E];exact B5)) f ((by rw[ro d];exact B5))) ⟨e,?_⟩⟩)
 rw[c];exact⟨.ref _,_,I.lnew (r.rep k.toNat) (by rw[Ar,Nat.mul_comm];exact i),rfl,q _ I.fresh⟩
end L2
namespace Att
open PySem PySem.W PySem.Calls PyProof.Rows
def At:∀(c:on Int) (vs:on Ks),WellAll P h vs (c.map WData.int)->IntsAre vs c:=by
 intro c
 induction c with
 | nil=>
  intro vs w;rw[kj]at w;cases w;exact .nil
 | cons n c d=>
  intro vs w;rw[A3]at w;cases w with
  | cons a b=>
   cases a;exact .cons _ _ (d _ b)
def Au{l:OpenLaw}(w:l.most=some n)
  (f:l.row.toRowW.claim.pre b=true) (m:WellAll P h c b) :
  ∃a vs e,c=[Value.ref a]/\b=[WData.list (e.map WData.int)]/\h.get? a=some {cls:=.type "list",data:=.seq vs.toArray} /\ IntsAre vs e/\e.length<=n:=by
 have o:l.pre.holds [] {args:=b} = true:=(pre_splitW f).2;obtain⟨d,r,rfl,z,y⟩:=hasAllW_cons ((pre_splitW f).1);obtain rfl:=hasAllW_nil y;obtain⟨xs,rfl,x⟩:=hasW_list z;obtain⟨e,rfl⟩:=items_int x;have g:e.length<=n:=by
  unfold OpenLaw.pre at o;have k:(WTm.not (.lt (.lit (Li (n:Int))) (.len (.arg 0)))).holds [] {args:=[.list (e.map .int)]} = true:=by have k:=(holds_andW o).1;rw[w]at k;exact k
  have j:=condW_of k (w_not (w_lt w_lit (w_len_list (w_arg rfl))));rw[g8]at j;refine jQ λ q=>?_
  first
   | (rw[C5 (by omega)]at j;exact absurd j KL)
   | (simp at j;omega)
 cases m with
 | cons u p=>
  cases p;cases u with
  | list v i=>exact⟨_,_,e,rfl,rfl,v,At e _ i,g⟩
def Av(l:OpenLaw)(a:on WData):l.row.toRowW.claim.post a (.bool true) a=true:=
 postW_of
  (by first | rfl | decide | simp[WShape.has,WShape.arms,WShape.armsAll])
  (show(WTm.eq .res _).value [] {args:=a,res:=some _,after:=a} = some (.bool _)from w_eq_bool (w_res rfl) w_lit) rfl
def attach_call{l:OpenLaw}
  (J:l.most=some n) (y:d.params.defaults=[])
  (call:∀(w:Ky) (c b:Kt) (mg u:Str->Kr Ks) (k:Ku) (o:Obj) (pm cd g:Ks) (a:Ku) (vs:on Ks) (p:on Int),
   Ground q loose [] XP w c mg u b.heap->YP w b.heap ->
   b.heap.get? k=some o->o.data=.func (docDef d.name d.params d.body d.scope pm cd g)->b.heap.CodeRec cd d.name->mg d.name=some (.ref k) ->
   b.heap.get? a=some {cls:=.type "list",data:=.seq vs.toArray} -> IntsAre vs p->p.length<=n->b.gens = #[] ->
   codeAny (model l.prog w) callerA (.call (.ref k) ⟨[.ref a],[]⟩) (λ r m=>r=.ok (.ret (.bool true))/\OldK b.heap m.heap/\m.os=b.os/\AllBare m.gens) b) :
  WalkO q loose XP YP l.row.toRowW d [] (λ f vs=>PySem.call f vs):=by
 intro w c b mg u G Y k o pm cd g Q kV I hd z C x M E A as h B F v L;obtain rfl:Q=.none:=Dflts.none C y;obtain rfl:kV=.none:=Dflts.noKw C;obtain⟨a,vs,p,rfl,rfl,i,e,j⟩:=Au J h v;refine enter_call (U4 (call w c b mg u k o pm cd g a vs p G Y I (fd_plain hd) z x i e j M) λ r m H=>?_);obtain⟨rfl,P,O,N⟩:=H;exact⟨.inl ⟨.bool true,.bool true,[],rfl,λ _=>rfl,.bool true,Av l _,λ _=>⟨List.Pairwise.nil,λ _ K=>(nomatch K)⟩⟩,P,O,N⟩
end Att
namespace L2
open PySem PySem.Spec PyProof.Rows
theorem rq:∀{vs:on Ks} {ns:on Int},IntsAre vs ns->Vals (ns.map V.int) vs
 | _,_,.nil=>.nil
 | _,_,.cons n t h=>.cons ⟨t,rfl⟩ (rq h)
def Only(H:Hp):Prop:=∀b,H b=none\/(∃o xs,H b=some (.frz o (Lw xs)))\/∃q,H b=some (.tbl q)
theorem dN{a:Type}:∀{l:on (Ku×a)} {c:a},l.lookup x=some c->(x,c)∈l
 | (y,v)::l,c,h=>by
  rw[G4]at h;split at h
  ·rename_i e;cases h;rw[h8.mp e];exact o5
  ·exact o4 _ (dN h)
theorem rr{a:Type}:∀{l:on (Ku×a)} {c:a},l.lookup x=none->(x,c)∉l
 | (y,v)::l,c,h,m=>by
  rw[G4]at h;split at h
  ·cases h
  ·rename_i e;rcases i6.mp m with z | z
   ·cases z;simp at e
   ·exact rr h z
def Aw{l:on (e×d)}(f:(l.map (·.1)).Nodup)(g:(p.1,q)∈l)(i:p∈l):q=p.2:=by
 induction l with
 | nil=>cases g
 | cons y l h=>
  rw[A3]at f;have a:=P0.mp f;rcases i6.mp g with c | c<;>rcases i6.mp i with b | b
  ·rw[b,←c]
  ·exact absurd (i8.mpr ⟨p,b,by rw[←c]⟩) a.1
  ·exact absurd (i8.mpr ⟨_,c,by rw[b]⟩) a.1
  ·exact h a.2 c b
def Ax{K:KC}
  (KX:K.In c.heap) (R:c.heap.Ns mainGlobals mg) (j:c.heap.Ns builtinsNs mb) (a5:∀x:Str,x ≠ "__name__" -> mb x=bootBuiltins x) (U:c.heap.NoLimit) (hg:c.gens = #[])
  (N:c.heap.get? a=some {cls:=.type "list",data:=.seq vs.toArray}) (hi:IntsAre vs O) (hl:O.length<=sizeLine) (hr:Room k callerA)
  (F:∀base:Kv,K.In base->base.Ns mainGlobals mg->FnOk P w K mg base CX k fa fd [x] sp) (M:∀(s:Kt) (u:Ks),BindsTo s fd ⟨[u],[]⟩ [(x,u)])
  (a3:∀H:Hp,Only H->SqL K H a (O.map V.int)->sp [.ref a] H (λ v _=>v=.bl true) λ _ _ _=>False)
  (i:∀p∈A8 K,K.lookup p.1=none/\c.heap.get? p.1=some {cls:=.none,data:=.fields #[]} /\ isCodeTable c.heap p.1) (a2:((A8 K).map (·.1)).Nodup)
  (a4:∃J C,mg "__builtins__" = some (.ref J)/\J≠builtinsNs/\c.heap.get? J=some C/\C.cls=.type "module" /\ C.dict=some builtinsNs/\C.data=.plain)
  (a7:∀H e l,CX [] H c (λ _ _ _=>False) e l->False) :
  codeAny My callerA (.call (.ref fa) ⟨[.ref a],[]⟩) (λ r l=>r=.ok (.ret (.bool true))/\OldK c.heap l.heap/\l.os=c.os/\AllBare l.gens) c:=by
 have rv:=rq hi;have Q:=hi.length;have I:∀H:Hp,Only H->SqL K H a (O.map V.int)->HOk P w H c.heap->(∀b,H b≠none->b=a\/((∃q,(b,q)∈A8 K)/\∃q,H b=some (.tbl q)))->(H a≠none->K.lookup a=none)->dG K H ->
   codeAny My callerA (.call (.ref fa) ⟨[.ref a],[]⟩) (λ r l=>r=.ok (.ret (.bool true))/\OldK c.heap l.heap/\l.os=c.os/\AllBare l.gens) c:=by
  intro H hO hS L hA hK hT;have g:∀{b:Ku} {o:Obj},c.heap.get? b=some o->H b=none->(hidT c.heap H).get? b=some o:=λ e n=>yA e n
  have a1:∀{b:Ku} {o:Obj} {es:Kx DictEntry} {ep:Nat},c.heap.get? b=some o->o.data=.dict es ep->H b=none:=λ {b o es ep} e d=>by
   cases q:H b with
   | none=>rfl
   | some u=>
    rcases hA b (by rw[q];simp)with e' | ⟨⟨qq,e'⟩,_⟩
    ·subst e';rw[N]at e;cases e;have d':=d;cases d'
    ·rw[(i _ e').2.1]at e;cases e;have d':=d;cases d'
  have y:∀{b:Ku} {m:Str->Kr Ks},c.heap.Ns b m->(hidT c.heap H).Ns b m:=λ {b m} ⟨o,es,ep,e,d,r⟩=>⟨o,es,ep,g e (a1 e d),d,r⟩;have W:=λ b o e=>g (KX b o e) (by
   cases q:H b with
   | none=>rfl
   | some u=>
    rcases hA b (by rw[q];simp)with e' | ⟨⟨qq,e'⟩,_⟩
    ·subst e';rw[hK (by rw[q];simp)]at e;cases e
    ·rw[(i _ e').1]at e;cases e)
  have hM:Mod K mg (hidT c.heap H):=by
   refine⟨W,y R,⟨mb,y j,a5⟩,let ⟨mc,X,h2⟩:=U;⟨mc,y X,h2⟩,?J⟩;obtain⟨J,C,b1,b2,b3,b4,b5,b6⟩:=a4;refine⟨J,C,b1,b2,g b3 ?_,b4,b5,b6⟩;cases q:H J with
   | none=>rfl
   | some u=>
    rcases hA J (by rw[q];simp)with e' | ⟨⟨qq,e'⟩,_⟩
    ·subst e';rw[N]at b3;cases b3;exact absurd (Value.type.inj (show Value.type "list" = Value.type "module" from b4)) KL
    ·rw[(i _ e').2.1]at b3;cases b3;cases b4
  have e0:Env0 P w K mg (hidT c.heap H) callerA [] c H:=⟨rfl,hM,λ b o e=>yC e,Nat.le_of_eq (yz _ _),trivial,⟨λ b j=>absurd (show b∈([]:on Ku)from j) KS,hT⟩,L,.of_eq hg⟩;refine U4 ((F _ W (y R)).run callerA [] c H ⟨[.ref a],[]⟩ [.ref a] [.ref a] _ _ hr e0 (M c (.ref a)) (.cons rfl .nil) (a3 H hO hS)) λ r l h=>?_;cases r with
  | error e=>exact(a7 H e l h).elim
  | ok fl=>
   cases fl with
   | next=>exact False.elim h
   | brk=>exact False.elim h
   | cont=>exact False.elim h
   | ret u=>
    obtain⟨v,H',os,Z,un,E,r',q⟩:=h;have q':v=.bl true:=q;subst q';obtain rfl:u=Value.bool true:=r';refine⟨rfl,⟨λ b o e=>?_,λ b o e=>un.there b o e KS⟩,os,Z⟩;cases q:H b with
    | none=>exact .inl (un.keep b o e q (by intro z;exact absurd (show b∈([]:on Ku)from z) KS) KS)
    | some u=>
     rcases hO b with z | ⟨C,xs,z⟩ | ⟨qq,z⟩
     ·rw[q]at z;cases z
     ·have z2:=un.frzs b C _ z;obtain⟨Y,_⟩:=L b _ z;obtain⟨e2,_⟩:=E b _ z2;rw[e]at Y;cases Y;exact .inl e2
     ·rcases hA b (by rw[q];simp)with e' | ⟨⟨q2,e'⟩,_⟩
      ·subst e';obtain⟨ps,Y,_⟩:=L b _ z;rw[N]at Y;have:=congrArg Obj.data (D5 Y);cases this
      ·have t:=i _ e';rw[t.2.1]at e;cases e;obtain⟨ps,e2,_⟩:=E b _ (un.tbls b _ z);exact .inr (.inl ⟨t.2.2,rfl,#[],ps,rfl,by simpa using e2⟩)
 have B:∀f:Hp,(∀p∈A8 K,f p.1=none)->∃H:Hp,(∀b,(∃q,(b,q)∈A8 K/\H b=some (.tbl q))\/((∀q,(b,q)∉A8 K)/\H b=f b)):=λ f hf=>by
  refine⟨λ b=>match(A8 K).lookup b with | some q=>some (.tbl q) | none=>f b,λ b=>?_⟩;cases z:(A8 K).lookup b with
  | some q=>exact .inl ⟨q,dN z,by simp only[z]⟩
  | none=>exact .inr ⟨λ q hq=>rr z hq,by simp only[z]⟩
 have A:∀{H:Hp} {f:Hp},(∀b,(∃q,(b,q)∈A8 K/\H b=some (.tbl q))\/((∀q,(b,q)∉A8 K)/\H b=f b))->dG K H:=λ {H f} h p hp=>by
  rcases h p.1 with⟨q,X,h2⟩ | ⟨X,_⟩
  ·rw[h2,Aw a2 X hp]
  ·exact absurd hp (X p.2)
 cases hk:K.lookup a with
 | some o=>
  have e:=KX a o hk;rw[N]at e;cases e;obtain⟨H,h⟩:=B (λ _=>none) λ _ _=>rfl;refine I H (λ b=>?_) (.inr ⟨_,vs.toArray,_,hk,rfl,rfl,rfl,by rw[v5,Q];exact hl,by simpa using rv⟩) (λ b u z=>?_) (λ b z=>?_) (λ z=>?_) (A h)
  ·rcases h b with⟨q,_,e⟩ | ⟨_,e⟩
   ·exact .inr (.inr ⟨q,e⟩)
   ·exact .inl e
  ·rcases h b with⟨q,m,e⟩ | ⟨_,e⟩
   ·rw[e]at z;cases z;exact⟨#[],(i _ m).2.1,trivial,λ a0 cv z=>by cases z⟩
   ·rw[e]at z;cases z
  ·rcases h b with⟨q,m,e⟩ | ⟨_,e⟩
   ·exact .inr ⟨⟨q,m⟩,q,e⟩
   ·exact absurd e z
  ·rcases h a with⟨q,m,e⟩ | ⟨_,e⟩
   ·have:=(i _ m).1;rw[hk]at this;cases this
   ·exact absurd e z
 | none=>
  have S:∀q,(a,q)∉A8 K:=λ q m=>by have:=(i _ m).2.1;rw[N]at this;have:=congrArg Obj.data (D5 this);cases this
  obtain⟨H,h⟩:=B (λ b=>if b=a then some (.frz {cls:=.type "list",data:=.seq vs.toArray} (Lw (O.map V.int)))else none) λ p hp=>g9 λ z=>S p.2 (by rw[←z];exact hp)
  have a6:H a=some (.frz {cls:=.type "list",data:=.seq vs.toArray} (Lw (O.map V.int))):=by
   rcases h a with⟨q,m,_⟩ | ⟨_,e⟩
   ·exact absurd m (S q)
   ·rw[e];exact f8 rfl
  refine I H (λ b=>?_) (.inl (.inr ⟨{cls:=.type "list",data:=.seq vs.toArray},a6⟩)) (λ b u z=>?_) (λ b z=>?_) (λ _=>hk) (A h)
  ·rcases h b with⟨q,_,e⟩ | ⟨_,e⟩
   ·exact .inr (.inr ⟨q,e⟩)
   ·by_cases j:b=a
    ·exact .inr (.inl ⟨_,_,e.trans (f8 j)⟩)
    ·exact .inl (e.trans (g9 j))
  ·rcases h b with⟨q,m,e⟩ | ⟨_,e⟩
   ·rw[e]at z;cases z;exact⟨#[],(i _ m).2.1,trivial,λ a0 cv z=>by cases z⟩
   ·rw[e]at z;by_cases j:b=a
    ·have z':=(f8 j).symm.trans z;cases z';subst j;exact⟨N,by rw[g8];exact hl,vs,_,rv,N⟩
    ·have z':=(g9 j).symm.trans z;cases z'
  ·rcases h b with⟨q,m,e⟩ | ⟨_,e⟩
   ·exact .inr ⟨⟨q,m⟩,q,e⟩
   ·by_cases j:b=a
    ·exact .inl j
    ·exact absurd (e.trans (g9 j)) z
end L2
namespace L2
open PySem PySem.Spec PyProof.Rows
def walk_of{l:PySem.W.OpenLaw}{XP:(Str->Kr Ks)->Kv->Prop}{K:Params->KC}{CX:Ky->CXT}{L:Ky->Sp}
  (O:l.most=some n) (A:n<=sizeLine) (C:d.params.defaults=[]) (N:Room k callerA)
  (S:∀(w:Ky) (h:Kv),YP w h->(K w.params).In h) (i:∀(w:Ky) (h:Kv),YP w h->(∀p∈A8 (K w.params),(K w.params).lookup p.1=none/\h.get? p.1=some {cls:=.none,data:=.fields #[]} /\ isCodeTable h p.1)/\((A8 (K w.params)).map (·.1)).Nodup)
  (F:∀(w:Ky) (mg:Str->Kr Ks) (r:Ku) (h:Kv),(K w.params).In h->h.Ns mainGlobals mg->mg d.name=some (.ref r) ->
   ∃fd:FuncData,(∀(s:Kt) (u:Ks),BindsTo s fd ⟨[u],[]⟩ [(x,u)]) /\
    ∀base:Kv,(K w.params).In base->base.Ns mainGlobals mg->FnOk l.prog w (K w.params) mg base (CX w) k r fd [x] (L w))
  (z:∀(w:Ky) (H:Hp) (a:Ku) (m:on Int),m.length<=n->Only H->SqL (K w.params) H a (m.map V.int)->L w [.ref a] H (λ v _=>v=.bl true) λ _ _ _=>False)
  (E:∀(w:Ky) (H:Hp) (s:Kt) (e:Ks) (y:Kt),CX w [] H s (λ _ _ _=>False) e y->False) :
  PySem.W.WalkO q loose XP YP l.row.toRowW d [] (λ f I=>PySem.call f I):=by
 refine Att.attach_call O C λ w J g mg mb r o pm cd Z a I m G Y ho hd Q B j c b P=>?_;have M:=S w _ Y;obtain⟨fd,R,X⟩:=F w mg r _ M G.T.g B;exact Ax M G.T.g G.T.b G.T.builtins G.T.nolimit P j c (i7 b A) N X R (λ H W U=>z w H a m b W U) (i w _ Y).1 (i w _ Y).2 G.T.bmain λ H e y=>E w H g e y
end L2
namespace L2
open PySem PySem.Spec PyProof.Rows
abbrev CX0:CXT:=λ _ _ _ _ _ _=>False
abbrev E0:XK:=λ _ _ _=>False
def kZ:bM CX0 X E0:=λ _ _ _ _ _ _ _ h=>h.elim
def iteF{B:Prop}(h:B):if false=true then A else B:=by
 rw[g9 B5];exact h
def iteT{B:Prop}(h:A):if true=true then A else B:=by
 rw[f8 rfl];exact h
def Same(H H':Hp):Prop:=∀b o,H b=some o->H' b=some o
def Same.refl(H:Hp):Same H H:=λ _ _ h=>h
def Same.trans(a:Same H e)(b:Same e d):Same H d:=λ c o h=>b c o (a c o h)
def Same.free(e:Same H a)(h:a l=Option.none):H l=Option.none:=by
 cases q:H l with
 | none=>rfl
 | some o=>
  rw[e l o q]at h;cases h
def Same.seq{K:KC}(e:Same H b)(h:SqL K H a xs):SqL K b a xs:=by
 rcases h with(h | ⟨o,h⟩) | h
 ·exact .inl (.inl (e _ _ h))
 ·exact .inl (.inr ⟨o,e _ _ h⟩)
 ·exact .inr h
end L2
end
noncomputable section
namespace L2
open PySem PySem.Spec PyProof.Rows
noncomputable def q0(cells:on (Str×Ku)):on (Str×KI)->on (Str×Ku)->on (Str×Ku)
 | [],acc=>acc
 | (n,k)::r,acc=>if(k==NameKind.free)=true then q0 cells r ((n,(cells.lookup n).getD 0)::acc)else q0 cells r acc
theorem lg:∀(d:on (Str×KI)) (b:on (Str×Ku)),(∀y∈d,y.2=NameKind.free->∃c,env.cells.lookup y.1=some c) ->
  (forIn d b (λ (x:Str×KI) (cs:on (Str×Ku))=>(match x with | (e,f)=>if(f==NameKind.free)=true then(do let a ←cellOf env e;pure (ForInStep.yield ((e,a)::cs)))else pure (ForInStep.yield cs):Sem (ForInStep (on (Str×Ku))))):Sem (on (Str×Ku)))=pure (q0 env.cells d b)
 | [],b,_=>rfl
 | (n,k)::r,b,h=>by
  have j:=λ y m=>h y (o4 _ m);rw[List.forIn_cons];by_cases g:(k==NameKind.free)=true
  ·obtain⟨c,l⟩:=h (n,k) o5 (h8.mp g);have o:cellOf env n=pure c:=by unfold cellOf;rw[l]
   have i:q0 env.cells ((n,k)::r) b=q0 env.cells r ((n,c)::b):=(by show(if(k==NameKind.free)=true then q0 env.cells r (_::b)else q0 env.cells r b)=_;rw[f8 g,l];rfl);rw[i,←lg r _ j];simp only[g,if_true,o];rfl
  ·have i:q0 env.cells ((n,k)::r) b=q0 env.cells r b:=by
    show(if(k==NameKind.free)=true then q0 env.cells r (_::b)else q0 env.cells r b)=_;rw[g9 g]
   rw[i,←lg r b j];simp only[g,if_false];rfl
def gP(h:∀y∈scope.names,y.2=NameKind.free->∃c,env.cells.lookup y.1=some c):closureFor scope env=pure (q0 env.cells scope.names []):=by
 unfold closureFor
 first
  | exact _.trans rfl
  | (simp only[(lg scope.names [] h)];rfl)
theorem bN:∀{a:on (Str×KI)} {d:on (Str×Ku)} {x:Str} {c:Ku},(∀y∈a,y.2=NameKind.free->∃c,b.lookup y.1=some c) ->
  (x,c)∈q0 b a d->(x,c)∈d\/(b.lookup x=some c/\MK∈a)
 | [],d,x,c,_,h=>.inl h
 | (n,k)::r,d,x,c,g,h=>by
  have f:=λ y i=>g y (o4 _ i);unfold q0 at h;by_cases e:(k==NameKind.free)=true
  ·rw[f8 e]at h;obtain⟨c',j⟩:=g (n,k) o5 (h8.mp e);rcases bN f h with z | ⟨z1,z2⟩
   ·rcases i6.mp z with z | z
    ·cases z;exact .inr ⟨by rw[j];rfl,by rw[←h8.mp e];exact o5⟩
    ·exact .inl z
   ·exact .inr ⟨z1,o4 _ z2⟩
  ·rw[g9 e]at h;rcases bN f h with z | ⟨z1,z2⟩
   ·exact .inl z
   ·exact .inr ⟨z1,o4 _ z2⟩
theorem li:∀{a:on (Str×KI)} {c:on (Str×Ku)} {y:Str×Ku},y∈c->y∈q0 b a c
 | [],_,_,h=>h
 | (n,k)::r,c,y,h=>by
  unfold q0;split
  ·exact li (o4 _ h)
  ·exact li h
theorem gQ:∀{a:on (Str×KI)} {d:on (Str×Ku)} {x:Str} {c:Ku},MK∈a->b.lookup x=some c->(x,c)∈q0 b a d
 | (n,k)::r,d,x,c,h,e=>by
  unfold q0;rcases i6.mp h with z | z
  ·cases z;rw[f8 (show(NameKind.free==NameKind.free)=true from rfl),e];exact li o5
  ·split
   ·exact gQ z e
   ·exact gQ z e
theorem dO:∀(a:on (Str×KI)) (n:Nat) (b:on (Str×Ku)),cellsFrom n a b=cellsFrom n a []++b
 | [],_,_=>rfl
 | (x,k)::r,n,b=>by
  unfold cellsFrom;split
  ·rw[dO r _ _,dO r _ [(x,n)],Q9];rfl
  ·exact dO r n b
theorem lj:∀{a:on (Str×KI)} {n:Nat} {x:Str} {c:Ku},(x,c)∈cellsFrom n a []->(x,NameKind.cell)∈a
 | [],_,_,_,h=>nomatch h
 | (y,k)::r,n,x,c,h=>by
  unfold cellsFrom at h;by_cases b:(k==NameKind.cell)=true
  ·rw[f8 b,dO]at h;rcases F1.mp h with z | z
   ·exact o4 _ (lj z)
   ·have d:(x,c)=(y,n):=by simpa using z
    cases d;rw[h8.mp b];exact o5
  ·rw[g9 b]at h;exact o4 _ (lj h)
theorem dP{a:Type}:∀{l r:on (Str×a)},(l++r).lookup x=(l.lookup x).or (r.lookup x)
 | [],r=>by simp
 | (y,v)::l,r=>by
  rw[List.cons_append,G4,G4];cases hb:x==y with
  | true=>rfl
  | false=>exact dP
theorem rx{a:Type}:∀{l:on (Str×a)},(∀c,(x,c)∉l)->l.lookup x=none
 | [],_=>rfl
 | (y,v)::l,h=>by
  rw[G4];cases hb:x==y with
  | true=>exact absurd Mn (h v)
  | false=>exact rx λ c b=>h c (o4 _ b)
theorem ll{a:Type}:∀{l:on (Str×a)} {c:a},(x,c)∈l->∃d,l.lookup x=some d
 | (y,v)::l,c,h=>by
  rw[G4];cases b:x==y with
  | true=>exact⟨v,rfl⟩
  | false=>
   rcases i6.mp h with z | z
   ·cases z;rw[R4]at b;cases b
   ·exact ll z
theorem Z5{b:Type}:∀{l:on (Str×b)} {c:b},(l.map (·.1)).Nodup->(x,c)∈l->l.lookup x=some c
 | (y,v)::l,c,d,h=>by
  rw[G4];rw[A3]at d;have a:=P0.mp d;rcases i6.mp h with z | z
  ·cases z;rw[R4]
  ·have:x≠y:=λ e=>a.1 (by rw[←e];exact i8.mpr ⟨_,z,rfl⟩);rw[x8.mpr this];exact Z5 a.2 z
def lm:(relabel scope env).names.lookup x=(scope.names.lookup x).map λ k=>if(k==NameKind.free&&env.scope.kind == .function&&env.kindOf x==some .cell)=true then NameKind.cell else k:=by
 unfold relabel;show(scope.names.map _).lookup x=_;generalize scope.names=l
 induction l with
 | nil=>rfl
 | cons y r a=>
  obtain⟨n,k⟩:=y;rw[A3];show List.lookup x ((if _=true then _ else(n,k))::_)=_;have e:(if(k==NameKind.free&&env.scope.kind == .function&&env.kindOf n==some .cell)=true then(n,NameKind.cell)else(n,k))=(n,if(k==NameKind.free&&env.scope.kind == .function&&env.kindOf n==some .cell)=true then NameKind.cell else k):=by split<;>rfl
  rw[e,G4,G4];cases b:x==n with
  | true=>rw[h8.mp b];rfl
  | false=>exact a
def Ay
  (e:Q (newEnv scope s.heap.objs.size g (cellsFrom (s.heap.objs.size+1) scope.names cl) q none .none (some env) builtinsNs) {s with heap:=pushCells (s.heap.push {cls:=.type "dict",data:=.dict #[]}) scope.names}) :
  wpAny M A (newFunctionEnv scope g cl [] q none .none (some env)) Q E s:=by
 simp only[newFunctionEnv,Option.isSome_some,if_true];refine f0 (wpAny_alloc ?_);refine f0 (wpAny_layCells _ (λ d a c=>by cases b:a==NameKind.cell<;>simp[b]) _ _ _ _ ?_);rw[show({s with heap:=s.heap.push {cls:=.type "dict",data:=.dict #[]}}:Kt).heap.objs.size=s.heap.objs.size+1 from M4 ..];exact f0 (f9 (f9 e))
def Az(I:Nat->Kt->Prop)
  (turn:∀n s,I n s->wpAny KN A (pyNext it) (λ r f=>match r with
   | none=>R (.ok .next) f
   | some v=>wpAny KN A (letOwnedTupleGo a it v) (λ _ d=>wpAny KN A (assign a env v) (λ _ l=>
     wpAny KN A (forIn y true λ c r=>if r=true then do let ok ←isTrue c env (eval c env);pure (ForInStep.yield ok)else pure (ForInStep.yield r)) (λ ok b=>
      if ok=true then wpAny KN A (eval elt env) (λ x k=>
       wpAny KN A (call (.builtin "list.append") [E,x]) (λ _ j=>∃m,m<n/\I m j) (notedBy KN A env λ e g=>R (.error e) g) k) (notedBy KN A env λ e g=>R (.error e) g) b
      else ∃m,m<n/\I m b) (notedBy KN A env λ e g=>R (.error e) g) l) (notedBy KN A env λ e g=>R (.error e) g) d) (notedBy KN A env λ e g=>R (.error e) g) f) (notedBy KN A env λ e g=>R (.error e) g) s)
  (n:Nat) (h:I n s) :
  codeAny KN A (.compLoop (.ListComp elt [⟨a,u,y,0⟩] scope pos) 0 it E env) R s:=by
 refine codeAny_loop rfl I (λ n s F=>?_) n h;show wpAny _ A _ _ _ s;refine wpAny_noted ?_;rw[compTurn_list];refine f0 (gj (f0 (B4 (turn n s F) (λ r f p=>?_) λ _ _ i=>i)));cases r with
 | none=>exact f9 p
 | some v=>
  refine f0 (B4 p (λ _ d q=>?_) λ _ _ i=>i);refine f0 (B4 q (λ _ l C=>f0 (B4 C (λ ok b o=>?_) λ _ _ i=>i)) λ _ _ i=>i);cases ok with
  | false=>exact f9 ⟨rfl,o⟩
  | true=>
   exact f0 (f0 (B4 o (λ x k B=>f0 (B4 B (λ _ j z=>f9 (f9 ⟨rfl,z⟩)) λ _ _ i=>i)) λ _ _ i=>i))
def HOk.track(x:HOk P w H h)(d:H a=none)(new:u6 P w (upd H a o) h a o):HOk P w (upd H a o) h:=λ b u e=>by
 by_cases f:b=a
 ·subst f;rw[y9]at e;cases e;exact new
 ·rw[n6 f]at e;exact(x b u e).stay (λ c v _ q=>q) (λ c q=>by rw[n6 (A7 q d)];exact q) (λ c g q=>by rw[n6 (A7 q d)];exact q) (λ c g q=>by rw[n6 (A7 q d)];exact q) λ c _ _ _ _ q=>by rw[n6 (A7 q d)];exact q
def Un.track{fs ex:on Ku}{H H':Hp}{h h':Kv}{a:Ku}{o:HO}(u:Un fs ex H H' h h')(hn:H' a=none)(hh:h.get? a=none):Un fs ex H (upd H' a o) h h' where
 keep:=u.keep
 slot:=u.slot
 free:=λ b ob q n hx=>by
  have:b≠a:=λ z=>by rw[z,hh]at q;cases q
  rw[n6 this];exact u.free b ob q n hx
 there:=u.there
 tups:=λ b xs q=>by have z:=u.tups b xs q;rw[n6 (A7 z hn)];exact z
 frzs:=λ b ob xs q=>by have z:=u.frzs b ob xs q;rw[n6 (A7 z hn)];exact z
 tbls:=λ b ps q=>by have z:=u.tbls b ps q;rw[n6 (A7 z hn)];exact z
structure CompScope(N N':List Str)(sc osc:Scope)(fr:List (Option Nat)):Prop where
 kind:sc.kind=.function
 nd:N'.Nodup
 snd:(sc.names.map (·.1)).Nodup
 len:fr.length=N'.length
 fre:∀(j i:Nat),fr[j]? = some (some i)->∃x,N'[j]? = some x/\N[i]? = some x/\MK∈sc.names
 out:∀y∈sc.names,y.2=NameKind.free->osc.names.lookup y.1=some .cell\/osc.names.lookup y.1=some .free
noncomputable def inner(fr:on (Kr Nat))(σ:St):St:=fr.map λ o=>o.bind λ i=>(σ[i]?).join
noncomputable def v6(X:Cx)(scope:KD)(N':on Str)(C:Ku)(cells:on (Str×Ku))(s₂:Kt)(H₂:Hp)(fp:on Ku):Cx:=
 {X with N:=N',s₀:=s₂,H₀:=H₂,env:=compEnvC scope cells C X.env,outer:=X.stack,stack:=X.stack,ex:=fp,fn:=λ x=>scope.names.lookup x==some .cell,pn:=[],xe:=λ _ _=>False}
abbrev R7:Obj:={cls:=.type "list",dict:=none,data:=.seq ([]:on Ks).toArray}
abbrev dQ:Obj:={cls:=.type "dict",data:=.dict #[]}
def AA(S:Mg N')(I:Inv X O σ H d)(f:∀b∈fp,FpOk X O H b)(ho:∀b∈fp,@LT.lt Nat _ b d.heap.objs.size)(hC:C=d.heap.objs.size+1)(M:U=pushCells ((d.heap.push R7).push dQ) scope.names) :
  Inv (v6 X scope N' C (cellsFrom (C+1) scope.names (q0 X.env.cells scope.names [])) d H fp) [] (inner fr σ) H {d with heap:=U} /\ U.get? d.heap.objs.size=some R7/\(∀b o,d.heap.get? b=some o->U.get? b=some o):=by
 have Q:(d.heap.push R7).objs.size=d.heap.objs.size+1:=M4 ..;have P:((d.heap.push R7).push dQ).objs.size=C+1:=by rw[M4,Q,hC]
 have h:∀b o,d.heap.get? b=some o->U.get? b=some o:=λ b o e=>by rw[M];exact jV _ _ b o (n7 _ (n7 _ e))
 have hD:U.get? d.heap.objs.size=some R7:=by rw[M];exact jV _ _ _ _ (n7 _ (r9 _ rfl))
 have a4:U.Ns C λ _=>none:=by have q:=(Heap.Ns.new (d.heap.push R7) (.type "dict")).keeps (jV scope.names _);rw[Q,←hC]at q;rw[M];exact q
 have ok:=cellsFrom_ok scope.names ((d.heap.push R7).push dQ) (C+1) [] ⟨λ _ _ A=>(nomatch A),List.Pairwise.nil⟩ (by rw[P];exact i9 _);rw[P,←M]at ok;have J:∀y∈scope.names,y.2=NameKind.free->∃c,X.env.cells.lookup y.1=some c:=λ y hy hk=>I.ok.has y.1 (S.out y hy hk);generalize Z:q0 X.env.cells scope.names []=cl;have F:∀{x:Str} {c:Ku},(x,c)∈cl->X.env.cells.lookup x=some c/\MK∈scope.names:=λ {x c} A=>by
  rw[←Z]at A;rcases bN J A with z | z
  ·exact nomatch z
  ·exact z
 generalize s:cellsFrom (C+1) scope.names []=own at ok;have a6:cellsFrom (C+1) scope.names cl=own++cl:=by rw[dO,s]
 rw[a6];have L:∀{x:Str} {c:Ku},(x,c)∈own->(x,NameKind.cell)∈scope.names:=λ {x c} A=>by rw[←s]at A;exact lj A
 have L1:∀x c,(own++cl).lookup x=some c->((x,c)∈own)\/(X.env.cells.lookup x=some c/\MK∈scope.names/\own.lookup x=none):=λ x c e=>by
  rw[dP]at e;cases q:own.lookup x with
  | some c'=>rw[q]at e;cases e;exact .inl (C8 q)
  | none=>rw[q]at e;have z:=F (C8 (show cl.lookup x=some c from e));exact .inr ⟨z.1,z.2,rfl⟩
 have g:=λ {x c} A=>(ok.empty x c A).2;have n:∀{x:Str} {c:Nat},X.env.cells.lookup x=some c->@LT.lt Nat _ c d.heap.objs.size:=λ {x c} e=>by obtain⟨v,z⟩:=I.cell x c e;exact z.lt
 have K:∀{x:Str},MK∈scope.names->own.lookup x=none:=λ {x} A=>by refine rx λ c Y=>?_;have a:=Z5 S.snd A;have b:=Z5 S.snd (L Y);rw[a]at b;cases b
 have B:∀{x:Str} {c:Ku},MK∈scope.names->X.env.cells.lookup x=some c->(own++cl).lookup x=some c:=λ {x c} A Y=>by rw[dP,K A];obtain⟨c',e⟩:=ll (l:=cl) (by rw[←Z];exact gQ A Y);have z:=(F (C8 e)).1;rw[Y]at z;cases z;exact e
 have hX:(v6 X scope N' C (own++cl) d H fp).Ok:=by
  refine⟨I.ok.mod,S.kind,I.ok.glob,I.ok.blt,?_,λ x y c h1 h2=>?_,λ x hx=>?_,λ x c hf Y=>?_,I.ok.hd,I.ok.frames,.inl rfl,λ b R=>⟨?_,λ x c e=>?_⟩,I.bs,i7 I.ok.bsz I.sz,λ b o e R=>?_,λ b R hs=>?_,I.stack,⟨I.stkFree,I.tabs⟩⟩
  ·show d.heap.objs.size<=C;rw[hC];exact aM _
  ·have h1:(own++cl).lookup x=some c:=h1;have h2:(own++cl).lookup y=some c:=h2;rcases L1 x c h1 with a | ⟨a,_⟩<;>rcases L1 y c h2 with b | ⟨b,_⟩
   ·exact name_of_addr ok.apart a b
   ·exfalso;have q1:=g a;have q2:=n b;omega
   ·exfalso;have q1:=g b;have q2:=n a;omega
   ·exact I.ok.inj x y c a b
  ·have E:(relabel scope X.env).names.lookup x=some .cell\/(relabel scope X.env).names.lookup x=some .free:=hx;show ∃c,(own++cl).lookup x=some c;rw[lm]at E;cases q:scope.names.lookup x with
   | none=>rw[q]at E;rcases E with z | z<;>cases z
   | some k=>
    have km:=C8 q;by_cases k1:k=.cell
    ·subst k1;have z:=fB scope.names (C+1) [] (.inl q);rw[s]at z;obtain⟨c,z⟩:=T5.mp z;exact⟨c,by rw[dP,z];rfl⟩
    ·by_cases k2:k=.free
     ·subst k2;obtain⟨c,e⟩:=J _ km rfl;exact⟨c,B km e⟩
     ·exfalso;rw[q]at E;have e0:(k==NameKind.free)=false:=x8.mpr k2;simp only[P1,e0,di]at E;rcases E with z | z
      ·exact k1 (Lq z)
      ·exact k2 (Lq z)
  ·have a5:(scope.names.lookup x==some .cell)=true:=hf;have q:scope.names.lookup x=some .cell:=by simpa using a5
   have z:=fB scope.names (C+1) [] (.inl q);rw[s]at z;obtain⟨c',z⟩:=T5.mp z;have a0:(own++cl).lookup x=some c:=Y;rw[dP,z]at a0;have e:c'=c:=D5 a0;subst e;have:=g (C8 z);show @LE.le Nat _ d.heap.objs.size c';omega
  ·have:=ho b R;show @Ne Nat b C;omega
  ·rcases L1 x c e with a | ⟨a,_⟩
   ·have:=g a;have:=ho b R;show @Ne Nat c b;omega
   ·exact(f b R).2.2.2.2.1 x c a
  ·rcases(f b R).2.2.2.1 with z | z
   ·exact I.ok.noex b o e z
   ·exact absurd (t7 (k9 e) (i7 I.ok.bsz z)) (P2 _)
  ·rcases i6.mp (I.stkSub b hs)with z | z
   ·exact(f b R).2.1 z
   ·exact(f b R).2.2.1 z
 refine⟨⟨hX,rfl,I.bare,Un.kept h,⟨_,a4,λ i x v e1 W e3=>?_⟩,λ x c e=>?_,I.hok.fresh (by show @LE.le Nat _ d.heap.objs.size C;omega),λ x c e=>?_,λ p hp=>absurd (show p∈([]:on (Ku×Obj))from hp) KS,I.hok.kept h,?_⟩,hD,h⟩
 ·have e1:N'[i]? = some x:=e1;unfold inner at W;rw[t5]at W;cases q:fr[i]? with
  | none=>rw[q]at W;cases W
  | some o=>
   rw[q]at W;cases o with
   | none=>cases W
   | some j=>
    have N:(σ[j]?).join=some v:=D5 W;have hv:σ[j]? = some (some v):=by
     cases z:σ[j]? with
     | none=>rw[z]at N;cases N
     | some o=>rw[z]at N;rw[show o=some v from N]
    obtain⟨x',a1,a2,a3⟩:=S.fre i j q;rw[e1]at a1;cases a1;obtain⟨m,hn,hl⟩:=I.loc;have ko:=S.out _ a3 rfl;obtain⟨u,r,l⟩:=hl j x v a2 hv (ko.elim (λ z=>.inr (.inl z)) λ z=>.inr (.inr z));rcases l with⟨k,_⟩ | ⟨k,c,e,z⟩
    ·have k':X.env.scope.names.lookup x=some .local:=k;rcases ko with w | w<;>(rw[show X.env.scope.names.lookup x=_ from w]at k';cases k')
    ·refine⟨u,r,.inr ⟨?_,c,B a3 e,z.keeps h⟩⟩;show(relabel scope X.env).names.lookup x=some .cell\/(relabel scope X.env).names.lookup x=some .free;rw[lm,Z5 S.snd a3];simp only[P1];split
     ·exact .inl rfl
     ·exact .inr rfl
 ·rcases L1 x c e with a | ⟨a,_⟩
  ·exact⟨none,(ok.empty x c a).1⟩
  ·obtain⟨v,z⟩:=I.cell x c a;exact⟨v,z.keeps h⟩
 ·rcases L1 x c e with a | ⟨a,_⟩
  ·exact I.hok.fresh (by have:=g a;show @LE.le Nat _ d.heap.objs.size c;omega)
  ·exact I.freeC x c a
 ·show(inner fr σ).length=N'.length;unfold inner;rw[g8,S.len]
def PTs(X:Cx)(ifs:on Kw)(t:TT):Prop:=
 ∀(pins:LF) (s:Kt) (σ:St) (H:Hp) (Q:Bool->Hp->Prop),Inv X pins σ H s->t σ H Q ->
  wpAny KO X.A (forIn ifs true λ c r=>if r=true then do let ok ←isTrue c X.env (Ms c);pure (ForInStep.yield ok)else pure (ForInStep.yield r)) (TP X pins σ Q) X.xe s
def tYes:TT:=λ _ H Q=>Q true H
def AB:PTs X [] tYes:=λ _ _ _ H _ I h=>wpAny_tests_nil ⟨H,I,h⟩
def AC(h:PT X c t):PTs X [c] t:=λ a s b H Q I d=>wpAny_tests_one (h a s b H Q I d)
def lq(J:It)(g:TG)(tc:TT)(te:TE)(Fin:on V->Hp->Prop)(σ:St)(H:Hp):Prop:=
 ∃W:Nat->Nat->on V->St->Hp->Prop,(∃m,W 0 m [] σ H)/\∀i m ys σ H,W i m ys σ H ->
  (J.stop i H/\Fin ys H)\/(J.go i H/\ys.length<sizeLine/\∀x H',J.yld i H x H'->g x σ H' λ σ2 H2=>tc σ2 H2 λ b H3=>
   if b=true then te σ2 H3 λ y H4=>∃m',m'<m/\W (i+1) m' (ys++[y]) σ2 H4 else ∃m',m'<m/\W (i+1) m' ys σ2 H3)
def Vals.snoc(r:Vals xs a)(q:RelV x u):Vals (xs++[x]) (a++[u]):=r.append (.cons q .nil)
def ry{K:on (Ku×Obj)}
   {RR:Ks->Ku->Result->Kt->Prop}
  (S:Mg L) (hc:Mk)
  (hg:∀C j a B fp,PG (v6 X scope L C j a B fp) tg g) (ht:∀C j a B fp,PTs (v6 X scope L C j a B fp) a3 tc) (he:∀C j a B fp,PE (v6 X scope L C j a B fp) elt te)
  (I:Inv X K σ H a) (T:Turn X.prog X.w X.K tg J fp it tn) (st:tn 0 a.heap) (f:∀b∈fp,FpOk X K H b) (h:lq J g tc te c0 (inner fr σ) H)
  (c4:∀D C A P m O,Inv X K σ (upd A D (.lst O)) P->A D=none->P.heap.Ns C m->upd A D (.lst O) C=none->C≠X.env.locals->X.s₀.heap.objs.size<=C->(∀x c,X.env.cells.lookup x=some c->c≠C)->(∀p∈X.pn++K,p.1≠C)->c0 O A->RR (.ref D) C (.ok .next) P) :
  wpAny KO X.A (newList []) (λ b8 a8=>wpAny KO X.A (newFunctionEnv scope X.env.globals (q0 X.env.cells scope.names []) [] X.env.qual none .none (some X.env)) (λ a1 a7=>
   codeAny KO X.A (.compStart (.ListComp elt [⟨tg,a0,a3,0⟩] scope pos) 0 (.ref it) b8 {a1 with scope:=relabel scope X.env}) (RR b8 a1.locals) a7) E a8) E a:=by
 have ho:∀b∈fp,b<a.heap.objs.size:=λ b s=>by obtain⟨o,e,_⟩:=T.obj _ _ st b s;exact k9 e
 refine C9 (Ay ?_);have b0:(a.heap.push R7).objs.size=a.heap.objs.size+1:=M4 ..;obtain⟨I4,b6,Z⟩:=AA (C:=a.heap.objs.size+1) S I f ho rfl rfl;show codeAny _ _ _ (RR (.ref a.heap.objs.size) (a.heap.push R7).objs.size) {a with heap:=pushCells ((a.heap.push R7).push dQ) scope.names};rw[b0];generalize b4:a.heap.objs.size=D at *;generalize cellsFrom (D+1+1) scope.names (q0 X.env.cells scope.names [])=j at *;generalize pushCells ((a.heap.push R7).push dQ) scope.names=h4 at *;have a4:∀{w:on (Ku×Obj)} {A:Hp},(∀b∈fp,A b=none)->(∀p∈w,p.1=D)->∀b∈fp,FpOk LZ w A b:=λ {w A} hn N b s=>
  ⟨hn b s,(I4.ok.exf b s).1,I4.ok.exfs b s,.inl s,(I4.ok.exf b s).2,λ p R z=>by
   have R:p∈([]:on (Ku×Obj))++w:=R;rw[fW]at R;have:=ho b s;rw[←z,N p R]at this;exact P2 _ this⟩
 obtain⟨W,⟨m0,w0⟩,a6⟩:=h;have b5:D≠(LZ).env.locals:=by show D≠D+1;omega
 have U:∀x c,(LZ).env.cells.lookup x=some c->c≠D:=λ x c e z=>by
  obtain⟨v,o,c1,hd⟩:=I4.cell x c e;have q:h4.get? D=some o:=by rw[←z];exact c1
  rw[b6]at q;cases q;cases hd
 have b3:D∉(LZ).fs:=λ z=>by
  obtain⟨_,o,c2,_⟩:=I4.ok.funs.mem z
  have:=k9 c2;have e:a.heap.objs.size=D:=b4;exact absurd this (by show ¬D<a.heap.objs.size;omega)
 have Y:codeAny KO X.A (.compLoop (.ListComp elt [⟨tg,a0,a3,0⟩] scope pos) 0 (.ref it) (.ref D) (compEnvC scope j (D+1) X.env)) (RR (.ref D) (D+1)) {a with heap:=h4}:=by
  refine Az (λ n P=>∃i O l k a5 A,Inv LZ [] a5 A P/\tn i P.heap/\(∀b∈fp,A b=none)/\A D=none /\
   P.heap.get? D=some {cls:=.type "list",data:=.seq (l:on Ks).toArray k} /\ Vals O l/\O.length<=sizeLine/\W i n O a5 A) ?_ m0
   ⟨0,[],[],_,_,H,I4,T.keep _ _ _ st λ b _ o e=>Z b o e,λ b s=>(f b s).1,I.hok.fresh KE,b6,.nil,D9 _,w0⟩
  rintro n s3 ⟨i,O,l,k,σ3,H3,I3,st3,fr3,hD3,oD3,rv,hl,w3⟩
  have b9:Inv LZ [(D,{cls:=.type "list",data:=.seq l.toArray k})] σ3 H3 s3:=I3.pins_of λ p N=>by
   have e:p=(D,{cls:=.type "list",data:=.seq l.toArray k}):=by simpa using N
   subst e;exact⟨oD3,hD3,b5,b3,λ v z=>by cases z⟩
  have Q:∀p∈[((D:Ku),({cls:=.type "list",data:=.seq l.toArray k}:Obj))],p.1=D:=λ p N=>by
   have e:p=(D,{cls:=.type "list",data:=.seq l.toArray k}):=by simpa using N
   subst e;rfl
  rcases a6 i n O σ3 H3 w3 with⟨a9,c8⟩ | ⟨go,hlt,step⟩
  ·refine thn (T.done LZ rfl rfl rfl hc i _ s3 σ3 H3 _ b9 (a4 fr3 Q) st3 a9) λ r s4 t0=>?_;obtain⟨hr,F⟩:=t0;subst hr;have oD:=(F.pin (D,_) (A0 _ o5)).1;have un:Un (frs X.stack) fp H H3 a.heap s4.heap:=F.base;have hn:a.heap.get? D=none:=cS (by rw[b4];exact i9 _);obtain⟨mC,c3,_⟩:=F.loc;refine c4 D (D+1) H3 s4 mC O (I.call' F.os (un.track hD3 hn) (F.hok.track hD3 ⟨hl,l,k,rv,oD⟩) F.bare λ b s=>?_) hD3 c3 ?_ ?_ ?_ (λ x c e=>?_) (λ p N=>?_) c8
   ·obtain⟨_,f1,f2,f3,f4,f5⟩:=f b s;exact⟨f3,f1,f4,f5⟩
   ·rw[n6 (show @Ne Nat (D+1) D by omega)];exact F.free
   ·have q:@LT.lt Nat _ X.env.locals a.heap.objs.size:=I.lt;show @Ne Nat (D+1) X.env.locals;omega
   ·have q:@LE.le Nat _ X.s₀.heap.objs.size a.heap.objs.size:=I.sz;show @LE.le Nat _ X.s₀.heap.objs.size (D+1);omega
   ·obtain⟨v,z⟩:=I.cell x c e;have q:@LT.lt Nat _ c a.heap.objs.size:=z.lt;show @Ne Nat c (D+1);omega
   ·have q:@LT.lt Nat _ p.1 a.heap.objs.size:=k9 (I.pin p N).1;show @Ne Nat p.1 (D+1);omega
  ·refine thn (T.item LZ rfl rfl rfl hc i _ s3 σ3 H3 _ b9 (a4 fr3 Q) st3 go) λ r s4 t0=>?_;obtain⟨u,hr,c6⟩:=t0;subst hr;refine thn c6 λ _ s5 t0=>?_;obtain⟨x,H5,I5,r5,y5,a2,c7⟩:=t0;have c9:=I5.pinned (a4 c7 Q) (T.obj _ _ a2);refine B4 (hg (D+1) j a H fp _ s5 σ3 H5 x u _ c9 r5 (step x H5 y5)) (λ _ s6 ⟨M,H6,I6,q6⟩=>?_) λ _ _ z=>z.elim;refine B4 (ht (D+1) j a H fp _ s6 M H6 _ I6 q6) (λ b s7 ⟨H7,I7,q7⟩=>?_) λ _ _ z=>z.elim;have b7:∀{A:Hp} {P:Kt},Inv LZ ([(D,{cls:=.type "list",data:=.seq l.toArray k})]++gL fp s5.heap) M A P->tn (i+1) P.heap/\(∀b∈fp,A b=none)/\P.heap.get? D=some {cls:=.type "list",data:=.seq l.toArray k} /\ A D=none:=λ {A P} J'=>by
    refine⟨T.keep _ _ _ a2 λ b s o e=>(J'.pin (b,o) (A0 _ (A0 _ (Z4 s e)))).1,λ b s=>?_,?_,?_⟩
    ·obtain⟨o,e,d⟩:=T.obj _ _ a2 b s;exact(J'.pin (b,o) (A0 _ (A0 _ (Z4 s e)))).2.1
    ·exact(J'.pin (D,_) (A0 _ (E3 _ o5))).1
    ·exact(J'.pin (D,_) (A0 _ (E3 _ o5))).2.1
   cases b with
   | false=>
    rw[g9 B5]at q7 ⊢;obtain⟨m',hm,w7⟩:=q7;obtain⟨k1,k2,k3,k4⟩:=b7 I7;exact⟨m',hm,i+1,O,l,k,M,H7,I7.pins_of (λ p N=>(nomatch N)),k1,k2,k4,k3,rv,hl,w7⟩
   | true=>
    rw[f8 rfl]at q7 ⊢;refine B4 (he (D+1) j a H fp _ s7 M H7 _ I7 q7) (λ y s8 ⟨v8,H8,I8,r8,q8⟩=>?_) λ _ _ z=>z.elim
    obtain⟨m',hm,w8⟩:=q8;obtain⟨k1,k2,k3,k4⟩:=b7 I8;have b2:l.length<=sizeLine:=by rw[←rv.length];exact hl
    refine append_at k3 (λ h9 b1 c5=>?_) (by rw[v5];exact b2);have I9:Inv LZ [] M H8 s8:=I8.pins_of λ p N=>(nomatch N);refine⟨m',hm,i+1,O++[v8],l++[y],k+1,M,H8,I9.turned (it:=D) (t':=s8.toks) (λ b o s e=>(b1.2 b s).trans e) k4 b5 (.inr (by show a.heap.objs.size<=D;omega)) U (λ p N=>(nomatch N)),?_,k2,k4,?_,rv.snoc r8,?_,w8⟩
    ·exact T.keep _ _ _ k1 λ b s o e=>(b1.2 b (by have q:@LT.lt Nat _ b D:=ho b s;show @Ne Nat b D;omega)).trans e
    ·rw[c5,List.push_toArray]
    ·rw[t9,W3];omega
 exact codeAny_compStart_list Y (T.self X.A 0 _ _ _ (T.keep _ _ _ st λ b _ o e=>Z b o e) Y)
def lr(fr:on (Kr Nat))(wi:TI)(g:TG)(tc:TT)(te:TE):TE:=λ σ H Q=>wi σ H λ J H1=>lq J g tc te (λ ys H'=>∀p,H' p=none->Q (.ref p) (upd H' p (Lw ys))) (inner fr σ) H1
def AD{K:TT}(S:Mg k)(hc:Mk)(Y:PI X tg f E)
  (Z:∀C a c d fp,PG (v6 X scope k C a c d fp) tg g) (P:∀C a c d fp,PTs (v6 X scope k C a c d fp) j K) (he:∀C a c d fp,PE (v6 X scope k C a c d fp) elt F)
  (R:∀x,foldedSetIterable f X.env x=pure x:=by intro _;rfl):PE X (.ListComp elt [⟨tg,f,j,0⟩] scope pos) (lr fr E g K F):=by
 intro i s L H Q I h;rw[eval_ListComp];refine pL rfl R (gP (λ y N W=>I.ok.has y.1 (S.out y N W))) S.kind (λ x O U=>Z5 S.snd (by rw[←U];exact O)) (thn (Y i s L H _ I h) λ v s1 h1=>thn h1 λ M s2 h2=>?_);obtain⟨it,fp,tn,J,H2,e,I2,T,l,f2,w⟩:=h2;subst e;refine ry S hc Z P he I2 T l f2 w ?_;intro D C H' s' m ys I' hD p u A q z r B;exact⟨m,p,λ h' n=>⟨.ref D,_,I'.turned (λ b o hb e=>(n.2 b hb).trans e) u A (.inr q) z r,rfl,B D hD⟩⟩
def AE(S:Mg u)(hc:Mk)(hN:X.N.Nodup)(L:X.N[i]? = some y)
  (r:X.env.scope.names.lookup y=some .local) (hi:PI X tg j R)
  (hg:∀C c d f fp,PG (v6 X scope u C c d f fp) tg g) (ht:∀C c d f fp,PTs (v6 X scope u C c d f fp) l W) (he:∀C c d f fp,PE (v6 X scope u C c d f fp) elt U)
  (B:swapsWith (.ListComp elt [⟨tg,j,l,0⟩] scope pos) (some (.Name y Y)) k.line X.env=pure true:=by rfl)
  (hs:∀x,foldedSetIterable j X.env x=pure x:=by intro _;rfl):PS X (.Assign [.Name y Y] (.ListComp elt [⟨tg,j,l,0⟩] scope pos) k) (tAsg (lr fr R g W U) (dL i)):=by
 intro n s Z H Dn I h;rw[exec_Assign_Name_used _ _ _ _ B];refine f0 (gj (f0 ?_));show wpAny _ _ _ _ _ s;refine f0 (B4 (pL rfl hs (gP (λ y r hk=>I.ok.has y.1 (S.out y r hk))) S.kind (λ x hx hl=>Z5 S.snd (by rw[←hl];exact hx))
  (thn (hi n s Z H _ I h) λ v s1 h1=>thn h1 λ itv s2 h2=>?_)) (λ _ s' hq=>f9 (f9 hq)) λ _ _ e=>e)
 obtain⟨it,fp,tn,J,H2,e,I2,T,A,f2,w⟩:=h2;subst e;refine ry S hc hg ht he I2 T A f2 w ?_;intro D C H' s' m ys I' hD K O q M p N P;refine wpAny_assign_Name (ql (v:=.ref D) I' hN L (Or.inl r) rfl (λ s'' Q ⟨a,E,ha⟩=>⟨m,K.sameBut E ?_,λ h' F=>⟨_,_,Q.turned (λ b o hb e=>(F.2 b hb).trans e) O q (.inr M) p N,P D hD⟩⟩) (.inr r));rcases ha with z | z
 ·rw[z];exact q
 ·exact Ne.symm (p y a z)
abbrev cxD(P:Kz)(w:Ky)(K:KC)(mg:Str->Kr Ks)(base:Kv)(N:on Str)(qual:Str)(scope:KD)(f:Ku)(cd:Ks)(A:KA)(outer:on Env)(s:Kt)(H:Hp):Cx:=cxOf CX0 P w K mg base N qual scope f cd A outer s H E0
theorem Inv.track(I:KR pins)(f:H a=none)(k:X.s₀.heap.get? a=none)(j:a≠X.env.locals)(i:∀x c,X.env.cells.lookup x=some c->c≠a)(h:∀p∈X.pn++pins,p.1≠a)(new:u6 X.prog X.w (upd H a o) s.heap a o) :
  Inv X pins σ (upd H a o) s:=
 ⟨I.ok,I.os,I.bare,I.base.track f k,I.loc,I.cell,by rw[n6 j.symm];exact I.free,λ x c e=>by rw[n6 (i x c e)];exact I.freeC x c e,λ p b=>by
  obtain⟨e,n,ne,g,d⟩:=I.pin p b;exact⟨e,by rwa [n6 (h p b)],ne,g,d⟩,I.hok.track f new,I.len⟩
structure Src(P:Program)(w:World)(ia la:Addr)(vs:Array Value)(S:Nat->Heap->Prop):Prop where
 keep:∀k h h',S k h->(∀o,h.get? ia=some o->h'.get? ia=some o)->(∀o,h.get? la=some o->h'.get? la=some o)->S k h'
 there:∀k h,S k h->∃o xs,h.get? ia=some o/\o.data=.fields xs
 step:∀{A:Around} {E:Value->Shared->Prop} {s:Shared} {Q:Value->Shared->Prop} (k:Nat) (x:Value),S k s.heap->vs[k]? = some x->(∀h',S (k+1) h'->Heap.SameBut ia s.heap h'->Q x {s with heap:=h'}) ->
  wpAny My A (Builtin.SmallTypes.nextOf (.ref ia)) Q E s
 stop:∀{A:Around} {E:Value->Shared->Prop} {s:Shared} {Q:Value->Shared->Prop} (k:Nat),A.handled=none->S k s.heap->vs[k]? = none ->
  (∀h' e,Heap.ExtBut ia s.heap h'->(∃o,h'.get? e=some o/\o.cls=.type "StopIteration")->E (.ref e) {s with heap:=h'})->wpAny My A (Builtin.SmallTypes.nextOf (.ref ia)) Q E s
noncomputable def sL(ia la:Ku)(vs:Kx Ks):Nat->Kv->Prop:=λ k h=>h.IsListIter ia la k/\h.IsList la vs
noncomputable def sT(ia la:Ku)(vs:Kx Ks):Nat->Kv->Prop:=λ k h=>h.IsTupleIter ia la k/\h.IsTuple la vs
def AF(ne:a≠b):Src P w b a vs (sL b a vs) where
 keep:=λ k h i ⟨p,q⟩ n m=>⟨p.at n,q.at m⟩
 there:=λ k h ⟨p,q⟩=>by obtain⟨o,e,_,d⟩:=p;exact⟨o,_,e,d⟩
 step:=λ k x ⟨p,q⟩ c f=>wpAny_nextOf_list_item p q c λ i j g=>f i ⟨j,q.extBut g.extBut ne⟩ g
 stop:=λ k l ⟨p,q⟩ c f=>wpAny_nextOf_list_end l p q c f
def AG(p:s.heap.IsTupleIter b a k)(q:s.heap.IsTuple a vs)(f:vs[k]? = some x)(g:∀e,e.IsTupleIter b a (k+1)->Heap.SameBut b s.heap e->Q x {s with heap:=e}) :
  wpAny My A (Builtin.SmallTypes.nextOf (.ref b)) Q E s:=by
 obtain⟨ob,d,j,c⟩:=id p;obtain⟨ot,i,_,nn,h⟩:=q;unfold Builtin.SmallTypes.nextOf;refine f0 (Q6 p.typeIs fy (G3 fy p.typeIs pC ?_ (pA _)));show wpAny _ _ (field (.ref b) 0 >>= _) _ _ s;refine f0 (J1 d c (x:=.ref a) rfl ?_);show wpAny _ _ _ _ _ s;rw[g9 (show ¬((Value.ref a==Value.none)=true)from B5)];show wpAny _ _ (field (.ref b) 1 >>= _) _ _ s;refine f0 (J1 d c (x:=.int k 0) rfl ?_);show wpAny _ _ (seqItems? (.ref a) >>= _) _ _ s;refine f0 (aL i h ?_);simp only[B6,f];refine f0 (Z0 d c KS (f9 ⟨x,rfl,f9 (g _ ?_ (N4 ..))⟩));exact⟨_,aE _ d (jx (bt c _)),(jL ..).trans j,by rw[bt c];simp[rawInt]⟩
def AH(g:Ma)(p:s.heap.IsTupleIter b a k)(q:s.heap.IsTuple a vs)(h:vs[k]? = none)(i:∀c e,Heap.ExtBut b s.heap c->(∃o,c.get? e=some o/\o.cls=.type "StopIteration")->E (.ref e) {s with heap:=c}) :
  wpAny My A (Builtin.SmallTypes.nextOf (.ref b)) Q E s:=by
 obtain⟨ob,f,e2,d⟩:=id p;obtain⟨ot,l,_,nn,j⟩:=q;unfold Builtin.SmallTypes.nextOf;refine f0 (Q6 p.typeIs fy (G3 fy p.typeIs pC ?_ (pA _)));show wpAny _ _ (field _ 0 >>= _) _ _ s;refine f0 (J1 f d (x:=.ref a) rfl ?_);show wpAny _ _ _ _ _ s;rw[g9 (show ¬((Value.ref a==Value.none)=true)from B5)];show wpAny _ _ _ _ _ s;refine f0 (J1 f d rfl ?_);show wpAny _ _ _ _ _ s;refine f0 (aL l j ?_);simp only[B6,h];refine f0 (dF (f0 (Z0 f d KS ?_)));show wpAny _ _ _ _ _ _;refine f0 ?_;simp only[newExc,newTuple];refine f0 (C9 ?_ MF);refine f0 (aN (by first | rfl | (simp only[firstArgMember];rfl)) ?_);refine C9 ?_ MF;refine f0 (kf ?_)
 first | rw[show A.in1.handled=none from g] | rw[g]
 refine f0 (f9 (wpAny_throw (i _ _ (((N4 ..).extBut.push _).push _) ⟨_,r9 _ rfl,rfl⟩)))
def AI(ne:a≠b):Src P w b a vs (sT b a vs) where
 keep:=λ k h i ⟨p,q⟩ n m=>⟨by obtain⟨o,e,r⟩:=p;exact⟨o,n o e,r⟩,by obtain⟨o,e,r⟩:=q;exact⟨o,m o e,r⟩⟩
 there:=λ k h ⟨p,q⟩=>by obtain⟨o,e,_,d⟩:=p;exact⟨o,_,e,d⟩
 step:=λ k x ⟨p,q⟩ c f=>AG p q c λ i j g=>f i ⟨j,q.extBut g.extBut ne⟩ g
 stop:=λ k l ⟨p,q⟩ c f=>AH l p q c f
def Src.ext{P:Kz}{w:Ky}{k:Nat}{ia la:Ku}{vs:Kx Ks}{S:Nat->Kv->Prop}{h h':Kv}{e:Ku}(R:Src P w ia la vs S)(q:S k h)(hs:Heap.ExtBut e h h')(n1:ia≠e)(n2:la≠e):S k h':=R.keep k h h' q (λ o z=>hs _ _ n1 z) (λ o z=>hs _ _ n2 z)
def SqK(t:Bool)(h:Kv)(l:Ku)(vs:Kx Ks):Prop:=match t with | false=>h.IsList l vs | true=>h.IsTuple l vs
def sK(t:Bool)(ia la:Ku)(vs:Kx Ks):Nat->Kv->Prop:=match t with | false=>sL ia la vs | true=>sT ia la vs
def rA(t:Bool)(ne:a≠b):Src P w b a vs (sK t b a vs):=by
 cases t
 ·exact AF ne
 ·exact AI ne
noncomputable def itN:Bool->KJ | false=>"list_iterator" | true=>"tuple_iterator"
abbrev itO(t:Bool)(l:Ku):Obj:={cls:=.type (itN t),data:=.fields #[.ref l,.int 0 0]}
abbrev zH1(h:Kv)(t1:Bool)(l1:Ku):Kv:=h.push (itO t1 l1)
def AJ{t:Bool}{ia la:Ku}{vs:Kx Ks}{h h':Kv}(e:h'.get? ia=some (itO t la))(q:SqK t h la vs)(k:∀c o,h.get? c=some o->h'.get? c=some o):sK t ia la vs 0 h':=by
 cases t
 ·exact⟨⟨_,e,rfl,rfl⟩,Heap.IsList.at q λ o z=>k _ o z⟩
 ·exact⟨⟨_,e,rfl,rfl⟩,by obtain⟨o,z,r⟩:=q;exact⟨o,k _ o z,r⟩⟩
end L2
end
noncomputable section
namespace PySem.SeqAt
open AutoSeq1 (wpAny_loadPart')
open MeetsSeq MeetsSeq2 MeetsSeq3 SeqRoads2
def AK(f:Nat->β->Sem (ForInStep β))(I:on Nat->β->Kt->Prop)(Q:β->Kt->Prop)
   (turn:∀x rest b s,I (x::rest) b s->wpAny M A (f x b) (λ r c=>match r with | .yield b'=>I rest b' c | .done b'=>Q b' c) E s)
  (fin:∀b s,I [] b s->Q b s) (h:I (List.range' 0 n 1) b s):wpAny M A (forIn [:n] b f) Q E s:=by
 rw[Std.Legacy.Range.forIn_eq_forIn_range'];have a:([:n]:Std.Legacy.Range).size=n:=by simp[Std.Legacy.Range.size]
 show wpAny M A _ Q E s;rw[a];exact wpAny_forIn_list f I Q turn fin _ b h
def AL(l:Ku)(items:Kx Ks)(n:Nat)(dd:Kr Ku)(v:Kx (Kr Ks))(x:Ks)(e:Ks->Bool)(j:Nat)(hj:j<items.size)
  (p:e items[j]=true) (o:∀m (f:m<items.size),m<j->e items[m]=false) :
  Meets (Builtin.«tuple.index» ⟨[.ref l,x],[]⟩)
   (λ A R s=>s.heap.get? l=some {cls:=.type "tuple",dict:=dd,data:=.seq items n,slots:=v} /\ (∀y,y∈items->EqAt A.in1 s y x (e y))/\R (.ok (.ret (.int j s.toks))) {s with toks:=s.toks+1}):=
 .of_wp λ c w A R s h=>by
  obtain⟨B,g,d,u,z⟩:=s;obtain⟨C,E,h⟩:=h
  wp_walk using cQ C,AK _ (λ rest b k=>b.1=none/\k=⟨B,g,d,u,z⟩/\∃i,i<=j/\rest=List.range' i (items.size - i) 1) _
  case turn=>
   rintro i rest b k ⟨hb,rfl,r,hi',hr⟩
   obtain⟨m,f⟩:∃m,items.size - r=m+1:=⟨items.size - r - 1,by omega⟩;rw[f,List.range'_succ]at hr;obtain⟨rfl,rfl⟩:=dt hr;have a:i<items.size:=by omega
   rw[show items[i]? = some items[i] by simp[a]];refine f0 (E _ (Array.getElem_mem a) c w _ _ ?_);by_cases q:i=j
   ·subst q;rw[p]
    wp_walk
    exact⟨_,rfl,h⟩
   ·rw[o i a KE]
    wp_walk
    exact⟨rfl,rfl,i+1,by omega,by congr 1;omega⟩
  case fin=>
   rintro⟨b1,b2⟩ k ⟨hb,rfl,i,hi,hr⟩
   obtain⟨m,f⟩:∃m,items.size - i=m+1:=⟨items.size - i - 1,by omega⟩;rw[f,List.range'_succ]at hr;cases hr
  case h=>
   exact⟨rfl,rfl,0,D9 _,by simp⟩
def AM:∀(a:on PyData) (b:on Ks) (c:on Ku),PyData.canLayAll0 a=true->ReadsAll h b a c->b.length=a.length/\∀m (i:m<b.length) (g:m<a.length),PyData.eqv (readOf h b[m]) d=PyData.eqv a[m] d:=by
 intro a b c f r;have e:=readsAll_map a b c f r;refine⟨(by rw[←e,g8]),λ m i g=>?_⟩
 congr 1
 subst e;rw[List.getElem_map]
def index_tuple_reads(B:Reads s.heap c (.tuple xs) M)(z:Reads s.heap x d bs)(a:PyData.canLayAll0 xs=true)(J:d.canLay0=true)
  (C:A.units+1+min (PyData.depthAll xs) d.depth<cLine) (I:j<xs.length) (g:PyData.eqv xs[j] d=true) (e:∀m (i:m<xs.length),m<j->PyData.eqv xs[m] d=false) (h:Q (.int j s.toks) {s with toks:=s.toks+1}):wpAny KN A (call (.builtin "tuple.index") [c,x]) Q E s:=by
 cases B with
 | tuple u r q p=>
  rename_i l o b n;obtain⟨L,K,v,y⟩:=o;simp only at r q;subst r q;obtain⟨H,k⟩:=AM xs b.toList _ a p;have F:b.size=xs.length:=by rw[←H];simp
  refine PySem.call_meets pM ⟨_,u,rfl⟩ PySem.F.entry_tuple_index (PySem.F.args_tuple_index_2 _ _)
   (AL l b _ K y x _ j KE ?_ ?_) ⟨u,items_eqAt p z a J C,h⟩
  ·rw[←g];exact k j (by simpa using(by omega:j<b.size)) I
  ·intro m i f;rw[←e m KE f];exact k m (Lq i) KE
end PySem.SeqAt
end
noncomputable section
namespace L2
open PySem
set_option genInjectivity true in
inductive DKey where
 | i (n:Int) | s (x:Str) | t (l:List (Sum Int Str))
 deriving DecidableEq
inductive Bi where
 | len | min | max | sum | sset | int | tuple | list | sorted
 deriving DecidableEq
inductive Mt where
 | bitLength | index | get
 deriving DecidableEq
inductive Tg where
 | one (i:Nat) | many (is:List Nat)
inductive ME where
  | var (i:Nat) | int (i:Int) | bl (b:Bool) | str (x:Str) | non | glb (x:Str)
  | bin (op:Operator) (a b:ME) | neg (a:ME)  | not (a:ME)
  | cmp (op:CmpOp) (a b:ME) | chain (op op':CmpOp) (a b c:ME)
  | and (es:List ME) | or (es:List ME)
  | lst (es:List ME) | tup (es:List ME)
  | ix (a b:ME) | sl (a lo hi:ME) | slf (a lo:ME) | slt (a hi:ME)
   | call (f:Nat) (es:List ME)    | bi (f:Bi) (es:List ME) | isi (a:ME) (ts:List Str) | meth (m:Mt) (a:ME) (es:List ME)
  | comp (elt:ME) (tg:Tg) (it:ME) (fr:List (Option Nat)) | compi (elt:ME) (tg:Tg) (it c:ME) (fr:List (Option Nat))
   | dix (a k:ME)
  | dgp (i:Nat) (k:ME)   | callv (i:Nat) (xs:List (Str×Nat)) (es:List ME)
  | mink (a:ME) (N:List Str) (np:Nat) (lb:ME) (fr:List Nat) | self (np nc:Nat) (es:List ME) | dc2 (x y:Str) (a b:ME) | din (i:Nat) (k:ME) | kys (a:ME)
  | idx (a b:ME)
  | rng (es:List ME) | enu (a:ME)  | itm (a:ME)
structure LamD where
 N:List Str
 np:Nat
 body:ME
 fn:List Str
 bl:List Str
 cl:List Str
set_option genInjectivity true in
inductive DV where
 | non | bl (b:Bool) | int (i:Int) | str (x:Str) | tup (ds:List DV) | lst (ds:List DV) | dct (ks:List DKey) (vs:List DV)
 | fn (x:Str)
 | lam (m:LamD) (ds:List DV)
 | scr (ns:List Int)
inductive Cl where
 | weak | top | strong | fresh
 deriving DecidableEq
set_option genInjectivity true in
inductive Re where
 | ok (d:DV) (c:Cl)
inductive Rs where
 | ok (l:List (DV×Cl))
inductive Rt where
 | ok (b:Bool)
inductive Sv where
 | no | val (d:DV) | own (d:DV)
 | od (d:DV)
inductive Ou where
 | v (d:DV) (fr:Bool)
inductive Out where
 | nx (δ:List Sv) | rt (d:DV) (fr:Bool)
inductive MS where
 | set (i:Nat) (own:Bool) (e:ME)
 | app (i:Nat) (e:ME) | ext (i:Nat) (e:ME) | seti (i:Nat) (k e:ME)
 | exp (e:ME) | ret (e:ME)  | iff (c:ME) (a b:List MS) | fo (tg:Tg) (it:ME) (body:List MS) | wh (c:ME) (body:List MS)
  | retd (i:Nat)
 | sep (i:Nat) | dpp (i:Nat) (ks:List ME) (e:ME)
 | unk | rse (c:Str) (e:ME) | rfs (b:List MS)
 | dfr (i:Nat) (fr:List Nat) (es:List ME)
structure CloD where
 N:List Str
 np:Nat
 nc:Nat
 body:List MS
structure FD where
 n:Nat
 np:Nat
 clo:Option CloD:=none
 body:List MS
noncomputable def Re.thn(r:Kr Re)(k:DV->Cl->Kr Re):Kr Re:=match r with
 | none=>none
 | some (.ok d c)=>k d c
def Rs.thn(r:Kr Rs)(k:on (DV×Cl)->Kr Re):Kr Re:=match r with
 | none=>none
 | some (.ok l)=>k l
noncomputable def Re.thnT(r:Kr Re)(k:DV->Cl->Kr Rt):Kr Rt:=match r with
 | none=>none
 | some (.ok d c)=>k d c
mutual
noncomputable def DV.immut:DV->Bool
 | .non=>true | .bl _=>true | .int _=>true | .str _=>true | .fn _=>true | .scr _=>true
 | .tup ds=>DV.immuts ds
 | .lst _=>false
 | .lam _ _=>false
 | .dct _ vs=>DV.immuts vs
noncomputable def DV.immuts:on DV->Bool
 | []=>true
 | d::r=>d.immut&&DV.immuts r
end
mutual
noncomputable def DV.nolam:DV->Bool
 | .lam _ _=>false
 | .tup ds=>DV.nolams ds
 | .lst ds=>DV.nolams ds
 | .dct _ vs=>DV.nolams vs
 | _=>true
noncomputable def DV.nolams:on DV->Bool
 | []=>true
 | d::r=>d.nolam&&DV.nolams r
end
def stro(d:DV):Cl->Bool
 | .strong=>true | .fresh=>true | _=>d.immut
def stros(l:on (DV×Cl)):Bool:=l.all λ p=>stro p.1 p.2
def Cl.item:Cl->Cl
 | .weak=>.weak | _=>.strong
noncomputable def Cl.anew:Cl->Cl->Cl
 | .weak,_=>.weak | _,.weak=>.weak | _,_=>.fresh
def Cl.notF:Cl->Cl
 | .fresh=>.strong | c=>c
def p7:Nat:=1000000
mutual
noncomputable def deq:DV->DV->Bool
 | .non,.non=>true
 | .bl a,.bl b=>a==b
 | .bl a,.int j=>(if a then 1 else 0)==j
 | .int i,.bl b=>i==(if b then 1 else 0)
 | .int i,.int j=>i==j
 | .str a,.str b=>decide (a=b)
 | .tup a,.tup b=>deqs a b
 | .lst a,.lst b=>deqs a b
 | _,_=>false
noncomputable def deqs:on DV->on DV->Bool
 | [],[]=>true
 | a::r,b::s=>deq a b&&deqs r s
 | _,_=>false
end
mutual
noncomputable def DV.plain:Nat->DV->Bool
 | _,.non=>true | _,.bl _=>true | _,.int _=>true
 | _,.str x=>x.cps.all (· < 0x110000)
 | 0,_=>false
 | n+1,.tup ds=>DV.plains n ds | n+1,.lst ds=>DV.plains n ds
 | _,_=>false
noncomputable def DV.plains:Nat->on DV->Bool
 | _,[]=>true
 | n,d::r=>d.plain n&&DV.plains n r
end
noncomputable def M6:DV->Kr Bool
 | .non=>some false
 | .bl b=>some b
 | .int i=>some (i != 0)
 | .str x=>some (x.cps.size != 0)
 | .tup ds=>some (!ds.isEmpty)
 | .lst ds=>some (!ds.isEmpty)
 | _=>none
noncomputable def E5(n:Nat)(i:Int):Kr Nat:=if 0<=i then(if i<n then some i.toNat else none)else if -(n:Int)<=i then some (i+n).toNat else none
def atD(ds:on DV)(i:Int):Kr DV:=(E5 ds.length i).bind λ j=>ds[j]?
noncomputable def J3(k:DKey):on DKey->on DV->Kr DV
 | k'::ks,v::vs=>if k'=k then some v else J3 k ks vs
 | _,_=>none
noncomputable def putD(k:DKey)(d:DV)(ks:on DKey)(vs:on DV):on DKey×on DV:=
 if k∈ks then(ks,(ks.zip vs).map λ p=>if p.1=k then d else p.2)else(ks++[k],vs++[d])
def ixD(a b:DV):Kr DV:=match a,b with
 | .scr ns,.int i=>((E5 ns.length i).bind λ j=>ns[j]?).map DV.int
 | .lst ds,.int i=>atD ds i
 | .tup ds,.int i=>atD ds i
 | _,_=>none
noncomputable def slIx(n d:Nat):Kr Int->Nat
 | none=>d
 | some v=>if v<0 then(v+(n:Int)).toNat else min v.toNat n
def cutD(ds:on DV)(lo hi:Kr Int):on DV:=(ds.drop (slIx ds.length 0 lo)).take (slIx ds.length ds.length hi - slIx ds.length 0 lo)
def slD(a:DV)(lo hi:Kr Int):Kr DV:=match a with
 | .scr ns=>some (Lw (cutD (ns.map DV.int) lo hi))
 | .lst ds=>some (Lw (cutD ds lo hi))
 | .tup ds=>if slIx ds.length 0 lo=0/\slIx ds.length ds.length hi=ds.length then none else some (.tup (cutD ds lo hi))
 | _=>none
def slCl(a:DV)(c:Cl):Cl:=match a with
 | .scr _=>.fresh
 | .lst _=>Cl.anew c c
 | _=>c.item
noncomputable def M7(i j:Int):Bool:=(decide (-(2^64)<i)&&decide (i<2^64))||(decide (-(2^64)<j)&&decide (j<2^64))||(decide (i.natAbs<2^2000)&&decide (j.natAbs<2^2000))
def asI:DV->Kr Int
 | .int i=>some i
 | _=>none
def asL:DV->Kr (on DV)
 | .lst i=>some i
 | _=>none
noncomputable def asTp:DV->Kr (on DV)
 | .tup i=>some i
 | _=>none
def binD(op:Operator)(a b:DV)(ca cb:Cl):Kr Re:=match op with
 | .Add=>match a with
  | .int i=>(asI b).bind λ j=>some (Lc (.int (i+j)))
  | .lst x=>(asL b).bind λ y=>if x.length+y.length<=p7 then some (.ok (Lw (x++y)) (Cl.anew ca cb))else none
  | .tup x=>(asTp b).bind λ y=>if x.length+y.length<=p7/\x≠[]then some (.ok (.tup (x++y)) (Cl.anew ca cb).notF)else none
  | _=>none
 | .Sub=>(asI a).bind λ i=>(asI b).bind λ j=>some (Lc (.int (i - j)))
 | .Mult=>match a with
  | .int i=>(asI b).bind λ j=>if M7 i j then some (Lc (.int (i*j)))else none
  | .lst x=>(asI b).bind λ k=>if x.length*k.toNat<=p7 /\ -(2^63)<=k/\k<2^63 then some (.ok (.lst (List.replicate k.toNat x).flatten) (Cl.anew ca ca))else none
  | _=>none
 | .Mod=>(asI a).bind λ i=>(asI b).bind λ j=>if 0<j then some (Lc (.int (i%j)))else if j≠0 then some (Lc (.int (i.fmod j)))else none
 | .FloorDiv=>(asI a).bind λ i=>(asI b).bind λ j=>if 0<j/\j<2^200 then some (Lc (.int (i/j)))else none
 | .LShift=>(asI a).bind λ i=>(asI b).bind λ j=>if 0<=j/\j<=1000000/\i.natAbs<2^64 then some (Lc (.int (i*2^j.toNat)))else none
 | .RShift=>(asI a).bind λ i=>(asI b).bind λ j=>if 0<=j then some (Lc (.int (i/2^j.toNat)))else none
 | .BitAnd=>(asI a).bind λ i=>(asI b).bind λ j=>some (Lc (.int (Builtin.bitAnd i j)))
 | _=>none
def isN:DV->Bool
 | .non=>true
 | _=>false
def cmpD(op:CmpOp)(a b:DV):Kr Bool:=match op with
 | .Lt=>(asI a).bind λ i=>(asI b).bind λ j=>some (decide (i<j))
 | .LtE=>(asI a).bind λ i=>(asI b).bind λ j=>some (decide (i<=j))
 | .GtE=>(asI a).bind λ i=>(asI b).bind λ j=>some (decide (j<=i))
 | .Eq=>if a.plain 60&&b.plain 60 then some (deq a b)else none
 | .NotEq=>if a.plain 60&&b.plain 60 then some (!deq a b)else none
 | .Is=>match b with
  | .non=>some (isN a)
  | _=>none
 | .NotIn=>match b with
  | .lst ds=>if a.plain 60&&DV.plains 60 ds then some (!ds.any λ d=>deq d a)else none
  | .tup ds=>if a.plain 60&&DV.plains 60 ds then some (!ds.any λ d=>deq d a)else none
  | _=>none
 | _=>none
noncomputable def ints?:on DV->Kr (on Int)
 | []=>some []
 | .int i::r=>(ints? r).map (i :: ·)
 | _=>none
noncomputable def minI:Int->on Int->Int
 | m,[]=>m
 | m,x::r=>minI (if x<m then x else m) r
noncomputable def maxI:Int->on Int->Int
 | m,[]=>m
 | m,x::r=>maxI (if m<x then x else m) r
noncomputable def insI(x:Int):on Int->on Int
 | []=>[x]
 | y::r=>if x<y then x::y::r else y::insI x r
def J4:on Int->on Int
 | []=>[]
 | x::r=>insI x (J4 r)
noncomputable def dk(σ:on Int)(k:Int):on Int:=if k∈σ then σ else σ++[k]
noncomputable def bO(i:Int):Int:=if i=0 then 0 else(i.natAbs.log2:Int)+1
noncomputable def lenD:on (DV×Cl)->Kr Re
 | [(.lst ds,_)]=>some (Lc (.int ds.length))
 | [(.tup ds,_)]=>some (Lc (.int ds.length))
 | [(.scr ns,_)]=>some (Lc (.int ns.length))
 | _=>none
noncomputable def trips?:on DV->Kr (on (Int×Int×Int))
 | []=>some []
 | .tup [.int a,.int b,.int c]::r=>(trips? r).map ((a,b,c) :: ·)
 | _=>none
noncomputable def ltT(p q:Int×Int×Int):Bool:=decide (p.1<q.1)||(p.1==q.1&&(decide (p.2.1<q.2.1)||(p.2.1==q.2.1&&decide (p.2.2<q.2.2))))
def minD:on (DV×Cl)->Kr Re
 | [(.int i,_),(.int j,_)]=>some (Lc (.int (if j<i then j else i)))
 | [(.lst ds,c)]=>match ints? ds with
  | some (n::r)=>some (Lc (.int (minI n r)))
  | _=>none
 | [(.tup ds,_)]=>match ints? ds with
  | some (n::r)=>some (Lc (.int (minI n r)))
  | _=>none
 | _=>none
noncomputable def pairs?:on DV->Kr (on (Int×Int))
 | []=>some []
 | .tup [.int a,.int b]::r=>(pairs? r).map ((a,b) :: ·)
 | _=>none
def X3:on (Int×Int×Int)->Bool
 | []=>true
 | p::r=>match r with
  | []=>true
  | q::_=>ltT p q&&X3 r
def dR:on (DV×Cl)->Kr Re
 | [(.lst ds,c)]=>match trips? ds with
  | some ps=>if X3 ps=true/\ps.length<=1000 then some (.ok (Lw ds) (Cl.anew c c))else none
  | none=>none
 | _=>none
def maxD:on (DV×Cl)->Kr Re
 | [(.int i,_),(.int j,_)]=>some (Lc (.int (if j>i then j else i)))
 | [(.lst ds,_)]=>match ints? ds with
  | some (n::r)=>some (Lc (.int (maxI n r)))
  | _=>none
 | [(.tup ds,_)]=>match ints? ds with
  | some (n::r)=>some (Lc (.int (maxI n r)))
  | _=>none
 | _=>none
def gR:on (DV×Cl)->Kr Re
 | [(.lst ds,_)]=>match ints? ds with
  | some ns=>if ns.length<4000/\(ns.foldl dk []).length<64 then some (.ok (Lw ((J4 (ns.foldl dk [])).map DV.int)) .fresh)else none
  | none=>none
 | _=>none
def sumD:on (DV×Cl)->Kr Re
 | [(.lst ds,_)]=>(ints? ds).map λ ns=>.ok (Li ns.sum) .strong
 | _=>none
noncomputable def intD:on (DV×Cl)->Kr Re
 | [(.int i,_)]=>some (Lc (.int i))
 | [(.bl b,_)]=>some (Lc (.int (if b then 1 else 0)))
 | _=>none
def dU:on (DV×Cl)->Kr Re
 | [(.scr ns,_)]=>some (.ok (Lw (ns.map DV.int)) .fresh)
 | [(.lst ds,c)]=>some (.ok (Lw ds) (Cl.anew c c))
 | [(.tup ds,c)]=>some (.ok (Lw ds) (Cl.anew c c))
 | _=>none
noncomputable def lu:on (DV×Cl)->Kr Re
 | [(.lst ds,c)]=>some (.ok (.tup ds) c.item)
 | [(.tup ds,c)]=>some (.ok (.tup ds) c)
 | _=>none
def biD(f:Bi)(l:on (DV×Cl)):Kr Re:=match f with
 | .len=>lenD l
 | .min=>minD l
 | .max=>maxD l
 | .int=>intD l
 | .tuple=>lu l
 | .list=>dU l
 | .sorted=>dR l
 | .sset=>gR l
 | .sum=>sumD l
noncomputable def biOk:Bi->Bool
 | .len=>true | .min=>true | .max=>true | .int=>true | .tuple=>true | .list=>true | .sorted=>true | .sset=>true | .sum=>true
def mtD(m:Mt)(a:DV):Kr Re:=match m,a with
 | .bitLength,.int i=>some (Lc (.int (bO i)))
 | _,_=>none
structure Gs where
 con:List (Str×DV)
 fnl:List Str:=[]
 bll:List Str:=[]
 cll:List Str:=[]
 clo:Option CloD:=none
noncomputable def tyOf:DV->on Str
 | .non=>["NoneType"]
 | .bl _=>["bool","int"]
 | .int _=>["int"]
 | .str _=>["str"]
 | .tup _=>["tuple"]
 | .lst _=>["list"]
 | .dct _ _=>["dict"]
 | _=>[]
noncomputable def Z6:on Str:=["int","bool","str","list","tuple","dict"]
def isiD(G:Gs)(d:DV)(ts:on Str):Kr Bool:=match d with
 | .scr _=>none
 | .fn _=>none
 | .lam _ _=>none
 | d=>match ts with
  | [t]=>if Z6.contains t then some ((tyOf d).contains t)else none
  | _=>none
noncomputable def upTo(lo:Int)(n:Nat):on DV:=(Lb n).map λ (i:Nat)=>DV.int (lo+i)
noncomputable def J7(i:Int):Bool:=decide (-(2^62)<=i)&&decide (i<2^62)
def X4(y:DV):on DV->Kr Nat
 | []=>none
 | d::r=>if deq d y then some 0 else(X4 y r).map (· + 1)
def seqB:DV->Bool
 | .tup _=>true | _=>false
def idxD(x y:DV):Kr DV:=match x with
 | .tup ds=>if y.plain 60&&DV.plains 60 ds&&decide (ds.length<=p7)then(X4 y ds).map λ (j:Nat)=>DV.int (j:Int)else none
 | _=>none
def rngD(l:on (DV×Cl)):Kr (on DV):=match l with
 | [(.int j,_)]=>if J7 j&&decide (j<=p7)then some (upTo 0 j.toNat)else none
 | [(.int i,_),(.int j,_)]=>if J7 i&&J7 j&&decide (j - i<=p7)then some (upTo i (j - i).toNat)else none
 | _=>none
noncomputable def enuD:Nat->on DV->on DV
 | _,[]=>[]
 | k,d::r=>.tup [.int k,d]::enuD (k+1) r
def Cl.meet:Cl->Cl->Cl
 | .weak,_=>.weak | _,.weak=>.weak | .top,_=>.top | _,.top=>.top | _,_=>.strong
noncomputable def aQ:DV->Kr (Bool×on DV)
 | .lst ds=>some (false,ds)
 | .tup ds=>some (true,ds)
 | _=>none
def gU(x:DV)(c:Cl):Kr Re:=match aQ x with
 | some (_,xs)=>some (.ok (Lw (enuD 0 xs)) (Cl.meet c c))
 | _=>none
noncomputable def kvp?:on DKey->on DV->Kr (on ((Int×Int)×Int))
 | [],[]=>some []
 | .t [.inl a,.inl b]::ks,.int v::vs=>(kvp? ks vs).map (((a,b),v) :: ·)
 | _,_=>none
def itmD(x:DV)(c:Cl):Kr Re:=match x with
 | .dct ks vs=>if c=.strong/\ks.isEmpty=false then(kvp? ks vs).map (λ l=>.ok (Lw (l.map λ p=>.tup [.tup [.int p.1.1,.int p.1.2],.int p.2])) .strong)else none
 | _=>none
def dixD(x y:DV):Kr Re:=match x,y with
 | .dct ks vs,.tup [.int a,.int b]=>(match J3 (.t [.inl a,.inl b]) ks vs with
  | some (.int v)=>some (Lc (.int v))
  | _=>none)
 | _,_=>none
noncomputable def asDc:DV->Kr (on DKey×on DV)
 | .dct ks vs=>some (ks,vs)
 | _=>none
def dixC(x:DV)(c:Cl)(y:DV):Kr Re:=match y with
 | .str k=>if c=.strong then(asDc x).bind λ p=>(J3 (.s k) p.1 p.2).map λ d=>.ok d .strong else none
 | y=>dixD x y
noncomputable def dinD(ks:on DKey)(y:DV):Kr Re:=match y with
 | .tup [.int a,.int b]=>some (Lc (.bl (decide (DKey.t [.inl a,.inl b]∈ks))))
 | _=>none
def kysD(x:DV)(c:Cl):Kr Re:=match x with
 | .dct (k::ks) vs=>if c=.strong then(kvp? (k::ks) vs).map (λ l=>.ok (Lw (l.map λ p=>.tup [.int p.1.1,.int p.1.2])) .strong)else none
 | _=>none
def dinE(re:Kr Re)(o:Kr Sv):Kr Re:=match o with
  | some (.od (.tup [.dct ks _]))=>Re.thn (re) λ y _=>dinD ks y
  | _=>none
def dgpD(ks:on DKey)(vs:on DV)(y:DV):Kr Re:=match y with
 | .tup [.int a,.int b]=>(match J3 (.t [.inl a,.inl b]) ks vs with
  | some (.int v)=>some (Lc (.int v))
  | _=>none)
 | _=>none
def dppD(i:Nat)(δ:on Sv)(ks:on DKey)(vs:on DV)(l:on (DV×Cl))(d:DV):Kr (on Sv):=match l,d with
 | [(.int a,_),(.int b,_)],.int z=>if ks.length<p7 then some (δ.set i (.od (.tup [.dct (putD (.t [.inl a,.inl b]) (.int z) ks vs).1 (putD (.t [.inl a,.inl b]) (.int z) ks vs).2])))else none
 | _,_=>none
def unT:DV->DV
 | .tup [d]=>d
 | d=>d
noncomputable def isDc:DV->Bool
 | .dct _ _=>true
 | .tup [_]=>true
 | _=>false
noncomputable def seqD:DV->Kr (on DV)
 | .scr ns=>some (ns.map DV.int)
 | .lst ds=>some ds
 | .tup ds=>some ds
 | _=>none
noncomputable def bP(δ:on Sv):on Nat->on DV->Kr (on Sv)
 | [],[]=>some δ
 | i::is,d::ds=>bP (δ.set i (.val d)) is ds
 | _,_=>none
def Tg.bind(tg:Tg)(d:DV)(δ:on Sv):Kr (on Sv):=match tg with
 | .one i=>some (δ.set i (.val d))
 | .many is=>match d with
  | .tup ds=>bP δ is ds
  | _=>none
noncomputable def A4(fr:on (Kr Nat))(δ:on Sv):on Sv:=fr.map λ o=>match o with
 | some i=>δ.getD i .no
 | none=>.no
inductive Rc where
 | skip | item (d:DV)
noncomputable def A5(g:DV->Kr Rc):on DV->Kr (on DV)
 | []=>some []
 | d::r=>match g d with
  | none=>none
  | some .skip=>A5 g r
  | some (.item x)=>match A5 g r with
   | none=>none
   | some xs=>some (x::xs)
noncomputable def Z7(r:Kr (on DV)):Kr Re:=match r with
 | none=>none
 | some xs=>some (.ok (Lw xs) .fresh)
noncomputable def gV(r:Kr (on DV)):Kr Re:=match r with
 | none=>none
 | some xs=>some (.ok (Lw xs) .weak)
def Rc.of(r:Kr Re):Kr Rc:=match r with
 | some (.ok d c)=>if stro d c then some (.item d)else none
 | _=>none
noncomputable def Rc.test(t:Kr Rt)(r:Kr Rc):Kr Rc:=match t with
 | some (.ok true)=>r
 | some (.ok false)=>some .skip
 | _=>none
inductive Ri where
 | ok (ds:List DV) (c:Cl)
def Ri.thn(r:Kr Ri)(k:on DV->Cl->Kr Re):Kr Re:=match r with
 | none=>none
 | some (.ok ds c)=>k ds c
noncomputable def Re.thnI(r:Kr Re)(k:DV->Cl->Kr Ri):Kr Ri:=match r with
 | none=>none
 | some (.ok d c)=>k d c
def AN(d:DV)(c:Cl):Kr Ri:=(seqD d).map λ ds=>.ok ds c
def imL:DV->Bool
 | .lst ds=>DV.immuts ds
 | _=>false
def M8(F:Lo)(f:Nat)(l:on (DV×Cl)):Kr Re:=match F f (l.map (·.1))with
 | none=>none
 | some (.v d fr)=>some (.ok d (if l.all λ p=>p.2 == .strong||p.2 == .fresh then(if fr then .fresh else .strong)else if fr&&imL d then .fresh else .weak))
def G6:Nat:=1001
def capD(δ:on Sv):on Nat->Kr (on DV)
 | []=>some []
 | i::r=>match δ[i]?,capD δ r with
  | some (.val d),some ds=>if d.nolam then some (d::ds)else none
  | _,_=>none
def tT:DV->Kr (on DV) | .tup l=>some l | _=>none
noncomputable def U6(F:Lo)(m:DV):on DV->Kr (on Int)
 | []=>some []
 | d::r=>match F G6 [m,d]with
  | some (.v (.int k) false)=>(U6 F m r).map (k :: ·)
  | _=>none
noncomputable def P5(ks:on Int):Kr Nat:=(Lb ks.length).find? λ i=>(Lb ks.length).all λ j=>decide (ks.getD i 0<=ks.getD j 0)&&(decide (i<=j)||decide (ks.getD i 0<ks.getD j 0))
def mnkL(F:Lo)(m:DV)(x:DV)(c:Cl):Kr Re:=match x with
 | .lst ds=>if(c == .strong||c == .fresh||c == .top)=true then(U6 F m ds).bind λ ks=>(P5 ks).bind λ i=>ds[i]?.map λ d=>.ok d .strong else none
 | _=>none
def gW(G:Gs)(F:Lo)(ra:Kr Re)(N:on Str)(np:Nat)(lb:ME)(o:Kr (on DV)):Kr Re:=match o with
  | some cs=>if G.fnl.isEmpty then none else Re.thn (ra) λ x cx=>mnkL F (.lam ⟨N,np,lb,G.fnl,G.bll,G.cll⟩ cs) x cx
  | none=>none
def F2:Nat:=1003
def o8:Str:="plan_of"
def R8(F:Lo)(np:Nat)(cs:on DV)(l:on (DV×Cl)):Kr Re:=if LD=true/\l.length=np then(match F F2 (l.map (·.1)++cs)with
 | some (.v d false)=>if d.nolam then some (Lc d)else none
 | _=>none)else none
def dW(G:Gs)(F:Lo)(np nc:Nat)(rs:Kr Rs)(o:Kr (on DV)):Kr Re:=match G.clo with
  | some C=>if C.np=np/\C.nc=nc then o.bind λ cs=>Rs.thn rs λ l=>R8 F np cs l else none
  | none=>none
def dc2D(x y:Str)(a b:DV)(ca cb:Cl):Kr Re:=if stro a ca=true/\stro b cb=true/\x≠y then some (Lc (.dct [.s x,.s y] [a,b]))else none
def andD(x:DV)(c:Cl)(r:Kr Re):Kr Re:=match M6 x with
 | none=>none
 | some true=>r
 | some false=>some (.ok x c)
def orD(x:DV)(c:Cl)(r:Kr Re):Kr Re:=match M6 x with
 | none=>none
 | some true=>some (.ok x c)
 | some false=>r
def tstD(r:Kr Re):Kr Rt:=Re.thnT r λ x _=>(M6 x).map Rt.ok
def r3(r:Kr Re):Kr Ri:=Re.thnI r λ x c=>AN x c
def varE(o:Kr Sv):Kr Re:=match o with
  | some (.val d)=>some (Lc d)
  | some (.own d)=>some (.ok d .top)
  | _=>none
def gX(F:Lo)(xs:on (Str×Nat))(rs:Kr Rs)(o:Kr Sv):Kr Re:=match o with
  | some (.val (.fn x))=>(match xs.lookup x with
   | some f=>Rs.thn (rs) λ l=>M8 F f l
   | none=>none)
  | _=>none
mutual
def evE(G:Gs)(F:Lo):ME->on Sv->Kr Re
 | .var i,δ=>varE δ[i]?
 | .int i,_=>some (Lc (.int i))
 | .bl i,_=>some (Lc (.bl i))
 | .str i,_=>some (Lc (.str i))
 | .non,_=>some (.ok .non .strong)
 | .glb x,_=>(G.con.lookup x).map λ d=>.ok d .strong
 | .bin op a b,δ=>Re.thn (La a) λ x cx=>Re.thn (La b) λ y cy=>binD op x y cx cy
 | .neg a,δ=>Re.thn (La a) λ x _=>match x with | .int i=>some (Lc (.int (-i))) | _=>none
 | .not a,δ=>Re.thn (La a) λ x _=>(M6 x).map λ k=>.ok (.bl (!k)) .strong
 | .cmp op a b,δ=>Re.thn (La a) λ x _=>Re.thn (La b) λ y _=>(cmpD op x y).map λ k=>.ok (.bl k) .strong
 | .chain op op' a b c,δ=>Re.thn (La a) λ x _=>Re.thn (La b) λ y _=>match cmpD op x y with
  | none=>none
  | some false=>some (Lc (.bl false))
  | some true=>Re.thn (La c) λ z _=>(cmpD op' y z).map λ k=>.ok (.bl k) .strong
 | .and es,δ=>O3 G F es δ
 | .or es,δ=>evOr G F es δ
 | .lst es,δ=>Rs.thn (evEs G F es δ) λ l=>if l.length<=p7 then some (.ok (.lst (l.map (·.1))) (if stros l then .fresh else .weak))else none
 | .tup es,δ=>Rs.thn (evEs G F es δ) λ l=>if l.length<=p7 then some (.ok (.tup (l.map (·.1))) (if stros l then .strong else .weak))else none
 | .ix a b,δ=>Re.thn (La a) λ x cx=>Re.thn (La b) λ y _=>(ixD x y).map λ d=>.ok d cx.item
 | .sl a lo hi,δ=>Re.thn (La a) λ x cx=>Re.thn (La lo) λ l _=>match l with
  | .int l=>Re.thn (La hi) λ h _=>(match h with
   | .int h=>(slD x (some l) (some h)).map λ d=>.ok d (slCl x cx)
   | _=>none)
  | _=>none
 | .slf a lo,δ=>Re.thn (La a) λ x cx=>Re.thn (La lo) λ l _=>match l with
  | .int l=>(slD x (some l) none).map λ d=>.ok d (slCl x cx)
  | _=>none
 | .slt a hi,δ=>Re.thn (La a) λ x cx=>Re.thn (La hi) λ h _=>match h with
  | .int h=>(slD x none (some h)).map λ d=>.ok d (slCl x cx)
  | _=>none
 | .call f es,δ=>Rs.thn (evEs G F es δ) λ l=>M8 F f l
 | .bi f es,δ=>if biOk f then Rs.thn (evEs G F es δ) λ l=>biD f l else none
 | .isi a ts,δ=>Re.thn (La a) λ x _=>(isiD G x ts).map λ k=>.ok (.bl k) .strong
 | .meth m a _,δ=>if m=.bitLength then Re.thn (La a) λ x _=>mtD m x else none
 | .comp elt tg it fr,δ=>Ri.thn (r3 (La it)) λ ds c=>if c=.weak\/p7<ds.length then(if c=.weak/\ds.length<=p7 then gV (A5 (λ d=>(tg.bind d (A4 fr [])).bind λ δ'=>Rc.of (evE G F elt δ')) ds)else none)else Z7 (A5 (λ d=>(tg.bind d (A4 fr δ)).bind λ δ'=>Rc.of (evE G F elt δ')) ds)
 | .compi elt tg it cd fr,δ=>Ri.thn (r3 (La it)) λ ds c=>if c=.weak\/p7<ds.length then none else Z7 (A5 (λ d=>(tg.bind d (A4 fr δ)).bind λ δ'=>Rc.test (tstD (evE G F cd δ')) (Rc.of (evE G F elt δ'))) ds)
 | .idx a b,δ=>Re.thn (La a) λ x _=>if seqB x then Re.thn (La b) λ y _=>(idxD x y).map λ d=>.ok d .strong else none
 | .rng es,δ=>Rs.thn (evEs G F es δ) λ l=>(rngD l).map λ ds=>.ok (Lw ds) .fresh
 | .enu a,δ=>Re.thn (La a) λ x c=>gU x c
 | .itm a,δ=>Re.thn (La a) λ x c=>itmD x c
 | .dix a k,δ=>Re.thn (La a) λ x c=>Re.thn (La k) λ y _=>dixC x c y
 | .dgp i k,δ=>match δ[i]? with
  | some (.od (.tup [.dct ks vs]))=>Re.thn (La k) λ y _=>dgpD ks vs y
  | _=>none
 | .callv i xs es,δ=>gX F xs (evEs G F es δ) δ[i]?
 | .mink a N np lb fr,δ=>gW G F (La a) N np lb (capD δ fr)
 | .self np nc es,δ=>dW G F np nc (evEs G F es δ) (capD δ (List.range' np nc))
 | .dc2 x y a b,δ=>Re.thn (La a) λ d c=>Re.thn (La b) λ d' c'=>dc2D x y d d' c c'
 | .din i k,δ=>dinE (La k) δ[i]?
 | .kys a,δ=>Re.thn (La a) λ x c=>kysD x c
def evEs(G:Gs)(F:Lo):on ME->on Sv->Kr Rs
 | [],_=>some (.ok [])
 | e::es,δ=>match evE G F e δ with
  | none=>none
  | some (.ok d c)=>match evEs G F es δ with
   | none=>none
   | some (.ok l)=>some (.ok ((d,c)::l))
def O3(G:Gs)(F:Lo):on ME->on Sv->Kr Re
 | [],_=>none
 | e::es,δ=>if es.isEmpty then evE G F e δ else Re.thn (La e) λ x c=>andD x c (O3 G F es δ)
def evOr(G:Gs)(F:Lo):on ME->on Sv->Kr Re
 | [],_=>none
 | e::es,δ=>if es.isEmpty then evE G F e δ else Re.thn (La e) λ x c=>orD x c (evOr G F es δ)
end
def aR:Nat:=1000
noncomputable def Re.thnS(δ:on Sv)(r:Kr Re)(k:DV->Cl->Kr Out):Kr Out:=match r with
 | none=>none
 | some (.ok d c)=>k d c
def Rs.thnS(δ:on Sv)(r:Kr Rs)(k:on (DV×Cl)->Kr Out):Kr Out:=match r with
 | none=>none
 | some (.ok l)=>k l
def Rt.thnS(δ:on Sv)(r:Kr Rt)(k:Bool->Kr Out):Kr Out:=match r with
 | none=>none
 | some (.ok b)=>k b
def Ri.thnS(δ:on Sv)(r:Kr Ri)(k:on DV->Cl->Kr Out):Kr Out:=match r with
 | none=>none
 | some (.ok ds c)=>k ds c
def C6(tg:Tg)(body:on Sv->Kr Out):on DV->on Sv->Kr Out
 | [],δ=>some (.nx δ)
 | d::r,δ=>match tg.bind d δ with
  | none=>none
  | some δ1=>match body δ1 with
   | some (.nx δ2)=>C6 tg body r δ2
   | o=>o
def O4(test:on Sv->Kr Rt)(body:on Sv->Kr Out):Nat->on Sv->Kr Out
 | 0,_=>none
 | n+1,δ=>match test δ with
  | none=>none
  | some (.ok false)=>some (.nx δ)
  | some (.ok true)=>match body δ with
   | some (.nx δ2)=>O4 test body n δ2
   | o=>o
def frD:DV->Cl->Bool
 | .lst _,.fresh=>true | .lst _,.top=>true
 | _,_=>false
noncomputable def noOt(i:Nat)(δ:on Sv):Bool:=(Lb δ.length).all λ j=>j==i||(match δ[j]? with | some (.od _)=>false | _=>true)
noncomputable def dX(i:Nat)(δ:on Sv)(d:DV)(c:Cl):Kr Out:=match c with
 | .fresh=>some (.nx (δ.set i (.own d)))
 | _=>match d with
  | .non=>some (.nx (δ.set i (.val .non)))
  | _=>none
def retD(d:DV)(c:Cl):Out:=.rt d (frD d c)
def appS(δ:on Sv)(i:Nat)(re:Kr Re)(o:Kr Sv):Kr Out:=match o with
  | some (.own (.lst ds))=>Re.thnS δ (re) λ d c=>if stro d c/\ds.length<p7 then some (.nx (δ.set i (.own (Lw (ds++[d])))))else none
  | _=>none
def rC(δ:on Sv)(i:Nat)(rk re:Kr Re)(o:Kr Sv):Kr Out:=match o with
  | some (.own (.lst ds))=>Re.thnS δ (re) λ d c=>Re.thnS δ (rk) λ k _=>(match k with
   | .int k=>(match E5 ds.length k with
    | some j=>if stro d c then some (.nx (δ.set i (.own (Lw (ds.set j d)))))else none
    | none=>none)
   | _=>none)
  | _=>none
def noB:Kr Sv->Bool
 | some .no=>true
 | _=>false
def dfrS(G:Gs)(F:Lo)(fr:on Nat)(rs:Kr Rs)(o:Kr (on DV))(oi:Kr Sv):Kr Out:=match G.clo with
  | some C=>if C.nc=fr.length/\noB oi=true/\G.fnl.isEmpty=false then o.bind λ cs=>(Rs.thn rs λ l=>R8 F C.np cs l).bind λ r=>(match r with
   | .ok d _=>some (.rt d false))else none
  | none=>none
def rxIx:Nat:=2000
def rxC(G:Gs)(F:Lo):ME->on Sv->Bool
 | .call f es,δ=>match evEs G F es δ with
  | some (.ok l)=>(F (rxIx+f) (l.map (·.1))).isSome
  | none=>false
 | _,_=>false
def rxL(G:Gs)(F:Lo):on ME->on Sv->Bool
 | [a],δ=>rxC G F a δ
 | a::b::_,δ=>(La a).isSome&&rxC G F b δ
 | [],_=>false
def rxI(G:Gs)(F:Lo):ME->on Sv->Bool
 | .ix a _,δ=>rxC G F a δ
 | _,_=>false
def rxE(G:Gs)(F:Lo):ME->on Sv->Bool
 | .call f es,δ=>rxC G F (.call f es) δ||rxL G F es δ
 | .ix a _,δ=>rxI G F a δ
 | _,_=>false
def rxF(G:Gs)(F:Lo):MS->on Sv->Bool
 | .exp e,δ=>rxE G F e δ
 | .ret e,δ=>rxE G F e δ
 | .rse c e,δ=>c == "TooGreat" && (La e).isSome
 | _,_=>false
def rxS(G:Gs)(F:Lo):Nat->on MS->on Sv->Bool
 | n+1,.iff c a b::_,δ=>match tstD (La c)with
  | some (.ok k)=>rxS G F n (if k then a else b) δ
  | none=>false
 | _,m::_,δ=>rxF G F m δ
 | _,[],_=>false
mutual
def evS(G:Gs)(F:Lo)(fu:Nat):MS->on Sv->Kr Out
 | .set i own e,δ=>Re.thnS δ (La e) λ d c=>if own then dX i δ d c else(ML c)
 | .app i e,δ=>appS δ i (La e) δ[i]?
 | .ext i e,δ=>match δ[i]? with
  | some (.own (.lst ds))=>Re.thnS δ (La e) λ d c=>if c=.strong\/c=.fresh then(match aQ d with
   | some (_,ys)=>if ds.length+ys.length<=p7 then some (.nx (δ.set i (.own (Lw (ds++ys)))))else none
   | none=>none)else none
  | _=>none
 | .seti i k e,δ=>rC δ i (La k) (La e) δ[i]?
 | .exp e,δ=>Re.thnS δ (La e) λ _ _=>some (.nx δ)
 | .ret e,δ=>Re.thnS δ (La e) λ d c=>some (retD d c)
 | .iff c a b,δ=>Rt.thnS δ (tstD (La c)) λ k=>if k then evSs G F fu a δ else evSs G F fu b δ
 | .fo tg it body,δ=>Ri.thnS δ (r3 (La it)) λ ds c=>if c=.strong\/c=.fresh then C6 tg (λ δ'=>evSs G F fu body δ') ds δ else none
 | .wh c body,δ=>O4 (λ δ'=>tstD (evE G F c δ')) (λ δ'=>evSs G F fu body δ') fu δ
 | .retd i,δ=>match δ[i]? with
  | some (.od d)=>if isDc d then some (.rt (unT d) false)else none
  | _=>none
 | .sep i,δ=>if noOt i δ then some (.nx (δ.set i (.od (.tup [.dct [] []]))))else none
 | .dpp i ks e,δ=>match δ[i]? with
  | some (.od (.tup [.dct kk vs]))=>Re.thnS δ (La e) λ d _=>Rs.thnS δ (evEs G F ks δ) λ l=>(dppD i δ kk vs l d).map Out.nx
  | _=>none
 | .unk,_=>none
 | .rse _ _,_=>none
 | .rfs b,δ=>if rxS G F 3 b (δ.set 2 (.val .non))=true then some (.rt (.bl true) false)else none
 | .dfr i fr es,δ=>dfrS G F fr (evEs G F es δ) (capD δ fr) δ[i]?
def evSs(G:Gs)(F:Lo)(fu:Nat):on MS->on Sv->Kr Out
 | [],δ=>some (.nx δ)
 | s::r,δ=>match evS G F fu s δ with
  | some (.nx δ')=>evSs G F fu r δ'
  | o=>o
end
noncomputable def n9(n:Nat)(ds:on DV):on Sv:=ds.map Sv.val++List.replicate (n - ds.length) .no
def Ou.of(o:Kr Out):Kr Ou:=match o with
 | some (.nx _)=>some (.v .non false)
 | some (.rt d fr)=>some (.v d fr)
 | none=>none
def cloR(G:Gs)(ev:on MS->on Sv->Kr Out)(ds:on DV):Kr Ou:=G.clo.bind λ C=>if ds.length=C.np+C.nc/\DV.nolams ds=true then(match ev C.body (n9 C.N.length ds)with
  | some (.rt d false)=>if d.nolam then some (.v d false)else none
  | _=>none)else none
def lamR(ev:ME->on Sv->Kr Re)(ds:on DV):Kr Ou:=match ds with
 | .lam m cs::args=>if args.length=m.np/\args.length+cs.length=m.N.length/\DV.nolams args=true/\DV.nolams cs=true then(match ev m.body ((args++cs).map Sv.val)with
  | some (.ok d .strong)=>if d.nolam then some (.v d false)else none
  | _=>none)else none
 | _=>none
def rxR(G:Gs)(T:on FD)(F:Lo)(f:Nat)(ds:on DV):Kr Ou:=(T[f - rxIx]?).bind λ fd=>if rxIx<=f/\ds.length=fd.np/\rxS G F 3 fd.body (n9 fd.n ds)=true then some (.v .non false)else none
def run(G:Gs)(T:on FD)(fu:Nat):Nat->Nat->on DV->Kr Ou
 | 0,_,_=>none
 | k+1,f,ds=>match T[f]? with
  | none=>if f=G6 then lamR (evE G (KY k)) ds else if f=F2 then cloR G (evSs G (KY k) fu) ds else rxR G T (KY k) f ds
  | some fd=>if ds.length=fd.np then Ou.of (evSs G (KY k) fu fd.body (n9 fd.n ds))else none
def B1:Re.thn (some (.ok d c)) k=k d c:=rfl
def dY:Rs.thn (some (.ok l)) k=k l:=rfl
def dZ:Ri.thn (some (.ok ds c)) k=k ds c:=rfl
def rD:Re.thnS δ (some (.ok d c)) k=k d c:=rfl
def AO(h:evS G F fu m δ=some (.nx a)):evSs G F fu (m::r) δ=evSs G F fu r a:=by
 rw[show evSs G F fu _ δ=(match evS G F fu m δ with | some (.nx a)=>evSs G F fu r a | o=>o)from rfl,h]
def AQ(h:evS G F fu m δ=some (.rt d fr)):evSs G F fu (m::r) δ=some (.rt d fr):=by
 rw[show evSs G F fu _ δ=(match evS G F fu m δ with | some (.nx δ')=>evSs G F fu r δ' | o=>o)from rfl,h]
def gY(h:T[f]? = none):run G T fu (k+1) f ds=if f=G6 then lamR (evE G (KY k)) ds else if f=F2 then cloR G (evSs G (KY k) fu) ds else rxR G T (KY k) f ds:=by
 unfold run;rw[h]
def lv(h:T[f]? = some fd):run G T fu (k+1) f ds=if ds.length=fd.np then Ou.of (evSs G (KY k) fu fd.body (n9 fd.n ds))else none:=by
 rw[run];rw[h]
def r6(h:T[f]? = some fd)(a:ds.length=fd.np):run G T fu (k+1) f ds=Ou.of (evSs G (KY k) fu fd.body (n9 fd.n ds)):=(lv h).trans (f8 a)
end L2
namespace L2
open PySem
theorem lw{I:on Sv->Prop}:∀{ds:on DV} {δ:on Sv},(∀d∈ds,∀δ,I δ->∃b a,tg.bind d δ=some b/\body b=some (.nx a)/\I a)->I δ->∃c,C6 tg body ds δ=some (.nx c)/\I c
 | [],δ,_,i=>⟨δ,rfl,i⟩
 | d::r,δ,h,i=>by obtain⟨b,a,l,k,f⟩:=h d (o5 ..) δ i;obtain⟨c,j,e⟩:=lw (λ d g=>h d (o4 _ g)) f;refine⟨c,?_,e⟩;show(match tg.bind d δ with | none=>none | some b=>(match body b with | some (.nx a)=>C6 tg body r a | o=>o))=_;rw[l];show(match body b with | some (.nx a)=>C6 tg body r a | o=>o)=_;rw[k];exact j
theorem rE:∀{a:on DV},(∀d∈a,g d=some (if p d then .item d else .skip))->A5 g a=some (a.filter p)
 | [],_=>rfl
 | d::r,h=>by
  have b:=rE (λ d e=>h d (o4 _ e));unfold A5;rw[(h d (o5 ..))];cases c:p d with
  | false=>rw[fA Mn];exact b
  | true=>
   rw[cO c];show(match A5 g r with | none=>none | some xs=>some _)=_;rw[b]
theorem ly:∀{a:on DV},(∀d∈a,g d=some (.item (f d)))->A5 g a=some (a.map f)
 | [],_=>rfl
 | d::r,h=>by unfold A5;rw[(h d (o5 ..))];show(match A5 g r with | none=>none | some xs=>some _)=_;rw[(ly (λ d b=>h d (o4 _ b)))];rfl
def rF(h:d∈upTo a n):∃j:Nat,j<n/\d=.int (a+j):=by
 unfold upTo at h;rw[i8]at h;obtain⟨j,b,rfl⟩:=h;exact⟨j,u0.mp b,rfl⟩
end L2
namespace L2
open PySem
def t6(h:evSs G F fu r δ=some (.rt d fr)):Ou.of (evSs G F fu r δ)=some (.v d fr):=by rw[h];rfl
def rG(h:evSs G F fu r δ=some (.nx a)):Ou.of (evSs G F fu r δ)=some (.v .non false):=by rw[h];rfl
def j9(h:evS G F fu m δ=some (.nx δ'))(a:evSs G F fu r δ'=o):evSs G F fu (m::r) δ=o:=(AO h).trans a
def p8(h:evS G F fu m δ=some (.rt d fr)):evSs G F fu (m::r) δ=some (.rt d fr):=AQ h
def gZ(d:tstD (La c)=some (.ok bb)):evS G F fu (.iff c a b) δ=if bb then evSs G F fu a δ else evSs G F fu b δ:=by
 show Rt.thnS δ _ _=_;rw[d];rfl
def P6(d:tstD (La c)=some (.ok true))(h:evSs G F fu a δ=some (.nx δ'))(e:evSs G F fu r δ'=o):evSs G F fu (.iff c a b::r) δ=o:=j9 ((gZ d).trans h) e
def hH(d:tstD (La c)=some (.ok false))(h:evSs G F fu b δ=some (.nx δ'))(e:evSs G F fu r δ'=o):evSs G F fu (.iff c a b::r) δ=o:=j9 ((gZ d).trans h) e
def hU(e:tstD (La c)=some (.ok true))(h:evSs G F fu a δ=some (.rt d fr)):evSs G F fu (.iff c a b::r) δ=some (.rt d fr):=p8 ((gZ e).trans h)
def v9(b:tstD (La c)=some (.ok false))(d:evSs G F fu r δ=o):evSs G F fu (.iff c a []::r) δ=o:=hH b rfl d
def K9(b:r3 (La it)=some (.ok ds cl))(c:cl=.strong\/cl=.fresh)(h:C6 tg (λ δ'=>evSs G F fu body δ') ds δ=some (.nx δ'))(d:evSs G F fu r δ'=o):evSs G F fu (.fo tg it body::r) δ=o:=by
 refine j9 ?_ d;show Ri.thnS δ _ _=_;rw[b];show(if cl=.strong\/cl=.fresh then C6 tg _ ds δ else none)=_
 rwa [f8 c]
def o7(h:Ly e (.ok d cl))(hs:stro d cl=true):evS G F fu (.set i false e) δ=some (.nx (δ.set i (.val d))):=by
 show Re.thnS δ _ _=_;rw[h];show(if stro d cl then some _ else none)=_;rw[f8 hs]
def ee(h:Ly e (.ok d .fresh)):evS G F fu (.set i true e) δ=some (.nx (δ.set i (.own d))):=by
 show Re.thnS δ _ _=_;rw[h];rfl
def v4(h:Ly e (.ok d cl)):evS G F fu (.ret e) δ=some (.rt d (frD d cl)):=by
 show Re.thnS δ _ _=_;rw[h];rfl
def lz(h:Ly e (.ok d cl)):evS G F fu (.exp e) δ=some (.nx δ):=by
 show Re.thnS δ _ _=_;rw[h];rfl
def k7(a:Me)(hs:LD=true)(h:F f (l.map (·.1))=some (.v d fr)):evE G F (.call f es) δ=some (.ok d (if fr then .fresh else .strong)):=by
 show Rs.thn _ _=_;rw[a];show M8 F f l=_;unfold M8;rw[h,hs];rfl
def AR(c:Me)(a:LD=false)(h:F f (l.map (·.1))=some (.v d fr))(b:(fr&&imL d)=false:=by rfl):evE G F (.call f es) δ=some (.ok d .weak):=by
 show Rs.thn _ _=_;rw[c];show M8 F f l=_;unfold M8;rw[h,a];show some _=_;rw[b];rfl
def o6(h:KM e cl (.bl x)):tstD (La e)=some (.ok x):=by rw[h];rfl
def U7(h:KM e cl (.bl x)):evE G F (.not e) δ=some (.ok (.bl (!x)) .strong):=by
 show Re.thn _ _=_;rw[h];rfl
end L2
namespace L2
open PySem
def J8(d:Ly a (.ok x cx))(c:Ly b (.ok y cy))(h:binD op x y cx cy=r):evE G F (.bin op a b) δ=r:=by
 show Re.thn _ _=_;rw[d,B1,c,B1,h]
def F3(d:Ly a (.ok x cx))(c:Ly b (.ok y cy))(h:cmpD op x y=some t):evE G F (.cmp op a b) δ=some (.ok (.bl t) .strong):=by
 show Re.thn _ _=_;rw[d,B1,c,B1,h];rfl
def p9(e:Ly a (.ok x cx))(c:Ly b (.ok y cy))(h:ixD x y=some d):evE G F (.ix a b) δ=some (.ok d cx.item):=by
 show Re.thn _ _=_;rw[e,B1,c,B1,h];rfl
def k6:evEs G F [] δ=some (.ok []):=rfl
def g7(b:Ly a (.ok x cx))(h:Me):evEs G F (a::es) δ=some (.ok ((x,cx)::l)):=by
 unfold evEs;rw[b,h]
end L2
namespace L2
open PySem
def lA(c:δ[i]? = some (.own (Lw ds)))(h:Ly e (.ok d cl))(a:stro d cl=true)(b:ds.length<p7):evS G F fu (.app i e) δ=some (.nx (δ.set i (.own (Lw (ds++[d]))))):=by
 show appS δ i _ δ[i]? = _;rw[c];show Re.thnS δ _ _=_;rw[h];exact f8 ⟨a,b⟩
def AS(f:δ[i]? = some (.own (Lw ds)))(h:Ly e (.ok d cl))(b:KM k cx (.int n))(a:stro d cl=true)(c:E5 ds.length n=some j):evS G F fu (.seti i k e) δ=some (.nx (δ.set i (.own (Lw (ds.set j d))))):=by
 show rC δ i _ _ δ[i]? = _;rw[f];show Re.thnS δ _ _=_;rw[h,rD,b,rD];show(match E5 ds.length n with | some j=>if stro d cl then some (Out.nx _)else none | none=>none)=_;rw[c];exact f8 a
def AT(h:test δ=some (.ok false)):O4 test body (n+1) δ=some (.nx δ):=by
 unfold O4;rw[h]
def AU(h:test δ=some (.ok true))(a:body δ=some (.nx δ'))(hr:O4 test body n δ'=o):O4 test body (n+1) δ=o:=by
 unfold O4
 rwa [h,a]
def AV(h:O4 (λ δ'=>tstD (evE G F c δ')) (λ δ'=>evSs G F fu body δ') fu δ=some (.nx δ'))(b:evSs G F fu r δ'=o):evSs G F fu (.wh c body::r) δ=o:=j9 h b
end L2
namespace L2
open PySem
theorem S0{I:Nat->on Sv->Prop}:∀(n:Nat) (c:Int) {δ:on Sv},(∀j<n,∀δ,I j δ->∃b,body (δ.set i (KU (c+j)))=some (.nx b)/\I (j+1) b)->I 0 δ->∃d,C6 (.one i) body (upTo c n) δ=some (.nx d)/\I n d
 | 0,_,δ,_,g=>⟨δ,rfl,g⟩
 | n+1,c,δ,h,g=>by
  have e:upTo c (n+1)=.int c::upTo (c+1) n:=by
   unfold upTo;rw[qa,A3,o9]
   congr 1
   ·congr 1;omega
   ·apply M1;intro a _;show DV.int _=DV.int _
    congr 1
    push_cast
    omega
  obtain⟨b,k,r⟩:=h 0 KE δ g;rw[show c+_=c by omega]at k;obtain⟨d,u,p⟩:=S0 n (c+1) (λ j hj δ q=>by
   obtain⟨f,m,l⟩:=h (j+1) KE δ q;refine⟨f,?_,l⟩;rw[show c+1+_=c+((j+1:Nat):Int) by push_cast;omega];exact m) r
  refine⟨d,?_,p⟩;rw[e];show(match body (δ.set i _)with | some (.nx b)=>C6 _ body _ b | o=>o)=_;rw[k];exact u
def AW(b:r3 (La it)=some (.ok ds cl))(hc:cl ≠ .weak)(hl:ds.length<=p7)
  (h:∀d∈ds,∃a,tg.bind d (A4 fr δ)=some a/\tstD (evE G F cd a)=some (.ok (p d))/\evE G F elt a=some (Lc d)):evE G F (.compi elt tg it cd fr) δ=some (.ok (Lw (ds.filter p)) .fresh):=by
 show Ri.thn _ _=_;rw[b,dZ,g9 Mn,rE (λ d c=>?_)]
 ·rfl
 ·obtain⟨a,g,f,e⟩:=h d c;rw[g,O8,f,e];cases p d<;>rfl
def AX(hw:r3 (La it)=some (.ok ds cl))(b:cl ≠ .weak)(hl:ds.length<=p7)
  (h:∀d∈ds,∃a,tg.bind d (A4 fr δ)=some a/\evE G F elt a=some (Lc (f d))):evE G F (.comp elt tg it fr) δ=some (.ok (Lw (ds.map f)) .fresh):=by
 show Ri.thn _ _=_;rw[hw,dZ,g9 (by rintro(z | z);exact b z;omega),ly (λ d hd=>?_)]
 ·rfl
 ·obtain⟨a,e,c⟩:=h d hd;rw[e,O8,c];rfl
def AY{l:on Int}(h:j<l.length):ixD (Lw (l.map DV.int)) (.int j)=some (.int l[j]):=by
 have a:(j:Int)<((l.map DV.int).length:Int):=by rw[g8];exact_mod_cast h
 simp only[ixD,atD,E5,f8 (G2 j),f8 a,O8,B6,t5,m7 h,P1]
def rH{l:on Int}{i:Int}(a:0<=i)(h:i<l.length):∃v,ixD (Lw (l.map DV.int)) (.int i)=some (.int v):=by
 obtain⟨j,rfl⟩:=Int.eq_ofNat_of_zero_le a;exact⟨_,AY KE⟩
end L2
namespace L2
open PySem
def AZ{J:on Sv->Prop}(hw:r3 (La it)=some (.ok ds cl))(b:cl=.strong\/cl=.fresh)(lp:∃a,C6 tg (λ a=>evSs G F fu body a) ds δ=some (.nx a)/\J a)(c:∀a,J a->evSs G F fu r a=o):evSs G F fu (.fo tg it body::r) δ=o:=by
 obtain⟨a,h,j⟩:=lp;exact K9 hw b h (c a j)
end L2
namespace L2
open PySem
def i5:evE G F (.int i) δ=some (.ok (.int i) .strong):=rfl
def f6(h:δ[n]? = some (.val d)):evE G F (.var n) δ=some (.ok d .strong):=congrArg varE h
def eg(h:δ[n]? = some (.own d)):evE G F (.var n) δ=some (.ok d .top):=congrArg varE h
def L3(d:KM a cx (.int i))(c:KM b cy (.int j)):evE G F (.bin .Add a b) δ=some (.ok (Li (i+j)) .strong):=J8 d c rfl
def P7(d:KM a cx (.int i))(c:KM b cy (.int j)):evE G F (.bin .Sub a b) δ=some (.ok (Li (i - j)) .strong):=J8 d c rfl
def Z8(d:KM a cx (.int i))(c:KM b cy (.int j))(h:M7 i j=true):evE G F (.bin .Mult a b) δ=some (.ok (Li (i*j)) .strong):=J8 d c (f8 h)
def F4(d:KM a cx (.int i))(c:KM b cy (.int j))(h:0<j):evE G F (.bin .Mod a b) δ=some (.ok (Li (i%j)) .strong):=J8 d c (f8 h)
def lB(d:KM a cx (.int i))(c:KM b cy (.int j))(h:0<j/\j<1073741824):evE G F (.bin .FloorDiv a b) δ=some (.ok (Li (i/j)) .strong):=J8 d c (f8 ⟨h.1,Int.lt_trans h.2 KL⟩)
def b_eq(d:KM a cx (.int i))(c:KM b cy (.int j)):evE G F (.cmp .Eq a b) δ=some (.ok (.bl (i==j)) .strong):=F3 d c rfl
def b_lt(d:KM a cx (.int i))(c:KM b cy (.int j)):evE G F (.cmp .Lt a b) δ=some (.ok (.bl (decide (i<j))) .strong):=F3 d c rfl
end L2
namespace L2
open PySem
def P8:evE G F (.str x) δ=some (.ok (.str x) .strong):=rfl
def G7(h:Me)(b:l.length<=p7)(a:stros l=true):evE G F (.tup es) δ=some (.ok (.tup (l.map (·.1))) .strong):=by
 show Rs.thn _ _=_;rw[h,dY,f8 b,a];rfl
def Rise(xs:Kx Nat):Prop:=∀(i k x y:Nat),i<k->xs[i]? = some x->xs[k]? = some y->x<y
def rJ(v:Rise xs):∀(c b a:Nat),b<=a->a<=xs.size->a - b<=c ->
  (∀i x,i<b->xs[i]? = some x->x<j)->(∀i x,a<=i->xs[i]? = some x->j<=x) ->
  (∀i x,i<SetTable.below.go xs j c b a->xs[i]? = some x->x<j)/\(∀i x,SetTable.below.go xs j c b a<=i->xs[i]? = some x->j<=x):=by
 intro c
 induction c with
 | zero=>
  intro b a z w y l k;have:b=a:=by omega
  subst this;exact⟨l,k⟩
 | succ n u=>
  intro b a z w y l k;unfold SetTable.below.go;by_cases g:b<a
  ·rw[f8 g];have hm:(b+a)/2<a:=by omega
   have o:b<=(b+a)/2:=by omega
   have m:(b+a)/2<xs.size:=by omega
   have h:=W1 m;have r:xs.getD ((b+a)/2) j=xs[(b+a)/2]:=(by rw[bn,h];rfl);dsimp only;rw[r];by_cases f:xs[(b+a)/2]<j
   ·rw[f8 f];refine u _ _ KE w KE (λ i x p d=>?_) k;rcases W7 i ((b+a)/2)with q | q
    ·exact dv (v i _ x _ q d h) f
    ·have e:i=(b+a)/2:=by omega
     subst e;rw[h]at d;cases d;exact f
   ·rw[g9 f];refine u _ _ o KE KE l λ i x p d=>?_
    rcases W7 ((b+a)/2) i with q | q
    ·exact i7 (jQ f) (W6 (v _ i _ x q h d))
    ·have e:i=(b+a)/2:=by omega
     subst e;rw[h]at d;cases d;exact jQ f
  ·rw[g9 g];have:b=a:=by omega
   subst this;exact⟨l,k⟩
def lC(b:Rise xs)(h:i<SetTable.below xs j)(a:xs[i]? = some x):x<j:=
 (rJ b xs.size 0 xs.size (D9 _) (i9 _) KE (λ i x h=>by omega) λ i x h a=>by
  rw[T6 h]at a;cases a).1 i x h a
def hW(b:Rise xs)(h:SetTable.below xs j<=i)(a:xs[i]? = some x):j<=x:=
 (rJ b xs.size 0 xs.size (D9 _) (i9 _) KE (λ i x h=>by omega) λ i x h a=>by
  rw[T6 h]at a;cases a).2 i x h a
def Ba:∀(a c b:Nat),c<=b->SetTable.below.go xs j a c b<=b:=by
 intro a
 induction a with
 | zero=>intro c b h;exact h
 | succ n d=>
  intro c b h;unfold SetTable.below.go;dsimp;split
  ·split
   ·exact d _ _ KE
   ·exact i7 (d _ _ KE) KE
  ·exact h
def rK:SetTable.below xs j<=xs.size:=Ba _ _ _ (D9 _)
def Bb(d:Rise xs)(c:xs[i]? = some x):SetTable.below xs (x+1)=i+1:=by
 have hi:i<xs.size:=by
  rcases W7 i xs.size with h | h
  ·exact h
  ·rw[T6 h]at c;cases c
 rcases Nat.lt_trichotomy _ _ with h | h | h
 ·have:=hW d (j:=x+1) (Nat.le_of_lt_succ h) c;omega
 ·exact h
 ·have h2:SetTable.below xs (x+1)<=xs.size:=rK;have f:i+1<xs.size:=by omega
  have e:=W1 f;have a:=lC d h e;have b:=d i _ x _ (Y7 _) c e;omega
def Bc(b:Rise xs):SetTable.below xs 0=0:=by
 rcases jI _ with h | h
 ·exact h
 ·have h2:SetTable.below xs 0<=xs.size:=rK;have a:=lC b h (W1 KE);omega
def Rise.empty:Rise #[]:=λ i k x y _ a=>by simp at a
theorem Rise.range(n:Nat):Rise (Array.range n):=λ i k x y h b a=>by
 rw[Array.getElem?_range]at b a;split at b
 ·split at a
  ·cases b;cases a;exact h
  ·cases a
 ·cases b
def rM{l:on Nat}(h:l.Pairwise (· < ·)):Rise l.toArray:=λ i k x y a c b=>by
 obtain⟨e,g⟩:=z7.mp (Lq c);obtain⟨d,f⟩:=z7.mp (Lq b);rw[←g,←f];exact pG.mp h i k e d a
def Bd(h:Rise xs):xs.toList.Pairwise (· < ·):=by
 refine pG.mpr λ i k c b a=>?_;exact h i k _ _ a (by rw[←L8];exact m7 c) (by rw[←L8];exact m7 b)
structure Tab(t:SetTable)(b:Bool):Prop where
 rise:Rise t.place
 dum:t.dummies = #[]
 led:t.led=b
theorem Tab.fresh(b:Bool):Tab (SetTable.fresh 0 0 b) b:=⟨Rise.empty,rfl,rfl⟩
theorem Tab.standIn(h:Tab t b)(n:Nat):Tab (t.standIn n) b:=⟨Rise.range n,rfl,h.led⟩
def rN(j:Nat):SetTable.has #[] j=false:=by
 unfold SetTable.has;simp
def Be(h:Tab t b)(f:Nat->Int)(z:Int):∀(a:Nat) (p:SetTable.Probe) (j:Nat) (d:Kr Nat),p.dummy=none->SetTable.probe.go t f z a p=some (.empty j d)->d=none/\t.slot j=.empty:=by
 intro a
 induction a with
 | zero=>intro p j d c e;cases e
 | succ n g=>
  intro p j d c e;unfold SetTable.probe.go at e;cases hs:t.slot p.j with
  | empty=>rw[hs]at e;cases e;exact⟨c,hs⟩
  | dummy=>
   unfold SetTable.slot at hs;rw[h.dum,rN]at hs;dsimp at hs;split at hs
   ·cases hs
   ·cases hs
  | live i=>
   rw[hs]at e;dsimp at e;split at e
   ·cases e
   ·refine g _ j d ?_ e;unfold SetTable.advance;split
    ·exact c
    ·exact c
def Bf(h:Tab t b)(e:t.freeSlot z=some (j,w)):t.slot j=.empty:=by
 unfold SetTable.freeSlot at e;split at e
 ·rename_i j' d a;obtain⟨c,hs⟩:=Be h _ _ _ _ _ _ rfl a;subst c;cases e;exact hs
 ·cases e
theorem Tab.put(h:Tab t b)(hs:t.slot j=.empty):Tab (t.put j).1 b:=by
 have m:t.place[SetTable.below t.place j]? ≠ some j:=λ z=>by unfold SetTable.slot at hs;dsimp only at hs;rw[z]at hs;simp at hs
 refine⟨?_,?_,h.led⟩
 ·show Rise _;have g:=Bd h.rise;have:(SetTable.insertAt t.place (SetTable.below t.place j) j).toList.Pairwise (· < ·):=by
   rw[(SetTable.toList_insertAt _ _ _),jA];refine⟨g.sublist (fN _ _),M2.mpr ⟨λ y f=>?_,g.sublist (List.drop_sublist _ _)⟩,λ x l y f=>?_⟩
   ·obtain⟨i,d⟩:=bo.mp f;rw[aG,L8]at d;rcases Nat.lt_or_eq_of_le (hW h.rise (R5 _ _) d)with q | q
    ·exact q
    ·exfalso;subst q;rcases jI i with z | z
     ·subst z;exact m d
     ·have n:SetTable.below t.place j<t.place.size:=by
       rcases W7 (SetTable.below t.place j+i) t.place.size with q | q
       ·omega
       ·rw[T6 q]at d;cases d
      have k:=W1 n;have a:=hW h.rise (i9 _) k;have c:=h.rise _ _ _ _ KE k d;omega
   ·have e:x<j:=by
     obtain⟨i,d⟩:=bo.mp l;rw[List.getElem?_take]at d;split at d
     ·rw[L8]at d;exact lC h.rise KE d
     ·cases d
    rcases i6.mp f with q | q
    ·rw[q];exact e
    ·obtain⟨i,d⟩:=bo.mp q;rw[aG,L8]at d;exact t7 e (hW h.rise (R5 _ _) d)
  have r:=rM this
  rwa [Array.toArray_toList]at r
 ·show(if SetTable.has t.dummies j then _ else t.dummies) = #[];rw[h.dum,rN];rfl
theorem Tab.orStandIn(h:Tab t b)(n:Nat):Tab (t.orStandIn n) b:=by
 unfold SetTable.orStandIn;split
 ·exact h
 ·exact h.standIn n
theorem Tab.layNew{t:KH}{b:Bool}(h:Tab t b)(es:Kx (Int×Ks))(z:Int)(x:Ks):Tab (layNew t es z x).2.1 b:=by
 unfold PySem.layNew;split
 ·rename_i j w e;exact(h.put (Bf h e)).orStandIn _
 ·exact h.standIn _
theorem rO{f:Nat->Kr Nat}:∀{l:on Nat},l.Pairwise (· < ·)->((l.filterMap λ j=>(f j).map (j,·)).map (·.1)).Pairwise (· < ·)
 | [],_=>.nil
 | a::l,h=>by
  obtain⟨o,n⟩:=M2.mp h;have d:=rO (f:=f) n;rw[fG];cases e:f a with
  | none=>exact d
  | some c=>
   refine M2.mpr ⟨λ y i=>?_,d⟩;obtain⟨p,k,rfl⟩:=i8.mp i;obtain⟨j,m,b⟩:=br.mp k;cases g:f j with
   | none=>rw[g]at b;cases b
   | some c2=>rw[g]at b;cases b;exact o j m
theorem Tab.relayAll{t:KH}{b:Bool}(h:Tab t b)(es:Kx (Int×Ks))(n:Nat):Tab (relayAll t es n).2.1 b:=by
 unfold PySem.relayAll;split
 ·rename_i t' order e;dsimp only;split
  ·show Tab t' b;unfold SetTable.relaid SetTable.laid at e;cases hl:SetTable.layClean (SetTable.sizeAbove n - 1) (es.map (·.1))with
   | none=>rw[hl]at e;cases e
   | some owner=>
    rw[hl]at e;cases e;exact⟨rM (rO (jt)),rfl,h.led⟩
  ·exact h.standIn _
 ·exact h.standIn _
theorem lD{b:Type}{x:b}:∀{l:on b} {i:Nat} (h:i<l.length),l[i]=x->(x::l.eraseIdx i).Perm l
 | [],i,h,_=>by cases h
 | a::l,0,_,e=>by have e:=e;subst e;exact .rfl
 | a::l,i+1,h,e=>by rw[List.eraseIdx_cons_succ];exact(List.Perm.swap a x _).trans (List.Perm.cons a (lD (Lq h) (Lq e)))
def Bg(d:Nat->Nat):∀(c k:Nat) (b:on i) (f:Kx i),b.length<=c->(pickOrder.go d c k b f).toList.Perm (f.toList++b):=by
 intro c
 induction c with
 | zero=>
  intro k b f h;have:b=[]:=aC.mp KE;subst this;unfold pickOrder.go;rw[B3]
 | succ n j=>
  intro k b f h;unfold pickOrder.go;cases e:b[d k%b.length]? with
  | none=>
   have:b=[]:=by
    cases b with
    | nil=>rfl
    | cons a r=>
     have g:d k%(a::r).length<(a::r).length:=Nat.mod_lt _ KS;rw[m7 g]at e;cases e
   subst this;rw[B3]
  | some x=>
   obtain⟨g,l⟩:=z7.mp e;refine(j _ _ _ ((by rw[List.length_eraseIdx,f8 g];omega))).trans ?_;rw[Array.toList_push,Q9];refine List.Perm.append_left _ ?_;exact lD g l
def rP(a:Nat->Nat)(xs:Kx b):(pickOrder a xs).toList.Perm xs.toList:=by
 unfold pickOrder;exact(Bg a xs.size 0 xs.toList #[] KS).trans KS
def P9:Ks->Int
 | .int n _=>n
 | _=>0
def F5(w:Ky):Bool:=w.params.followText "set-order"
def SetI(prog:Kz)(w:Ky)(h:Kv)(a:Ku)(ks:on Int):Prop:=
 ∃o es ep t,h.get? a=some o/\o.ExactSet/\o.data=.set es ep t/\ElemsOf (intKind prog w) es.toList/\(es.toList.map λ e=>P9 e.2).Perm ks/\es.size<scanBound/\t.fits es.size=true/\Tab t (!F5 w)
def rQ(h:ElemsOf (intKind prog w) es)(b:e∈es):∃t,e.2=.int (P9 e.2) t:=by
 obtain⟨⟨k,a,_⟩,_⟩:=h e b;obtain⟨t,q⟩:=Value.isInt_shape a;exact⟨t,by rw[q];rfl⟩
def rR(h:ElemsOf (intKind prog w) es)(a:e∈es)(k:Int):(intKind prog w).is k e.2=true↔P9 e.2=k:=by
 obtain⟨t,q⟩:=rQ h a;rw[q];show Value.isInt k (.int _ t)=true↔_;simp[Value.isInt,P9]
def SetI.at{prog:Kz}{w:Ky}{a:Ku}{ks:on Int}{h h':Kv}(x:SetI prog w h a ks)(k:∀o,h.get? a=some o->h'.get? a=some o):SetI prog w h' a ks:=by
 obtain⟨o,es,ep,t,ho,r⟩:=x;exact⟨o,es,ep,t,k o ho,r⟩
def rS{h:Kv}(c:h.get? a=some o)(b:o.data=.set es ep t) :
  (h.update a (Obj.putSet es' t')).get? a=some {o with data:=.set es' (ep+1) t'}:=by
 have q:=aE (Obj.putSet es' t') c (by rw[putSet_of es' t' b];rfl)
 rwa [putSet_of es' t' b]at q
def Bh{prog:Kz}{w:Ky}{A:KA}{E:Ks->Kt->Prop}{s:Kt}{a:Ku}{ks:on Int}{k:Int}{tk:Tok}{Q:Kr Bool->Kt->Prop}{o:Obj}{es:Kx (Int×Ks)}{ep:Nat}{t:KH}(ho:s.heap.get? a=some o)(hx:o.ExactSet)(hd:o.data=.set es ep t)
  (hel:ElemsOf (intKind prog w) es.toList) (hp:(es.toList.map λ e=>P9 e.2).Perm ks) (hb:es.size+1<scanBound) (ht:Tab t (!F5 w))
  {es1:Kx (Int×Ks)} {t1:KH} (p1:es1.toList.Perm (es.toList++[(hashInt k,Value.int k tk)])) (f1:t1.fits es1.size=true) (g1:Tab t1 (!F5 w)) (wd:Bool) {g:Bool->Sem Unit}
  (hg:∀(b:Bool) (s₁:Kt) (Q':Unit->Kt->Prop),Q' () s₁->wpAny KN A (g b) Q' E s₁)
  (h:∀h',Heap.SameBut a s.heap h'->SetI prog w h' a (ks++[k])->Q (some true) {s with heap:=h'}) :
  wpAny KN A (do
   storeSet a es1 t1
   if(!wd&&t1.tooFull)=true then do
    g (relayAll t1 es1 (SetTable.grown es1.size)).2.2
    storeSet a (relayAll t1 es1 (SetTable.grown es1.size)).1 (relayAll t1 es1 (SetTable.grown es1.size)).2.1
    pure (some true)
   else pure (some true)) Q E s:=by
 have z1:es1.size=es.size+1:=(by have:=p1.length_eq;rw[t9,C2,C2]at this;exact this);have e1:ElemsOf (intKind prog w) es1.toList:=(hel.push (intKind_is prog w k tk) rfl).perm p1;have m1:(es1.toList.map λ e=>P9 e.2).Perm (ks++[k]):=(by refine(p1.map _).trans ?_;rw[C4];exact hp.append_right _);have b1:es1.size<scanBound:=by omega
 refine f0 (wpAny_storeSet_of ho hd ?_ (jM b1));have o1:=rS (es':=es1) (t':=t1) ho hd;have sb:=N4 s.heap a (Obj.putSet es1 t1);split
 ·have p2:=relayAll_perm t1 es1 (SetTable.grown es1.size);have f2:=relayAll_fits t1 es1 (SetTable.grown es1.size);have g2:=g1.relayAll es1 (SetTable.grown es1.size);generalize relayAll t1 es1 (SetTable.grown es1.size)=R at p2 f2 g2 ⊢;have z2:R.1.size=es1.size:=by
   have:=p2.length_eq
   rwa [C2,C2]at this
  have b2:R.1.size<scanBound:=by omega
  refine f0 (hg _ _ _ ?_);refine f0 (wpAny_storeSet_of o1 rfl ?_ (jM b2));refine f9 (h _ (sb.trans (N4 _ a _)) ?_);exact⟨_,R.1,_,R.2.1,rS o1 rfl,hx,rfl,e1.perm p2,(p2.map _).trans m1,b2,f2,g2⟩
 ·refine f9 (h _ sb ?_);exact⟨_,es1,_,t1,o1,hx,rfl,e1,m1,b1,f1,g1⟩
def Bj(Z:SetI prog w s.heap a ks)(hr:ks.length+1<scanBound)
  (h:∀n b,Heap.SameBut a s.heap n->SetI prog w n a (dk ks k)->Q b {s with heap:=n}) :
  wpAny KN A (setAddHashed a (.int k tk) (hashInt k)) Q E s:=by
 obtain⟨o,es,ep,t,B,W,F,f,u,Y,P,K⟩:=id Z;have hz:es.size=ks.length:=by
  have:=u.length_eq
  rwa [g8,C2]at this
 have M:∀(b:Bool) (d:Kt) (H:Unit->Kt->Prop),H () d->wpAny KN A (match b with | true=>rule "set.scan.the-table-gave-way" | false=>pure ()) H E d:=λ b d H q=>by
  cases b with
  | true=>exact dF q
  | false=>exact f9 q
 unfold setAddHashed setAddHashedIn;refine F9 (f0 (bu B F P ?_));dsimp only;rw[byScan_of rfl Y f,f8 rfl];unfold setAddByScan;refine f0 (f0 (dF (f0 ?_)));refine wpAny_setScan_of (intKind_is prog w k tk) B F P f ?_;cases O:es.toList.findIdx? _ with
 | some j=>
  obtain⟨N,X,_⟩:=List.findIdx?_eq_some_iff_getElem.mp O;have C:=u.mem_iff.mp (i8.mpr ⟨es.toList[j],Y8 N,(rR f (Y8 N) k).mp X⟩);have m:dk ks k=ks:=by unfold dk;rw[f8 C]
  refine f9 (f9 ?_);have:=h s.heap false (Heap.SameBut.refl a s.heap) Mn;exact this
 | none=>
  have C:k∉ks:=λ z=>by obtain⟨e,R,q⟩:=i8.mp (u.mem_iff.mpr z);have:=List.findIdx?_eq_none_iff.mp O e R;rw[(rR f R k).mpr q]at this;cases this
  have m:dk ks k=ks++[k]:=(by unfold dk;rw[g9 C]);rw[m]at h;dsimp only;have p1:=layNew_perm t es (hashInt k) (.int k tk);have y:=layNew_fits t es (hashInt k) (.int k tk);have v:=K.layNew es (hashInt k) (.int k tk);show wpAny _ _ _ _ _ _
  change wpAny _ A (match layNew t es (hashInt k) (.int k tk)with | _=>_) _ _ _
  generalize layNew t es _ _=L at p1 y v ⊢;obtain⟨c,J,I,gv⟩:=L;rw[Array.toList_push]at p1;dsimp only at p1 y v ⊢;refine f0 (M gv _ _ ?_);have p:∀g:KH,g.fits c.size=true->Tab g (!F5 w)->wpAny KN A (do
   storeSet a c g
   if(!I&&g.tooFull)=true then do
    (λ b:Bool=>match b with | true=>rule "set.scan.the-table-gave-way" | false=>pure ()) (relayAll g c (SetTable.grown c.size)).2.2
    storeSet a (relayAll g c (SetTable.grown c.size)).1 (relayAll g c (SetTable.grown c.size)).2.1
    pure (some true)
   else pure (some true)) (λ r U=>wpAny KN A (match r with | some l=>pure l | none=>setAddHashedIn a (.int k tk) (hashInt k) 99999) Q E U) E s:=λ g f2 g2=>
   Bh B W F f u KE K p1 f2 g2 I M λ n S S'=>f9 (h n true S S')
  split
  ·refine f0 ?_;rw[hashByValue_scannable 8 rfl];refine f9 ?_;exact p J y v
  ·refine f0 (f9 ?_);exact p J y v
open PySem.Spec PyProof.Rows
def fm(val:Nat->Int)(i:Nat):on Int:=((Lb i).map val).foldl dk []
def rT(a:Nat->Int)(i:Nat):fm a (i+1)=dk (fm a i) (a i):=by
 unfold fm;rw[aK,C4,List.foldl_append];rfl
def hY(σ:on Int)(k:Int):(dk σ k).length<=σ.length+1:=by
 unfold dk;split
 ·exact aM _
 ·rw[t9];exact i9 _
theorem rV(a:Nat->Int):∀i,(fm a i).length<=i
 | 0=>i9 _
 | i+1=>by rw[rT];exact i7 (hY _ _) (Nat.succ_le_succ (rV a i))
def SetI.moved(x:SetI prog w s.heap S ks)(b:Moved wr G s a)(c:S∉wr):SetI prog w a.heap S ks:=x.at λ o e=>b.heap S o c e
def Bk{prog:Kz}{w:Ky}{A:KA}{I:Ku}{n:Nat}{St:Nat->Kt->Prop}(W:WalksS prog w A.in1 I fp f G n P St)(S:Ku)(j:S∉fp)(val:Nat->Int)(g:∀i v,P i v->∃t,v=.int (val i) t)(d:n+1<scanBound) :
  ∀(k i:Nat) (s:Kt),i+k=n->St i s->SetI prog w s.heap S (fm val i) ->
   (∀a,Moved (S::f) G s a->SetI prog w a.heap S (fm val n)->R (.ok (.ret .none)) a)->codeAny KN A (.builtin "set.update.loop" ⟨[.ref S,.ref I],[]⟩) R s:=by
 have u:S∉f:=λ z=>j (W.sub S z);have r:∀b∈f,b∈S::f:=λ b z=>o4 S z;intro k
 induction k with
 | zero=>
  intro i s e st hs q;have e:i=n:=e;subst e;refine U0 pQ ?_;rw[Y4 jr];show wpAny KN A.in1 (pyNext (.ref I) >>= _) _ _ s;refine f0 (W.done s _ _ st λ a h=>?_);show wpAny KN A.in1 (ret Value.none) _ _ a;exact f9 (q a (h.mono r) (hs.moved h u))
 | succ k C=>
  intro i s e st hs q;have H:i<n:=by omega
  refine U0 pQ ?_;rw[Y4 jr];show wpAny KN A.in1 (pyNext (.ref I) >>= _) _ _ s;refine f0 (W.item i s _ _ H st λ v a J l h=>?_);obtain⟨t,E⟩:=g i v J;subst E;have m:=hs.moved h u;show wpAny KN A.in1 _ _ _ a;refine f0 (F9 ?_);unfold setAdd;refine F9 (f0 ((intKind prog w).pyHash (k:=val i) (intKind_is prog w (val i) t) ?_));have hl:=rV val i;refine Bj (s:={a with toks:=a.toks+1}) (k:=val i) (tk:=t) m KE λ x b y L=>?_;have c:∀b o,b≠S->a.heap.get? b=some o->x.get? b=some o:=λ b o d e=>by rw[y.2 b d];exact e
  refine f9 ⟨W5 jr _,C (i+1) _ KE (W.frame (i+1) a x _ l (aM _) λ b d o e=>c b o (λ z=>j (z▸d)) e) (by rw[rT];exact L) λ B p K=>?_⟩;refine q B (Moved.trans W.gtrans ((h.mono r).then_heap (aM _) λ b o d e=>c b o (λ z=>d (z▸o5)) e) p) K
noncomputable def set0(w:Ky):Obj:={cls:=.type "set",dict:=none,data:=.set #[] 0 (.fresh 0 0 (!F5 w))}
def Bl(e:h.get? a=some (set0 w)):SetI prog w h a []:=
 ⟨_,#[],0,_,e,⟨rfl,rfl,rfl⟩,rfl,λ _ z=>by simp at z,by simp,by decide,by rfl,Tab.fresh _⟩
def Bm(v:Ks)(h:Q Ls {s with heap:=s.heap.push (set0 w)}) :
  codeAny KN A (.call (.builtin "set.__new__") ⟨[.type "set",v],[]⟩) (wants Q E) s:=by
 refine codeAny_of_tree ?_;show wpAny _ A.in1 _ _ _ s;refine f0 (aN (F.newCall_set_1 v) ?_);refine f9 ⟨W5 F.plain_set_new _,U0 F.entry_set_new ?_⟩;rw[Y4 F.plain_set_new];unfold Builtin.«set.__new__» Builtin.Frozenset.newClass;have q:=sub_set_self;obtain⟨h0,g0,d0,t0,o0⟩:=s
 wp_walk
 refine bw (f9 ?_);simp[newObj];exact f0 (wpAny_alloc (f9 (f9 h)))
def Bn{prog:Kz}{w:Ky}{A:KA}{E:Ks->Kt->Prop}{s:Kt}{l:Ku}{items:Kx Ks}{ns:on Int}{Q:Ks->Kt->Prop}(hh:Ma)(hl:s.heap.IsList l items)(hi:IntsAre items.toList ns)(hb:items.size+1<scanBound)
  (h:∀h' tk,SetI prog w h' s.heap.objs.size (fm (λ i=>ns.getD i 0) items.size)->LN->Q Ls {s with heap:=h',toks:=tk}) :
  wpAny KN A (call (.type "set") [.ref l]) Q E s:=by
 have m0:=F.called_set.mro;obtain⟨c0,r0,m1⟩:=m0;have m2:=F.called_set.made;have m3:=F.called_set.sub;have m4:=F.called_set.notType;have m5:=F.called_set.canCreate;have m6:=F.typeCall_set_1 (.ref l);refine dB (codeAny_of_tree ?_);show wpAny KN _ (callAny (.type "set") _) _ _ _;refine f9 ⟨Code.quiet_builtin _ LU,U0 F.entry_type_call ?_⟩;rw[Around.under_plain (weight_type_call_type "set" [.ref l] []) rfl]
 repeat (any_goals (first | assumption | wp_step))
 refine U4 (Bm (.ref l) (E:=E) (Q:=λ v s1=>v=.ref s.heap.objs.size/\s1 = {s with heap:=s.heap.push (set0 w)}) ⟨rfl,rfl⟩) λ r s1 q=>?_;cases r with
 | error e=>exact q
 | ok f=>
  cases f with
  | ret v=>
   obtain⟨e1,e2⟩:=q;subst e1;subst e2;have g0:(s.heap.push (set0 w)).get? s.heap.objs.size=some (set0 w):=r9 _ rfl;have ty:Shared.TypeIs {s with heap:=s.heap.push (set0 w)} Ls "set":=⟨_,g0,rfl⟩;have n1:=F.called_set.init.lookup;have n2:=F.called_set.init.bind Ls
   repeat (any_goals (first | assumption | wp_step))
   refine U4 (jB (R:=wants (λ v s2=>v=.none/\∃h' tk,s2 = {s with heap:=h',toks:=tk} /\ SetI prog w h' s.heap.objs.size (fm (λ i=>ns.getD i 0) items.size) /\
     ∀b o,s.heap.get? b=some o->h'.get? b=some o) E) F.called_set.init.plain F.entry_set_init (check_set_init_1 ty ?_)) λ r2 s2 q2=>?_
   ·obtain⟨⟨k1,k2,k3,k4⟩,kl,kc,kn,kd⟩:=hl;dsimp only at kc kd;subst kc;subst kd;have kl':(s.heap.push (set0 w)).get? l=some {cls:=.type "list",dict:=k2,data:=.seq items kn,slots:=k4}:=n7 _ kl;have il:(s.heap.push (set0 w)).IsList l items:=⟨_,kl',rfl,kn,rfl⟩;have p1:=F.sub_list_set;have p2:=F.sub_list_frozenset;have p3:(Value.type "list" == Value.type "dict")=false:=by decide
    unfold Builtin.«set.__init__» noKeywords Builtin.Frozenset.updateFrom;generalize hP:pyIter=PI
    wp_walk
    subst hP;refine jK il (f0 (wpAny_runValue ?_));have l0:l<s.heap.objs.size:=k9 kl;have z1:(s.heap.push (set0 w)).objs.size=s.heap.objs.size+1:=M4 _ _;have a1:l≠(s.heap.push (set0 w)).objs.size:=by rw[z1];exact q9 (N6 l0)
    have a2:s.heap.objs.size∉[(s.heap.push (set0 w)).objs.size,l]:=by
     rw[z1];intro z;rcases i6.mp z with z | z
     ·exact absurd z (q9 (Y7 _))
     ·exact absurd (w4.mp z) (N7 l0)
    refine Bk ((gD (by show A.handled=none;exact hh) _ l a1 items).toS) s.heap.objs.size a2 (λ i=>ns.getD i 0) (λ i v e=>IntsAre.int_at hi i v (by rw[L8];exact e)) hb
     items.size 0 _ (gw _) ⟨⟨_,r9 _ rfl,rfl,rfl⟩,il.push _⟩ (Bl (n7 _ g0)) λ s3 hm S3=>?_
    obtain⟨h3,g3,d3,t3,o3⟩:=s3;have b1:g3=s.gens:=hm.gens;have b2:d3=s.drawn:=hm.drawn;have b3:o3=s.os:=hm.os;subst b1;subst b2;subst b3;show wpAny KN _ _ _ _ _;refine f9 ?_;show wpAny KN _ (ret Value.none) _ _ _;refine f9 ⟨rfl,h3,t3,rfl,S3,λ b o e=>?_⟩;have b4:=k9 e;refine hm.heap b o (λ z=>?_) (n7 _ (n7 _ e));rcases i6.mp z with z | z
    ·exact absurd z (q9 b4)
    ·have:=w4.mp z;rw[z1]at this;exact absurd this (q9 (N6 b4))
   ·cases r2 with
    | error e=>exact q2
    | ok f2=>
     cases f2 with
     | ret v2=>
      obtain⟨c1,h',tk,c2,c3,c4⟩:=q2;subst c1;subst c2
      repeat (any_goals (first | assumption | wp_step))
      exact h h' tk c3 c4
     | _=>exact q2.elim
  | _=>exact q.elim
def G8(h:Kv)(I a:Ku)(f:Ks)(i n ep:Nat):Prop:=∃o,h.get? I=some o/\o.cls=.type "set_iterator" /\ o.data=.fields #[f,.int i 0,.ref a,.int n 0,.int ep 0]
def L4(h:Kv)(a:Ku)(es:Kx (Int×Ks))(ep:Nat)(t:KH):Prop:=∃o,h.get? a=some o/\o.ExactSet/\o.data=.set es ep t
def G8.typeIs{s:Kt}(x:G8 s.heap I a f i n ep):s.TypeIs (.ref I) "set_iterator":=let ⟨o,e,c,_⟩:=x;⟨o,e,c⟩
def G8.at{h h':Kv}{I a:Ku}{f:Ks}{i n ep:Nat}(x:G8 h I a f i n ep)(k:∀o,h.get? I=some o->h'.get? I=some o):G8 h' I a f i n ep:=let ⟨o,e,c⟩:=x;⟨o,k o e,c⟩
def L4.at{h h':Kv}{a:Ku}{es:Kx (Int×Ks)}{ep:Nat}{t:KH}(x:L4 h a es ep t)(k:∀o,h.get? a=some o->h'.get? a=some o):L4 h' a es ep t:=let ⟨o,e,c⟩:=x;⟨o,k o e,c⟩
def L4.typeIs{s:Kt}(x:L4 s.heap a es ep t):s.TypeIs (.ref a) "set":=let ⟨o,e,c,_⟩:=x;⟨o,e,c.1⟩
def S2:Slot "set_iterator" "__next__" "set_iterator.__next__":=
 .of (owner:="set_iterator") (n:="__next__") (by rw[typeLookup_type,qh];kernel_rfl) LU LU LU
  (by first | exact .inl (by decide +kernel) | exact .inr (by decide +kernel)) (by rw[jZ];kernel_rfl)
def hZ:entryFor table "set_iterator.__next__" = some Builtin.«set_iterator.__next__»:=entryFor_of_tree Mz
def ib(v:Ks):argsOk "set_iterator.__next__" ⟨[v],[]⟩:=by unfold argsOk;kernel_rfl
def Bo:entryFor table "set.__iter__" = some Builtin.«frozenset.__iter__»:=entryFor_alias (id':="frozenset.__iter__") Mz rfl LU Mz
def rW{ep:Nat}{h:Kv}{i:Nat}{n:Nat}(e:h.get? I=some o)(c:o.cls=.type "set_iterator")(d:o.data=.fields #[f,.int i 0,.ref a,.int n 0,.int ep 0]) :
  G8 (h.update I (Obj.mapFields (·.setIfInBounds 1 (rawInt ((i:Int)+1))))) I a f (i+1) n ep:=by
 refine⟨_,aE _ e (jx (bt d _)),(jL ..).trans c,?_⟩;rw[bt d];simp[rawInt]
def rX{ep:Nat}{h:Kv}(g:Ks){i:Nat}{n:Nat}(e:h.get? I=some o)(c:o.cls=.type "set_iterator")(d:o.data=.fields #[f,.int i 0,.ref a,.int n 0,.int ep 0]) :
  G8 (h.update I (Obj.mapFields (·.setIfInBounds 0 g))) I a g i n ep:=by
 refine⟨_,aE _ e (jx (bt d _)),(jL ..).trans c,?_⟩;rw[bt d];simp
def rY{prog:Kz}{w:Ky}{A:KA}{E:Ks->Kt->Prop}{s:Kt}{I a:Ku}{es:Kx (Int×Ks)}{ep:Nat}{t:KH}{Q:Kr Ks->Kt->Prop}{slot i j:Nat}{x:Ks}(hI:G8 s.heap I a (.int slot 0) i es.size ep)(hS:L4 s.heap a es ep t)(hf:MI)
  (hn:∀(A:KA) (E':Ks->Kt->Prop) (Q':Kr (Ks×Nat)->Kt->Prop),Q' (some (x,j)) s->wpAny KN A (setNext a slot i ep) Q' E' s)
  (hQ:∀h',G8 h' I a (.int j 0) (i+1) es.size ep->Heap.SameBut I s.heap h'->Q (some x) {s with heap:=h'}):wpAny KN A (pyNext (.ref I)) Q E s:=by
 obtain⟨o,ho,hc,hd⟩:=id hI;obtain⟨p,hp,hx,hq⟩:=id hS;unfold pyNext;refine f0 (U3 (Q6 (name:=Str.ofString "__next__") hI.typeIs S2 (G3 S2 hI.typeIs hZ ?_ (ib _))));unfold Builtin.«set_iterator.__next__»;refine f0 (f9 ?_);dsimp only;refine f0 (bB ho hd ?_);dsimp only;refine f0 (cT hp hq hf ?_);rw[show(((es.size:Nat):Int) != ((es.size:Nat):Int))=false by simp,g9 B5];simp only[B6];refine f0 (hn _ _ _ ?_);dsimp only;refine f0 (Z0 ho hd KS ?_);have I1:=rX (ep:=ep) (rawInt j) ho hc hd;obtain⟨o1,ho1,hc1,hd1⟩:=id I1;refine f0 (Z0 ho1 hd1 KS (f9 ⟨x,rfl,f9 (hQ _ (rW ho1 hc1 hd1) ?_)⟩));exact(N4 ..).trans (N4 ..)
def rZ{prog:Kz}{w:Ky}{A:KA}{E:Ks->Kt->Prop}{s:Kt}{I a:Ku}{es:Kx (Int×Ks)}{ep:Nat}{t:KH}{Q:Kr Ks->Kt->Prop}{slot i:Nat}(hh:Ma)(hI:G8 s.heap I a (.int slot 0) i es.size ep)(hS:L4 s.heap a es ep t)(hf:MI)
  (hn:∀(A:KA) (E':Ks->Kt->Prop) (Q':Kr (Ks×Nat)->Kt->Prop),Q' none s->wpAny KN A (setNext a slot i ep) Q' E' s)
  (hQ:∀h',Heap.ExtBut I s.heap h'->Q none {s with heap:=h'}):wpAny KN A (pyNext (.ref I)) Q E s:=by
 obtain⟨o,ho,hc,hd⟩:=id hI;obtain⟨p,hp,hx,hq⟩:=id hS;unfold pyNext;refine f0 (U3 (Q6 (name:=Str.ofString "__next__") hI.typeIs S2 (G3 S2 hI.typeIs hZ ?_ (ib _))));unfold Builtin.«set_iterator.__next__»;refine f0 (f9 ?_);dsimp only;refine f0 (bB ho hd ?_);dsimp only;refine f0 (cT hp hq hf ?_);rw[show(((es.size:Nat):Int) != ((es.size:Nat):Int))=false by simp,g9 B5];simp only[B6];refine f0 (hn _ _ _ ?_);dsimp only;refine f0 (Z0 ho hd KS ?_);refine f0 ?_;simp only[newExc,newTuple];refine f0 (C9 ?_ MF);refine f0 (m:=firstArgMember _ _) (aN (a:=Value.none) (by first | rfl | (simp only[firstArgMember];rfl)) ?_);refine C9 ?_ MF;simp only[raiseNew];refine f0 (kf ?_);rw[show A.in1.handled=none from hh];refine f0 (f9 (wpAny_throw ?_));refine f0 (bx (T:="StopIteration") (b:=true) ⟨_,r9 _ rfl,rfl⟩ dm ?_);exact f9 (hQ _ (((N4 ..).extBut.push _).push _))
def Bp{k:Nat}(f:G8 s.heap I a (.ref q) i es.size ep)(B:L4 s.heap a es ep t)(l:MI)(r:IsTup s.heap q ps)(u:ps[i]? = some (.int k 0))(n:es[k]? = some (z,x))
  (C:∀g,G8 g I a (.ref q) (i+1) es.size ep->Heap.SameBut I s.heap g->Q (some x) {s with heap:=g}):wpAny KN A (pyNext (.ref I)) Q E s:=by
 obtain⟨o,c,y,e⟩:=id f;obtain⟨p,j,m,h⟩:=id B;unfold pyNext;refine f0 (U3 (Q6 f.typeIs S2 (G3 S2 f.typeIs hZ ?_ (ib _))));unfold Builtin.«set_iterator.__next__»;refine f0 (f9 ?_);refine f0 (bB c e ?_);refine f0 (cT j h l ?_);rw[show(_ != _)=false by simp,g9 B5];simp[B6];obtain⟨oq,b,v,nq,d⟩:=r;refine f0 (aL b d ?_);dsimp only;rw[u];unfold setNextDrawn;simp only[B6];refine f0 (f0 (bu j h l ?_));rw[show(ep != ep)=false by simp,g9 B5];rw[n];refine f9 ?_;refine f0 (Z0 c e KS (f9 ⟨x,rfl,f9 (C _ (rW c y e) (N4 ..))⟩))
def Bq(v:Ma)(j:G8 s.heap I a (.ref q) i es.size ep)(C:L4 s.heap a es ep t)(x:MI)(l:IsTup s.heap q ps)(u:ps[i]? = none)
  (F:∀k,Heap.ExtBut I s.heap k->Q none {s with heap:=k}):wpAny KN A (pyNext (.ref I)) Q E s:=by
 obtain⟨o,e,B,h⟩:=id j;obtain⟨p,r,hx,n⟩:=id C;unfold pyNext;refine f0 (U3 (Q6 j.typeIs S2 (G3 S2 j.typeIs hZ ?_ (ib _))));unfold Builtin.«set_iterator.__next__»;refine f0 (f9 ?_);dsimp only;refine f0 (bB e h ?_);dsimp only;refine f0 (cT r n x ?_);rw[show(((es.size:Nat):Int) != ((es.size:Nat):Int))=false by simp,g9 B5];simp only[B6];obtain⟨oq,c,y,nq,f⟩:=l;refine f0 (aL c f ?_);dsimp only;rw[u];dsimp only;refine f0 (Z0 e h KS ?_);obtain⟨o1,d,z,g⟩:=rX (ep:=ep) (rawInt 0) e B h;refine f0 (Z0 d g KS ?_);refine f0 ?_;simp only[newExc,newTuple];refine f0 (C9 ?_ MF);refine f0 (m:=firstArgMember _ _) (aN (a:=Value.none) (by first | rfl | (simp only[firstArgMember];rfl)) ?_);refine C9 ?_ MF;simp only[raiseNew];refine f0 (kf ?_);rw[show A.in1.handled=none from v];refine f0 (f9 (wpAny_throw ?_));refine f0 (bx (T:="StopIteration") (b:=true) ⟨_,r9 _ rfl,rfl⟩ dm ?_);exact f9 (F _ ((((N4 ..).trans (N4 ..)).extBut.push _).push _))
section
variable {prog:Kz} {w:Ky} {A:KA} {E:Ks->Kt->Prop} {s:Kt} {I a:Ku} {es:Kx (Int×Ks)} {ep:Nat} {t:KH}
def se(d:F5 w=true)(g:L4 s.heap a es ep t)(f:MI)
  (h:Q (((pickOrder (w.params.setOrder a ep) es)[i]?).map λ e=>(e.2,slot)) s):wpAny KN A (setNext a slot i ep) Q E s:=by
 obtain⟨p,c,hx,b⟩:=id g;unfold setNext;refine f0 (bu c b f ?_);dsimp only;unfold setsByText;refine f0 (f0 (bw (f9 ?_)));show wpAny _ A (if F5 w=true then _ else _) Q E s;rw[f8 d];rw[show(ep != ep)=false by simp,g9 B5];refine f0 ?_;unfold setWalk;refine f0 (bu c b f ?_);dsimp only;unfold setsByText;refine f0 (f0 (bw (f9 ?_)));show wpAny KN A (if F5 w=true then _ else _) _ E s;rw[f8 d];exact f0 (bw (f9 (f9 h)))
def sh(d:F5 w=false)(g:(!t.plain&&decide (es.size>1))=false)(e:t.led=true)(k:L4 s.heap a es ep t)(f:MI)
  (h:Q (match es[SetTable.below t.place slot]?,t.place[SetTable.below t.place slot]? with | some (_,x),some j=>some (x,j+1) | _,_=>none) s):wpAny KN A (setNext a slot i ep) Q E s:=by
 obtain⟨p,c,hx,b⟩:=id k;unfold setNext;refine f0 (bu c b f ?_);dsimp only;unfold setsByText;refine f0 (f0 (bw (f9 ?_)));show wpAny _ A (if F5 w=true then _ else _) Q E s;rw[g9 (by rw[d];exact B5)];show wpAny _ A (if(!t.plain&&decide (es.size>1))=true then _ else _) Q E s;rw[g,g9 B5];refine f0 ?_;show wpAny KN A (if(!t.led && !es.isEmpty)=true then _ else _) _ E s;rw[e];exact f9 (f9 h)
def Br:∀(n:Nat) (a:on e) (s:Kt),a.length=n->(∀l d,l.Perm a->Q l {s with drawn:=d})->wpAny KN A (drawOrder n a) Q E s:=by
 intro n
 induction n generalizing Q with
 | zero=>
  intro a s c h;have:=aC.mp c;subst this;exact f9 (h [] s.drawn .rfl)
 | succ n g=>
  intro a s c h;cases a with
  | nil=>cases c
  | cons y r=>
   show wpAny _ A _ Q E s;have b:∀i,i<(y::r).length->wpAny _ A (match _[i]? with
     | some x=>do return x::(←drawOrder n ((y::r).eraseIdx i))
     | none=>unsupported "internal:drawOrder") Q E {s with drawn:=s.drawn.bump .order}:=λ i f=>by
    rw[(m7 f)];refine f0 (g _ _ Mn λ l d p=>f9 (h _ d ?_));exact(List.Perm.cons _ p).trans (lD f rfl)
   refine f0 λ Γ p j=>⟨by simp,?_⟩;exact b _ (Nat.mod_lt _ KS)
noncomputable def si(f:Ks)(a:Ku)(n ep:Nat):Obj:={cls:=.type "set_iterator",data:=.fields #[f,.int 0 0,.ref a,.int n 0,.int ep 0]}
def lE{h:Kv}:G8 (h.push (si f a n ep)) h.objs.size a f 0 n ep:=⟨_,r9 _ rfl,rfl,rfl⟩
end
section
variable {prog:Kz} {w:Ky} {A:KA} {E:Ks->Kt->Prop} {s:Kt} {I a:Ku} {es:Kx (Int×Ks)} {ep:Nat} {t:KH}
abbrev Nx(prog:Kz)(w:Ky)(I:Ku)(fp:on Ku)(n:Nat)(ws:on Ks)(St:Nat->Kv->Prop):Prop:=
 ∀A:KA,A.handled=none->WalksS prog w A I fp [I] (λ a b=>b=a) n (λ i v=>ws[i]? = some v) (λ i s=>St i s.heap)
def lF {fp : on Ku} {n : Nat} {ws : on Ks} {St : Nat -> Kv -> Prop} (hI : I ∈ fp) (hz : ws.length = n)
    (fr : ∀ i h h', St i h -> (∀ b ∈ fp, ∀ o, h.get? b = some o -> h'.get? b = some o) -> St i h')
    (it : ∀ (A : KA) (E : Ks -> Kt -> Prop) (Q : Kr Ks -> Kt -> Prop) (s : Kt) i v, A.handled = none -> ws[i]? = some v -> St i s.heap -> (∀ h', St (i + 1) h' -> Heap.SameBut I s.heap h' -> Q (some v) { s with heap := h' }) -> wpAny KN A (pyNext (.ref I)) Q E s)
    (dn : ∀ (A : KA) (E : Ks -> Kt -> Prop) (Q : Kr Ks -> Kt -> Prop) (s : Kt), A.handled = none -> St n s.heap -> (∀ h', Heap.ExtBut I s.heap h' -> Q none { s with heap := h' }) -> wpAny KN A (pyNext (.ref I)) Q E s)
    (sf : ∀ (A : KA) (E : Ks -> Kt -> Prop) (Q : Ks -> Kt -> Prop) (s : Kt) i, St i s.heap -> Q (.ref I) s -> wpAny KN A (pyIter (.ref I)) Q E s) : Nx prog w I fp n ws St := λ A hh =>
  { sub := λ b hb => by rw [w4.mp hb]; exact hI
    grefl := λ _ => rfl
    gtrans := λ _ _ _ h1 h2 => h2.trans h1
    frame := λ i s h' tk st _ k => fr i s.heap h' st k
    item := λ i s Q E hi st hQ => by have hg : ws[i]? = some ws[i] := m7 KE;exact it A E Q s i _ hh hg st λ h' st' sb => hQ _ _ hg st' ⟨λ b o hb e => sb.extBut b o (λ z => hb (w4.mpr z)) e, rfl, rfl, rfl, i9 _⟩
    done := λ s Q E st hQ => dn A E Q s hh st λ h' eb => hQ _ ⟨λ b o hb e => eb b o (λ z => hb (w4.mpr z)) e, rfl, rfl, rfl, i9 _⟩
    self := λ i s Q E st hQ => sf A E Q s i st hQ }
def ic{h h':Kv}{b:Ku}(sb:Heap.SameBut I h h')(hb:b≠I):∀o,h.get? b=some o->h'.get? b=some o:=λ o e=>sb.extBut b o hb e
def sj:Slot "set_iterator" "__iter__" "set_iterator.__iter__":=
 .of (owner:="set_iterator") (n:="__iter__") (by rw[typeLookup_type,qh];kernel_rfl) LU LU LU
  (by first | exact .inl (by decide +kernel) | exact .inr (by decide +kernel)) (by rw[jZ];kernel_rfl)
def Bs:entryFor table "set_iterator.__iter__" = some Builtin.«dict_keyiterator.__iter__»:=entryFor_alias (id':="dict_keyiterator.__iter__") Mz rfl LU Mz
def Bt(v:Ks):argsOk "set_iterator.__iter__" ⟨[v],[]⟩:=by unfold argsOk;kernel_rfl
def lG(b:G8 s.heap I a f i n ep)(h:Q (.ref I) s):wpAny KN A (pyIter (.ref I)) Q E s:=by
 refine fO b.typeIs sj (G3 sj b.typeIs Bs ?_ (Bt _));show wpAny _ _ _ _ _ s;exact f9 ⟨_,rfl,"set_iterator",_,b.typeIs,S2.lookup,h⟩
def Bu(l:F5 w=true)(c:MI)(f:a≠I) :
  Nx prog w I [I,a] es.size ((pickOrder (w.params.setOrder a ep) es).toList.map (·.2)) (λ i h=>G8 h I a (.int (0:Nat) 0) i es.size ep/\L4 h a es ep t):=by
 have hz:(pickOrder (w.params.setOrder a ep) es).size=es.size:=by
  have:=(rP (w.params.setOrder a ep) es).length_eq
  rwa [C2,C2]at this
 refine lF KS Mn (λ i h n st k=>⟨st.1.at (k I KS),st.2.at (k a KS)⟩) (λ A E Q s i v m b st g=>?_) (λ A E Q s m st g=>?_) λ A E Q s i st h=>lG st.1 h
 ·obtain⟨e,he,hev⟩:∃e,(pickOrder (w.params.setOrder a ep) es)[i]? = some e/\e.2=v:=by
   rw[t5,L8]at b;cases q:(pickOrder _ es)[i]? with
   | none=>rw[q]at b;cases b
   | some e=>rw[q]at b;cases b;exact⟨e,rfl,rfl⟩
  refine rY st.1 st.2 c (λ A p o q=>se l st.2 c (by rwa [he,P1,hev])) λ n d j=>?_;exact g n ⟨d,st.2.at (ic j f)⟩ j
 ·refine rZ m st.1 st.2 c (λ A p o q=>se l st.2 c Mn) g
noncomputable def ej(t:KH):Nat->Nat
 | 0=>0
 | i+1=>t.place.getD i 0+1
def so(a:Rise t.place):∀{i:Nat},i<=t.place.size->SetTable.below t.place (ej t i)=i
 | 0,_=>Bc a
 | i+1,h=>by have b:t.place[i]? = some t.place[i]:=W1 KE;show SetTable.below t.place (t.place.getD i 0+1)=i+1;rw[bn,b];exact Bb a b
def Bv(g:F5 w=false)(y:(!t.plain&&decide (es.size>1))=false)(f:Tab t (!F5 w))(b:MI)(l:a≠I) :
  Nx prog w I [I,a] es.size (es.toList.map (·.2)) (λ i h=>G8 h I a (.int (ej t i:Nat) 0) i es.size ep/\L4 h a es ep t/\i<=es.size):=by
 have p:t.led=true:=by rw[f.led,g];rfl
 have hz:t.place.size=es.size:=(by unfold SetTable.fits at b;rw[f7]at b;exact h8.mp b.1);refine lF KS (by rw[g8,C2]) (λ i h B st k=>⟨st.1.at (k I KS),st.2.1.at (k a KS),st.2.2⟩) (λ A E Q s i v r c st n=>?_) (λ A E Q s r st n=>?_) λ A E Q s i st h=>lG st.1 h
 ·obtain⟨z,he⟩:∃z,es[i]? = some (z,v):=by
   rw[t5,L8]at c;cases q:es[i]? with
   | none=>rw[q]at c;cases c
   | some e=>rw[q]at c;cases c;exact⟨e.1,rfl⟩
  have F:i<es.size:=by
   rcases W7 i es.size with h | h
   ·exact h
   ·rw[T6 h]at he;cases he
  have u:t.place[i]? = some t.place[i]:=W1 KE;have m:=so f.rise (i:=i) KE;have C:ej t (i+1)=t.place[i]+1:=(by show t.place.getD i 0+1=_;rw[bn,u];rfl);refine rY (slot:=ej t i) (j:=ej t (i+1)) (x:=v) st.1 st.2.1 b (λ A J H q=>sh g y p st.2.1 b (by rw[m,he,u];rw[C]at q;exact q)) λ B d o=>?_;exact n B ⟨d,st.2.1.at (ic o l),F⟩ o
 ·have m:=so f.rise (i:=es.size) KE;refine rZ r st.1 st.2.1 b (λ A J H q=>sh g y p st.2.1 b (by rw[m,T6 (i9 _)];exact q)) n
def Bw{l:on Nat}(n:l.Perm (Lb es.size))(u:MI)(g:a≠I)(B:q≠I) :
  Nx prog w I [I,a,q] es.size (l.map λ i=>(es.getD i (0,.none)).2) (λ i h=>G8 h I a (.ref q) i es.size ep/\L4 h a es ep t/\IsTup h q (l.map λ (i:Nat)=>Value.int i 0).toArray):=by
 have hl:l.length=es.size:=by rw[n.length_eq,C3]
 refine lF KS Mn (λ i h z st k=>⟨st.1.at (k I KS),st.2.1.at (k a KS),let ⟨o,e,r⟩:=st.2.2;⟨o,k q KS o e,r⟩⟩) (λ A E Q s i v p b st m=>?_) (λ A E Q s p st m=>?_) λ A E Q s i st h=>lG st.1 h
 ·obtain⟨k,hk,hkv⟩:∃k,l[i]? = some k/\(es.getD k _).2=v:=by
   rw[t5]at b;cases q:l[i]? with
   | none=>rw[q]at b;cases b
   | some k=>rw[q]at b;cases b;exact⟨k,rfl,rfl⟩
  have j:=(by have:=n.mem_iff.mp (bo.mpr ⟨i,hk⟩);exact u0.mp this);have y:=W1 j;have f:es[k].2=v:=(by rw[←hkv,bn,y];rfl);refine Bp (x:=v) st.1 st.2.1 u st.2.2 (by rw[←L8,List.toList_toArray,t5,hk];rfl) (by rw[y,←f]) λ z c d=>?_;exact m z ⟨c,st.2.1.at (ic d g),let ⟨o,e,r⟩:=st.2.2;⟨o,ic d B o e,r⟩⟩ d
 ·refine Bq p st.1 st.2.1 u st.2.2 (T6 Mn) m
def Bx(m:L4 s.heap a es ep t)(f:MI)(r:es.size<=sizeLine)
  (B:Tab t (!F5 w)) (h:∀I h' d fp ws St,Nx prog w I fp es.size ws St->St 0 h'->ws.Perm (es.toList.map (·.2))->LN->(∀b∈fp,b=a\/s.heap.objs.size<=b)->s.heap.objs.size<=I->Q (.ref I) {s with heap:=h',drawn:=d}) :
  wpAny KN A (pyIter (.ref a)) Q E s:=by
 have g:=let ⟨_,n,_⟩:=m;k9 n;obtain⟨p,n,hx,u⟩:=id m;refine fO m.typeIs F.slot_set_iter (G3 F.slot_set_iter m.typeIs Bo ?_ (F.args_set_iter_1 _));unfold Builtin.«frozenset.__iter__» Builtin.Frozenset.slot0 slotArgs;simp only[jR,Bool.not_true,Q8,↓reduceIte,bind_assoc,jW,Y6];unfold Builtin.Frozenset.addrOf Builtin.Frozenset.sizeOf;refine f0 (f9 ?_)
 try dsimp only
 refine f0 (f9 ?_);refine f0 (f0 (cT n u f (f9 ?_)));unfold setDrawn;refine f0 (f0 (bu n u f ?_));dsimp only;unfold setsByText;refine f0 (f0 (bw (f9 (f9 ?_))));show wpAny KN _ (if(!F5 w&&(!t.plain&&decide (es.size>1)))=true then _ else _) _ _ _;by_cases q:(!F5 w&&(!t.plain&&decide (es.size>1)))=true
 ·rw[f8 q];have ho:F5 w=false:=by
   cases e:F5 w with
   | false=>rfl
   | true=>rw[e]at q;cases q
  refine f0 (Br es.size _ s (C3) λ l d v=>?_);have hl:l.length=es.size:=by rw[v.length_eq,C3]
  unfold newTuple;refine f0 (C9 ?_ (by show(l.map _).toArray.size<=_;simp;omega));refine f0 (wpAny_setEpoch_of (n7 _ n) u f ?_);refine f0 (C9 (f9 ⟨_,rfl,"set_iterator",_,⟨_,r9 _ rfl,rfl⟩,S2.lookup,?_⟩));have z:(s.heap.push {cls:=.type "tuple",data:=.seq (l.map λ (i:Nat)=>rawInt i).toArray}).objs.size=s.heap.objs.size+1:=M4 _ _;refine h _ _ d _ _ _ (Bw (ep:=ep) (t:=t) v f ?_ ?_) ⟨lE,m.at λ _ e=>n7 _ (n7 _ e),_,n7 _ (r9 _ rfl),rfl,_,rfl⟩ ?_ (λ b o e=>n7 _ (n7 _ e)) ?_ ?_
  ·rw[z];exact q9 (N6 g)
  ·rw[z];exact q9 (Y7 _)
  ·refine(v.map _).trans (List.Perm.of_eq ?_);refine jN λ j=>?_;have H:es.toList[j]? = es[j]?:=L8;rw[t5,t5,H];by_cases y:j<es.size
   ·rw[fH y,P1,bn,W1 y];rfl
   ·have C:(Lb es.size)[j]? = none:=W4 (by rw[C3];omega);rw[C,T6 KE];rfl
  ·intro b r;simp only[i6,O9,P3]at r;rcases r with rfl | rfl | rfl
   ·exact .inr (z▸aM _)
   ·exact .inl rfl
   ·exact .inr (i9 _)
  ·exact z▸aM _
 ·rw[g9 q];refine f0 (f9 ?_);refine f0 (wpAny_setEpoch_of n u f ?_);refine f0 (C9 (f9 ⟨_,rfl,"set_iterator",_,⟨_,r9 _ rfl,rfl⟩,S2.lookup,?_⟩));have k:=λ b o (e:s.heap.get? b=some o)=>n7 (si (.int 0 0) a es.size ep) e
  have x:∀b∈[s.heap.objs.size,a],b=a\/s.heap.objs.size<=b:=λ b r=>by
   simp only[i6,O9,P3]at r;rcases r with rfl | rfl
   ·exact .inr (i9 _)
   ·exact .inl rfl
  by_cases c:F5 w=true
  ·exact h _ _ s.drawn _ _ _ (Bu (t:=t) (ep:=ep) c f (q9 g)) ⟨lE,m.at λ _ e=>k _ _ e⟩ ((rP _ es).map _) k x (i9 _)
  ·have c:F5 w=false:=by simpa using c
   rw[c]at q;exact h _ _ s.drawn _ _ _ (Bv (ep:=ep) c (Lq q) B f (q9 g)) ⟨lE,m.at λ _ e=>k _ _ e,D9 _⟩ .rfl k x (i9 _)
end
def By(d:s.TypeIs (.ref a) "set")(h:Q false s):wpAny KN A (Builtin.List.listLengthHint (.ref a)) Q E s:=by
 unfold Builtin.List.listLengthHint;refine f0 (wpAny_specialOf d F.slot_set_len.lookup ?_);generalize c:("set.__len__" : KJ)=id0
 wp_delta
 rw[show splitId id0=some ("set","__len__")from by subst c;decide +kernel];subst c;refine f0 (bx (b:=true) d (by rw[jZ];kernel_rfl) ?_);refine jX (λ z=>absurd z KL) λ _=>?_
 refine jX (λ _=>?_) λ z=>absurd LU z;exact f0 (gr d (f9 h))
def Bz{prog:Kz}{w:Ky}{A:KA}{I a:Ku}{S:Ku}{fp:on Ku}{n c0:Nat}{ws:on Ks}{St:Nat->Kv->Prop}{c:Bool->Bool}{s1:Kt}{res:Ks}{R:Result->Kt->Prop}{EE:Ks->Kt->Prop}(W:Nx prog w I fp n ws St)(hh:Ma)(hn:n<=sizeLine)(hSf:S∉fp)
  (hT:s1.TypeIs (.ref a) "set") (st:St 0 s1.heap) (hS:s1.heap.get? S=some {cls:=.type "list",data:=.seq #[] c0})
  (hR:∀h' tk acc c',(∀b o,b≠S->b≠I->s1.heap.get? b=some o->h'.get? b=some o)->h'.get? S=some {cls:=.type "list",dict:=none,data:=.seq acc c',slots:=#[]} -> acc.toList=ws->R (.ok (.ret res)) {s1 with heap:=h',toks:=tk}) (hw:ws.length=n) :
  wpAny KN A.in1 (do
   let room ←holding [Value.ref I] (Builtin.List.listLengthHint (.ref a))
   if c room=true then do
    rule "list.extend.makes-room"
    Builtin.List.listTouch (.ref S)
    again (.builtin "list.extend.loop" ⟨[.ref S,.ref I,res],[]⟩)
   else again (.builtin "list.extend.loop" ⟨[.ref S,.ref I,res],[]⟩))
   (λ fin s'=>match fin with | .done f=>R (.ok f) s' | .again c'=>c'.quiet=true/\codeAny KN A c' R s') EE s1:=by
 have loop:∀(h:Kv) (c1 tk:Nat),St 0 h->(∀b o,b≠S->s1.heap.get? b=some o->h.get? b=some o)->h.get? S=some {cls:=.type "list",data:=.seq #[] c1} ->
   codeAny KN A (.builtin "list.extend.loop" ⟨[.ref S,.ref I,res],[]⟩) R {s1 with heap:=h,toks:=tk}:=λ h c1 tk st1 k e=>by
  refine codeAny_extend_loopS (W A.in1 hh) hn S hSf res n 0 _ #[] c1 rfl (D9 _) st1 e (ItemsOf.nil _) λ s' acc c' hm e' ac=>?_;have b1:s' = {s1 with heap:=s'.heap,toks:=s'.toks}:=(by have q1:s'.gens=s1.gens:=hm.gens;have q2:s'.drawn=s1.drawn:=hm.drawn;have q3:s'.os=s1.os:=hm.os;obtain⟨h',g',d',t',o'⟩:=s';dsimp only at q1 q2 q3;subst q1;subst q2;subst q3;rfl);rw[b1];refine hR s'.heap s'.toks acc c' (λ b o hb hi q=>hm.heap b o (λ z=>?_) (k b o hb q)) e' ?_
  ·rcases i6.mp z with z | z
   ·exact hb z
   ·exact hi (w4.mp z)
  ·refine jN λ j=>?_;by_cases hj:j<n
   ·have hj':j<acc.size:=by rw[ac.1];exact hj
    have q1:acc[j]? = some acc[j]:=W1 hj';rw[L8,q1];exact(ac.2 j _ q1).symm
   ·rw[W4 (by rw[C2,ac.1];omega),W4 KE]
 refine f0 (F9 (By hT ?_));refine jX (λ _=>?_) λ _=>f9 ⟨W5 F.plain_extend_loop _,loop s1.heap c0 s1.toks st (λ b o _ e=>e) hS⟩;refine f0 (dF (f0 ?_));show wpAny KN A.in1 (updateSeq S (·.push .none) >>= λ _=>updateSeq S (·.pop)) _ _ _;refine f0 (de hS rfl ?_);have e2:=aE (Obj.mapSeq (·.push Value.none)) hS rfl;refine de (hz:=by seq_fits) e2 rfl ?_;have e3:=aE (Obj.mapSeq (·.pop)) e2 rfl;have oth:∀b o,b≠S->s1.heap.get? b=some o->((s1.heap.update S (Obj.mapSeq (·.push Value.none))).update S (Obj.mapSeq (·.pop))).get? b=some o:=λ b o hb e=>
  (fC _ _ (Mq hb)).trans ((fC _ _ (Mq hb)).trans e)
 refine f9 ⟨W5 F.plain_extend_loop _,loop _ _ s1.toks ?_ oth e3⟩;exact(W A.in1 hh).frame 0 s1 _ s1.toks st (i9 _) λ b hb o e=>oth b o (λ z=>hSf (z▸hb)) e
def BA(hh:Ma)(hS:SetI prog w s.heap a ks)
  (h:∀vs h' tk d,IntsAre vs (vs.map P9)->(vs.map P9).Perm ks->LN->s.heap.objs.size<h'.objs.size->Q vs {s with heap:=h',toks:=tk,drawn:=d}):wpAny KN A (collect (.ref a)) Q E s:=by
 obtain⟨o,S,ep,t,y,C,hd,J,hp,hb,hf,ht⟩:=id hS;have O:S.size<=sizeLine:=jM hb;have i:∀vs:on Ks,vs.Perm (S.toList.map (·.2))->IntsAre vs (vs.map P9)/\(vs.map P9).Perm ks:=λ vs p=>by
  refine⟨?_,(p.map _).trans (by rw[o9];exact hp)⟩;have all:∀v∈vs,∃tk,v=.int (P9 v) tk:=λ v hv=>by obtain⟨e,he,q⟩:=i8.mp (p.mem_iff.mp hv);obtain⟨tk,m⟩:=rQ J he;exact⟨tk,by rw[←q];exact m⟩
  clear p
  induction vs with
  | nil=>exact .nil
  | cons v r ih=>
   obtain⟨tk,e⟩:=all v (o5 ..);rw[A3];have q:=ih λ u hu=>all u (o4 _ hu)
   generalize hn:P9 v=n at e;subst e;exact .cons n tk q
 have l:=k9 y;unfold collect;refine f0 (wpAny_runValue (U0 F.entry_proto_collect ?_));rw[Y4 F.plain_proto_collect];show wpAny KN A.in1 _ _ _ s;refine f0 (C9 ?_);refine f9 ⟨W5 F.plain_list_iadd _,U0 F.entry_list_iadd ?_⟩;rw[Y4 F.plain_list_iadd];show wpAny KN A.in1 (Builtin.List.listExtendWith Ls (.ref a) Ls) _ _ _;unfold Builtin.List.listExtendWith;refine f0 (gr (T:="set") ⟨o,n7 _ y,C.1⟩ ?_);have h1:Builtin.List.listSameRef Ls (.ref a)=false:=(by unfold Builtin.List.listSameRef;exact x8.mpr (N7 l));have P:(Value.type "set" == Value.type "list")=false:=by decide
 have h3:(Value.type "set" == Value.type "tuple")=false:=by decide
 simp only[h1,P,h3,gk,Q8,if_false];refine f0 (Bx (t:=t) (⟨o,n7 _ y,C,hd⟩) hf O ht λ I P d fp N St W U p B Z kI=>?_);rw[M4]at kI;have K:s.heap.objs.size∉fp:=λ z=>by
  rcases Z _ z with q | q
  ·exact absurd q (N7 l)
  ·rw[M4]at q;omega
 obtain⟨Y,X⟩:=i N p;refine B4 (Bz (A:=A) (a:=a) (c0:=0) (R:=λ r x=>∃h' tk c j,r=.ok (.ret Ls)/\x = {s with heap:=h',toks:=tk,drawn:=d} /\ h'.get? s.heap.objs.size=some {cls:=.type "list",dict:=none,data:=.seq c j,slots:=#[]} /\ Q c.toList x)
  W hh O K ⟨o,B _ _ (n7 _ y),C.1⟩ U (B _ _ (r9 _ rfl)) (λ h' tk c j k e ea=>⟨h',tk,c,j,rfl,rfl,e,by rw[ea];exact h N h' tk d Y X (λ b u q=>k b u (q9 (k9 q)) (q9 (dv (k9 q) kI)) (B _ _ (n7 _ q))) (k9 e)⟩) (by rw[p.length_eq,g8,C2])) ?_ λ _ _ e=>e
 intro L x g;cases L with
 | done f=>
  obtain⟨h',tk,c,j,M,m,e,H⟩:=g;cases M;subst m;exact f0 (wpAny_load e (f9 H))
 | again j=>
  refine⟨g.1,U4 g.2 λ r x hr=>?_⟩;obtain⟨h',tk,c,j,M,m,e,H⟩:=hr;subst M;subst m;exact f0 (wpAny_load e (f9 H))
def BB(B:Ma)(F:SetI prog w s.heap a ks)(H:ks.length<64)
  (h:∀k g d p c f e,(∀b o,s.heap.get? b=some o->k.get? b=some o)->s.heap.objs.size<=p->k.get? p=some (seqObj "list" c e)->IntsAre c.toList f->f.Perm ks->f.Pairwise (· <= ·)->Q (.ref p) {s with heap:=k,toks:=g,drawn:=d}) :
  wpAny KN A (call (.builtin "sorted") [.ref a]) Q E s:=by
 refine pH kind_sorted plain_sorted entry_sorted (args_sorted1 _) ?_
 unfold Builtin.«sorted»;refine f0 (f9 ?_);refine f0 (BA (B) F λ c n g d y p1 l r=>?_);have z:c.length<64:=by have:=p1.length_eq;rw[g8]at this;omega
 refine f0 (gl ?_ (by rw[R6];omega));have j:(n.push (seqObj "list" c.toArray 0)).get? n.objs.size=some _:=r9 _ rfl;refine f0 (F9 (G3 slot_list_sort ⟨_,j,rfl⟩ entry_list_sort (list_sort_tree j y z λ i f x v u=>⟨_,rfl,?_⟩) (args_list_sort _)));refine f9 ⟨_,rfl,?_⟩;obtain⟨e,C⟩:=sortedHeap_at j;refine h _ g d _ i f e (λ b o q=>?_) (W6 r) C x (v.trans p1) u;have m:=k9 (l b o q);rw[sortedHeap_old (q9 m) (by rw[bH];exact N6 m)];exact n7 _ (l b o q)
def ie{l:on Int}(h:i<l.length):l.getD i 0∈l:=by
 rw[u8,m7 h];exact Y8 h
def minL(u:Ma)(f:s.heap.IsList l vs.toArray)(g:IntsAre vs c)(p:c≠[])
  (h:∀m M (t:Tok) tk,(∀b o,s.heap.get? b=some o->m.get? b=some o)->M∈c->(∀a∈c,M<=a)->Q (.int M t) {s with heap:=m,toks:=tk}):wpAny KN A (call (.builtin "min") [.ref l]) Q E s:=by
 obtain⟨d,e⟩:=g.allInts.items;have en:c=d.toList.map (·.1):=by rw[←g.numsOf,←du,←e]
 have n:0<d.size:=by
  have q:=fI.mpr p
  rwa [en,g8,C2]at q
 rw[e]at f;refine min_intList u f n λ v x tk q k=>?_
 obtain⟨t,z⟩:=bF q;subst z;obtain⟨g1,y⟩:=argBest_lt (numAt d) (d.size - 1);refine h x _ t tk k ?_ λ a i=>?_
 ·rw[en,Z3];exact ie (by rw[g8,C2];omega)
 ·rw[en]at i;obtain⟨j,r,B⟩:=mem_getD i;subst B;rw[g8,C2]at r;rw[←Z3];exact y j KE
def maxL(r:Ma)(f:s.heap.IsList l vs.toArray)(g:IntsAre vs c)(n:c≠[])
  (h:∀h' M (t:Tok) tk,LN->M∈c->(∀a∈c,a<=M)->Q (.int M t) {s with heap:=h',toks:=tk}):wpAny KN A (call (.builtin "max") [.ref l]) Q E s:=by
 obtain⟨d,e⟩:=g.allInts.items;have en:c=d.toList.map (·.1):=by rw[←g.numsOf,←du,←e]
 have m:0<d.size:=by
  have q:=fI.mpr n
  rwa [en,g8,C2]at q
 rw[e]at f;refine max_intList r f m λ v u tk q k=>?_
 obtain⟨t,y⟩:=bF q;subst y;obtain⟨g1,x⟩:=argBest_gt (numAt d) (d.size - 1);refine h u _ t tk k ?_ λ a i=>?_
 ·rw[en,Z3];exact ie (by rw[g8,C2];omega)
 ·rw[en]at i;obtain⟨j,p,z⟩:=mem_getD i;subst z;rw[g8,C2]at p;rw[←Z3];exact x j KE
def extL(e:s.heap.get? l=some {cls:=.type "list",data:=.seq items n})(m:s.heap.IsList b new\/IsTup s.heap b new)(k:items.size+new.size<=sizeLine)
  (h:Q .none {s with heap:=s.heap.update l (Obj.mapSeq (· ++ new))}):wpAny KN A (call (.builtin "list.extend") [.ref l,.ref b]) Q E s:=by
 refine G3 F.slot_list_extend (⟨_,e,rfl⟩) F.entry_list_extend ?_ (F.args_list_extend_2 _ _);unfold Builtin.«list.extend»;refine f0 (f9 ?_);show wpAny _ _ _ _ _ _;unfold Builtin.List.listExtendWith;obtain⟨a,eb,T,hT,j,hd⟩:∃a,s.heap.get? b=some a/\∃T:KJ,(a.cls=.type T/\(T = "list" \/ T = "tuple"))/\∃j,a.data=.seq new j:=by
  rcases m with⟨o,i,g,f,d⟩ | ⟨o,i,g,f,d⟩
  ·exact⟨o,i,"list",⟨g,.inl rfl⟩,f,d⟩
  ·exact⟨o,i,"tuple",⟨g,.inr rfl⟩,f,d⟩
 refine f0 (gr ⟨a,eb,hT.1⟩ ?_);have c:(Builtin.List.listSameRef (.ref l) (.ref b)||Value.type T == .type "list" || Value.type T == .type "tuple")=true:=by
  rcases hT.2 with z | z<;>subst z
  ·rw[show(Value.type "list" == Value.type "list")=true by decide,gy,Bool.true_or]
  ·rw[show(Value.type "tuple" == Value.type "tuple")=true by decide,gy]
 rw[f8 c];refine f0 (kq eb hd (f0 (kq e rfl ?_)));rw[g9 (by rw[ro k,fZ];exact B5)];refine f0 (gm e rfl ?_ KE Mn);exact f9 ⟨_,rfl,h⟩
def BC(K:KC):V->on V->Hp->VK->Prop:=λ x vs H Q=>∃l b xs zs,x=.ref l/\vs=[.ref b]/\H l=some (Lw xs)/\(SqL K H b zs\/SqT K H b zs)/\xs.length+zs.length<=sizeLine/\Q .non (upd H l (Lw (xs++zs)))
def BD:MtM X "list.extend" (BC X.K):=by
 intro g s σ H x vs v us Q I k m h;obtain⟨l,b,xs,j,rfl,rfl,i,d,hz,q⟩:=h;cases k;obtain⟨u,rfl,o⟩:=m.one;cases o;obtain⟨z,p,n,r,hl,e⟩:=I.lstM i;obtain⟨a,c,ob⟩:∃a:on Ks,Vals j a/\(s.heap.IsList b a.toArray\/IsTup s.heap b a.toArray):=by
  rcases d with d | d
  ·obtain⟨a,c,f,_⟩:=I.list d;exact⟨a,c,.inl f.isList⟩
  ·obtain⟨a,c,f,_⟩:=I.tuple d;exact⟨a,c,.inr f⟩
 have e2:=c.length;refine extL e ob Mn ?_;refine⟨.non,_,I.lset i e KS (r.append c) ?_,rfl,q⟩;rw[t9];omega
theorem aS:∀{b:on Int} {a:on Ks},Vals (b.map V.int) a->IntsAre a b
 | [],a,h=>by cases h;exact .nil
 | n::b,a,h=>by
  cases h with
  | cons r t=>
   obtain⟨c,rfl⟩:=r;exact .cons n c (aS t)
theorem sr:∀{a:on Int} {us:on Ks},IntsAre us a->Vals (a.map V.int) us
 | _,_,.nil=>.nil
 | _,_,.cons n t h=>.cons ⟨t,rfl⟩ (sr h)
def BE(o:Mk):A9 X (.builtin "min") (λ c H Q=>∃(a:Ku) (b:on Int),c=[.ref a]/\SqL X.K H a (b.map V.int)/\b≠[]/\∀M,M∈b->(∀x∈b,M<=x)->Q (.int M) H):=by
 intro d s σ H c us Q I r h;obtain⟨a,b,rfl,n,m,q⟩:=h;obtain⟨u,rfl,f⟩:=K8 r;cases f;obtain⟨l,e,g,_⟩:=I.list n;exact minL (I.ok.hd o) g.isList (aS e) m λ h' M t tk k j i=>⟨.int M,H,I.kept k,⟨t,rfl⟩,q M j i⟩
def BF(m:Mk):A9 X (.builtin "max") (λ c H Q=>∃(a:Ku) (b:on Int),c=[.ref a]/\SqL X.K H a (b.map V.int)/\b≠[]/\∀M,M∈b->(∀x∈b,x<=M)->Q (.int M) H):=by
 intro d s σ H c us Q I r h;obtain⟨a,b,rfl,l,j,q⟩:=h;obtain⟨u,rfl,r1⟩:=K8 r;cases r1;obtain⟨i,rv,e,_⟩:=I.list l;exact maxL (I.ok.hd m) e.isList (aS rv) j λ h' M t tk k g f=>⟨.int M,H,I.kept k,⟨t,rfl⟩,q M g f⟩
noncomputable def setO(P:Kz)(w:Ky)(a:Ku)(ks:on Int):HO:=.ext λ h=>SetI P w h a ks
def BG{P:Kz}{w:Ky}{H:Hp}{h:Kv}{a:Ku}{ks:on Int}(x:SetI P w h a ks):u6 P w H h a (setO P w a ks):=
 ⟨x,let ⟨o,_,_,_,e,_⟩:=x;⟨o,e⟩,λ h1 h2 q k=>q.at k⟩
def BH(a:on Int):fm (λ i=>a.getD i 0) a.length=a.foldl dk []:=by
 unfold fm
 congr 1
 refine jN λ j=>?_;rw[t5];by_cases b:j<a.length
 ·rw[fH b,P1,u8,m7 b];rfl
 ·rw[W4 Mn,W4 KE];rfl
def BI(n:Mk):A9 X (.type "set") (λ e H Q=>∃(a:Ku) (b:on Int),e=[.ref a]/\SqL X.K H a (b.map V.int)/\b.length<4000/\∀p,H p=none->Q (.ref p) (upd H p (setO X.prog X.w p (b.foldl dk [])))):=by
 intro g s σ H e us Q I r h;obtain⟨a,b,rfl,m,hz,q⟩:=h;obtain⟨u,rfl,j⟩:=K8 r;cases j;obtain⟨c,f,l,_⟩:=I.list m;have i:c.length=b.length:=by rw[←f.length,g8]
 refine Bn (I.ok.hd n) l.isList (aS f) (by rw[v5,i];show _<4096;omega) λ h' tk S k=>?_;have d:c.toArray.size=b.length:=by rw[v5,i]
 rw[d,BH]at S;exact⟨.ref s.heap.objs.size,_,I.laid k (i9 _) (BG S),rfl,q _ I.fresh⟩
def BJ(z:Mk):A9 X (.builtin "sorted") (λ l H Q=>∃(p:Ku) (f:on Int),l=[.ref p]/\H p=some (setO X.prog X.w p f)/\f.length<64/\∀(q:Ku) (i:on Int),H q=none->i.Perm f->i.Pairwise (· <= ·)->Q (.ref q) (upd H q (Lw (i.map V.int)))):=by
 intro m s σ H l us Q I r h;obtain⟨p,f,rfl,A,x,q⟩:=h;obtain⟨u,rfl,w⟩:=K8 r;cases w;refine BB (I.ok.hd z) ((I.hok p _ A).1) x λ B v d c o g e k n he y b j=>?_
 have hl:g.length<=sizeLine:=(by rw[b.length_eq,R6];omega);have ok:u6 X.prog X.w (upd H c (Lw (g.map V.int))) B c (.lst _):=⟨by rwa [g8],o.toList,e,(sr y),by rwa [Array.toArray_toList]⟩;have a:=I.laid (t':=v) k n ok;refine⟨.ref c,_,?_,rfl,q c g (I.hok.fresh n) b j⟩;exact⟨a.ok,a.os,a.bare,a.base,a.loc,a.cell,a.free,a.freeC,a.pin,a.hok,a.len⟩
open PySem.Calls PySem.W
def BK(p:Ma)(f:s.heap.IsTuple t (intItems xs))(g:0<xs.size)
  (h:∀v d tk,(intItems xs)[argBest (λ i j=>decide (numAt xs i<numAt xs j)) (xs.size - 1)]? = some v->(∀b o,s.heap.get? b=some o->d.get? b=some o)->Q v {s with heap:=d,toks:=tk}) :
  wpAny KN A (call (.builtin "min") [.ref t]) Q E s:=by
 obtain⟨o,l,hc,n,hd⟩:=id f;have a:=k9 l;refine call_min_walk (bq f ?_);refine⟨_,_,_,_,_,_,_,rfl,Walks.tuple (A:=A.in1) p _ t (q9 a) (intItems xs),⟨⟨_,r9 _ rfl,rfl,rfl⟩,f.push _⟩,λ b c=>?_,by simpa[intItems]using g,CmpOf.ints_lt (numAt xs) (λ _ _=>bF),λ v d tk q m=>?_⟩
 ·show b<(s.heap.push _).objs.size;rw[M4];rcases i6.mp c with rfl | c
  ·exact Y7 _
  ·rcases i6.mp c with rfl | c
   ·exact N6 a
   ·cases c
 ·refine h v d tk (by simpa[intItems]using q) λ b o e=>m b o (λ k=>?_) (n7 _ e);rcases i6.mp k with r | k
  ·exact absurd (r▸k9 e) (P2 _)
  ·cases k
def BL(m:Ma)(d:s.heap.IsTuple t (intItems xs))(f:0<xs.size)
  (h:∀v h' tk,(intItems xs)[argBest (λ i j=>decide (numAt xs i>numAt xs j)) (xs.size - 1)]? = some v->LN->Q v {s with heap:=h',toks:=tk}) :
  wpAny KN A (call (.builtin "max") [.ref t]) Q E s:=by
 obtain⟨o,k,hc,n,hd⟩:=id d;have a:=k9 k;refine call_max_walk (bq d ?_);refine⟨_,_,_,_,_,_,_,rfl,Walks.tuple (A:=A.in1) m _ t (q9 a) _,⟨⟨_,r9 _ rfl,rfl,rfl⟩,d.push _⟩,λ b c=>?_,by simpa[intItems]using f,CmpOf.ints_gt _ (λ _ _=>bF),λ v h' tk p l=>?_⟩
 ·show b<(s.heap.push _).objs.size;rw[M4];rcases i6.mp c with rfl | c
  ·exact Y7 _
  ·rcases i6.mp c with rfl | c
   ·exact N6 a
   ·cases c
 ·refine h v h' tk (by simpa[intItems]using p) λ b o e=>l b o (λ g=>?_) (n7 _ e);rcases i6.mp g with q | g
  ·exact absurd (q▸k9 e) (P2 _)
  ·cases g
theorem su(c:∀i,i+1<n->∀C:Bool->Kt->Prop,C false s->a (i+1) i C s):∀(f m:Nat),1<=m->m+f=n->Q n s->(kas_asc (List.toArray (Lb n)) f m).kasWp a Q s
 | 0,m,_,h,q=>by
  have:m=n:=by omega
  subst this;exact q
 | f+1,m,h1,h,q=>by
  have g:(List.toArray (Lb n)).getD m 0=m:=by simp[Array.getD];omega
  have e:(List.toArray (Lb n)).getD (m - 1) 0=m - 1:=by simp[Array.getD];omega
  show a _ _ (λ b d=>(if b=true then KasT.ret m else kas_asc _ f (m+1)).kasWp a Q d) s;rw[g,e];obtain⟨i,rfl⟩:∃i,m=i+1:=⟨m - 1,by omega⟩;refine c i KE _ ?_;rw[g9 B5];exact su c f (i+2) KE KE q
def minT(x:Ma)(g:s.heap.IsTuple l vs.toArray)(i:IntsAre vs c)(r:c≠[])
  (h:∀n M (t:Tok) f,(∀b o,s.heap.get? b=some o->n.get? b=some o)->M∈c->(∀a∈c,M<=a)->Q (.int M t) {s with heap:=n,toks:=f}):wpAny KN A (call (.builtin "min") [.ref l]) Q E s:=by
 obtain⟨d,e⟩:=i.allInts.items;have en:c=d.toList.map (·.1):=by rw[←i.numsOf,←du,←e]
 have p:0<d.size:=by
  have q:=fI.mpr r
  rwa [en,g8,C2]at q
 rw[e]at g;refine BK x g p λ v y f q k=>?_
 obtain⟨t,B⟩:=bF q;subst B;obtain⟨g1,z⟩:=argBest_lt (numAt d) (d.size - 1);refine h y _ t f k ?_ λ a m=>?_
 ·rw[en,Z3];exact ie Mn
 ·rw[en]at m;obtain⟨j,u,C⟩:=mem_getD m;subst C;rw[g8,C2]at u;rw[←Z3];exact z j KE
def maxT(r:Ma)(f:s.heap.IsTuple l vs.toArray)(g:IntsAre vs c)(n:c≠[])
  (h:∀h' M (t:Tok) tk,LN->M∈c->(∀a∈c,a<=M)->Q (.int M t) {s with heap:=h',toks:=tk}):wpAny KN A (call (.builtin "max") [.ref l]) Q E s:=by
 obtain⟨d,e⟩:=g.allInts.items;have en:c=d.toList.map (·.1):=by rw[←g.numsOf,←du,←e]
 have m:0<d.size:=by
  have q:=fI.mpr n
  rwa [en,g8,C2]at q
 rw[e]at f;refine BL r f m λ v u tk q k=>?_
 obtain⟨t,y⟩:=bF q;subst y;obtain⟨g1,x⟩:=argBest_gt (numAt d) (d.size - 1);refine h u _ t tk k ?_ λ a i=>?_
 ·rw[en,Z3];exact ie (by rw[g8,C2];omega)
 ·rw[en]at i;obtain⟨j,p,z⟩:=mem_getD i;subst z;rw[g8,C2]at p;rw[←Z3];exact x j KE
def BM(o:Mk):A9 X (.builtin "min") (λ c H Q=>∃(a:Ku) (b:on Int),c=[.ref a]/\SqT X.K H a (b.map V.int)/\b≠[]/\∀M,M∈b->(∀x∈b,M<=x)->Q (.int M) H):=by
 intro d s σ H c us Q I r h;obtain⟨a,b,rfl,n,m,q⟩:=h;obtain⟨u,rfl,f⟩:=K8 r;cases f;obtain⟨l,e,g,_⟩:=I.tuple n;exact minT (I.ok.hd o) g (aS e) m λ h' M t tk k j i=>⟨.int M,H,I.kept k,⟨t,rfl⟩,q M j i⟩
def BN(m:Mk):A9 X (.builtin "max") (λ c H Q=>∃(a:Ku) (b:on Int),c=[.ref a]/\SqT X.K H a (b.map V.int)/\b≠[]/\∀M,M∈b->(∀x∈b,x<=M)->Q (.int M) H):=by
 intro d s σ H c us Q I r h;obtain⟨a,b,rfl,l,j,q⟩:=h;obtain⟨u,rfl,r1⟩:=K8 r;cases r1;obtain⟨i,rv,e,_⟩:=I.tuple l;exact maxT (I.ok.hd m) e (aS rv) j λ h' M t tk k g f=>⟨.int M,H,I.kept k,⟨t,rfl⟩,q M g f⟩
def TrAt(h:Kv)(v:Ks)(p:Int×Int×Int):Prop:=∃a o n t1 t2 t3,v=.ref a/\h.get? a=some o/\o.cls=.type "tuple" /\ o.data=.seq #[.int p.1 t1,.int p.2.1 t2,.int p.2.2 t3] n
noncomputable def J9(h:Kv):on Ks->on (Int×Int×Int)->Prop
 | [],[]=>True
 | v::vs,p::ps=>TrAt h v p/\J9 h vs ps
 | _,_=>False
noncomputable def lH:on Ks->on Ku
 | []=>[]
 | .ref a::vs=>a::lH vs
 | _::vs=>lH vs
theorem J9.len:∀{vs:on Ks} {ps:on (Int×Int×Int)},J9 h vs ps->vs.length=ps.length
 | [],[],_=>rfl
 | _::_,_::_,x=>by rw[x9,x9,x.2.len]
 | [],_::_,x=>x.elim
 | _::_,[],x=>x.elim
theorem J9.keep:∀{vs:on Ks} {ps:on (Int×Int×Int)},J9 h vs ps->(∀b∈lH vs,∀o,h.get? b=some o->h'.get? b=some o)->J9 h' vs ps
 | [],[],_,_=>trivial
 | _::_,_::_,x,k=>by obtain⟨⟨a,o,n,i,g,f,rfl,e,c,d⟩,y⟩:=x;exact⟨⟨a,o,n,i,g,f,rfl,k a (o5 ..) o e,c,d⟩,y.keep λ b j=>k b (o4 _ j)⟩
 | [],_::_,x,_=>x.elim
 | _::_,[],x,_=>x.elim
theorem J9.get:∀{vs:on Ks} {ps:on (Int×Int×Int)} {i:Nat} {v:Ks},J9 h vs ps->vs[i]? = some v->TrAt h v (ps.getD i (0,0,0))
 | [],[],_,_,_,e=>by simp at e
 | _::_,_::_,0,_,x,e=>by have:=D5 e;subst this;exact x.1
 | _::_,_::_,i+1,_,x,e=>x.2.get (Lq e)
 | [],_::_,_,_,x,_=>x.elim
 | _::_,[],_,_,x,_=>x.elim
noncomputable def TrsV(K:KC)(H:Hp):on V->on (Int×Int×Int)->Prop
 | [],[]=>True
 | v::vs,p::ps=>(∃a,v=.ref a/\SqT K H a [.int p.1,.int p.2.1,.int p.2.2])/\TrsV K H vs ps
 | _,_=>False
def BO(h:Vals [x,y,z] a):∃u v w,a=[u,v,w]/\RelV x u/\RelV y v/\RelV z w:=by
 cases h with
 | cons r t=>
  obtain⟨v,w,rfl,c,b⟩:=dM t;exact⟨_,v,w,rfl,r,c,b⟩
theorem TrsV.at(I:KR c):∀{vs:on V} {ps:on (Int×Int×Int)} {b:on Ks},TrsV X.K H vs ps->Vals vs b->J9 s.heap b ps
 | [],[],b,_,r=>by cases r;exact trivial
 | _::_,p::ps,b,x,r=>by
  obtain⟨⟨a,rfl,j⟩,i⟩:=x;cases b with
  | nil=>cases r
  | cons u us=>
   cases r;rename_i r1 h;cases r1;obtain⟨d,g,⟨o,m,l,n,k⟩,_⟩:=I.tuple j;obtain⟨u1,u2,u3,rfl,⟨t,rfl⟩,⟨f,rfl⟩,⟨e,rfl⟩⟩:=BO g;exact⟨⟨a,o,n,t,f,e,rfl,m,l,k⟩,i.at I h⟩
 | [],_::_,_,x,_=>x.elim
 | _::_,[],_,x,_=>x.elim
theorem sw:∀{ps:on (Int×Int×Int)} {i:Nat},X3 ps=true->i+1<ps.length->ltT (ps.getD (i+1) (0,0,0)) (ps.getD i (0,0,0))=false
 | [],_,_,h=>by simp at h
 | [_],_,_,h=>by simp at h
 | p::q::r,i,b,h=>by
  have a:(ltT p q&&X3 (q::r))=true:=b;rw[f7]at a;cases i with
  | zero=>
   show ltT q p=false;have:=a.1;unfold ltT at this ⊢;simp only[D8,M3,f7,h8]at this;simp only[M0,js,Bool.and_eq_false_iff,x8];omega
  | succ i=>exact sw (ps:=q::r) a.2 (Lq h)
theorem sx:∀(f n r:Nat),r<=1->minRun' f n r<=n+r
 | 0,n,r,_=>i9 _
 | f+1,n,r,h=>by
  rw[minRun'_succ];split
  ·exact i9 _
  ·refine i7 (sx f (n/2) _ KE) ?_;omega
def BP(f:TrAt s.heap u p)(hv:TrAt s.heap v q)(h:Q (ltT p q) s):wpAny KN A (keyLt' (tuples' true) u v) Q E s:=by
 obtain⟨a,oa,na,t1,t2,t3,rfl,i,ca,k⟩:=f;obtain⟨b,ob,nb,u1,u2,u3,rfl,g,cb,j⟩:=hv;refine kat_lt i k g j ?_;show KatLex prog w A true _ Q _ 0 s;unfold ltT at h;refine kat_cons (fT ?_);by_cases d:p.1=q.1
 ·rw[h8.mpr d];rw[B8 KE,h8.mpr d,kg,bD]at h;refine kat_yes (kat_cons (fT ?_));by_cases c:p.2.1=q.2.1
  ·rw[h8.mpr c];rw[B8 KE,h8.mpr c,kg,bD]at h;refine kat_yes (kat_cons (fT ?_));by_cases e:p.2.2=q.2.2
   ·rw[h8.mpr e];rw[B8 KE]at h;exact kat_yes (kat_nil h)
   ·rw[x8.mpr e];refine kat_no ?_;show wpAny _ A _ Q _ s;exact kat_one _ _ (wpAny_lt_int h)
  ·rw[x8.mpr c];rw[x8.mpr c,di,gk]at h;refine kat_no ?_;show wpAny _ A _ Q _ s;exact kat_one _ _ (wpAny_lt_int h)
 ·rw[x8.mpr d];rw[x8.mpr d,di,gk]at h;refine kat_no ?_;show wpAny _ A _ Q _ s;exact oneLt_int h
def BQ(h2:2<=n)(h:∀i,i+1<n->∀C:Bool->Kt->Prop,C false s->kas_cmp prog w A κ it (i+1) i C s)
  (q:∀a,arrOf a=(List.toArray (Lb n)).map (kas_item it)->failedOf a=none->Q () a s):kasC KN A E sortRuns' Q (kas_st κ it (List.toArray (Lb n))) s:=by
 have c:(List.toArray (Lb n)).size=n:=by simp
 have f:(kas_count n (List.toArray (Lb n))).kasWp (kas_cmp prog w A κ it) (λ r b=>r=(n,List.toArray (Lb n))/\b=s) s:=(by unfold kas_count;rw[KasT.kasWp_bind];refine su h _ 1 (i9 _) KE ?_;show(if(n==n)=true then KasT.ret (n,List.toArray (Lb n))else _).kasWp _ _ s;rw[f8 (R4 n)];exact⟨rfl,rfl⟩);obtain⟨r,rfl⟩:∃r,n=r+2:=⟨n - 2,by omega⟩;rw[sortRuns'_eq];refine kasC_bind (kasC_get ?_);have e:(arrOf (kas_st κ it (List.toArray (Lb (r+2))))).size=r+2:=by show((List.toArray (Lb (r+2))).map (kas_item it)).size=_;rw[Array.size_map,c]
 have d:=Nat.not_lt.mpr (sx (r+2) (r+2) 0 KE);dsimp only;rw[e];generalize minRun' (r+2) (r+2) 0=M at d ⊢;refine kasC_bind (kasC_range ?_);show kasC _ _ _ _ _ _ _;refine kasC_cons ?_;dsimp only;rw[g9 KE];simp only[Nat.sub_zero,gw];refine kasC_bind (kas_count_ KE (by rw[c];exact i9 _) (λ m p' b _ _ _ g=>?_) f);obtain⟨j,rfl⟩:=g;obtain⟨rfl,rfl⟩:=gz j;dsimp only;rw[g9 d];refine kasC_bind (kasC_get ?_);rw[show(pendingOf _).back? = none from rfl];dsimp only;refine kasC_bind (kasC_modify (kasC_pure (kasC_cons ?_)));dsimp only;rw[f8 (i9 _)];refine kasC_pure (kasC_bind (kasC_range ?_));show kasC _ _ _ _ _ _ _;refine kasC_cons (kasC_bind (kasC_get ?_));rw[f8 (show(pendingOf (setPending (kas_st κ it (List.toArray (Lb (r+2)))) ((pendingOf (kas_st κ it (List.toArray (Lb (r+2))))).push (0,r+2,0)))).size<=1 from i9 1)];exact kasC_pure (kasC_pure (q _ rfl rfl))
def J9.keepNe(j:h.get? a=some (seqObj "list" xs n))(k:∀b o,b≠a->h.get? b=some o->h'.get? b=some o)(x:J9 h vs ps):J9 h' vs ps:=by
 induction vs generalizing ps with
 | nil=>cases ps with | nil=>trivial | cons _ _=>exact x.elim
 | cons v vs i=>
  cases ps with
  | nil=>exact x.elim
  | cons p ps=>
   obtain⟨⟨b,o,m,g,f,e,q,c,d,l⟩,y⟩:=x;refine⟨⟨b,o,m,g,f,e,q,k b o (λ z=>?_) c,d,l⟩,i y⟩;subst z;rw[j]at c;cases c;exact absurd d (by intro z;injection z with z;exact absurd z KL)
def J9.tups(x:J9 h vs ps):∃fs,KatTups h vs fs/\fs.length=vs.length/\∀v∈fs,∃i t,v=Value.int i t:=by
 induction vs generalizing ps with
 | nil=>exact⟨[],trivial,rfl,λ _ h=>nomatch h⟩
 | cons v vs f=>
  cases ps with
  | nil=>exact x.elim
  | cons p ps=>
   obtain⟨⟨a,o,n,b,t2,t3,rfl,k,j,g⟩,y⟩:=x;obtain⟨fs,e,d,c⟩:=f y;refine⟨.int p.1 b::fs,KatTups.cons k j g rfl e,by rw[x9,x9,d],λ v hv=>?_⟩;rcases i6.mp hv with q | q
   ·exact⟨_,_,q⟩
   ·exact c v q
def BR(x:s.heap.get? a=some (seqObj "list" vs.toArray n))(J:J9 s.heap vs ps)(S:X3 ps=true)(hz:ps.length<=1000)
  (h:P (.done (.ret .none)) {s with heap:=sortedHeap s.heap a vs vs.toArray}):wpAny KN A (Builtin.«list.sort» ⟨[.ref a],[]⟩) P E s:=by
 have hl:=J.len;rw[list_sort_plain];have K:a<s.heap.objs.size:=k9 x;refine f0 (kq x rfl ?_);refine f0 (gm x rfl ?_ (by rw[v5,R6];omega) (D9 _));obtain⟨H,u⟩:∃H,(s.heap.update a (Obj.mapSeq λ _=>(#[]:Kx Ks))).get? a=some (seqObj "list" #[] H):=⟨_,get?_update_seq x λ _=>#[]⟩;refine f0 (seqEpoch_at u rfl ?_);refine f0 (ke ?_ (by show vs.length<=_;rw[R6];omega));refine f0 (gl ?_ (D9 _));refine F9 ?_;have keep:∀b o,b≠a->s.heap.get? b=some o->((Ld).push LP).get? b=some o:=λ b o X e=>by have y:=k9 e;rw[bv _ _ _ (by rw[bH,cX];exact q9 (N6 y)),bv _ _ _ (by rw[cX];exact q9 y),Heap.get?_update_ne _ _ _ _ X];exact e
 have m:((Ld).push LP).get? a=some (seqObj "list" #[] H):=(by rw[bv _ _ _ (by rw[bH,cX];exact q9 (N6 K)),bv _ _ _ (by rw[cX];exact q9 K)];exact u);show wpAny KN A _ P E {s with heap:=(Ld).push LP};dsimp only;have I:(vs.toArray.zip vs.toArray).map (·.2)=vs.toArray:=by apply Array.ext KS;intro i h1 h2;simp
 by_cases k:vs.toArray.size<2
 ·rw[f8 k,f8 k];refine f0 (f9 ?_);rw[StateT.run_pure];refine f0 (f9 ?_);dsimp only;refine f0 (seqEpoch_at m rfl ?_);rw[I];refine f0 (gm m rfl ?_ (D9 _) (by rw[v5,R6];omega));simp only[Y6,Q8,if_false];exact f9 h
 rw[g9 k,g9 k];rw[v5]at k;have q:=J.keepNe x keep;obtain⟨fs,R,k2,O⟩:=q.tups;refine f0 (kat_kind (T:=.type "int") R KE (λ v hv=>?_) rfl ?_)
 ·obtain⟨i,t,rfl⟩:=O v hv;exact .now
 have F:=kas_range (vs.toArray.zip vs.toArray);rw[show(vs.toArray.zip vs.toArray).size=vs.length by simp]at F;have run:=BQ (prog:=prog) (w:=w) (A:=A) (E:=E) (κ:=tuples' true) (n:=vs.length)
  (Q:=λ _ l z=>arrOf l=vs.toArray.zip vs.toArray/\failedOf l=none/\z = {s with heap:=(Ld).push LP})
  KE (λ i W C Y=>by
   have Z:=congrFun (congrFun (congrFun (congrFun (kat_ask_eq (prog:=prog) (w:=w) (A:=A) (κ:=tuples' true) (ks:=vs) (vs:=vs) rfl) (i+1)) i) C) {s with heap:=(Ld).push LP};rw[←Z];have L:∀j,j<vs.length->TrAt ((Ld).push LP) (vs.getD j .none) (ps.getD j (0,0,0)):=λ j U=>q.get (by rw[u8,m7 U];rfl);show wpAny KN A _ C (λ _ _=>False) _;refine BP (L _ W) (L _ KE) ?_;rw[sw S KE];exact Y) (λ l N M=>⟨N.trans F,M,rfl⟩)
 have B:SortSt.mk' (tuples' true) (vs.toArray.zip vs.toArray) #[] 7 none=kas_st (tuples' true) (vs.toArray.zip vs.toArray) (List.toArray (Lb vs.length)):=(by show SortSt.mk' _ _ #[] 7 none=SortSt.mk' _ _ #[] 7 none;rw[F]);have p:wpAny KN A (sortRuns'.run (SortSt.mk' (tuples' true) (vs.toArray.zip vs.toArray) #[] 7 none)) (λ r z=>arrOf r.2=vs.toArray.zip vs.toArray/\failedOf r.2=none/\z = {s with heap:=(Ld).push LP}) E {s with heap:=(Ld).push LP}:=(by rw[B];exact run);refine f0 (B4 p ?_ λ _ _ e=>e)
 ·rintro⟨⟨⟩,l⟩ z ⟨har,hf,rfl⟩
  dsimp only;refine f0 (seqEpoch_at m rfl ?_);dsimp only at har hf;rw[har,I];refine f0 (gm m rfl ?_ (D9 _) (by rw[v5,R6];omega));rw[hf];simp only[Y6,Q8,if_false];exact f9 h
def BS(j:s.heap.IsList l vs.toArray)(f:J9 s.heap vs ps)(g:X3 ps=true)(i:ps.length<=1000)
  (h:∀h' p e,LN->s.heap.objs.size<=p->h'.get? p=some (seqObj "list" vs.toArray e)->Q (.ref p) {s with heap:=h'}) :
  wpAny KN A (call (.builtin "sorted") [.ref l]) Q E s:=by
 have hz:=f.len;refine pH kind_sorted plain_sorted entry_sorted (args_sorted1 _) ?_
 unfold Builtin.«sorted»;refine f0 (f9 ?_);refine f0 (collect_list j ?_ (by rw[R6];omega));refine f0 (gl ?_ (by rw[R6];omega));have c:((s.heap.push LP).update s.heap.objs.size (Obj.mapSeq (· ++ vs.toArray))).objs.size=s.heap.objs.size+1:=(by rw[cX,bH]);have d:(((s.heap.push LP).update s.heap.objs.size (Obj.mapSeq (· ++ vs.toArray))).push (seqObj "list" vs.toArray 0)).get? (s.heap.objs.size+1)=some (seqObj "list" vs.toArray 0):=(by rw[←c];exact r9 _ rfl);have keep:∀b o,s.heap.get? b=some o->(((s.heap.push LP).update s.heap.objs.size (Obj.mapSeq (· ++ vs.toArray))).push (seqObj "list" vs.toArray 0)).get? b=some o:=λ b o q=>by have a:=k9 q;rw[bv _ _ _ (by rw[c];exact q9 (N6 a)),Heap.get?_update_ne _ _ _ _ (q9 a),bv _ _ _ (q9 a)];exact q
 show wpAny _ _ _ _ _ {s with heap:=((s.heap.push LP).update s.heap.objs.size (Obj.mapSeq (· ++ vs.toArray))).push _};rw[c];refine f0 (F9 (G3 slot_list_sort ⟨_,d,rfl⟩ entry_list_sort (BR d (f.keep λ b _ o q=>keep b o q) g i ⟨_,rfl,?_⟩) (args_list_sort _)));refine f9 ⟨_,rfl,?_⟩;obtain⟨e,k⟩:=sortedHeap_at d;refine h _ _ e (λ b o q=>?_) (aM _) k;have a:=k9 q;rw[sortedHeap_old (q9 (N6 a)) (by rw[bH,c];exact N6 (N6 a))];exact keep b o q
def BU:A9 X (.builtin "sorted") (λ f H Q=>∃(a:Ku) (vs:on V) (ps:on (Int×Int×Int)),f=[.ref a]/\SqL X.K H a vs/\TrsV X.K H vs ps/\X3 ps=true/\ps.length<=1000/\∀q,H q=none->Q (.ref q) (upd H q (Lw vs))):=by
 intro i s σ H f us Q I r h;obtain⟨a,vs,ps,rfl,o,p,n,m,q⟩:=h;obtain⟨u,rfl,r1⟩:=K8 r;cases r1;obtain⟨d,g,l,j⟩:=I.list o;refine BS l.isList (p.at I g) n m λ w c e k b v=>?_
 have ok:u6 X.prog X.w (upd H c (Lw vs)) w c (.lst vs):=⟨j,d,e,g,v⟩;exact⟨.ref c,_,I.laid k b ok,rfl,q c (I.hok.fresh b)⟩
def sumL(m:Ma)(f:s.heap.IsList l vs.toArray)(g:IntsAre vs d)
  (h:∀a c t,(∀b o,s.heap.get? b=some o->a.get? b=some o)->Q (.int d.sum t) {s with heap:=a,toks:=c}):wpAny KN A (call (.builtin "sum") [.ref l]) Q E s:=by
 obtain⟨i,e⟩:=g.allInts.items;have en:d=i.toList.map (·.1):=by rw[←g.numsOf,←du,←e]
 rw[e]at f;refine sum_intListG m f λ a c j k=>?_
 have:=h a c j k;rw[preSum_eq,ju KS];rw[en]at this;exact this
def BV(l:Mk):A9 X (.builtin "sum") (λ c H Q=>∃(a:Ku) (b:on Int),c=[.ref a]/\SqL X.K H a (b.map V.int)/\Q (Li b.sum) H):=by
 intro d s σ H c us Q I r h;obtain⟨a,b,rfl,j,q⟩:=h;obtain⟨u,rfl,f⟩:=K8 r;cases f;obtain⟨i,e,g,_⟩:=I.list j;exact sumL (I.ok.hd l) g.isList (aS e) λ h' tk t k=>⟨.int _,H,I.kept k,⟨t,rfl⟩,q⟩
noncomputable section
open PySem
structure Sg where
 N:List Str
 sc:List (Str×NameKind)
 fn:List Str
 bl:List Str
 cl:List Str
 top:Bool
 lp:Bool
 co:Arguments->List Stmt->Scope->List Str->Bool
noncomputable def noCo:KG->on KB->KD->on Str->Bool:=λ _ _ _ _=>false
def u7:Kw->Bool | .Starred _ _=>true | _=>false
def U8:Kw->Bool | .Slice _ _ _ _=>true | _=>false
def K0:Kw->Bool | .Set _ _ _=>true | _=>false
noncomputable def aT:Kw->Bool | .ListComp _ _ _ _=>true | .SetComp _ _ _ _=>true | .DictComp _ _ _ _ _=>true | _=>false
noncomputable def any1{α:Type}(o:Kr α)(f:α->Bool):Bool:=o.rec false f
def B9(h:any1 o f=true):∃a,o=some a/\f a=true:=by
 cases o with
 | none=>cases h
 | some a=>exact⟨a,rfl,h⟩
@[elab_as_elim] def Z9{o:Kr b}(h:any1 o f=true){C:Kr b->Prop}(k:∀a,f a=true->C (some a)):C o:=let ⟨_,q,h⟩:=B9 h;Eq.mpr (congrArg C q) (k _ h)
noncomputable def inNo{α:Type}(o:Kr α)(f:Bool):Bool:=o.rec f λ _=>false
@[elab_as_elim] def M9{o:Kr b}(h:inNo o f=true){C:Kr b->Prop}(k:f=true->C none):C o:=by
 cases o with
 | none=>exact k h
 | some a=>cases h
noncomputable def in0{α:Type}(l:on α)(f:Bool):Bool:=l.rec f λ _ _ _=>false
@[elab_as_elim] def G1{l:on b}(h:in0 l f=true){C:on b->Prop}(k:f=true->C []):C l:=by
 cases l with
 | nil=>exact k h
 | cons a r=>cases h
noncomputable def inC{α:Type}(l:on α)(f:α->on α->Bool):Bool:=l.rec false λ a r _=>f a r
@[elab_as_elim] def sy{f:b->on b->Bool}(h:inC l f=true){C:on b->Prop}(k:∀a r,f a r=true->C (a::r)):C l:=by
 cases l with
 | nil=>cases h
 | cons a r=>exact k a r h
def in1{α:Type}(l:on α)(f:α->Bool):Bool:=inC l λ a r=>in0 r (f a)
@[elab_as_elim] def S4{f:b->Bool}(h:in1 l f=true){C:on b->Prop}(k:∀a,f a=true->C [a]):C l:=sy h λ a _ h=>G1 h (k a)
def BW(h:in1 l f=true):∃a,l=[a]/\f a=true:=S4 h λ a h=>⟨a,rfl,h⟩
def in2{α:Type}(l:on α)(f:α->α->Bool):Bool:=inC l λ a r=>in1 r (f a)
@[elab_as_elim] def aa{f:c->c->Bool}(h:in2 l f=true){C:on c->Prop}(k:∀a b,f a b=true->C [a,b]):C l:=sy h λ a _ h=>S4 h (k a)
noncomputable def sA(e:Kw):Kr {t:Str×Pos // e=.Name t.1 t.2}:=match e with | .Name x p=>some ⟨(x,p),rfl⟩ | _=>none
@[irreducible] def K1(e:Kw)(f:Str->Bool):Bool:=any1 (sA e) λ t=>f t.1.1
@[elab_as_elim] def G9(h:K1 e g=true){C:Kw->Prop}(k:∀x p,g x=true->C (Mo p)):C e:=by
 unfold K1 at h;exact let ⟨t,_,h⟩:=B9 h;Eq.mpr LK (k _ _ h)
noncomputable def BX(e:Kw):Kr {t:Const×Nat×Pos // e=.Constant t.1 t.2.1 t.2.2}:=match e with | .Constant x k p=>some ⟨(x,k,p),rfl⟩ | _=>none
noncomputable def sB(e:Kw):Kr {t:Kw×Operator×Kw×Pos // e=.BinOp t.1 t.2.1 t.2.2.1 t.2.2.2}:=match e with | .BinOp a o b p=>some ⟨(a,o,b,p),rfl⟩ | _=>none
@[irreducible] def lI(e:Kw)(f:Kw->Operator->Kw->Bool):Bool:=any1 (sB e) λ t=>f t.1.1 t.1.2.1 t.1.2.2.1
@[elab_as_elim] def sC(h:lI e g=true){C:Kw->Prop}(k:∀a o b p,g a o b=true->C (.BinOp a o b p)):C e:=by
 unfold lI at h;exact let ⟨t,_,h⟩:=B9 h;Eq.mpr LK (k _ _ _ _ h)
noncomputable def BY(e:Kw):Kr {t:UnaryOp×Kw×Pos // e=.UnaryOp t.1 t.2.1 t.2.2}:=match e with | .UnaryOp o a p=>some ⟨(o,a,p),rfl⟩ | _=>none
@[irreducible] def inUn(e:Kw)(f:UnaryOp->Kw->Bool):Bool:=any1 (BY e) λ t=>f t.1.1 t.1.2.1
@[elab_as_elim] def ig(h:inUn e g=true){C:Kw->Prop}(k:∀o a p,g o a=true->C (.UnaryOp o a p)):C e:=by
 unfold inUn at h;exact let ⟨t,_,h⟩:=B9 h;Eq.mpr LK (k _ _ _ h)
noncomputable def BZ(e:Kw):Kr {t:Kw×(on CmpOp)×(on Kw)×Pos // e=.Compare t.1 t.2.1 t.2.2.1 t.2.2.2}:=match e with | .Compare a os bs p=>some ⟨(a,os,bs,p),rfl⟩ | _=>none
@[irreducible] def ii(e:Kw)(f:Kw->(on CmpOp)->(on Kw)->Bool):Bool:=any1 (BZ e) λ t=>f t.1.1 t.1.2.1 t.1.2.2.1
@[elab_as_elim] def sE(h:ii e g=true){C:Kw->Prop}(k:∀a b bs p,g a b bs=true->C (.Compare a b bs p)):C e:=by
 unfold ii at h;exact let ⟨t,_,h⟩:=B9 h;Eq.mpr LK (k _ _ _ _ h)
noncomputable def Ca(e:Kw):Kr {t:BoolOp×(on Kw)×Pos // e=.BoolOp t.1 t.2.1 t.2.2}:=match e with | .BoolOp o es p=>some ⟨(o,es,p),rfl⟩ | _=>none
@[irreducible] def ij(e:Kw)(f:BoolOp->(on Kw)->Bool):Bool:=any1 (Ca e) λ t=>f t.1.1 t.1.2.1
@[elab_as_elim] def ik(h:ij e g=true){C:Kw->Prop}(k:∀o a p,g o a=true->C (.BoolOp o a p)):C e:=by
 unfold ij at h;exact let ⟨t,_,h⟩:=B9 h;Eq.mpr LK (k _ _ _ h)
noncomputable def Cb(e:Kw):Kr {t:(on Kw)×Pos // e=.List t.1 t.2}:=match e with | .List es p=>some ⟨(es,p),rfl⟩ | _=>none
@[irreducible] def lJ(e:Kw)(f:(on Kw)->Bool):Bool:=any1 (Cb e) λ t=>f t.1.1
@[elab_as_elim] def sF(h:lJ e g=true){C:Kw->Prop}(k:∀a p,g a=true->C (.List a p)):C e:=by
 unfold lJ at h;exact let ⟨t,_,h⟩:=B9 h;Eq.mpr LK (k _ _ h)
noncomputable def sG(e:Kw):Kr {t:(on Kw)×Nat×Pos // e=.Tuple t.1 t.2.1 t.2.2}:=match e with | .Tuple es k p=>some ⟨(es,k,p),rfl⟩ | _=>none
@[irreducible] def im(e:Kw)(f:(on Kw)->Bool):Bool:=any1 (sG e) λ t=>f t.1.1
@[elab_as_elim] def lK(h:im e g=true){C:Kw->Prop}(k:∀a k p,g a=true->C (.Tuple a k p)):C e:=by
 unfold im at h;exact let ⟨t,_,h⟩:=B9 h;Eq.mpr LK (k _ _ _ h)
noncomputable def Cc(e:Kw):Kr {t:Kw×Kw×Pos // e=.Subscript t.1 t.2.1 t.2.2}:=match e with | .Subscript a b p=>some ⟨(a,b,p),rfl⟩ | _=>none
@[irreducible] def U9(e:Kw)(f:Kw->Kw->Bool):Bool:=any1 (Cc e) λ t=>f t.1.1 t.1.2.1
@[elab_as_elim] def K2(h:U9 e g=true){C:Kw->Prop}(k:∀a b p,g a b=true->C (.Subscript a b p)):C e:=by
 unfold U9 at h;exact let ⟨t,_,h⟩:=B9 h;Eq.mpr LK (k _ _ _ h)
noncomputable def Cd(e:Kw):Kr {t:(Kr Kw)×(Kr Kw)×(Kr Kw)×Pos // e=.Slice t.1 t.2.1 t.2.2.1 t.2.2.2}:=match e with | .Slice a b c p=>some ⟨(a,b,c,p),rfl⟩ | _=>none
@[irreducible] def eA(e:Kw)(f:(Kr Kw)->(Kr Kw)->(Kr Kw)->Bool):Bool:=any1 (Cd e) λ t=>f t.1.1 t.1.2.1 t.1.2.2.1
@[elab_as_elim] def lL(h:eA e g=true){C:Kw->Prop}(k:∀a b c p,g a b c=true->C (.Slice a b c p)):C e:=by
 unfold eA at h;exact let ⟨t,_,h⟩:=B9 h;Eq.mpr LK (k _ _ _ _ h)
noncomputable def Cf(e:Kw):Kr {t:Kw×(on Kw)×(on Keyword)×Pos // e=.Call t.1 t.2.1 t.2.2.1 t.2.2.2}:=match e with | .Call f as ks p=>some ⟨(f,as,ks,p),rfl⟩ | _=>none
@[irreducible] def io(e:Kw)(f:Kw->(on Kw)->(on Keyword)->Pos->Bool):Bool:=any1 (Cf e) λ t=>f t.1.1 t.1.2.1 t.1.2.2.1 t.1.2.2.2
@[elab_as_elim] def sH(h:io e g=true){C:Kw->Prop}(k:∀f as a p,g f as a p=true->C (.Call f as a p)):C e:=by
 unfold io at h;exact let ⟨t,_,h⟩:=B9 h;Eq.mpr LK (k _ _ _ _ h)
noncomputable def Cg(e:Kw):Kr {t:Kw×Str×Pos // e=.Attribute t.1 t.2.1 t.2.2}:=match e with | .Attribute a n p=>some ⟨(a,n,p),rfl⟩ | _=>none
@[irreducible] def aU(e:Kw)(f:Kw->Str->Pos->Bool):Bool:=any1 (Cg e) λ t=>f t.1.1 t.1.2.1 t.1.2.2
@[elab_as_elim] def eB(h:aU e g=true){C:Kw->Prop}(k:∀a n p,g a n p=true->C (.Attribute a n p)):C e:=by
 unfold aU at h;exact let ⟨t,_,h⟩:=B9 h;Eq.mpr LK (k _ _ _ h)
noncomputable def Ch(e:Kw):Kr {t:Kw×(on Comprehension)×KD×Pos // e=.ListComp t.1 t.2.1 t.2.2.1 t.2.2.2}:=match e with | .ListComp x gs sc p=>some ⟨(x,gs,sc,p),rfl⟩ | _=>none
@[irreducible] def lM(e:Kw)(f:Kw->(on Comprehension)->KD->Bool):Bool:=any1 (Ch e) λ t=>f t.1.1 t.1.2.1 t.1.2.2.1
@[elab_as_elim] def Ci(h:lM e g=true){C:Kw->Prop}(k:∀x a sc p,g x a sc=true->C (.ListComp x a sc p)):C e:=by
 unfold lM at h;exact let ⟨t,_,h⟩:=B9 h;Eq.mpr LK (k _ _ _ _ h)
noncomputable def Cj(e:Kw):Kr {t:(on (Kr Kw))×(on Kw)×Pos // e=.Dict t.1 t.2.1 t.2.2}:=match e with | .Dict ks vs p=>some ⟨(ks,vs,p),rfl⟩ | _=>none
@[irreducible] def iq(e:Kw)(f:(on (Kr Kw))->(on Kw)->Bool):Bool:=any1 (Cj e) λ t=>f t.1.1 t.1.2.1
@[elab_as_elim] def sI(h:iq e g=true){C:Kw->Prop}(k:∀ks vs p,g ks vs=true->C (.Dict ks vs p)):C e:=by
 unfold iq at h;exact let ⟨t,_,h⟩:=B9 h;Eq.mpr LK (k _ _ _ h)
noncomputable def Ck(e:Kw):Kr {t:KG×Kw×KD×Pos // e=.Lambda t.1 t.2.1 t.2.2.1 t.2.2.2}:=match e with | .Lambda pr bd sc p=>some ⟨(pr,bd,sc,p),rfl⟩ | _=>none
@[irreducible] def lN(e:Kw)(f:KG->Kw->KD->Pos->Bool):Bool:=any1 (Ck e) λ t=>f t.1.1 t.1.2.1 t.1.2.2.1 t.1.2.2.2
@[elab_as_elim] def Cm(h:lN e g=true){C:Kw->Prop}(k:∀a b sc p,g a b sc p=true->C (.Lambda a b sc p)):C e:=by
 unfold lN at h;exact let ⟨t,_,h⟩:=B9 h;Eq.mpr LK (k _ _ _ _ h)
noncomputable def Cn(e:KB):Kr {t:(on Kw)×Kw×Pos // e=.Assign t.1 t.2.1 t.2.2}:=match e with | .Assign t v p=>some ⟨(t,v,p),rfl⟩ | _=>none
@[irreducible] def lO(e:KB)(f:(on Kw)->Kw->Pos->Bool):Bool:=any1 (Cn e) λ t=>f t.1.1 t.1.2.1 t.1.2.2
@[elab_as_elim] def Co(h:lO e g=true){C:KB->Prop}(k:∀t v p,g t v p=true->C (.Assign t v p)):C e:=by
 unfold lO at h;exact let ⟨t,_,h⟩:=B9 h;Eq.mpr LK (k _ _ _ h)
noncomputable def Cp(e:KB):Kr {t:Kw×Pos // e=.Expr t.1 t.2}:=match e with | .Expr v p=>some ⟨(v,p),rfl⟩ | _=>none
@[irreducible] def eC(e:KB)(f:Kw->Pos->Bool):Bool:=any1 (Cp e) λ t=>f t.1.1 t.1.2
@[elab_as_elim] def ir(h:eC e g=true){C:KB->Prop}(k:∀v p,g v p=true->C (.Expr v p)):C e:=by
 unfold eC at h;exact let ⟨t,_,h⟩:=B9 h;Eq.mpr LK (k _ _ h)
noncomputable def Cq(e:KB):Kr {t:(Kr Kw)×Pos // e=.Return t.1 t.2}:=match e with | .Return v p=>some ⟨(v,p),rfl⟩ | _=>none
@[irreducible] def lQ(e:KB)(f:(Kr Kw)->Pos->Bool):Bool:=any1 (Cq e) λ t=>f t.1.1 t.1.2
@[elab_as_elim] def Cr(h:lQ e g=true){C:KB->Prop}(k:∀v p,g v p=true->C (.Return v p)):C e:=by
 unfold lQ at h;exact let ⟨t,_,h⟩:=B9 h;Eq.mpr LK (k _ _ h)
noncomputable def Cs(e:KB):Kr {t:Kw×(on KB)×(on KB)×Pos // e=.If t.1 t.2.1 t.2.2.1 t.2.2.2}:=match e with | .If c a b p=>some ⟨(c,a,b,p),rfl⟩ | _=>none
@[irreducible] def lR(e:KB)(f:Kw->(on KB)->(on KB)->Pos->Bool):Bool:=any1 (Cs e) λ t=>f t.1.1 t.1.2.1 t.1.2.2.1 t.1.2.2.2
@[elab_as_elim] def sJ(h:lR e g=true){C:KB->Prop}(k:∀c a b p,g c a b p=true->C (.If c a b p)):C e:=by
 unfold lR at h;exact let ⟨t,_,h⟩:=B9 h;Eq.mpr LK (k _ _ _ _ h)
noncomputable def Cu(e:KB):Kr {t:Kw×Kw×(on KB)×(on KB)×Pos // e=.For t.1 t.2.1 t.2.2.1 t.2.2.2.1 t.2.2.2.2}:=match e with | .For t i b o p=>some ⟨(t,i,b,o,p),rfl⟩ | _=>none
@[irreducible] def lS(e:KB)(f:Kw->Kw->(on KB)->(on KB)->Pos->Bool):Bool:=any1 (Cu e) λ t=>f t.1.1 t.1.2.1 t.1.2.2.1 t.1.2.2.2.1 t.1.2.2.2.2
@[elab_as_elim] def Cv(h:lS e g=true){C:KB->Prop}(k:∀t i b o p,g t i b o p=true->C (.For t i b o p)):C e:=by
 unfold lS at h;exact let ⟨t,_,h⟩:=B9 h;Eq.mpr LK (k _ _ _ _ _ h)
noncomputable def Cw(e:KB):Kr {t:Kw×(on KB)×(on KB)×Pos // e=.While t.1 t.2.1 t.2.2.1 t.2.2.2}:=match e with | .While t b o p=>some ⟨(t,b,o,p),rfl⟩ | _=>none
@[irreducible] def inWh(e:KB)(f:Kw->(on KB)->(on KB)->Pos->Bool):Bool:=any1 (Cw e) λ t=>f t.1.1 t.1.2.1 t.1.2.2.1 t.1.2.2.2
@[elab_as_elim] def Cy(h:inWh e g=true){C:KB->Prop}(k:∀t b o p,g t b o p=true->C (.While t b o p)):C e:=by
 unfold inWh at h;exact let ⟨t,_,h⟩:=B9 h;Eq.mpr LK (k _ _ _ _ h)
def lT(e:Kw)(f:Kw->CmpOp->Kw->Bool):Bool:=ii e λ a os bs=>in1 os λ o=>in1 bs λ b=>f a o b
@[elab_as_elim] def iu(h:lT e f=true){C:Kw->Prop}(k:∀a o b p,f a o b=true->C (.Compare a [o] [b] p)):C e:=sE h λ a _ _ p h=>S4 h λ o h=>S4 h λ b h=>k a o b p h
def sM(e:Kw)(f:Kw->CmpOp->CmpOp->Kw->Kw->Bool):Bool:=ii e λ a os bs=>in2 os λ o o2=>in2 bs λ b c=>f a o o2 b c
@[elab_as_elim] def sN(h:sM e f=true){C:Kw->Prop}(k:∀a o d b c p,f a o d b c=true->C (.Compare a [o,d] [b,c] p)):C e:=sE h λ a _ _ p h=>aa h λ o d h=>aa h λ b c h=>k a o d b c p h
def sO(e:Kw)(f:Kw->Bool):Bool:=eA e λ a b c=>inNo b (inNo c (any1 a f))
@[elab_as_elim] def Cz(h:sO e f=true){C:Kw->Prop}(k:∀x p,f x=true->C (.Slice (some x) none none p)):C e:=lL h λ _ _ _ p h=>M9 h λ h=>M9 h λ h=>Z9 h λ x h=>k x p h
def sP(e:Kw)(f:Kw->Bool):Bool:=eA e λ a b c=>inNo a (inNo c (any1 b f))
@[elab_as_elim] def CA(h:sP e f=true){C:Kw->Prop}(k:∀x p,f x=true->C (.Slice none (some x) none p)):C e:=lL h λ _ _ _ p h=>M9 h λ h=>M9 h λ h=>Z9 h λ x h=>k x p h
def sQ(e:Kw)(f:Kw->Kw->Bool):Bool:=eA e λ a b c=>inNo c (any1 a λ x=>any1 b (f x))
@[elab_as_elim] def CB(h:sQ e f=true){C:Kw->Prop}(k:∀x y p,f x y=true->C (.Slice (some x) (some y) none p)):C e:=lL h λ _ _ _ p h=>M9 h λ h=>Z9 h λ x h=>Z9 h λ y h=>k x y p h
def inCl(e:Kw)(f:Kw->on Kw->Pos->Bool):Bool:=io e λ g as ks p=>in0 ks (f g as p)
@[elab_as_elim] def K3(h:inCl e f=true){C:Kw->Prop}(k:∀g as p,f g as p=true->C (.Call g as [] p)):C e:=sH h λ g as _ p h=>G1 h (k g as p)
def lU(e:Kw)(f:Kw->Pos->Bool):Bool:=inCl e λ g as p=>in0 as (f g p)
@[elab_as_elim] def lV(h:lU e f=true){C:Kw->Prop}(k:∀g p,f g p=true->C (.Call g [] [] p)):C e:=K3 h λ g _ p h=>G1 h (k g p)
def bQ(e:Kw)(f:Kw->Kw->Pos->Bool):Bool:=inCl e λ g as p=>in1 as λ a=>f g a p
@[elab_as_elim] def bR(h:bQ e f=true){C:Kw->Prop}(k:∀g a p,f g a p=true->C (.Call g [a] [] p)):C e:=K3 h λ g _ p h=>S4 h λ a h=>k g a p h
def sR(e:Kw)(f:Kw->Kw->Kw->Pos->Bool):Bool:=inCl e λ g as p=>in2 as λ a b=>f g a b p
@[elab_as_elim] def sS(h:sR e f=true){C:Kw->Prop}(k:∀g a b p,f g a b p=true->C (.Call g [a,b] [] p)):C e:=K3 h λ g _ p h=>aa h λ a b h=>k g a b p h
def sU(e:Kw)(f:Bool):Bool:=iq e λ ks vs=>in0 ks (in0 vs f)
@[elab_as_elim] def CC(h:sU e f=true){C:Kw->Prop}(k:∀p,f=true->C (.Dict [] [] p)):C e:=sI h λ _ _ p h=>G1 h λ h=>G1 h λ h=>k p h
def sV(e:Kw)(f:Kw->Kw->Kw->Kw->Bool):Bool:=iq e λ ks vs=>in2 ks λ a b=>any1 a λ a=>any1 b λ b=>in2 vs λ c d=>f a b c d
@[elab_as_elim] def sW(h:sV e f=true){C:Kw->Prop}(k:∀a b c d p,f a b c d=true->C (.Dict [some a,some b] [c,d] p)):C e:=sI h λ _ _ p h=>aa h λ _ _ h=>Z9 h λ a h=>Z9 h λ b h=>aa h λ c d h=>k a b c d p h
noncomputable def CD(e:KB):Kr {t:Str×KG×on KB×KD×Str×Pos // e=.FunctionDef t.1 t.2.1 t.2.2.1 [] none [] t.2.2.2.1 none t.2.2.2.2.1 t.2.2.2.2.2}:=match e with | .FunctionDef n a b [] none [] sc none bd p=>some ⟨(n,a,b,sc,bd,p),rfl⟩ | _=>none
@[irreducible] def inFd(e:KB)(f:Str->KG->on KB->KD->Str->Bool):Bool:=any1 (CD e) λ t=>f t.1.1 t.1.2.1 t.1.2.2.1 t.1.2.2.2.1 t.1.2.2.2.2.1
@[elab_as_elim] def CF(h:inFd e g=true){C:KB->Prop}(k:∀n a b sc bd p,g n a b sc bd=true->C (.FunctionDef n a b [] none [] sc none bd p)):C e:=by
 unfold inFd at h;exact let ⟨t,_,h⟩:=B9 h;Eq.mpr LK (k _ _ _ _ _ _ h)
def sX(e:Kw)(f:Kw->on Kw->Kr Str->Kw->Bool):Bool:=io e λ g as ks p=>in1 ks λ w=>f g as w.arg w.value
@[elab_as_elim] def CG(h:sX e f=true){C:Kw->Prop}(k:∀g b a v q p,f g b a v=true->C (.Call g b [⟨a,v,q⟩] p)):C e:=sH h λ g b _ p h=>S4 h λ ⟨a,v,q⟩ h=>k g b a v q p h
def inCk(e:Kw)(f:Kw->Kw->Kr Str->Kw->Bool):Bool:=sX e λ g as a v=>in1 as λ b=>f g b a v
@[elab_as_elim] def sY(h:inCk e f=true){C:Kw->Prop}(k:∀g b a v q p,f g b a v=true->C (.Call g [b] [⟨a,v,q⟩] p)):C e:=CG h λ g _ a v q p h=>S4 h λ b h=>k g b a v q p h
def eD(e:KB)(f:Kw->Kw->Pos->Bool):Bool:=lO e λ ts v p=>in1 ts λ t=>f t v p
@[elab_as_elim] def iw(h:eD e f=true){C:KB->Prop}(k:∀t v p,f t v p=true->C (.Assign [t] v p)):C e:=Co h λ _ v p h=>S4 h λ t h=>k t v p h
def iy(e:KB)(f:Kw->Pos->Bool):Bool:=lQ e λ o p=>any1 o λ v=>f v p
@[elab_as_elim] def iz(h:iy e f=true){C:KB->Prop}(k:∀v p,f v p=true->C (.Return (some v) p)):C e:=Cr h λ _ p h=>Z9 h λ v h=>k v p h
def sZ(e:KB)(f:Kw->Kw->on KB->Pos->Bool):Bool:=lS e λ t i b o p=>in0 o (f t i b p)
@[elab_as_elim] def CH(h:sZ e f=true){C:KB->Prop}(k:∀t i b p,f t i b p=true->C (.For t i b [] p)):C e:=Cv h λ t i b _ p h=>G1 h (k t i b p)
noncomputable def CI(e:KB):Kr {t:(Kr Kw)×(Kr Kw)×Pos // e=.Raise t.1 t.2.1 t.2.2}:=match e with | .Raise v k p=>some ⟨(v,k,p),rfl⟩ | _=>none
@[irreducible] def lW(e:KB)(f:(Kr Kw)->(Kr Kw)->Pos->Bool):Bool:=any1 (CI e) λ t=>f t.1.1 t.1.2.1 t.1.2.2
@[elab_as_elim] def CJ(h:lW e g=true){C:KB->Prop}(k:∀v k p,g v k p=true->C (.Raise v k p)):C e:=by
 unfold lW at h;exact let ⟨t,_,h⟩:=B9 h;Eq.mpr LK (k _ _ _ h)
def tj(e:KB)(f:Kw->Pos->Bool):Bool:=lW e λ v k p=>inNo k (any1 v λ v=>f v p)
@[elab_as_elim] def CK(h:tj e f=true){C:KB->Prop}(k:∀v p,f v p=true->C (.Raise (some v) none p)):C e:=CJ h λ _ _ p h=>M9 h λ h=>Z9 h λ v h=>k v p h
def tm(e:KB)(f:Kw->on KB->Pos->Bool):Bool:=inWh e λ t b o p=>in0 o (f t b p)
@[elab_as_elim] def CL(h:tm e f=true){C:KB->Prop}(k:∀t b p,f t b p=true->C (.While t b [] p)):C e:=Cy h λ t b _ p h=>G1 h (k t b p)
def K4(e:Kw):Kr Str:=(sA e).map λ t=>t.1.1
def ae(e:Kw):Kr Const:=(BX e).map λ t=>t.1.1
def S5(e:Kw):Kr (on Kw):=(sG e).map λ t=>t.1.1
def tq(e:Kw):Kr (Kw×Operator×Kw):=(sB e).map λ t=>(t.1.1,t.1.2.1,t.1.2.2.1)
def mpd{o:Kr d}(h:o.map f=some b):∃a,f a=b:=by
 cases o with
 | none=>cases h
 | some a=>cases h;exact⟨a,rfl⟩
def V0(h:K4 e=some x):∃p,e=.Name x p:=let ⟨t,h⟩:=mpd h;⟨_,h▸t.2⟩
def iA(h:ae e=some x):∃k p,e=.Constant x k p:=let ⟨t,h⟩:=mpd h;⟨_,_,h▸t.2⟩
def lX{e:Kw}{es:on Kw}(h:S5 e=some es):∃k p,e=.Tuple es k p:=let ⟨t,h⟩:=mpd h;⟨_,_,h▸t.2⟩
def CM(h:tq e=some (a,o,b)):∃p,e=.BinOp a o b p:=by
 obtain⟨⟨⟨_,_,_,p⟩,z⟩,h⟩:=mpd h;cases h;exact⟨p,z⟩
structure CParts where
 elt:Expr
 tg:Expr
 it:Expr
 ifs:List Expr
 sc:Scope
def inCp(e:Kw)(f:CParts->Bool):Bool:=lM e λ x gs sc=>in1 gs λ g=>decide (g.is_async=0)&&f ⟨x,g.target,g.iter,g.ifs,sc⟩
@[elab_as_elim] def iB(h:inCp e f=true){C:Kw->Prop}(k:∀c p,f c=true->C (.ListComp c.elt [⟨c.tg,c.it,c.ifs,0⟩] c.sc p)):C e:=by
 refine Ci h λ x gs d p h=>S4 h λ ⟨b,g,a,w⟩ h=>?_;obtain⟨i,h⟩:=F7.mp h;obtain rfl:=jO i;exact k ⟨x,b,g,a,d⟩ p h
noncomputable def visB(sg:Sg)(x:Str):Bool:=sg.sc.lookup x==some .local||sg.sc.lookup x==some .cell||sg.sc.lookup x==some .free
noncomputable def gloB(sg:Sg)(x:Str):Bool:=sg.sc.lookup x==some .globalImplicit
noncomputable def locB(sg:Sg)(x:Str):Bool:=sg.sc.lookup x==some .local||sg.sc.lookup x==some .cell
def O5(sg:Sg)(i:Nat)(x:Str):Bool:=sg.N[i]? == some x&&visB sg x&&x != "__debug__" && x != "__classdict__"
def bltB(sg:Sg)(x:Str)(f:Kw):Bool:=K4 f==some x&&gloB sg x&&sg.bl.contains x
noncomputable def CN:Bi->Str
 | .len=>"len" | .min=>"min" | .max=>"max" | .sum=>"sum" | .sset=>"sorted" | .int=>"int" | .tuple=>"tuple" | .list=>"list" | .sorted=>"sorted"
noncomputable def tu:Mt->Str
 | .bitLength=>"bit_length" | .index=>"index" | .get=>"get"
noncomputable def K5(sg:Sg)(tn:on Str)(fr:on (Kr Nat)):on Str:=tn++(fr.drop tn.length).map λ o=>match o with | some i=>sg.N.getD i "" | none=>""
def tw:Tg->Kw->Kr (on Str)
 | .one _,e=>(K4 e).map λ x=>[x]
 | .many is,e=>match S5 e with
  | some es=>if es.length=is.length then es.mapM K4 else none
  | none=>none
def tgOk(sg:Sg):Tg->Kw->Bool
 | .one i,e=>match K4 e with
  | some x=>sg.N[i]? == some x&&locB sg x
  | none=>false
 | .many is,e=>match S5 e with
  | some es=>es.length==is.length&&2<=es.length&&(is.zip es).all λ p=>match K4 p.2 with
   | some x=>sg.N[p.1]? == some x&&locB sg x
   | none=>false
  | none=>false
noncomputable def Q0:on Str->Bool
 | []=>true
 | x::r=>!r.contains x&&Q0 r
def aV:Tg->on Nat
 | .one i=>[i]
 | .many is=>is
def aW(sg:Sg)(N':on Str)(fr:on (Kr Nat))(sc:KD)(tg:Tg):Bool:=(aV tg).all (λ i=>fr[i]? == some none) &&
 sc.kind == .function&&Q0 N'&&Q0 (sc.names.map (·.1))&&fr.length==N'.length &&
 (fr.zip N').all (λ p=>match p.1 with | some i=>sg.N[i]? == some p.2&&sc.names.contains (p.2,.free) | none=>true) &&
 sc.names.all λ y=>if y.2 == .free then sg.sc.lookup y.1==some .cell||sg.sc.lookup y.1==some .free else true
def CO(p:KG)(ps:on Str):Bool:=match p with | ⟨po,ar,va,ko,kd,kw,df⟩=>in0 po (in2 ar λ a b=>inNo va (in0 ko (in0 kd (inNo kw (in0 df (a.arg == "r" && b.arg == "c" && ps==(["r","c"]:on Str)))))))
def CP(p:KG)(ps:on Str):Bool:=match p with | ⟨po,ar,va,ko,kd,kw,df⟩=>in0 po (in1 ar λ a=>inNo va (in0 ko (in0 kd (inNo kw (in0 df ((["way","entry","word"]:on Str).contains a.arg&&ps==[a.arg]))))))
def eE(p:KG)(ps:on Str):Bool:=CO p ps||CP p ps
@[elab_as_elim] def tz(h:eE p ps=true){C:KG->on Str->Prop}(k:∀x y z w,C ⟨[],[⟨"r",x,y⟩,⟨"c",z,w⟩],none,[],[],none,[]⟩ ["r","c"])
  (k1:∀a x y,a∈(["way","entry","word"]:on Str)->C ⟨[],[⟨a,x,y⟩],none,[],[],none,[]⟩ [a]):C p ps:=by
 obtain⟨po,ar,va,ko,kd,kw,df⟩:=p;rcases Bool.or_eq_true_iff.mp h with h | h
 ·refine G1 h λ h=>aa h λ ⟨x,b,p1⟩ ⟨y,c,p2⟩ h=>M9 h λ h=>G1 h λ h=>G1 h λ h=>M9 h λ h=>G1 h λ h=>?_;simp only[f7,h8]at h;obtain⟨⟨rfl,rfl⟩,rfl⟩:=h;exact k b p1 c p2
 ·refine G1 h λ h=>S4 h λ ⟨x,b,p1⟩ h=>M9 h λ h=>G1 h λ h=>G1 h λ h=>M9 h λ h=>G1 h λ h=>?_;simp only[f7,h8,L9]at h;obtain⟨d,rfl⟩:=h;exact k1 x b p1 d
def tA(sg:Sg)(kd:KI)(N:on Str)(np:Nat)(fr:on Nat)(pr:KG)(sc:KD):Bool:=eE pr (N.take np)&&sc.kind == .function && !sc.isCoroutine && !sc.isGenerator&&Q0 N&&Q0 (sc.names.map (·.1))&&decide (N.length=np+fr.length) &&
 (N.take np).all (λ x=>sc.names.lookup x==some .local)&&sc.names.all (λ y=>y.2 != .cell)&&(N.drop np).all (λ x=>sc.names.lookup x==some .free)&&(fr.zip (N.drop np)).all (λ p=>sg.N[p.1]? == some p.2) &&
 sg.sc.lookup o8 != some .cell&&sc.names.all λ y=>if y.2 == .free then sg.sc.lookup y.1==some kd else true
def eF(p:KG)(ps:on Str):Bool:=match p with | ⟨po,ar,va,ko,kd,kw,df⟩=>in0 po (in2 ar λ a b=>inNo a.annotation (inNo b.annotation (inNo va (in0 ko (in0 kd (inNo kw (in0 df (a.arg == "rows" && b.arg == "columns" && ps==(["rows","columns"]:on Str)))))))))
@[elab_as_elim] def tE(h:eF p ps=true){C:KG->on Str->Prop}(k:∀x y,C ⟨[],[⟨"rows",none,x⟩,⟨"columns",none,y⟩],none,[],[],none,[]⟩ ["rows","columns"]):C p ps:=by
 obtain⟨po,ar,va,ko,kd,kw,df⟩:=p;refine G1 h λ h=>aa h λ ⟨x,b,p1⟩ ⟨y,a,p2⟩ h=>M9 (o:=b) h λ h=>M9 (o:=a) h λ h=>M9 h λ h=>G1 h λ h=>G1 h λ h=>M9 h λ h=>G1 h λ h=>?_
 simp only[f7,h8]at h;obtain⟨⟨rfl,rfl⟩,rfl⟩:=h;exact k p1 p2
def lY(sg:Sg)(i:Nat)(fr:on Nat)(ss:on KB)(f:on Kw->Bool):Bool:=sg.top&&sg.sc.lookup o8==some .cell&&(in2 ss λ a b=>inFd a λ n pr bd sc x=>n==o8&&x==o8&&sg.N[i]? == some o8&&sg.co pr bd sc (fr.map λ j=>sg.N.getD j "")&&fr.all (λ j=>decide (j<sg.N.length)) &&
 (sc.names.all λ y=>if y.2 == .free then sg.sc.lookup y.1==some .cell else true)&&(iy b λ v _=>inCl v λ ef es _=>(K1 ef λ x=>x==o8) && !es.isEmpty&&f es))
noncomputable def tF:ME->Bool
 | .comp _ _ _ _=>true
 | .compi _ _ _ _ _=>true
 | _=>false
noncomputable def isZp:ME->Bool
 | .enu _=>true
 | .itm _=>true
 | .kys _=>true
 | _=>false
mutual
def corE(sg:Sg)(w:Bool):ME->Kw->Bool
 | .var i,e=>K1 e λ x=>O5 sg i x
 | .int i,e=>ae e==some (.int i)
 | .bl i,e=>ae e==some (.bool i)
 | .str x,e=>ae e==some (.str x)&&decide (x.length<=1000)
 | .non,e=>ae e==some .none
 | .glb x,e=>K4 e==some x&&gloB sg x&&x != "__debug__"
 | .bin op a b,e=>lI e λ ea o eb=>o==op&&corE sg false a ea&&corE sg false b eb
 | .neg a,e=>inUn e λ o ea=>o == .USub&&corE sg false a ea
 | .not a,e=>inUn e λ o ea=>o == .Not&&corE sg false a ea
 | .cmp op a b,e=>lT e λ ea o eb=>o==op&&corE sg false a ea&&corE sg false b eb && !K0 eb
 | .chain op op' a b c,e=>sM e λ ea o o' eb ec=>o==op&&o'==op'&&corE sg false a ea&&corE sg false b eb&&corE sg false c ec && !K0 ec
 | .and ms,e=>ij e λ o es=>o == .And&&u4 sg ms es
 | .or ms,e=>ij e λ o es=>o == .Or&&u4 sg ms es
 | .lst ms,e=>lJ e λ es=>u4 sg ms es
 | .tup ms,e=>im e λ es=>u4 sg ms es
 | .ix a b,e=>U9 e λ ea eb=>corE sg false a ea&&corE sg false b eb && !U8 eb
 | .sl a lo hi,e=>U9 e λ ea es=>(sQ es λ el eh=>corE sg false a ea&&corE sg false lo el&&corE sg false hi eh)
 | .slf a lo,e=>U9 e λ ea es=>(sO es λ el=>corE sg false a ea&&corE sg false lo el)
 | .slt a hi,e=>U9 e λ ea es=>(sP es λ eh=>corE sg false a ea&&corE sg false hi eh)
 | .call f ms,e=>inCl e λ ef es _=>(K1 ef λ x=>sg.fn[f]? == some x&&gloB sg x&&x != "__debug__") && !es.isEmpty&&u4 sg ms es
 | .bi f ms,e=>inCl e λ ef es _=>bltB sg (CN f) ef && !es.isEmpty&&(match f with
   | .sset=>(in1 es λ e1=>inCl e1 λ ef' es' _=>bltB sg "set" ef'&&es'.length==1&&u4 sg ms es')
   | _=>u4 sg ms es)
 | .isi a ts,e=>sR e λ ef ea et _=>bltB sg "isinstance" ef&&corE sg false a ea && !u7 ea && !u7 et&&(match ts with
   | [t]=>K4 et==some t&&gloB sg t&&sg.bl.contains t&&Z6.contains t
   | _=>false)
 | .meth m a ms,e=>lU e λ ef pos=>(aU ef λ ea n apos=>n==tu m&&corE sg false a ea&&((K4 ea).isSome||(tq ea).isSome)&&apos.endLine==pos.line&&ms.isEmpty)
 | .comp elt tg it fr,e=>inCp e λ c=>c.ifs.isEmpty&&(corE sg true it c.it&&(!isZp it||(S5 c.tg).isSome)) && !K0 c.it&&(any1 (tw tg c.tg) λ tn=>aW sg (K5 sg tn fr) fr c.sc tg&&tgOk LX tg c.tg&&corE LX false elt c.elt)
 | .compi elt tg it cd fr,e=>inCp e λ c=>(corE sg true it c.it&&(!isZp it||(S5 c.tg).isSome)) && !K0 c.it&&(any1 (tw tg c.tg) λ tn=>in1 c.ifs λ ec=>aW sg (K5 sg tn fr) fr c.sc tg&&tgOk LX tg c.tg&&corE LX false elt c.elt&&corE LX false cd ec)
 | .idx a b,e=>bQ e λ ef eb pos=>(aU ef λ ea n apos=>n == "index" && corE sg false a ea&&(K4 ea).isSome&&apos.endLine==pos.line&&corE sg false b eb && !u7 eb)
 | .rng ms,e=>w&&(inCl e λ ef es _=>bltB sg "range" ef&&u4 sg ms es&&decide (es.length<=2))
 | .enu a,e=>w&&(bQ e λ ef ea _=>bltB sg "enumerate" ef&&corE sg false a ea && !u7 ea)
 | .itm a,e=>w&&(lU e λ ef pos=>(aU ef λ o n apos=>n == "items" && corE sg false a o&&apos.endLine==pos.line&&(K4 o).isSome))
 | .dix a k,e=>U9 e λ ea eb=>corE sg false a ea&&corE sg false k eb && !U8 eb
 | .dgp i k,e=>U9 e λ o ek=>(K1 o λ x=>O5 sg i x)&&corE sg false k ek && !U8 ek
 | .callv i xs ms,e=>inCl e λ ef es _=>(K1 ef λ x=>O5 sg i x)&&(xs.all λ p=>sg.fn[p.2]? == some p.1) && !es.isEmpty&&u4 sg ms es
 | .mink a N np lb fr,e=>(sg.lp && !sg.top)&&(inCk e λ ef ea kn el=>bltB sg "min" ef&&kn==some "key" && corE sg false a ea && !u7 ea&&(lN el λ pr bd sc _=>tA sg .free N np fr pr sc&&corE ⟨N,sc.names,sg.fn,sg.bl,sg.cl,false,false,noCo⟩ false lb bd))
 | .self _ _ ms,e=>(sg.lp && !sg.top)&&(inCl e λ ef es _=>(K1 ef λ x=>x==o8) && !es.isEmpty&&u4 sg ms es)
 | .dc2 x y a b,e=>sV e λ ka kb ea eb=>ae ka==some (.str x)&&ae kb==some (.str y)&&x != y&&corE sg false a ea&&corE sg false b eb
 | .din i k,e=>lT e λ ek o eo=>o == .In&&(K1 eo λ x=>O5 sg i x)&&corE sg false k ek
 | .kys a,e=>w&&(K4 e).isSome&&corE sg false a e
def u4(sg:Sg):on ME->on Kw->Bool
 | [],[]=>true
 | m::ms,e::es=>corE sg false m e && !u7 e&&u4 sg ms es
 | _,_=>false
end
mutual
def corS(sg:Sg):MS->KB->Bool
 | .set i _ e,s=>eD s λ t v pos=>(K1 t λ x=>sg.N[i]? == some x&&locB sg x&&corE sg false e v&&(!aT v||tF e))
 | .app i e,s=>eC s λ v _=>(bQ v λ ef ea pos=>(aU ef λ o n apos=>n == "append" && (K1 o λ x=>O5 sg i x)&&corE sg false e ea && !u7 ea&&apos.endLine==pos.line))
 | .ext i e,s=>eC s λ v _=>(bQ v λ ef ea pos=>(aU ef λ o n apos=>n == "extend" && (K1 o λ x=>O5 sg i x)&&corE sg false e ea && !u7 ea&&apos.endLine==pos.line))
 | .seti i k e,s=>eD s λ t v _=>(U9 t λ o ek=>(K1 o λ x=>O5 sg i x)&&corE sg false k ek && !U8 ek&&corE sg false e v)
 | .exp e,s=>eC s λ v _=>corE sg false e v && !aT v
 | .ret e,s=>iy s λ v _=>corE sg false e v
 | .iff c a b,s=>lR s λ ec ea eb _=>corE sg false c ec&&E6 sg a ea&&E6 sg b eb
 | .fo tg it body,s=>sZ s λ t i b _=>sg.lp&&tgOk sg tg t&&(corE sg true it i&&(!isZp it||(S5 t).isSome)) && !K0 i&&E6 sg body b
 | .wh c body,s=>tm s λ t b _=>sg.lp&&corE sg false c t&&E6 sg body b
 | .sep i,s=>eD s λ t v _=>(K1 t λ x=>(sU v (sg.N[i]? == some x&&locB sg x)))
 | .dpp i ks e,s=>eD s λ t v _=>(U9 t λ o ek=>(K1 o λ x=>O5 sg i x)&&(im ek λ es=>u4 sg ks es)&&corE sg false e v && !aT v)
 | .retd i,s=>iy s λ v _=>(K1 v λ x=>O5 sg i x)
 | .unk,_=>true
 | .rse c e,s=>tj s λ v _=>(bQ v λ ef ea _=>sg.top&&K4 ef==some c&&gloB sg c&&c != "__debug__" && corE sg false e ea && !u7 ea)
 | .rfs _,_=>false
 | .dfr _ _ _,_=>false
def E6(sg:Sg):on MS->on KB->Bool
 | [],[]=>true
 | .dfr i fr es::ms,ss=>lY sg i fr ss (u4 sg es)&&ms.isEmpty
 | m::ms,s::ss=>corS sg m s&&E6 sg ms ss
 | _,_=>false
end
def af(C:CloD)(fn bl cl:on Str)(pr:KG)(bd:on KB)(sc:KD)(cap:on Str):Bool:=eF pr (C.N.take C.np)&&sc.kind == .function && !sc.isCoroutine && !sc.isGenerator&&Q0 C.N&&decide (C.np+C.nc<=C.N.length)&&Q0 (sc.names.map (·.1)) &&
 (C.N.take C.np).all (λ x=>sc.names.lookup x==some .local)&&sc.names.all (λ y=>y.2 != .cell)&&(cap==(C.N.drop C.np).take C.nc)&&cap.all (λ x=>sc.names.lookup x==some .free)&&sc.names.lookup o8==some .free&&E6 ⟨C.N,sc.names,fn,bl,cl,false,true,noCo⟩ C.body bd
end
end L2
end
noncomputable section
namespace L2
open PySem PySem.Spec PyProof.Rows
def Q2(H:Hp)(q:Str)(params:KG)(body:Kw)(scope:KD)(cl:on (Str×Ku))(f:Ku):Prop:=
 ∃c' oc u vs t pm ctv,H f=some (.frz (PySem.W.kla_obj "<lambda>" q params body scope cl pm c' ctv) (.own f))/\H c'=some (.frz oc u)/\oc.data=.fields vs/\vs[1]? = some (.str q t)
def Q2.mono(e:Same H c)(h:Q2 H q a body scope cl f):Q2 c q a body scope cl f:=by
 obtain⟨l,i,u,d,t,g,b,k,j,r⟩:=h;exact⟨l,i,u,d,t,g,b,e _ _ k,e _ _ j,r⟩
structure LamScope(N ps:List Str)(sc:Scope)(cl:List (Str×Addr))(l:List Addr):Prop where
 kind:sc.kind=.function
 co:sc.isCoroutine=false
 gen:sc.isGenerator=false
 nd:N.Nodup
 pre:N.take ps.length=ps
 par:∀x∈ps,sc.names.lookup x=some .local
 nocell:∀y∈sc.names,y.2 ≠ .cell
 fre:∀i x,ps.length<=i->N[i]? = some x->sc.names.lookup x=some .free
 has:∀x,sc.names.lookup x=some .free->∃c,cl.lookup x=some c
 inj:∀x y c,cl.lookup x=some c->cl.lookup y=some c->x=y
 mem:∀x c,cl.lookup x=some c->c∈l
def eG(H:Hp)(N:on Str)(np:Nat)(cl:on (Str×Ku))(l:on Ku)(ws:on V):Prop:=N.length=np+ws.length/\(∀c∈l,∃o v,H c=some MM/\o.data=.cell v) /\
 ∀(i:Nat) x v,N[np+i]? = some x->ws[i]? = some v->∃c o u,cl.lookup x=some c/\H c=some MM/\o.data=.cell (some u)/\RelV v u
def eG.mono(e:Same H d)(h:eG H N np cl l ws):eG d N np cl l ws:=
 ⟨h.1,λ c f=>by obtain⟨o,v,b,a⟩:=h.2.1 c f;exact⟨o,v,e _ _ b,a⟩,λ i x v j g=>by obtain⟨c,o,u,b,a,r⟩:=h.2.2 i x v j g;exact⟨c,o,u,b,e _ _ a,r⟩⟩
noncomputable def ag(m:LamD)(params:KG)(body:Kw)(scope:KD):Bool:=eE params (m.N.take m.np)&&corE ⟨m.N,scope.names,m.fn,m.bl,m.cl,false,false,noCo⟩ false m.body body
def CQ(h:eE c ps=true)(d:e.length=ps.length):bindArgs (PySem.W.kla_fn "<lambda>" q c b sc cl pm cd g) ⟨e,[]⟩=pure (ps.zip e):=by
 revert d;refine tz h (λ x y z w d=>?_) λ a x y f d=>?_
 ·obtain⟨u,v,rfl⟩:∃u v,e=[u,v]:=by
   cases e with
   | nil=>cases d
   | cons u r=>cases r with
    | nil=>cases d
    | cons v r=>cases r with
     | nil=>exact⟨u,v,rfl⟩
     | cons _ _=>cases d
  rfl
 ·obtain⟨u,rfl⟩:∃u,e=[u]:=by
   cases e with
   | nil=>cases d
   | cons u r=>cases r with
    | nil=>exact⟨u,rfl⟩
    | cons _ _=>cases d
  simp only[i6,O9,P3]at f;rcases f with z | z | z<;>(subst z;rfl)
structure Dm where
 K:PySem.W.Frag
 mg:Str->Option Value
abbrev Cx.D(X:Cx):Dm:=⟨X.K,X.mg⟩
def SqS(K:KC)(H:Hp)(a:Ku)(xs:on V):Prop:=(∃o,H a=some (.frz o (Lw xs))) \/
 ∃(o:Obj) (its:Kx Ks) (n:Nat),K.lookup a=some o/\o.cls=.type "list" /\ o.dict=none/\o.data=.seq its n/\its.size<=sizeLine/\Vals xs its.toList
def SqS.sq{K:KC}(h:SqS K H a xs):SqL K H a xs:=by
 rcases h with h | h
 ·exact .inl (.inr h)
 ·exact .inr h
def SqS.of{K:KC}(b:Only H)(h:SqL K H a xs):SqS K H a xs:=by
 rcases h with(h | h) | h
 ·rcases b a with z | z
  ·rw[h]at z;cases z
  ·rcases z with⟨o,ys,z⟩ | ⟨q,z⟩<;>(rw[h]at z;cases z)
 ·exact .inl h
 ·exact .inr h
def Same.sqs{K:KC}(e:Same H b)(h:SqS K H a xs):SqS K b a xs:=by
 rcases h with⟨o,h⟩ | h
 ·exact .inl ⟨o,e _ _ h⟩
 ·exact .inr h
def dKey:Key->DKey
 | .inl i=>.i i
 | .inr x=>.s x
noncomputable def mutO:HO->Bool
 | .lst _=>true
 | .dK _=>true
 | .dT _=>true
 | _=>false
mutual
noncomputable def Rep(D:Dm)(H:Hp):DV->V->Prop
 | .non,v=>v=.non
 | .bl b,v=>v=.bl b
 | .int i,v=>v=.int i
 | .str x,v=>v=.str x/\x.length<=sizeLine
 | .tup ds,v=>∃a xs,v=.ref a/\SqT D.K H a xs/\RepL D H ds xs
 | .lst ds,v=>∃a xs,v=.ref a/\H a=some (Lw xs)/\RepL D H ds xs
 | .dct ks vs,v=>(∃a o kvs,v=.ref a/\H a=some (.frz o (.dK kvs))/\kvs.map (λ p=>dKey p.1)=ks/\RepL D H vs (kvs.map (·.2)))\/∃a o kvs,v=.ref a/\H a=some (.frz o (.dT kvs))/\kvs.map (λ p=>DKey.t p.1)=ks/\RepL D H vs (kvs.map (·.2))
 | .fn x,v=>∃f,v=.ref f/\D.mg x=some (.ref f)
 | .lam m cs,v=>∃f pr bd sc q cl l ws,v=.ref f/\Q2 H q pr bd sc cl f/\ag m pr bd sc=true/\LamScope m.N (m.N.take m.np) sc cl l/\RepL D H cs ws/\eG H m.N m.np cl l ws
 | .scr ns,v=>∃a,v=.ref a/\SqS D.K H a (ns.map V.int)
noncomputable def RepL(D:Dm)(H:Hp):on DV->on V->Prop
 | [],xs=>xs=[]
 | d::ds,xs=>∃v vs,xs=v::vs/\Rep D H d v/\RepL D H ds vs
end
def Same.tseq{K:KC}(e:Same H b)(h:SqT K H a xs):SqT K b a xs:=by
 rcases h with(h | ⟨o,h⟩) | h
 ·exact .inl (.inl (e _ _ h))
 ·exact .inl (.inr ⟨o,e _ _ h⟩)
 ·exact .inr h
mutual
theorem Rep.mono{D:Dm}{H H':Hp}(e:Same H H'):∀{d:DV} {v:V},Rep D H d v->Rep D H' d v
 | .non,_,h=>by unfold Rep at h ⊢;exact h
 | .bl _,_,h=>by unfold Rep at h ⊢;exact h
 | .int _,_,h=>by unfold Rep at h ⊢;exact h
 | .str _,_,h=>by unfold Rep at h ⊢;exact h
 | .tup ds,_,h=>by unfold Rep at h ⊢;obtain⟨a,xs,e1,e2,e3⟩:=h;exact⟨a,xs,e1,e.tseq e2,RepL.mono e e3⟩
 | .lst ds,_,h=>by unfold Rep at h ⊢;obtain⟨a,xs,e1,e2,e3⟩:=h;exact⟨a,xs,e1,e _ _ e2,RepL.mono e e3⟩
 | .dct _ _,_,h=>by
  unfold Rep at h ⊢;rcases h with⟨a,o,kvs,e1,e2,e3,e4⟩ | ⟨a,o,kvs,e1,e2,e3,e4⟩
  ·exact .inl ⟨a,o,kvs,e1,e _ _ e2,e3,RepL.mono e e4⟩
  ·exact .inr ⟨a,o,kvs,e1,e _ _ e2,e3,RepL.mono e e4⟩
 | .fn _,_,h=>by unfold Rep at h ⊢;exact h
 | .lam m cs,_,h=>by unfold Rep at h ⊢;obtain⟨f,pr,bd,sc,q,cl,l,ws,e1,e2,e3,e4,e5,e6⟩:=h;exact⟨f,pr,bd,sc,q,cl,l,ws,e1,e2.mono e,e3,e4,RepL.mono e e5,e6.mono e⟩
 | .scr _,_,h=>by unfold Rep at h ⊢;obtain⟨a,e1,e2⟩:=h;exact⟨a,e1,e.sqs e2⟩
theorem RepL.mono{D:Dm}{H H':Hp}(e:Same H H'):∀{ds:on DV} {xs:on V},RepL D H ds xs->RepL D H' ds xs
 | [],_,h=>by unfold RepL at h ⊢;exact h
 | d::ds,_,h=>by unfold RepL at h ⊢;obtain⟨v,vs,e1,e2,e3⟩:=h;exact⟨v,vs,e1,Rep.mono e e2,RepL.mono e e3⟩
end
def z8:Rep D H (.int i) v↔v=.int i:=by unfold Rep;exact P4
def ah:Rep D H (.bl i) v↔v=.bl i:=by unfold Rep;exact P4
def bS:Rep D H (.str i) v↔(v=.str i/\i.length<=sizeLine):=by unfold Rep;exact P4
def X5:Rep D H .non v↔v=.non:=by unfold Rep;exact P4
def F6:Rep D H (.tup ds) v↔∃a b,v=.ref a/\SqT D.K H a b/\RepL D H ds b:=by unfold Rep;exact P4
def N0:Rep D H (Lw ds) v↔∃a b,v=.ref a/\H a=some (.lst b)/\RepL D H ds b:=by unfold Rep;exact P4
def lZ:Rep D H (.lam m cs) v↔∃f pr c a q cl l b,v=.ref f/\Q2 H q pr c a cl f/\ag m pr c a=true/\LamScope m.N (m.N.take m.np) a cl l/\RepL D H cs b/\eG H m.N m.np cl l b:=by unfold Rep;exact P4
def ma:Rep D H (.fn x) v↔∃f,v=.ref f/\D.mg x=some (.ref f):=by unfold Rep;exact P4
def X6:Rep D H (.scr b) v↔∃a,v=.ref a/\SqS D.K H a (b.map V.int):=by unfold Rep;exact P4
def S6:Rep D H (.dct ks vs) v↔((∃a o b,v=.ref a/\H a=some (.frz o (.dK b))/\b.map (λ p=>dKey p.1)=ks/\RepL D H vs (b.map (·.2)))\/∃a o b,v=.ref a/\H a=some (.frz o (.dT b))/\b.map (λ p=>DKey.t p.1)=ks/\RepL D H vs (b.map (·.2))):=by unfold Rep;exact P4
def E2{D:Dm}{H:Hp}{xs:on V}:RepL D H [] xs↔xs=[]:=by unfold RepL;exact P4
def w6:RepL D H (d::ds) xs↔∃v a,xs=v::a/\Rep D H d v/\RepL D H ds a:=by
 constructor
 ·intro h;exact h
 ·intro h;exact h
theorem RepL.length:∀{a:on DV} {xs:on V},RepL D H a xs->xs.length=a.length
 | [],_,h=>by rw[E2.mp h];rfl
 | d::a,_,h=>by obtain⟨v,vs,c,_,b⟩:=w6.mp h;rw[c,x9,x9,RepL.length b]
theorem RepL.get:∀{ds:on DV} {xs:on V} {i:Nat} {d:DV},RepL D H ds xs->ds[i]? = some d->∃v,xs[i]? = some v/\Rep D H d v
 | [],_,_,_,_,e=>by simp at e
 | d::ds,_,i,d',h,e=>by
  obtain⟨v,vs,c,b,a⟩:=w6.mp h;subst c;cases i with
  | zero=>simp at e;subst e;exact⟨v,rfl,b⟩
  | succ i=>simpa using RepL.get a (Lq e)
theorem RepL.append:∀{a es:on DV} {xs ys:on V},RepL D H a xs->RepL D H es ys->RepL D H (a++es) (xs++ys)
 | [],_,_,_,h,b=>by rwa [E2.mp h]
 | d::a,_,_,_,h,b=>by obtain⟨v,vs,f,e,c⟩:=w6.mp h;subst f;exact w6.mpr ⟨v,_,rfl,e,RepL.append c b⟩
def RepL.one(h:Rep D H d v):RepL D H [d] [v]:=w6.mpr ⟨v,[],rfl,h,E2.mpr rfl⟩
theorem RepL.take:∀{a:on DV} {xs:on V} (n:Nat),RepL D H a xs->RepL D H (a.take n) (xs.take n)
 | _,_,0,_=>E2.mpr rfl
 | [],_,n+1,h=>by rw[E2.mp h];exact E2.mpr rfl
 | d::a,_,n+1,h=>by obtain⟨v,vs,e,c,b⟩:=w6.mp h;subst e;exact w6.mpr ⟨v,_,rfl,c,RepL.take n b⟩
theorem RepL.drop:∀{a:on DV} {xs:on V} (n:Nat),RepL D H a xs->RepL D H (a.drop n) (xs.drop n)
 | _,_,0,h=>h
 | [],_,n+1,h=>by rw[E2.mp h];exact E2.mpr rfl
 | d::a,_,n+1,h=>by obtain⟨v,vs,c,e2,b⟩:=w6.mp h;subst c;exact RepL.drop n b
theorem RepL.set(q:Rep D H d v):∀{a:on DV} {xs:on V} (n:Nat),RepL D H a xs->RepL D H (a.set n d) (xs.set n v)
 | [],_,n,h=>by rw[E2.mp h];exact E2.mpr rfl
 | _::a,_,0,h=>by obtain⟨v,f,c,e,b⟩:=w6.mp h;subst c;exact w6.mpr ⟨_,_,rfl,q,b⟩
 | _::a,_,n+1,h=>by obtain⟨v,f,c,e,b⟩:=w6.mp h;subst c;exact w6.mpr ⟨_,_,rfl,e,RepL.set q n b⟩
theorem RepL.rep{D:Dm}{H:Hp}{ds:on DV}{xs:on V}(h:RepL D H ds xs):∀k:Nat,RepL D H (List.replicate k ds).flatten (List.replicate k xs).flatten
 | 0=>E2.mpr rfl
 | k+1=>by rw[Y5,Y5,aH,aH];exact h.append (RepL.rep h k)
theorem eH:∀(a:on Int),RepL D H (a.map DV.int) (a.map V.int)
 | []=>E2.mpr rfl
 | n::a=>w6.mpr ⟨_,_,rfl,z8.mpr rfl,eH a⟩
noncomputable def wo(O:on Ku)(H:Hp):Hp:=λ b=>if b∈O then none else H b
def ai(h:b∈O):wo O H b=none:=f8 h
def k8(h:b∉O):wo O H b=H b:=g9 h
def C7(h:wo O H b=some o):b∉O/\H b=some o:=by
 by_cases a:b∈O
 ·rw[ai a]at h;cases h
 ·rw[k8 a]at h;exact⟨a,h⟩
theorem Same.wo{O:on Ku}{H H':Hp}(e:Same H H'):Same (wo O H) (wo O H'):=λ b o h=>by
 obtain⟨hb,h⟩:=C7 h;rw[k8 hb];exact e b o h
def x5:Same (Ll O) H:=λ b o h=>(C7 h).2
def O6(h:∀b∈a,b∈O):Same (Ll O) (L2.wo a H):=λ b o e=>by
 obtain⟨c,e⟩:=C7 e
 rwa [k8 λ z=>c (h b z)]
def x4(h:H p=none):Same H (upd H p o):=λ b u q=>by rwa [n6 (A7 q h)]
structure Hid(O W:List Addr)(H0 H:Hp):Prop where
 ot:∀a∈O++W,H0 a≠none
 same:Same H0 H
 wl:∀a∈W,∃o,H0 a=some o/\mutO o=true
 dj:∀a∈W,a∉O
 om:∀a∈O,∃o,H0 a=some o/\mutO o=true
def Hdn(O:on Ku)(H:Hp):Prop:=∀a∈O,∃o,H a=some o/\mutO o=true
def Hdn.ne(h:Hdn O H):∀a∈O,H a≠none:=λ a b q=>by obtain⟨o,e,_⟩:=h a b;rw[q]at e;cases e
def Hid.omS(h:LW b)(e:Same b c):Hdn O c:=λ a d=>by obtain⟨o,q,m⟩:=h.om a d;exact⟨o,e _ _ q,m⟩
def Hid.omW(h:LW b)(c:p∈W):Hdn O (upd b p x):=λ a d=>by
 obtain⟨o,q,m⟩:=h.om a d;exact⟨o,by rw[n6 λ z=>h.dj p c Mn];exact q,m⟩
def Hid.hdO(h:LW a):Hdn O H:=h.omS h.same
def Hid.hdA(h:LW c):Hdn (O++W) H:=λ a b=>by
 rcases F1.mp b with z | z
 ·exact h.hdO a z
 ·obtain⟨o,q,m⟩:=h.wl a z;exact⟨o,h.same _ _ q,m⟩
def Hid.mono(h:LW a)(e:Same H b):Hid O W a b:=⟨h.ot,h.same.trans e,h.wl,h.dj,h.om⟩
def Hid.newOut(h:LW b)(a:H p=none):p∉O++W:=λ z=>h.ot p z (h.same.free a)
mutual
theorem Rep.immut{D:Dm}{O W:on Ku}{H:Hp}(hw:∀a∈W,∃o,H a=some o/\mutO o=true):∀{d:DV} {v:V},d.immut=true->Rep D (Ll O) d v->Rep D (Ll (O++W)) d v
 | .non,_,_,h=>by unfold Rep at h ⊢;exact h
 | .bl _,_,_,h=>by unfold Rep at h ⊢;exact h
 | .int _,_,_,h=>by unfold Rep at h ⊢;exact h
 | .str _,_,_,h=>by unfold Rep at h ⊢;exact h
 | .tup ds,_,m,h=>by
  unfold Rep at h ⊢;obtain⟨a,xs,e1,e2,e3⟩:=h;have m':DV.immuts ds=true:=by unfold DV.immut at m;exact m
  refine⟨a,xs,e1,?_,RepL.immut hw m' e3⟩;rcases e2 with(h | ⟨o,h⟩) | h
  ·obtain⟨ha,h⟩:=C7 h;refine .inl (.inl ?_);rw[k8 λ z=>?_]
   ·exact h
   ·rcases F1.mp z with z | z
    ·exact ha z
    ·obtain⟨ys,q,m⟩:=hw a z;rw[h]at q;cases q;cases m
  ·obtain⟨ha,h⟩:=C7 h;refine .inl (.inr ⟨o,?_⟩);rw[k8 λ z=>?_]
   ·exact h
   ·rcases F1.mp z with z | z
    ·exact ha z
    ·obtain⟨ys,q,m⟩:=hw a z;rw[h]at q;cases q;cases m
  ·exact .inr h
 | .lst ds,_,m,_=>by unfold DV.immut at m;cases m
 | .dct ks vs,_,m,h=>by
  have m':DV.immuts vs=true:=by unfold DV.immut at m;exact m
  have ou:∀{a:Ku} {o:Obj} {u:HO},L2.wo O H a=some (.frz o u)->L2.wo (O++W) H a=some (.frz o u):=λ {a o u} e=>by
   obtain⟨ha,h⟩:=C7 e;rw[k8 λ z=>?_]
   ·exact h
   ·rcases F1.mp z with z | z
    ·exact ha z
    ·obtain⟨ys,q,m⟩:=hw a z;rw[h]at q;cases q;cases m
  rcases S6.mp h with⟨a,o,kvs,e1,e2,e3,e4⟩ | ⟨a,o,kvs,e1,e2,e3,e4⟩
  ·exact S6.mpr (.inl ⟨a,o,kvs,e1,ou e2,e3,RepL.immut hw m' e4⟩)
  ·exact S6.mpr (.inr ⟨a,o,kvs,e1,ou e2,e3,RepL.immut hw m' e4⟩)
 | .fn _,_,_,h=>by unfold Rep at h ⊢;exact h
 | .lam _ _,_,m,_=>by unfold DV.immut at m;cases m
 | .scr ns,_,_,h=>by
  unfold Rep at h ⊢;obtain⟨a,e1,e2⟩:=h;refine⟨a,e1,?_⟩;rcases e2 with⟨o,h⟩ | h
  ·obtain⟨ha,h⟩:=C7 h;refine .inl ⟨o,?_⟩;rw[k8 λ z=>?_]
   ·exact h
   ·rcases F1.mp z with z | z
    ·exact ha z
    ·obtain⟨ys,q,m⟩:=hw a z;rw[h]at q;cases q;cases m
  ·exact .inr h
theorem RepL.immut{D:Dm}{O W:on Ku}{H:Hp}(hw:∀a∈W,∃o,H a=some o/\mutO o=true):∀{ds:on DV} {xs:on V},DV.immuts ds=true->RepL D (Ll O) ds xs->RepL D (Ll (O++W)) ds xs
 | [],_,_,h=>by unfold RepL at h ⊢;exact h
 | d::ds,_,m,h=>by unfold RepL at h ⊢;obtain⟨v,vs,e1,e2,e3⟩:=h;unfold DV.immuts at m;rw[f7]at m;exact⟨v,vs,e1,Rep.immut hw m.1 e2,RepL.immut hw m.2 e3⟩
end
def RepT(D:Dm)(W:on Ku)(Ht H:Hp)(d:DV)(v:V):Prop:=match d with
 | .lst ds=>∃a xs,v=.ref a/\a∈W/\Ht a=some (Lw xs)/\RepL D H ds xs
 | d=>Rep D H d v
theorem RepT.mono(k:Same g f)(e:Same H i)(h:RepT D W g H d v):RepT D W f i d v:=by
 cases d with
 | lst ds=>obtain⟨a,j,n,o,m,l⟩:=h;exact⟨a,j,n,o,k _ _ m,l.mono e⟩
 | non=>exact Rep.mono e h
 | bl b=>exact Rep.mono e h
 | int b=>exact Rep.mono e h
 | str b=>exact Rep.mono e h
 | tup b=>exact Rep.mono e h
 | dct b c=>exact Rep.mono e h
 | fn b=>exact Rep.mono e h
 | lam b c=>exact Rep.mono e h
 | scr b=>exact Rep.mono e h
def RepT.rep(e:Same H f)(h:RepT D W f H d v):Rep D f d v:=by
 cases d with
 | lst ds=>obtain⟨a,g,k,e0,j,i⟩:=h;exact N0.mpr ⟨a,g,k,j,i.mono e⟩
 | non=>exact Rep.mono e h
 | bl b=>exact Rep.mono e h
 | int b=>exact Rep.mono e h
 | str b=>exact Rep.mono e h
 | tup b=>exact Rep.mono e h
 | dct b c=>exact Rep.mono e h
 | fn b=>exact Rep.mono e h
 | lam b c=>exact Rep.mono e h
 | scr b=>exact Rep.mono e h
def Got(D:Dm)(O W:on Ku)(H0 H:Hp)(d:DV)(c:Cl)(v:V):Prop:=match c with
 | .weak=>Rep D (Ll O) d v
 | .top=>RepT D W (Ll O) (Ll (O++W)) d v
 | .strong=>Rep D (Ll (O++W)) d v
 | .fresh=>∃p xs ds,v=.ref p/\d=.lst ds/\H0 p=none/\H p=some (Lw xs)/\RepL D (Ll (p::(O++W))) ds xs
section
variable {D:Dm} {O W:on Ku} {H0 H H':Hp} {d:DV} {ds:on DV} {c:Cl} {v:V}
def bT:∀b∈O,b∈O++W:=λ _ h=>E3 _ h
theorem Got.mono(h:Got D O W H0 H d c v)(e:Same H H'):Got D O W H0 H' d c v:=by
 cases c with
 | weak=>exact Rep.mono e.wo h
 | top=>exact RepT.mono e.wo e.wo h
 | strong=>exact Rep.mono e.wo h
 | fresh=>
  obtain⟨p,a,k,j,i,g,f,b⟩:=h;exact⟨p,a,k,j,i,g,e _ _ f,b.mono e.wo⟩
def Got.since(h:Got D O W a H d c v)(e:Same H0 a):Got D O W H0 H d c v:=by
 cases c with
 | weak=>exact h
 | top=>exact h
 | strong=>exact h
 | fresh=>
  obtain⟨p,b,l,k,j,i,g,f⟩:=h;exact⟨p,b,l,k,j,e.free i,g,f⟩
def Got.strong(h:Got D O W H0 H d .fresh v)(c:LW H0):Rep D (Ll (O++W)) d v:=by
 obtain⟨p,a,ds,j,i,g,e4,f⟩:=h;rw[i];exact N0.mpr ⟨p,a,j,by rwa [k8 (λ z=>c.ot p z g)],f.mono (O6 λ b e=>o4 _ e)⟩
theorem Got.weak(h:Got D O W H0 H d c v)(hd:LW H0):Rep D (Ll O) d v:=by
 cases c with
 | weak=>exact h
 | top=>exact RepT.rep (O6 bT) h
 | strong=>exact Rep.mono (O6 bT) h
 | fresh=>exact Rep.mono (O6 bT) (h.strong hd)
def Got.all(h:Got D O W H0 H d c v)(a:LW H0):Rep D H d v:=Rep.mono x5 (h.weak a)
theorem Got.stro(h:Got D O W H0 H d c v)(hd:LW H0)(g:L2.stro d c=true):Rep D (Ll (O++W)) d v:=by
 cases c with
 | strong=>exact h
 | fresh=>exact h.strong hd
 | weak=>exact Rep.immut (λ a f=>by obtain⟨b,e,m⟩:=hd.wl a f;exact⟨b,hd.same _ _ e,m⟩) g (h.weak hd)
 | top=>exact Rep.immut (λ a f=>by obtain⟨b,e,m⟩:=hd.wl a f;exact⟨b,hd.same _ _ e,m⟩) g (h.weak hd)
def Got.items(h:Got D O W H0 H (Lw ds) c v)(hd:LW H0)(f:c ≠ .weak):∃a xs,v=.ref a/\H a=some (Lw xs)/\RepL D (Ll (O++W)) ds xs:=by
 cases c with
 | weak=>exact absurd rfl f
 | top=>
  obtain⟨a,xs,e,e0,d,b⟩:=h;exact⟨a,xs,e,x5 _ _ d,b⟩
 | strong=>
  obtain⟨a,xs,e,d,b⟩:=N0.mp h;exact⟨a,xs,e,x5 _ _ d,b⟩
 | fresh=>
  obtain⟨a,xs,e,d,b⟩:=N0.mp (h.strong hd);exact⟨a,xs,e,x5 _ _ d,b⟩
def Got.itemsT(h:Got D O W H0 H (.tup f) c v)(hd:LW H0)(g:c ≠ .weak):∃a xs,v=.ref a/\SqT D.K H a xs/\RepL D (Ll (O++W)) f xs:=by
 cases c with
 | weak=>exact absurd rfl g
 | top=>
  obtain⟨a,xs,e,b,d⟩:=F6.mp (h);exact⟨a,xs,e,x5.tseq b,d⟩
 | strong=>
  obtain⟨a,xs,e,b,d⟩:=F6.mp h;exact⟨a,xs,e,x5.tseq b,d⟩
 | fresh=>
  obtain⟨p,xs,f,e,b,d,e4,e5⟩:=h;cases b
theorem Got.lst(h:Got D O W H0 H (Lw ds) c v)(d:LW H0):∃a b,v=.ref a/\H a=some (.lst b)/\RepL D (Ll O) ds b:=by
 obtain⟨a,b,g,f,e⟩:=N0.mp (h.weak d);exact⟨a,b,g,x5 _ _ f,e⟩
theorem Got.tup(h:Got D O W H0 H (.tup ds) c v)(d:LW H0):∃a b,v=.ref a/\SqT D.K H a b/\RepL D (Ll O) ds b:=by
 obtain⟨a,b,g,f,e⟩:=F6.mp (h.weak d);exact⟨a,b,g,x5.tseq f,e⟩
noncomputable def N1(O W:on Ku):Cl->on Ku
 | .weak=>O
 | _=>O++W
def Got.lstC(h:Got D O W H0 H (Lw ds) c v)(hd:LW H0):∃a xs,v=.ref a/\H a=some (Lw xs)/\RepL D (Ll (N1 O W c)) ds xs:=by
 cases c with
 | weak=>exact h.lst hd
 | top=>exact h.items hd KP
 | strong=>exact h.items hd KP
 | fresh=>exact h.items hd KP
def Got.tupC(h:Got D O W H0 H (.tup ds) c v)(hd:LW H0):∃a xs,v=.ref a/\SqT D.K H a xs/\RepL D (Ll (N1 O W c)) ds xs:=by
 cases c with
 | weak=>exact h.tup hd
 | top=>exact h.itemsT hd KP
 | strong=>exact h.itemsT hd KP
 | fresh=>exact h.itemsT hd KP
theorem Got.item(h:Rep D (Ll (N1 O W c)) d v):Got D O W H0 H d c.item v:=by
 cases c<;>exact h
def B2(a:c ≠ .fresh:=by intro z;cases z):Got D O W H0 H (.int i) c (.int i):=by
 have q:∀H,Rep D H _ (.int i):=λ H=>z8.mpr rfl;cases c with
 | fresh=>exact absurd rfl a
 | weak=>exact q (Ll O)
 | strong=>exact q (Ll (O++W))
 | top=>exact q (Ll (O++W))
def aj:Got D O W H0 H (.bl i) .strong (.bl i):=(ah.mpr rfl:Rep D (Ll (O++W)) _ _)
def CS:Got D O W H0 H .non .strong .non:=(X5.mpr rfl:Rep D (Ll (O++W)) .non .non)
theorem Got.int(h:Got D O W H0 H (.int i) c v)(a:LW H0):v=.int i:=z8.mp (h.weak a)
theorem Got.bl(h:Got D O W H0 H (.bl i) c v)(a:LW H0):v=.bl i:=ah.mp (h.weak a)
def X7(c:LW H0)(a:H p=none)(r:RepL D (Ll (O++W)) ds xs):Got D O W H0 (upd H p (Lw xs)) (Lw ds) .fresh (.ref p):=by
 refine⟨p,xs,ds,rfl,rfl,c.same.free a,y9,r.mono λ b o e=>?_⟩;obtain⟨hb,e⟩:=C7 e
 rwa [k8 Mn,n6 (A7 e a)]
def md(b:LW H0)(a:H p=none)(r:RepL D (Ll O) ds xs):Got D O W H0 (upd H p (Lw xs)) (Lw ds) .weak (.ref p):=by
 exact N0.mpr ⟨p,xs,rfl,by rw[k8 (λ z=>b.newOut a (E3 _ z))];exact y9,r.mono (x4 a).wo⟩
def eI(hd:LW H0)(a:H p=none)(r:RepL D (Ll (N1 O W c)) ds xs):Got D O W H0 (upd H p (Lw xs)) (Lw ds) (Cl.anew c c) (.ref p):=by
 cases c with
 | weak=>exact md hd a r
 | top=>exact X7 hd a r
 | strong=>exact X7 hd a r
 | fresh=>exact X7 hd a r
def eJ(b:LW H0)(a:H p=none)(r:RepL D (Ll (O++W)) ds xs):Got D O W H0 (upd H p (.tup xs)) (.tup ds) .strong (.ref p):=
 F6.mpr ⟨p,xs,rfl,SqT.of (by rw[k8 (b.newOut a)];exact y9),r.mono (x4 a).wo⟩
def me(b:LW H0)(a:H p=none)(r:RepL D (Ll O) ds xs):Got D O W H0 (upd H p (.tup xs)) (.tup ds) .weak (.ref p):=
 F6.mpr ⟨p,xs,rfl,SqT.of (by rw[k8 λ z=>b.newOut a (E3 _ z)];exact y9),r.mono (x4 a).wo⟩
def tG(hd:LW H0)(a:H p=none)(r:RepL D (Ll (N1 O W c)) ds xs):Got D O W H0 (upd H p (.tup xs)) (.tup ds) c.item (.ref p):=by
 cases c with
 | weak=>exact me hd a r
 | top=>exact eJ hd a r
 | strong=>exact eJ hd a r
 | fresh=>exact eJ hd a r
end
inductive GotL (D:Dm) (O W:List Addr) (H0 H:Hp):List (DV×Cl)->List V->Prop where
 | nil:GotL D O W H0 H [] []
 | cons {d:DV} {c:Cl} {v:V} {l:List (DV×Cl)} {vs:List V}:Got D O W H0 H d c v->GotL D O W H0 H l vs->GotL D O W H0 H ((d,c)::l) (v::vs)
def GotL.repL(h:GotL D O W H0 H l vs)(b:LW H0):RepL D (Ll O) (l.map (·.1)) vs:=by
 induction h with
 | nil=>exact E2.mpr rfl
 | cons h _ a=>exact w6.mpr ⟨_,_,rfl,h.weak b,a⟩
theorem GotL.stros(h:GotL D O W H0 H l vs)(b:LW H0)(hs:L2.stros l=true):RepL D (Ll (O++W)) (l.map (·.1)) vs:=by
 induction h with
 | nil=>exact E2.mpr rfl
 | cons h _ a=>
  unfold L2.stros at hs;rw[gn,f7]at hs;exact w6.mpr ⟨_,_,rfl,h.stro b hs.1,a hs.2⟩
theorem GotL.length(h:GotL D O W H0 H l vs):vs.length=l.length:=by
 induction h with
 | nil=>rfl
 | cons _ _ a=>rw[x9,x9,a]
theorem GotL.strong(h:GotL D O W H0 H l vs)(b:LW H0)(hs:LD=true):RepL D (Ll (O++W)) (l.map (·.1)) vs:=by
 refine h.stros b ?_;unfold L2.stros;rw[J0]at hs ⊢;intro p a;have:=hs p a;unfold L2.stro;cases e:p.2<;>rw[e]at this<;>first | rfl | cases this
def GotL.one(h:GotL D O W H0 H [(d,c)] vs):∃v,vs=[v]/\Got D O W H0 H d c v:=by
 cases h with
 | cons h t=>cases t;exact⟨_,rfl,h⟩
def GotL.two(h:GotL D O W H0 H [(d,c),(b,f)] vs):∃v a,vs=[v,a]/\Got D O W H0 H d c v/\Got D O W H0 H b f a:=by
 cases h with
 | cons h t=>obtain⟨a,e,g⟩:=t.one;subst e;exact⟨_,_,rfl,h,g⟩
noncomputable def oeD(L:on ((Int×Int)×Int)):DV:=.dct (L.map λ p=>.t [.inl p.1.1,.inl p.1.2]) (MC p.2)
noncomputable def oeK(L:on ((Int×Int)×Int)):on (on Key×V):=L.map λ p=>([.inl p.1.1,.inl p.1.2],.int p.2)
noncomputable def dicO:HO->Bool
 | .dK _=>true
 | .dT _=>true
 | _=>false
def OdOk(d:DV)(_:Ku)(o:HO):Prop:=∃L,d=.tup [oeD L]/\o=.dT (oeK L)
def OdOk.dic(h:OdOk d a o):dicO o=true:=by obtain⟨L,_,e⟩:=h;rw[e];rfl
def OdOk.mut(h:OdOk d a o):mutO o=true:=by obtain⟨L,_,e⟩:=h;rw[e];rfl
def OdAt(H:Hp)(σ:St)(δ:on Sv)(W:on Ku):Prop:=∀(i:Nat) d,δ[i]? = some (.od d)->(∃a o,OdOk d a o/\σ[i]? = some (Md a)/\a∈W/\H a=some o)/\∀(j:Nat) d',δ[j]? = some (.od d')->j=i
def OdAt.step(h:OdAt H σ δ W)(hδ:∀(j:Nat) d,c[j]? = some (.od d)->δ[j]? = some (.od d)/\b[j]? = σ[j]?)(r:∀a∈W,(∃o,H a=some o/\dicO o=true)->a∈l)(v:∀a o,a∈W->H a=some o->dicO o=true->m a=some o):OdAt m b c l:=λ i d q=>by
 obtain⟨p,n⟩:=hδ i d q;obtain⟨⟨a,L,e,e1,g,f⟩,u⟩:=h i d p;exact⟨⟨a,L,e,by rwa [n],r a g ⟨_,f,e.dic⟩,v a _ g f e.dic⟩,λ j k z=>u j k (hδ j k z).1⟩
def mh{σ:St}{δ:on Sv}(x:Kr V)(c:∀d,X ≠ .od d):∀(j:Nat) d,(δ.set i X)[j]? = some (.od d)->δ[j]? = some (.od d)/\(σ.set i x)[j]? = σ[j]?:=λ j d h=>by
 have b:j≠i:=λ z=>by
  subst z;have a:j<δ.length:=by have:=(z7.mp h).1;rw[E4]at this;exact this
  rw[K6 a]at h;exact c d (D5 h)
 rw[A2 b.symm]at h ⊢;exact⟨h,rfl⟩
def CT{σ:St}{δ:on Sv}(a:∀d,X ≠ .od d):∀(j:Nat) d,(δ.set i X)[j]? = some (.od d)->δ[j]? = some (.od d)/\σ[j]? = σ[j]?:=λ j d h=>⟨(mh (σ:=σ) none a j d h).1,rfl⟩
structure RSt(D:Dm)(H:Hp)(σ:St)(δ:List Sv)(O W:List Addr):Prop where
 val:∀(i:Nat) d,δ[i]? = some (.val d)->∃v,σ[i]? = some (some v)/\Rep D (Ll (O++W)) d v
 own:∀(i:Nat) d,δ[i]? = some (.own d)->∃a xs ds,d=.lst ds/\σ[i]? = some (Md a)/\a∈W/\H a=some (Lw xs)/\RepL D (Ll (O++W)) ds xs
 inj:∀(i j:Nat) a d d',δ[i]? = some (.own d)->δ[j]? = some (.own d')->σ[i]? = some (Md a)->σ[j]? = some (Md a)->i=j
 od:OdAt H σ δ W
 len:σ.length=δ.length
 hid:Hid O W H H
def Hid.later(h:Hid O W H H)(e:Same H c):Hid O W c c:=⟨λ a b q=>h.ot a b (e.free q),Same.refl _,λ a b=>by obtain⟨d,q,m⟩:=h.wl a b;exact⟨d,e _ _ q,m⟩,h.dj,h.omS e⟩
theorem RSt.mono(R:Mr D)(e:Same H g):RSt D g σ δ O W where
 val:=λ i d h=>by obtain⟨v,c,b⟩:=R.val i d h;exact⟨v,c,b.mono e.wo⟩
 own:=λ i f h=>by obtain⟨a,k,f,o,c,b,n,m⟩:=R.own i f h;exact⟨a,k,f,o,c,b,e _ _ n,m.mono e.wo⟩
 inj:=R.inj
 od:=R.od.step (λ j d h=>⟨h,rfl⟩) (λ _ h _=>h) (λ a l _ h _=>e _ _ h)
 len:=R.len
 hid:=R.hid.later e
noncomputable def Post(D:Dm)(O W:on Ku)(H0 H:Hp)(Q:VK):Re->Prop
 | .ok d c=>∀v H',Same H H'->Got D O W H0 H' d c v->Q v H'
def dE(D:Dm)(δ:on Sv)(r:Re):TE:=λ σ H Q=>∃O W,RSt D H σ δ O W/\Post D O W H H Q r
noncomputable def CU(D:Dm)(O W:on Ku)(H0 H:Hp)(Q:on V->Hp->Prop):Rs->Prop
 | .ok l=>∀vs H',Same H H'->GotL D O W H0 H' l vs->Q vs H'
def dA(D:Dm)(δ:on Sv)(r:Rs):TA:=λ σ H Q=>∃O W,RSt D H σ δ O W/\CU D O W H H Q r
noncomputable def iC(D:Dm)(H:Hp)(Q:Bool->Hp->Prop):Rt->Prop
 | .ok b=>∀H',Same H H'->Q b H'
def dT(D:Dm)(δ:on Sv)(r:Rt):TT:=λ σ H Q=>∃O W,RSt D H σ δ O W/\iC D H Q r
def Post.step(h:Post D O W b H Q r)(e:Same H a):Post D O W b a Q r:=by
 cases r with
 | ok d c=>exact λ v f s g=>h v f (e.trans s) g
def Post.later(h:Post D O W b H Q r)(e:Same H a)(f:Same b a):Post D O W a a Q r:=by
 cases r with
 | ok d c=>exact λ v i s g=>h v i (e.trans s) (g.since f)
theorem GotL.since(h:GotL D O W a H l vs)(e:Same b a):GotL D O W b H l vs:=by
 induction h with
 | nil=>exact .nil
 | cons g _ c=>exact .cons (g.since e) c
def iC.later(h:iC D H Q r)(e:Same H a):iC D a Q r:=by
 cases r with
 | ok b=>exact λ c s=>h c (e.trans s)
def PE.weak(h:PE X e t)(k:∀a H Q,t' a H Q->t a H Q):PE X e t':=λ b s a H Q I q=>h b s a H Q I (k a H Q q)
def PT.weak(h:PT X e t)(k:∀a H Q,t' a H Q->t a H Q):PT X e t':=λ b s a H Q I q=>h b s a H Q I (k a H Q q)
def PW.weak(h:PW X e t)(k:∀b H Q,t' b H Q->t b H Q):PW X e t':=λ a c s b H Q I q=>h a c s b H Q I (k b H Q q)
def PA.weak(h:PA X e t)(k:∀a H Q,t' a H Q->t a H Q):PA X e t':=λ c b s a H Q I q=>h c b s a H Q I (k a H Q q)
def PS.weak(h:PS X e t)(k:∀D a H,t' D a H->t D a H):PS X e t':=λ b s a H D I q=>h b s a H D I (k D a H q)
def PSs.weak(h:PSs X e t)(k:∀D a H,t' D a H->t D a H):PSs X e t':=λ b s a H D I q=>h b s a H D I (k D a H q)
def tH:PW X e (λ _ _ _=>False):=λ _ _ _ _ _ _ _ h=>h.elim
def mi:PE X e (λ _ _ _=>False):=λ _ _ _ _ _ _ h=>h.elim
def V1(h:n<=p7):n<=sizeLine:=i7 h KL
def tJ(g:∀j,PE X a j->PE X e (tUn r j))(m:∀q,f=some q->PE X a KZ)(h:Re.thn f k=some c)
  (l:∀O W i H x Q d cx (σ:St),k d cx=some c->Hid O W i H->Got X.D O W i H d cx x->Post X.D O W i H Q c->r x H Q):PE X e (dE X.D δ c):=by
 cases b:f with
 | none=>rw[b]at h;cases h
 | some q=>
  rw[b]at h;have A:=m q b;cases q with
  | ok d cx=>
   exact(g _ A).weak λ σ H Q ⟨O,W,R,p⟩=>⟨O,W,R,λ x o s1 n=>l O W H o x Q d cx σ h Lh n (p.step s1)⟩
def tK{k:DV->Cl->DV->Cl->Kr Re}(v:∀q,m=some q->PE X a KZ)(u:∀q,l=some q->PE X b KZ)
  (h:(Re.thn m λ x cx=>Re.thn l λ y cy=>k x cx y cy)=some e)
  (s:∀O W j H x y Q i cx g cy (σ:St),k i cx g cy=some e->Hid O W j H->Got X.D O W j H i cx x->Got X.D O W j H g cy y->Post X.D O W j H Q e->r x y H Q) :
  ∃o n,PE X a o/\PE X b n/\∀σ H Q,dE X.D δ e σ H Q->tOp r o n σ H Q:=by
 cases d:m with
 | none=>rw[d]at h;cases h
 | some q=>
  rw[d]at h;have A:=v q d;cases q with
  | ok i cx=>
   have f:=h;cases c:l with
   | none=>rw[c]at f;cases f
   | some q=>
    rw[c]at f;have B:=u q c;cases q with
    | ok g cy=>
     exact⟨_,_,A,B,λ σ H Q ⟨O,W,R,p⟩=>⟨O,W,R,λ x H1 s1 z=>⟨O,W,R.mono s1,λ y C s2 w=>
      s O W H C x y Q i cx g cy σ f ((Lh).mono s2) (z.mono s2) (w.since s1) (p.step (s1.trans s2))⟩⟩⟩
def mj{k:DV->Cl->DV->Cl->Kr Re}(i:∀g f,PE X a g->PE X b f->PE X e (tOp r g f))(s:∀q,l=some q->PE X a KZ)(p:∀q,j=some q->PE X b KZ)
  (h:(Re.thn l λ x cx=>Re.thn j λ y cy=>k x cx y cy)=some c)
  (o:∀O W d H x y Q n cx m cy (σ:St),k n cx m cy=some c->Hid O W d H->Got X.D O W d H n cx x->Got X.D O W d H m cy y->Post X.D O W d H Q c->r x y H Q):PE X e (dE X.D δ c):=by
 obtain⟨g,f,A,B,q⟩:=tK s p h o;exact(i _ _ A B).weak q
def eK(d:∀t,PA X es t->PE X e (tCB r t))(i:∀q,c=some q->PA X es MH)(h:Rs.thn c k=some b)
  (g:∀O W f H vs Q l (σ:St),k l=some b->Hid O W f H->GotL X.D O W f H l vs->Post X.D O W f H Q b->r vs H Q):PE X e (dE X.D δ b):=by
 cases a:c with
 | none=>rw[a]at h;cases h
 | some q=>
  rw[a]at h;have A:=i q a;cases q with
  | ok l=>
   exact(d _ A).weak λ σ H Q ⟨O,W,R,p⟩=>⟨O,W,R,λ vs m s1 j=>g O W H m vs Q l σ h Lh j (p.step s1)⟩
def CV{i:Nat}(g:X.N[i]? = some x)(hv:Vis X.env.scope x)(hd:Lu=false)(c:(x==("__classdict__" : Str))=false)
  (h:varE δ[i]? = some r):PE X (Mo pos) (dE X.D δ r):=
 (O0 g hv hd c).weak λ σ H Q ⟨O,W,R,p⟩=>by
  unfold varE at h;split at h
  ·rename_i d q;cases h;obtain⟨v,e,b⟩:=R.val i d q;exact⟨v,e,p v H Lm b⟩
  ·rename_i d q;cases h;obtain⟨a,f,ds,l,e,b,k,j⟩:=R.own i d q;subst l;refine⟨.ref a,e,p _ H Lm ⟨a,f,rfl,b,?_,j⟩⟩;rw[k8 (R.hid.dj a b)];exact k
  ·cases h
def CW:PE X (.Constant (.int i) j pos) (dE X.D δ (Lc (.int i))):=yE.weak λ σ H Q ⟨O,W,R,p⟩=>p _ H Lm B2
def CY:PE X (.Constant (.bool i) j pos) (dE X.D δ (Lc (.bl i))):=qm.weak λ σ H Q ⟨O,W,R,p⟩=>p _ H Lm aj
def CZ(h:i.length<=sizeLine):PE X (.Constant (.str i) j pos) (dE X.D δ (Lc (.str i))):=kz.weak λ σ H Q ⟨O,W,R,p⟩=>p _ H Lm (bS.mpr ⟨rfl,h⟩:Rep X.D (Ll (O++W)) _ _)
def Da:PE X (.Constant .none j pos) (dE X.D δ (.ok .non .strong)):=qo.weak λ σ H Q ⟨O,W,R,p⟩=>p _ H Lm CS
section
variable {X:Cx} {δ:on Sv} {a b c e:Kw} {pos:Pos} {ra rb:Kr Re} {re:Re}
def bU{a:Hp}(b:LW a)(e:Got D O W a H (.int i) h x)(d:Got D O W a H (.int j) f y)(c:C i j)(q:Q (g i j) H):rI C g x y H Q:=
 ⟨i,j,e.int b,d.int b,c,q⟩
def mn{a:Hp}{e:Cl}(b:LW a)(d:Got D O W a H (.int i) f x)(c:Got D O W a H (.int j) e y)(q:Q (g i j) H):rI0 g x y H Q:=
 ⟨i,j,d.int b,c.int b,q⟩
def tL{b a:Cl}(h:b ≠ .weak)(c:a ≠ .weak):Cl.anew b a=.fresh:=by
 cases b<;>cases a<;>first | rfl | exact absurd rfl h | exact absurd rfl c
def iE(i j:Int):Prop:=CMul i j\/(i.natAbs<2^2000/\j.natAbs<2^2000)
def tM(h:i.natAbs<2^n):Builtin.Int.intBits i<=n:=by
 unfold Builtin.Int.intBits;by_cases a:i=0
 ·subst a;exact D9 n
 ·rw[g9 Mn];have:=λ z=>a (Int.natAbs_eq_zero.mp z)
  exact(gA this).mpr h
theorem iE.ok(h:iE i j):IntMulOk i j:=by
 rcases h with h | ⟨h1,h2⟩
 ·exact h.ok
 ·unfold IntMulOk;have b1:=tM h1;have b2:=tM h2;have:Builtin.Int.intTooBig ((Builtin.Int.intBits i:Int)+(Builtin.Int.intBits j:Int))=false:=by
   unfold Builtin.Int.intTooBig;rw[B8];have:((bitsLine:Nat):Int)=134217728:=by decide
   omega
  rw[this,fZ];exact B5
def Db:OpR X (binaryOp .Mult) (rI iE λ i j=>.int (i*j)):=opI λ _ _ _ _ _ _ _ a q=>mul_int q a.ok
def Dc:OpR X (binaryOp .FloorDiv) (rI (λ _ j=>0<j/\j<2^200) λ i j=>.int (i/j)):=opI λ i j _ _ _ _ _ a q=>by
 have h1:=a.1;have b:j.natAbs<2^200:=by have:=a.2;omega
 refine floordiv_int KE (by rw[pF i KE];exact q) (.inl (PyProof.noPylong_of_log2 ?_));exact t7 ((gA KE).mpr b) KL
def binR(X:Cx):Operator->R2
 | .Add=>λ x y H Q=>rI0 (λ i j=>.int (i+j)) x y H Q\/rCat x y H Q\/qZ X.K x y H Q
 | .Sub=>rI0 λ i j=>.int (i - j)
 | .Mult=>λ x y H Q=>rI iE (λ i j=>.int (i*j)) x y H Q\/rRep x y H Q
 | .Mod=>λ x y H Q=>rI (λ _ j=>0<j) (λ i j=>.int (i%j)) x y H Q\/rI (λ _ j=>j≠0) (λ i j=>.int (i.fmod j)) x y H Q
 | .FloorDiv=>rI (λ _ j=>0<j/\j<2^200) λ i j=>.int (i/j)
 | .LShift=>rI CPow λ i j=>.int (i*2^j.toNat)
 | .RShift=>rI (λ _ j=>0<=j) λ i j=>.int (i/2^j.toNat)
 | .BitAnd=>rI0 λ i j=>.int (Builtin.bitAnd i j)
 | _=>λ _ _ _ _=>False
def Dd{a:Operator}:OpR X (binaryOp a) (binR X a):=by
 cases a with
 | Add=>exact zm.or (Aq.or Ad)
 | Sub=>exact zn
 | Mult=>exact Db.or As
 | Mod=>exact zo.or zp
 | FloorDiv=>exact Dc
 | LShift=>exact zq
 | RShift=>exact zr
 | BitAnd=>exact zt
 | BitOr=>exact λ _ _ _ _ _ _ _ _ _ _ _ _ h=>h.elim
 | BitXor=>exact λ _ _ _ _ _ _ _ _ _ _ _ _ h=>h.elim
 | MatMult=>exact λ _ _ _ _ _ _ _ _ _ _ _ _ h=>h.elim
 | Div=>exact λ _ _ _ _ _ _ _ _ _ _ _ _ h=>h.elim
 | Pow=>exact λ _ _ _ _ _ _ _ _ _ _ _ _ h=>h.elim
def E7(h:asI d=some i):d=.int i:=by cases d<;>cases h;rfl
def De(h:asL d=some i):d=.lst i:=by cases d<;>cases h;rfl
def Df(h:asTp d=some i):d=.tup i:=by cases d<;>cases h;rfl
def Dg(h:binD C I F cx cy=some re)(hd:LW w)(c:Got X.D O W w H I cx x)(e:Got X.D O W w H F cy y)
  (p:Post X.D O W w H Q re):binR X C x y H Q:=by
 unfold binD at h;cases C
 case Add=>
  dsimp only at h;split at h
  ·rename_i o
   replace h:=z9.mp h
   obtain⟨n,a,h⟩:=h;have a:=E7 a;subst a;cases h;exact .inl (mn hd c e (p _ H Lm B2))
  ·rename_i E
   replace h:=z9.mp h
   obtain⟨B,a,h⟩:=h;have a:=De a;subst a;split at h
   ·rename_i m;cases h;by_cases g:cx ≠ .weak/\cy ≠ .weak
    ·obtain⟨j,i,b,l,r1⟩:=c.items hd g.1;obtain⟨u,r,a,v,f⟩:=e.items hd g.2;refine .inr (.inl ⟨j,u,i,r,b,a,l,v,by rw[r1.length,f.length];exact V1 m,λ q d=>p _ _ (x4 d) ?_⟩);rw[tL g.1 g.2];exact X7 hd d (r1.append f)
    ·obtain⟨j,i,b,l,r1⟩:=c.lst hd;obtain⟨u,r,a,v,f⟩:=e.lst hd;refine .inr (.inl ⟨j,u,i,r,b,a,l,v,by rw[r1.length,f.length];exact V1 m,λ q d=>p _ _ (x4 d) ?_⟩);have:Cl.anew cx cy=.weak:=(by cases cx<;>cases cy<;>first | rfl | exact absurd ⟨(by intro z;cases z),KP⟩ g);rw[this];exact md hd d (r1.append f)
   ·cases h
  ·rename_i E
   replace h:=z9.mp h
   obtain⟨B,a,h⟩:=h;have a:=Df a;subst a;split at h
   ·rename_i m;cases h;by_cases g:cx ≠ .weak/\cy ≠ .weak
    ·obtain⟨j,i,b,l,r1⟩:=c.itemsT hd g.1;obtain⟨u,r,a,v,f⟩:=e.itemsT hd g.2;have cl:(Cl.anew cx cy).notF=.strong:=by rw[tL g.1 g.2];rfl
     rw[cl]at p;refine .inr (.inr ⟨j,u,i,r,b,a,l,v,λ z=>m.2 (by have:=r1.length;rw[z]at this;exact aC.mp this.symm),by rw[r1.length,f.length];exact V1 m.1,λ z=>?_,λ _ q d=>p _ _ (x4 d) (eJ hd d (r1.append f))⟩);refine p _ _ (Same.refl _) ?_;have A:B=[]:=by have:=f.length;rw[z]at this;exact aC.mp this.symm
     subst A;rw[B3];cases cx with
     | weak=>exact absurd rfl g.1
     | top=>rw[←b];exact c
     | strong=>rw[←b];exact c
     | fresh=>obtain⟨_,_,_,_,q,_⟩:=c;cases q
    ·obtain⟨j,i,b,l,r1⟩:=c.tup hd;obtain⟨u,r,a,v,f⟩:=e.tup hd;have cl:(Cl.anew cx cy).notF=.weak:=(by cases cx<;>cases cy<;>first | rfl | exact absurd ⟨(by intro z;cases z),KP⟩ g);rw[cl]at p;refine .inr (.inr ⟨j,u,i,r,b,a,l,v,λ z=>m.2 (by have:=r1.length;rw[z]at this;exact aC.mp this.symm),by rw[r1.length,f.length];exact V1 m.1,λ z=>?_,λ _ q d=>p _ _ (x4 d) (me hd d (r1.append f))⟩);refine p _ _ (Same.refl _) ?_;have A:B=[]:=by have:=f.length;rw[z]at this;exact aC.mp this.symm
     subst A;rw[B3,←b];exact c.weak hd
   ·cases h
  ·cases h
 case Sub=>
  dsimp only at h
  replace h:=z9.mp h
  obtain⟨o,b,h⟩:=h
  replace h:=z9.mp h
  obtain⟨n,a,h⟩:=h;have b:=E7 b;have a:=E7 a;subst b a;cases h;exact mn hd c e (p _ H Lm B2)
 case Mult=>
  dsimp only at h;split at h
  ·rename_i o
   replace h:=z9.mp h
   obtain⟨n,a,h⟩:=h;have a:=E7 a;subst a;split at h
   ·rename_i m;cases h;refine .inl (bU hd c e ?_ (p _ H Lm B2));unfold M7 at m;simp only[D8,f7,B7]at m;exact m
   ·cases h
  ·rename_i E
   replace h:=z9.mp h
   obtain⟨k,a,h⟩:=h;have a:=E7 a;subst a;split at h
   ·rename_i m;cases h;obtain⟨j,i,b,l,r1⟩:=c.lstC hd;refine .inr ⟨j,k,i,b,e.int hd,l,m.2.1,m.2.2,by rw[r1.length];exact V1 m.1,λ q d=>p _ _ (x4 d) (eI hd d (r1.rep _))⟩
   ·cases h
  ·cases h
 case Mod=>
  dsimp only at h
  replace h:=z9.mp h
  obtain⟨o,b,h⟩:=h
  replace h:=z9.mp h
  obtain⟨n,a,h⟩:=h;have b:=E7 b;have a:=E7 a;subst b a;split at h
  ·rename_i m;cases h;exact .inl (bU hd c e m (p _ H Lm B2))
  ·split at h
   ·rename_i m;cases h;exact .inr (bU hd c e m (p _ H Lm B2))
   ·cases h
 case FloorDiv=>
  dsimp only at h
  replace h:=z9.mp h
  obtain⟨o,b,h⟩:=h
  replace h:=z9.mp h
  obtain⟨n,a,h⟩:=h;have b:=E7 b;have a:=E7 a;subst b a;split at h
  ·rename_i m;cases h;exact bU hd c e m (p _ H Lm B2)
  ·cases h
 case LShift=>
  dsimp only at h
  replace h:=z9.mp h
  obtain⟨o,b,h⟩:=h
  replace h:=z9.mp h
  obtain⟨n,a,h⟩:=h;have b:=E7 b;have a:=E7 a;subst b a;split at h
  ·rename_i m;cases h;exact bU hd c e m (p _ H Lm B2)
  ·cases h
 case RShift=>
  dsimp only at h
  replace h:=z9.mp h
  obtain⟨o,b,h⟩:=h
  replace h:=z9.mp h
  obtain⟨n,a,h⟩:=h;have b:=E7 b;have a:=E7 a;subst b a;split at h
  ·rename_i m;cases h;exact bU hd c e m (p _ H Lm B2)
  ·cases h
 case BitAnd=>
  dsimp only at h
  replace h:=z9.mp h
  obtain⟨o,b,h⟩:=h
  replace h:=z9.mp h
  obtain⟨n,a,h⟩:=h;have b:=E7 b;have a:=E7 a;subst b a;cases h;exact mn hd c e (p _ H Lm B2)
 all_goals (dsimp only at h;cases h)
def Dh(f:∀q,ra=some q->PE X a KZ)(e:∀q,rb=some q->PE X b KZ)(h:(Re.thn ra λ x d=>Re.thn rb λ y c=>binD op x y d c)=some re):PE X (.BinOp a op b pos) (dE X.D δ re):=
 mj (λ _ _=>zi Dd) f e h λ O W H0 H x y Q dx d dy c σ k hd i g p=>Dg k hd i g p
def Di(b:∀q,ra=some q->PE X a KZ)(h:(Re.thn ra λ x _=>match x with | .int i=>some (Lc (.int (-i))) | _=>none)=some re):PE X (.UnaryOp .USub a pos) (dE X.D δ re):=
 tJ (λ _=>zj zu) b h λ O W H0 H x Q dx cx σ k hd c p=>by
  split at k
  ·cases k;exact⟨_,c.int hd,p _ H Lm B2⟩
  ·cases k
def Dj:atD ds i=L2.atI ds i:=rfl
theorem RepL.atI(h:RepL D H ds xs)(e:atD ds i=some d):∃v,L2.atI xs i=some v/\Rep D H d v:=by
 rw[Dj]at e;unfold L2.atI at e ⊢;rw[h.length];cases q:ixN ds.length i with
 | none=>rw[q]at e;cases e
 | some j=>
  rw[q]at e;exact h.get e
def Dk(h:((ixD A w).map λ d=>Re.ok d cx.item)=some re)(hd:LW k)(s:Got X.D O W k H A cx x)(r:Got X.D O W k H w cy y)
  (p:Post X.D O W k H Q re):rIx X.K x y H Q:=by
 obtain⟨d,e,F⟩:=A6.mp h;cases F;unfold ixD at e;split at e
 ·rename_i c i;obtain⟨a,g,f⟩:=X6.mp (s.all hd);obtain⟨n,E,C⟩:=A6.mp e;cases C;have q:L2.atI (c.map V.int) i=some (.int n):=by
   unfold L2.atI;rw[g8];have b:((ixN c.length i).bind λ j=>c[j]?)=some n:=E;cases z:ixN c.length i with
   | none=>rw[z]at b;cases b
   | some j=>
    rw[z]at b;have B:c[j]? = some n:=b;show(c.map V.int)[j]? = _;rw[t5,B];rfl
  refine .inl ⟨a,_,i,_,g,r.int hd,f.sq,q,p _ H Lm ?_⟩;cases cx<;>exact B2
 ·obtain⟨a,l,g,f,u⟩:=s.lstC hd;obtain⟨v,o,m⟩:=u.atI e;exact .inl ⟨a,l,_,v,g,r.int hd,SqL.of f,o,p _ H Lm (Got.item m)⟩
 ·obtain⟨a,l,g,f,u⟩:=s.tupC hd;obtain⟨v,o,m⟩:=u.atI e;exact .inr (.inl ⟨a,l,_,v,g,r.int hd,f,o,p _ H Lm (Got.item m)⟩)
 ·cases e
def Dl(g:∀q,ra=some q->PE X a KZ)(f:∀q,rb=some q->PE X b KZ)(e:U8 b=false)(h:(Re.thn ra λ x c=>Re.thn rb λ y _=>(ixD x y).map λ d=>.ok d c.item)=some re):PE X (.Subscript a b pos) (dE X.D δ re):=
 mj (λ _ _ j i=>kU Ag j i (by cases b<;>first | (intro _ _;rfl) | cases e)) g f h λ O W H0 H x y Q dx c dy cy σ k hd m l p=>Dk k hd m l p
def iF(n d:Nat)(o:Kr Int):slIx n d o=HT.sIx n d o:=by cases o<;>rfl
def RepL.cut(h:RepL D H ds xs)(a b:Kr Int):RepL D H (cutD ds a b) (cutV xs a b):=by
 unfold cutD cutV;rw[iF,iF,←h.length];exact(h.drop _).take _
def mq{e:Kr Int}(h:((slD n e f).map λ d=>Re.ok d (slCl n cx))=some re)(hd:LW o)(l:Got X.D O W o H n cx x)
  (p:Post X.D O W o H Q re):rSlL X.K x e f H Q\/rSlT X.K x e f H Q:=by
 obtain⟨d,c,s⟩:=A6.mp h;cases s;unfold slD at c;split at c
 ·rename_i r;cases c;obtain⟨a,i,g⟩:=X6.mp (l.all hd);exact .inl ⟨a,_,i,g.sq,λ q b=>p _ _ (x4 b) (X7 hd b ((eH r).cut e f))⟩
 ·cases c;obtain⟨a,k,i,g,j⟩:=l.lstC hd;exact .inl ⟨a,k,i,SqL.of g,λ q b=>p _ _ (x4 b) (eI hd b (j.cut e f))⟩
 ·rename_i ds;split at c
  ·cases c
  ·rename_i m;cases c;obtain⟨a,k,i,g,j⟩:=l.tupC hd;refine .inr ⟨a,k,i,g,?_,λ q b=>p _ _ (x4 b) (tG hd b (j.cut e f))⟩;rw[iF,iF,←j.length]at m;exact m
 ·cases c
def mr:SlR X (λ x a b H Q=>rSlL X.K x a b H Q\/rSlT X.K x a b H Q):=Am.or Ac
def iG(h:PE X b (dE X.D δ (.ok (.int i) cl))):PO X (some b) (λ d H Q=>∃O W,RSt X.D H d δ O W/\∀c,Same H c->Q (some i) c):=λ a s d H Q I ⟨O,W,R,p⟩=>
 Ab h a s d H Q I ⟨O,W,R,λ v c s1 g=>⟨i,g.int Lh,p c s1⟩⟩
def Do(j:∀q,ra=some q->PE X a KZ)(i:∀q,rb=some q->PE X b KZ)(h:(Re.thn ra λ x g=>Re.thn rb λ l _=>match l with
  | .int l=>(slD x (some l) none).map λ d=>.ok d (slCl x g) | _=>none)=some re):PE X (.Subscript a (.Slice (some b) none none p2) pos) (dE X.D δ re):=by
 cases e:ra with
 | none=>rw[e]at h;cases h
 | some q=>
  rw[e]at h;have A:=j q e;cases q with
  | ok n g=>
   cases c:rb with
   | none=>rw[c]at h;cases h
   | some q=>
    rw[c]at h;have B:=i q c;cases q with
    | ok m cy=>
     have f:(match(generalizing:=false) m with | .int l=>(slD n _ none).map λ d=>Re.ok d _ | _=>none)=some re:=h;split at f
     ·rename_i l;exact(kO mr A (iG B) qX).weak λ σ H Q ⟨O,W,R,p⟩=>⟨O,W,R,λ x H1 s1 k=>⟨O,W,R.mono s1,λ H2 s2=>mq f ((Lh).mono s2) (k.mono s2) (p.step (s1.trans s2))⟩⟩
     ·cases f
def Dp(j:∀q,ra=some q->PE X a KZ)(i:∀q,rb=some q->PE X b KZ)(h:(Re.thn ra λ x g=>Re.thn rb λ l _=>match l with
  | .int l=>(slD x none (some l)).map λ d=>.ok d (slCl x g) | _=>none)=some re):PE X (.Subscript a (.Slice none (some b) none p2) pos) (dE X.D δ re):=by
 cases e:ra with
 | none=>rw[e]at h;cases h
 | some q=>
  rw[e]at h;have A:=j q e;cases q with
  | ok n g=>
   cases c:rb with
   | none=>rw[c]at h;cases h
   | some q=>
    rw[c]at h;have B:=i q c;cases q with
    | ok m cy=>
     have f:(match(generalizing:=false) m with | .int l=>(slD n none _).map λ d=>Re.ok d _ | _=>none)=some re:=h;split at f
     ·rename_i l;exact(kO mr A qX (iG B)).weak λ σ H Q ⟨O,W,R,p⟩=>⟨O,W,R,λ x H1 s1 k=>⟨O,W,R.mono s1,λ H2 s2=>mq f ((Lh).mono s2) (k.mono s2) (p.step (s1.trans s2))⟩⟩
     ·cases f
def Dq(v:∀q,ra=some q->PE X a KZ)(s:∀q,rb=some q->PE X b KZ)(r:∀q,j=some q->PE X c KZ)(h:(Re.thn ra λ x o=>Re.thn rb λ l _=>match l with
  | .int l=>Re.thn j λ u _=>(match u with
   | .int u=>(slD x (some l) (some u)).map λ d=>.ok d (slCl x o) | _=>none) | _=>none)=some re):PE X (.Subscript a (.Slice (some b) (some c) none p2) pos) (dE X.D δ re):=by
 cases g:ra with
 | none=>rw[g]at h;cases h
 | some q=>
  rw[g]at h;have A:=v q g;cases q with
  | ok n o=>
   cases f:rb with
   | none=>rw[f]at h;cases h
   | some q=>
    rw[f]at h;have B:=s q f;cases q with
    | ok z cy=>
     have i:(match(generalizing:=false) z with | .int l=>Re.thn j λ u _=>(match u with | .int u=>(slD n (some l) (some u)).map λ d=>Re.ok d _ | _=>none) | _=>none)=some re:=h;split at i
     ·rename_i l;cases e:j with
      | none=>rw[e]at i;cases i
      | some q=>
       rw[e]at i;have C:=r q e;cases q with
       | ok y cz=>
        have m:(match(generalizing:=false) y with | .int u=>(slD n (some l) (some u)).map λ d=>Re.ok d (slCl n o) | _=>none)=some re:=i;split at m
        ·rename_i u;exact(kO mr A (iG B) (iG C)).weak λ σ H Q ⟨O,W,R,p⟩=>⟨O,W,R,λ x H1 s1 w=>⟨O,W,R.mono s1,λ H2 s2=>⟨O,W,(MB).mono s2,λ H3 k=>mq m (((Lh).mono s2).mono k) ((w.mono s2).mono k) (p.step (s1.trans (s2.trans k)))⟩⟩⟩
        ·cases m
     ·cases i
end
mutual
noncomputable def toP:DV->PyData
 | .non=>.none | .bl b=>.bool b | .int i=>.int i | .str x=>.str x
 | .tup ds=>.tuple (toPs ds) | .lst ds=>.list (toPs ds)
 | _=>.none
noncomputable def toPs:on DV->on PyData
 | []=>[]
 | d::r=>toP d::toPs r
end
mutual
theorem eM:∀(n m:Nat) (d e:DV),d.plain n=true->e.plain m=true->PyData.eqv (toP d) (toP e)=deq d e
 | n,m,.non,e,_,h=>by cases e<;>first | (cases m<;>simp[DV.plain]at h;done) | (simp only[toP,PyData.eqv,deq])
 | n,m,.bl _,e,_,h=>by cases e<;>first | (cases m<;>simp[DV.plain]at h;done) | (simp only[toP,PyData.eqv,deq])
 | n,m,.int _,e,_,h=>by cases e<;>first | (cases m<;>simp[DV.plain]at h;done) | (simp only[toP,PyData.eqv,deq])
 | n,m,.str x,e,_,h=>by
  cases e with
  | str y=>simp only[toP,PyData.eqv,deq];rfl
  | non=>simp only[toP,PyData.eqv,deq]
  | bl _=>simp only[toP,PyData.eqv,deq]
  | int _=>simp only[toP,PyData.eqv,deq]
  | tup _=>simp only[toP,PyData.eqv,deq]
  | lst _=>simp only[toP,PyData.eqv,deq]
  | dct _ _=>cases m<;>simp[DV.plain]at h
  | fn _=>cases m<;>simp[DV.plain]at h
  | lam _ _=>cases m<;>simp[DV.plain]at h
  | scr _=>cases m<;>simp[DV.plain]at h
 | 0,_,.tup _,_,h,_=>by simp[DV.plain]at h
 | 0,_,.lst _,_,h,_=>by simp[DV.plain]at h
 | n+1,m,.tup ds,e,h,h'=>by
  cases e with
  | tup es=>
   cases m with
   | zero=>simp[DV.plain]at h'
   | succ m=>
    simp only[toP,PyData.eqv,deq];exact mt n m ds es (Ml h) (Ml h')
  | non=>simp only[toP,PyData.eqv,deq]
  | bl _=>simp only[toP,PyData.eqv,deq]
  | int _=>simp only[toP,PyData.eqv,deq]
  | str _=>simp only[toP,PyData.eqv,deq]
  | lst _=>simp only[toP,PyData.eqv,deq]
  | dct _ _=>cases m<;>simp[DV.plain]at h'
  | fn _=>cases m<;>simp[DV.plain]at h'
  | lam _ _=>cases m<;>simp[DV.plain]at h'
  | scr _=>cases m<;>simp[DV.plain]at h'
 | n+1,m,.lst ds,e,h,h'=>by
  cases e with
  | lst es=>
   cases m with
   | zero=>simp[DV.plain]at h'
   | succ m=>
    simp only[toP,PyData.eqv,deq];exact mt n m ds es (Ml h) (Ml h')
  | non=>simp only[toP,PyData.eqv,deq]
  | bl _=>simp only[toP,PyData.eqv,deq]
  | int _=>simp only[toP,PyData.eqv,deq]
  | str _=>simp only[toP,PyData.eqv,deq]
  | tup _=>simp only[toP,PyData.eqv,deq]
  | dct _ _=>cases m<;>simp[DV.plain]at h'
  | fn _=>cases m<;>simp[DV.plain]at h'
  | lam _ _=>cases m<;>simp[DV.plain]at h'
  | scr _=>cases m<;>simp[DV.plain]at h'
 | n,_,.dct _ _,_,h,_=>by cases n<;>simp[DV.plain]at h
 | n,_,.fn _,_,h,_=>by cases n<;>simp[DV.plain]at h
 | n,_,.lam _ _,_,h,_=>by cases n<;>simp[DV.plain]at h
 | n,_,.scr _,_,h,_=>by cases n<;>simp[DV.plain]at h
theorem mt:∀(n m:Nat) (ds es:on DV),DV.plains n ds=true->DV.plains m es=true->PyData.eqvAll (toPs ds) (toPs es)=deqs ds es
 | _,_,[],[],_,_=>by simp only[toPs,PyData.eqvAll,deqs]
 | _,_,[],_::_,_,_=>by simp only[toPs,PyData.eqvAll,deqs]
 | _,_,_::_,[],_,_=>by simp only[toPs,PyData.eqvAll,deqs]
 | n,m,d::ds,e::es,h,h'=>by simp only[DV.plains,f7]at h h';simp only[toPs,PyData.eqvAll,deqs,eM n m d e h.1 h'.1,mt n m ds es h.2 h'.2]
end
mutual
theorem eO:∀(n:Nat) (d:DV),d.plain n=true->(toP d).canLay0=true/\(toP d).depth<=n
 | n,.non,_=>by simp[toP,PyData.canLay0,PyData.depth]
 | n,.bl _,_=>by simp[toP,PyData.canLay0,PyData.depth]
 | n,.int _,_=>by simp[toP,PyData.canLay0,PyData.depth]
 | n,.str x,h=>by
  have h':(x.cps.all (· < 0x110000))=true:=by cases n<;>simpa[DV.plain]using h
  simp only[toP,PyData.canLay0,PyData.depth];exact⟨h',D9 _⟩
 | 0,.tup _,h=>by simp[DV.plain]at h
 | 0,.lst _,h=>by simp[DV.plain]at h
 | n+1,.tup ds,h=>by have q:=bV n ds (Ml h);simp only[toP,PyData.canLay0,PyData.depth,q.1,true_and];have:=q.2;omega
 | n+1,.lst ds,h=>by have q:=bV n ds (Ml h);simp only[toP,PyData.canLay0,PyData.depth,q.1,true_and];have:=q.2;omega
 | n,.dct _ _,h=>by cases n<;>simp[DV.plain]at h
 | n,.fn _,h=>by cases n<;>simp[DV.plain]at h
 | n,.lam _ _,h=>by cases n<;>simp[DV.plain]at h
 | n,.scr _,h=>by cases n<;>simp[DV.plain]at h
theorem bV:∀(n:Nat) (ds:on DV),DV.plains n ds=true->PyData.canLayAll0 (toPs ds)=true/\PyData.depthAll (toPs ds)<=n
 | _,[],_=>by simp[toPs,PyData.canLayAll0,PyData.depthAll]
 | n,d::ds,h=>by simp only[DV.plains,f7]at h;have q:=eO n d h.1;have q':=bV n ds h.2;simp only[toPs,PyData.canLayAll0,PyData.depthAll,q.1,q'.1,Bool.and_self,true_and];have a:=q.2;have b:=q'.2;omega
end
section
variable {X:Cx} {pins:on (Ku×Obj)} {σ:St} {H:Hp} {s:Kt}
mutual
theorem S8(I:KR pins):∀(n:Nat) {d:DV} {v:V} {u:Ks},d.plain n=true->Rep X.D H d v->RelV v u->∃as,Reads s.heap u (toP d) as
 | _,.non,_,_,_,h,r=>by rw[X5.mp h]at r;cases r;exact⟨_,Reads.none⟩
 | _,.bl b,_,_,_,h,r=>by rw[ah.mp h]at r;cases r;exact⟨_,Reads.bool b⟩
 | _,.int i,_,_,_,h,r=>by rw[z8.mp h]at r;obtain⟨t,rfl⟩:=r;exact⟨_,Reads.int i t⟩
 | _,.str x,_,_,_,h,r=>by rw[(bS.mp h).1]at r;obtain⟨t,rfl⟩:=r;exact⟨_,Reads.str x t⟩
 | 0,.tup _,_,_,p,_,_=>by simp[DV.plain]at p
 | 0,.lst _,_,_,p,_,_=>by simp[DV.plain]at p
 | n+1,.tup ds,_,_,p,h,r=>by obtain⟨a,xs,e1,e2,e3⟩:=F6.mp h;rw[e1]at r;cases r;obtain⟨its,rv,⟨o,h1,h2,k,h3⟩,_⟩:=I.tuple e2;obtain⟨as,q⟩:=mu I n (Ml p) e3 rv;rw[toP];exact⟨as,Reads.tuple h1 h2 h3 (Lq q)⟩
 | n+1,.lst ds,_,_,p,h,r=>by obtain⟨a,xs,e1,e2,e3⟩:=N0.mp h;rw[e1]at r;cases r;obtain⟨_,its,k,rv,_,h1⟩:=I.lstM e2;obtain⟨as,q⟩:=mu I n (Ml p) e3 rv;rw[toP];exact⟨_,Reads.list h1 rfl rfl (Lq q)⟩
 | n,.dct _ _,_,_,h,_,_=>by cases n<;>simp[DV.plain]at h
 | n,.fn _,_,_,h,_,_=>by cases n<;>simp[DV.plain]at h
 | n,.lam _ _,_,_,h,_,_=>by cases n<;>simp[DV.plain]at h
 | n,.scr _,_,_,h,_,_=>by cases n<;>simp[DV.plain]at h
theorem mu(I:KR pins):∀(n:Nat) {ds:on DV} {vs:on V} {us:on Ks},DV.plains n ds=true->RepL X.D H ds vs->Vals vs us->∃as,ReadsAll s.heap us (toPs ds) as
 | _,[],_,_,_,h,r=>by rw[E2.mp h]at r;cases r;exact⟨_,ReadsAll.nil⟩
 | n,d::ds,_,_,p,h,r=>by
  simp only[DV.plains,f7]at p;obtain⟨v,vs,e1,e2,e3⟩:=w6.mp h;subst e1;cases r with
  | cons r1 r2=>
   obtain⟨as,q⟩:=S8 I n p.1 e2 r1;obtain⟨bs,q'⟩:=mu I n p.2 e3 r2;rw[toPs];exact⟨_,ReadsAll.cons q q'⟩
end
def iH(h:d.plain 60=true):SeqAt.shaped (toP d)=true:=by
 have q:=eO 60 d h;unfold SeqAt.shaped;rw[q.1,bD];exact C5 (i7 q.2 KL)
theorem mv(h:d.plain 60=true):∀(a:on DV),DV.plains 60 a=true->((toPs a).any λ y=>PyData.eqv y (toP d))=a.any λ x=>deq x d
 | [],_=>rfl
 | e::a,p=>by simp[DV.plains,f7]at p;rw[toPs,G0,G0,eM 60 60 e d p.1 h,mv h a p.2]
end
section
variable {X:Cx} {δ:on Sv} {a b c e:Kw} {pos:Pos} {ra rb rc:Kr Re} {re:Re}
def cmpR(X:Cx)(op:CmpOp):R2:=λ x y H Q=>∃dx dy k,cmpD op dx dy=some k/\Rep X.D H dx x/\Rep X.D H dy y/\Q (.bl k) H
def Dr(r:Rep D H d v):decide (v=.non)=isN d:=by
 cases d with
 | non=>rw[X5.mp r];rfl
 | bl _=>rw[ah.mp r];rfl
 | int _=>rw[z8.mp r];rfl
 | str _=>rw[(bS.mp r).1];rfl
 | tup _=>obtain⟨a,c,e,_⟩:=F6.mp r;rw[e];rfl
 | lst _=>obtain⟨a,c,e,_⟩:=N0.mp r;rw[e];rfl
 | fn _=>obtain⟨a,e,_⟩:=ma.mp r;rw[e];rfl
 | lam _ _=>obtain⟨a,_,_,_,_,_,_,_,e,_⟩:=lZ.mp r;rw[e];rfl
 | scr _=>obtain⟨a,e,_⟩:=X6.mp r;rw[e];rfl
 | dct _ _=>rcases S6.mp r with⟨a,o,b,e,_⟩ | ⟨a,o,b,e,_⟩<;>rw[e]<;>rfl
def bW(E:X.A.units+64<cLine):OpR X (compareOp w) (cmpR X w):=by
 intro b s n H x y v u Q I j i h;obtain⟨dx,dy,k,a,r1,l,q⟩:=h;have g:∀{z:Bool},z=k->EP X b n Q _ s:=λ {z} e=>⟨.bl z,H,I,rfl,by rw[e];exact q⟩
 unfold cmpD at a;cases w
 case Lt=>
  dsimp only at a
  replace a:=z9.mp a
  obtain⟨C,d,a⟩:=a
  replace a:=z9.mp a
  obtain⟨B,c,a⟩:=a;have d:=E7 d;have c:=E7 c;subst d c;cases a;exact zw b s n H x y v u Q I j i ⟨_,_,z8.mp r1,z8.mp l,q⟩
 case LtE=>
  dsimp only at a
  replace a:=z9.mp a
  obtain⟨C,d,a⟩:=a
  replace a:=z9.mp a
  obtain⟨B,c,a⟩:=a;have d:=E7 d;have c:=E7 c;subst d c;cases a;exact zx b s n H x y v u Q I j i ⟨_,_,z8.mp r1,z8.mp l,q⟩
 case GtE=>
  dsimp only at a
  replace a:=z9.mp a
  obtain⟨C,d,a⟩:=a
  replace a:=z9.mp a
  obtain⟨B,c,a⟩:=a;have d:=E7 d;have c:=E7 c;subst d c;cases a;exact zy b s n H x y v u Q I j i ⟨_,_,z8.mp r1,z8.mp l,q⟩
 case Eq=>
  dsimp only at a;split at a
  ·rename_i p;rw[f7]at p;cases a;obtain⟨A,m⟩:=S8 I 60 p.1 r1 j;obtain⟨bs,f⟩:=S8 I 60 p.2 l i;exact eq_dataH m f (iH p.1) (iH p.2) E (g (eM 60 60 _ _ p.1 p.2))
  ·cases a
 case NotEq=>
  dsimp only at a;split at a
  ·rename_i p;rw[f7]at p;cases a;obtain⟨A,m⟩:=S8 I 60 p.1 r1 j;obtain⟨bs,f⟩:=S8 I 60 p.2 l i;exact ne_dataH m f (iH p.1) (iH p.2) E (g (by rw[eM 60 60 _ _ p.1 p.2]))
  ·cases a
 case Is=>
  dsimp only at a;split at a
  ·cases a;exact zC b s n H x y v u Q I j i ⟨X5.mp l,by rw[Dr r1];exact q⟩
  ·cases a
 case NotIn=>
  dsimp only at a;split at a
  ·rename_i r;split at a
   ·rename_i p;rw[f7]at p;cases a;obtain⟨A,m⟩:=S8 I 60 p.1 r1 j;obtain⟨bs,f⟩:=S8 I 61 (Ml p.2) l i;rw[toP]at f;have o:=eO 60 _ p.1;have J:=bV 60 r p.2;have F:=o.2;exact SeqAt.notIn_list_reads f m J.1 o.1 KE (g (by rw[mv p.1 r p.2]))
   ·cases a
  ·rename_i r;split at a
   ·rename_i p;rw[f7]at p;cases a;obtain⟨A,m⟩:=S8 I 60 p.1 r1 j;obtain⟨bs,f⟩:=S8 I 61 (Ml p.2) l i;rw[toP]at f;have o:=eO 60 _ p.1;have F:=o.2;exact SeqAt.notIn_tuple_reads f m (bV 60 r p.2).1 o.1 KE (g (by rw[mv p.1 r p.2]))
   ·cases a
  ·cases a
 all_goals (cases a)
def mw(h:K0 b=false):behindInMarks op b=false:=by
 cases b<;>first | rfl | cases h
def Ds(d:X.A.units+64<cLine)(g:∀q,ra=some q->PE X a KZ)(f:∀q,rb=some q->PE X b KZ)(e:K0 b=false)
  (h:Mb=some re):PE X (.Compare a [op] [b] pos) (dE X.D δ re):=
 mj (λ _ _ j i=>zE (bW d) j i (mw e)) g f h λ O W H0 H x y Q s cx r cy σ k hd m l p=>by obtain⟨c,o,n⟩:=A6.mp k;cases n;exact⟨s,r,c,o,m.all hd,l.all hd,p _ H Lm aj⟩
def Dt(g:∀q,ra=some q->PE X a KZ)(f:∀q,rb=some q->PE X b KZ)
  (h:Mb=some re):∃d c,PE X a d/\PE X b c/\∀σ H Q,dE X.D δ re σ H Q->tOp (cmpR X op) d c σ H Q:=
 tK g f h λ O W H0 H x y Q o cx n cy σ k hd j i p=>by obtain⟨e,m,l⟩:=A6.mp k;cases l;exact⟨o,n,e,m,j.all hd,i.all hd,p _ H Lm aj⟩
def mx(b:∀d c,re=.ok d c->∃k,d=.bl k)(h:tstD (some re)=some r)(q:dT X.D δ r σ H Q):dE X.D δ re σ H (λ x a=>∃k,x=.bl k/\Q k a):=by
 obtain⟨O,W,R,p⟩:=q;cases re with
 | ok d c=>
  obtain⟨k,rfl⟩:=b d c rfl;cases h;exact⟨O,W,R,λ v a s g=>⟨k,g.bl (R.hid.mono s),p a s⟩⟩
def Du(h:Mb=some re):∀d c,re=.ok d c->∃k,d=.bl k:=by
 intro d c e;subst e;cases ra with
 | none=>cases h
 | some q=>
  cases q with
  | ok d c=>
   cases rb with
   | none=>cases h
   | some q=>
    cases q with
    | ok d' c'=>
     obtain⟨k,_,e⟩:=A6.mp (h);cases e;exact⟨k,rfl⟩
def Dv(d:X.A.units+64<cLine)(g:∀q,ra=some q->PE X a KZ)(f:∀q,rb=some q->PE X b KZ)(e:K0 b=false)
  (h:tstD Mb=some r):PT X (.Compare a [op] [b] pos) (dT X.D δ r):=by
 cases q:(Re.thn ra λ x _=>Re.thn rb λ y _=>(cmpD op x y).map λ k=>Re.ok _ .strong)with
 | none=>rw[q]at h;cases h
 | some re=>
  rw[q]at h;obtain⟨ta,tb,A,B,w⟩:=Dt g f q;exact(zF (bW d) A B (mw e)).weak λ c H Q z=>w c H _ (mx (Du q) h z)
def tN{a:CmpOp}(h:K0 c=false):lastMarks [op,a] [b,c]=false:=by
 show behindInMarks a c=false;exact mw h
def tO{e:CmpOp}(I:∀q,ra=some q->PE X a KZ)(F:∀q,rb=some q->PE X b KZ)(E:∀q,rc=some q->PE X c KZ)
  (h:(Re.thn ra λ x _=>Re.thn rb λ y _=>match cmpD op x y with
   | none=>none
   | some false=>some (Lc (.bl false))
   | some true=>Re.thn rc λ z _=>(cmpD e y z).map λ k=>.ok (.bl k) .strong)=some re):∃w v u,PE X a w/\PE X b v/\PE X c u/\(∀σ H Q,dE X.D δ re σ H Q->kG (cmpR X op) (cmpR X e) w v u σ H Q)/\∀d cl,re=.ok d cl->∃k,d=.bl k:=by
 cases i:ra with
 | none=>rw[i]at h;cases h
 | some q=>
  rw[i]at h;have A:=I q i;cases q with
  | ok s cx=>
   cases g:rb with
   | none=>rw[g]at h;cases h
   | some q=>
    rw[g]at h;have B:=F q g;cases q with
    | ok l cy=>
     have j:(match(generalizing:=false) cmpD op s l with
      | none=>none
      | some false=>some (Re.ok LL .strong)
      | some true=>Re.thn rc λ z _=>(cmpD e l z).map λ k=>.ok (.bl k) .strong)=some re:=h
     split at j
     ·cases j
     ·rename_i r;cases j;exact⟨_,_,_,A,B,mi,λ σ H Q ⟨O,W,R,p⟩=>⟨O,W,R,λ x P s1 o=>⟨O,W,R.mono s1,λ y N s2 n=>
       ⟨s,l,false,r,(o.mono s2).all ((Lh).mono s2),n.all ((MB).hid.mono s2),false,rfl,by rw[g9 B5];exact p _ _ (s1.trans s2) aj⟩⟩⟩,λ d cl z=>by cases z;exact LY⟩
     ·rename_i r;cases f:rc with
      | none=>rw[f]at j;cases j
      | some q=>
       rw[f]at j;have C:=E q f;cases q with
       | ok M cz=>
        obtain⟨k,L,K⟩:=A6.mp (j);cases K;exact⟨_,_,_,A,B,C,λ σ H Q ⟨O,W,R,p⟩=>⟨O,W,R,λ x P s1 o=>⟨O,W,R.mono s1,λ y N s2 n=>
         ⟨s,l,true,r,(o.mono s2).all ((Lh).mono s2),n.all ((MB).hid.mono s2),true,rfl,by
          rw[f8 rfl];exact⟨O,W,(MB).mono s2,λ z H3 m J=>⟨l,M,k,L,(n.mono m).all (((MB).hid.mono s2).mono m),J.all (((MB).mono s2).hid.mono m),p _ _ (s1.trans (s2.trans m)) aj⟩⟩⟩⟩⟩,λ d cl z=>by cases z;exact LY⟩
def Dw(e:X.A.units+64<cLine)(j:∀q,ra=some q->PE X a KZ)(i:∀q,rb=some q->PE X b KZ)(g:∀q,rc=some q->PE X c KZ)(f:K0 c=false)
  (h:(Re.thn ra λ x _=>Re.thn rb λ y _=>match cmpD op x y with
   | none=>none
   | some false=>some (Lc (.bl false))
   | some true=>Re.thn rc λ z _=>(cmpD d y z).map λ k=>.ok (.bl k) .strong)=some re):PE X (.Compare a [op,d] [b,c] pos) (dE X.D δ re):=by
 obtain⟨ta,tb,tc,A,B,C,w,_⟩:=tO j i g h;exact(zG (bW e) (bW e) A B C (tN f)).weak w
def Dx(f:X.A.units+64<cLine)(m:∀q,ra=some q->PE X a KZ)(l:∀q,rb=some q->PE X b KZ)(j:∀q,rc=some q->PE X c KZ)(i:K0 c=false)
  (h:tstD (Re.thn ra λ x _=>Re.thn rb λ y _=>match cmpD op x y with
   | none=>none
   | some false=>some (Lc (.bl false))
   | some true=>Re.thn rc λ z _=>(cmpD d y z).map λ k=>.ok (.bl k) .strong)=some r):PT X (.Compare a [op,d] [b,c] pos) (dT X.D δ r):=by
 cases q:(Re.thn ra λ x _=>Re.thn rb λ y _=>match cmpD op x y with
   | none=>none
   | some false=>some _
   | some true=>Re.thn rc λ z _=>(cmpD d y z).map λ k=>.ok _ .strong)with
 | none=>rw[q]at h;cases h
 | some re=>
  rw[q]at h;obtain⟨ta,tb,tc,A,B,C,w,e⟩:=tO m l j q;exact(zH (bW f) (bW f) A B C (tN i)).weak λ g H Q z=>w g H _ (mx e h z)
end
def bX(h:M6 d=some k)(r:Rep D H d v):TruV D.K v H k:=by
 cases d with
 | non=>cases h;rw[X5.mp r];rfl
 | bl b=>cases h;rw[ah.mp r];rfl
 | int i=>cases h;rw[z8.mp r];rfl
 | str x=>
  cases h;obtain⟨f,e⟩:=bS.mp r;rw[f];refine⟨e,?_⟩;show(x.cps.size != 0)=(((x.cps.size:Nat):Int) != 0);cases x.cps.size with
  | zero=>rfl
  | succ n=>simp only[bne,Nat.add_eq_zero_iff];rw[U1];simp;omega
 | tup j=>
  cases h;obtain⟨a,c,f,e,g⟩:=F6.mp r;rw[f];refine .inr (.inl ⟨c,e,?_⟩);have:=g.length;cases c<;>cases j<;>first | rfl | cases this
 | lst j=>
  cases h;obtain⟨a,c,f,e,g⟩:=N0.mp r;rw[f];refine .inl ⟨c,SqL.of e,?_⟩;have:=g.length;cases c<;>cases j<;>first | rfl | cases this
 | dct _ _=>cases h
 | fn _=>cases h
 | lam _ _=>cases h
 | scr _=>cases h
def Dy(g:∀q,c=some q->PE X e KZ)(f:∀a,isTrue e X.env a=(do let v ←a;standAt e.pos;holding [v] (truthy v)))(h:tstD c=some r):PT X e (dT X.D δ r):=by
 cases b:c with
 | none=>rw[b]at h;cases h
 | some q=>
  rw[b]at h;have A:=g q b;cases q with
  | ok d cl=>
   obtain⟨k,l,j⟩:=A6.mp (h);cases j;exact(zJ A f).weak λ σ H Q ⟨O,W,R,p⟩=>⟨O,W,R,λ x m s1 i=>⟨k,bX l (i.all Lh),p m s1⟩⟩
def Dz(j:PE X a f):PE X (.UnaryOp .Not a pos) (tUn (λ x H Q=>∃k,TruV X.K x H k/\Q (.bl (!k)) H) f):=by
 intro c s e H Q I h;refine UnaryOp_ (thn (j c s e H _ I h) λ v s1 t0=>?_);obtain⟨x,g,o,i,d⟩:=t0;obtain⟨k,t,d⟩:=d;exact not_of (thn (gM c s1 e g x v (λ b q=>b=k/\q=g) o i ⟨k,t,rfl,rfl⟩) λ b s2 ⟨p,n,m,l⟩=>by
  subst m l;exact⟨.bl (!b),p,n,rfl,d⟩)
def DA(e:∀q,d=some q->PE X a KZ)(h:(Re.thn d λ x _=>(M6 x).map λ k=>.ok (.bl (!k)) .strong)=some c):PE X (.UnaryOp .Not a pos) (dE X.D δ c):=
 tJ (λ _=>Dz) e h λ O W H0 H x Q dx cx σ k hd f p=>by obtain⟨b,i,g⟩:=A6.mp k;cases g;exact⟨b,bX i (f.all hd),p _ H Lm aj⟩
def tP{X:Cx}{a b:Kw}{es:on Kw}{pos:Pos}{ta tb:TE}(ha:PE X a ta)(hb:PE X (MN (b::es)) tb):PE X (MN (a::b::es)) (λ σ H Q=>ta σ H λ x H1=>∃k,TruV X.K x H1 k/\if k=true then tb σ H1 Q else Q x H1):=by
 intro pins s σ H Q I h;refine BoolOp_and (thn (ha pins s σ H _ I h) λ v s1 ⟨x,H1,I1,r1,q1⟩=>?_);obtain⟨k,t,q1⟩:=q1;refine thn (gM pins s1 σ H1 x v (λ b H'=>b=k/\H'=H1) I1 r1 ⟨k,t,rfl,rfl⟩) λ c s2 ⟨H2,I2,e1,e2⟩=>?_
 subst e1 e2;cases c with
 | true=>exact hb pins s2 σ H2 Q I2 q1
 | false=>exact⟨x,H2,I2,r1,q1⟩
def tQ(p:PE X a i)(o:PE X (.BoolOp .Or (b::es) pos) tb):PE X (.BoolOp .Or (a::b::es) pos) (λ e H Q=>i e H λ x f=>∃k,TruV X.K x f k/\if k=true then Q x f else tb e f Q):=by
 intro d s e H Q I h;refine BoolOp_or (thn (p d s e H _ I h) λ v s1 t0=>?_);obtain⟨x,f,u,j,g⟩:=t0;obtain⟨k,t,g⟩:=g;refine thn (gM d s1 e f x v (λ b w=>b=k/\w=f) u j ⟨k,t,rfl,rfl⟩) λ c n t0=>?_;obtain⟨m,l,r,q⟩:=t0
 subst r q;cases c with
 | false=>exact o d n e m Q l g
 | true=>exact⟨x,m,l,j,g⟩
def DB(o:∀q,k=some q->PE X a KZ)(n:∀q,j=some q->PE X (MN (b::es)) KZ)(h:(Re.thn k λ x c=>andD x c j)=some g):PE X (MN (a::b::es)) (dE X.D δ g):=by
 cases e:k with
 | none=>rw[e]at h;cases h
 | some q=>
  rw[e]at h;have A:=o q e;cases q with
  | ok d cl=>
   have f:andD d cl j=some g:=h;unfold andD at f;split at f
   ·cases f
   ·rename_i t;exact(tP A (n g f)).weak λ m H Q ⟨O,W,R,p⟩=>⟨O,W,R,λ x l s1 i=>⟨true,bX t (i.all Lh),iteT ⟨O,W,R.mono s1,p.later s1 s1⟩⟩⟩
   ·rename_i t;cases f;exact(tP A mi).weak λ m H Q ⟨O,W,R,p⟩=>⟨O,W,R,λ x l s1 i=>⟨false,bX t (i.all Lh),iteF (p _ l s1 i)⟩⟩
def DC(o:∀q,k=some q->PE X a KZ)(n:∀q,j=some q->PE X (.BoolOp .Or (b::es) pos) KZ)(h:(Re.thn k λ x c=>orD x c j)=some g):PE X (.BoolOp .Or (a::b::es) pos) (dE X.D δ g):=by
 cases e:k with
 | none=>rw[e]at h;cases h
 | some q=>
  rw[e]at h;have A:=o q e;cases q with
  | ok d cl=>
   have f:orD d cl j=some g:=h;unfold orD at f;split at f
   ·cases f
   ·rename_i t;cases f;exact(tQ A mi).weak λ m H Q ⟨O,W,R,p⟩=>⟨O,W,R,λ x l s1 i=>⟨true,bX t (i.all Lh),iteT (p _ l s1 i)⟩⟩
   ·rename_i t;exact(tQ A (n g f)).weak λ m H Q ⟨O,W,R,p⟩=>⟨O,W,R,λ x l s1 i=>⟨false,bX t (i.all Lh),iteF ⟨O,W,R.mono s1,p.later s1 s1⟩⟩⟩
def my(h:tstD (Re.thn b k)=some r):∃d c,b=some (.ok d c)/\tstD (k d c)=some r:=by
 cases a:b with
 | none=>rw[a]at h;cases h
 | some q=>
  rw[a]at h;cases q with
  | ok d c=>exact⟨d,c,rfl,h⟩
def tR(h:tstD (some (.ok d c))=some r):∃k,M6 d=some k/\r=.ok k:=by
 obtain⟨k,b,a⟩:=A6.mp (h);exact⟨k,b,a.symm⟩
def DD(f:∀q,tstD e=some q->PT X a (dT X.D δ q))(h:tstD (Re.thn e λ x _=>(M6 x).map λ k=>.ok (.bl (!k)) .strong)=some r):PT X (.UnaryOp .Not a pos) (dT X.D δ r):=by
 obtain⟨d,c,g,b⟩:=my h
 ·cases t:M6 d with
  | none=>rw[t]at b;cases b
  | some k=>
   rw[t]at b;cases b;have A:=f _ (by rw[g];show(M6 d).map Rt.ok=_;rw[t];rfl);exact(kA A).weak λ σ H Q ⟨O,W,R,p⟩=>⟨O,W,R,λ i s1=>p i s1⟩
def DE(n:∀q,tstD i=some q->PT X a (dT X.D δ q))(m:∀q,tstD g=some q->PW X (MN (b::es)) (dT X.D δ q))(h:tstD (Re.thn i λ x c=>andD x c g)=some r):PW X (MN (a::b::es)) (dT X.D δ r):=by
 obtain⟨d,c,o,e⟩:=my h
 ·unfold andD at e;cases t:M6 d with
  | none=>rw[t]at e;cases e
  | some k=>
   rw[t]at e;have A:=n _ (by rw[o];show(M6 d).map Rt.ok=_;rw[t];rfl);cases k with
   | true=>exact(qx A (m r e)).weak λ l H Q ⟨O,W,R,p⟩=>⟨O,W,R,λ j s1=>iteT ⟨O,W,R.mono s1,p.later s1⟩⟩
   | false=>
    obtain⟨k,f,rfl⟩:=tR e;rw[t]at f;cases f;exact(qx A tH).weak λ l H Q ⟨O,W,R,p⟩=>⟨O,W,R,λ j s1=>iteF (p j s1)⟩
def DF(n:∀q,tstD i=some q->PT X a (dT X.D δ q))(m:∀q,tstD g=some q->PW X (.BoolOp .Or (b::es) pos) (dT X.D δ q))(h:tstD (Re.thn i λ x c=>orD x c g)=some r):PW X (.BoolOp .Or (a::b::es) pos) (dT X.D δ r):=by
 obtain⟨d,c,o,e⟩:=my h
 ·unfold orD at e;cases t:M6 d with
  | none=>rw[t]at e;cases e
  | some k=>
   rw[t]at e;have A:=n _ (by rw[o];show(M6 d).map Rt.ok=_;rw[t];rfl);cases k with
   | false=>exact(gG A (m r e)).weak λ l H Q ⟨O,W,R,p⟩=>⟨O,W,R,λ j s1=>iteF ⟨O,W,R.mono s1,p.later s1⟩⟩
   | true=>
    obtain⟨k,f,rfl⟩:=tR e;rw[t]at f;cases f;exact(gG A tH).weak λ l H Q ⟨O,W,R,p⟩=>⟨O,W,R,λ j s1=>iteT (p j s1)⟩
def w5(h:u7 e=false):starEach (e::es) env=(false,eval e env)::starEach es env:=by
 cases e<;>first | rfl | cases h
def DG:PA X [] (dA X.D δ (.ok [])):=X2.weak λ σ H Q ⟨O,W,R,p⟩=>p [] H Lm .nil
def DH(i:u7 e=false)(k:∀q,g=some q->PE X e KZ)(j:∀q,f=some q->PA X es MH)
  (h:(match(generalizing:=false) g with | none=>none | some (.ok d c)=>(match(generalizing:=false) f with | none=>none | some (.ok l)=>some (.ok ((d,c)::l))))=some q):PA X (e::es) (dA X.D δ q):=by
 cases b:g with
 | none=>rw[b]at h;cases h
 | some z=>
  rw[b]at h;have A:=k z b;cases z with
  | ok d cl=>
   cases a:f with
   | none=>rw[a]at h;cases h
   | some y=>
    rw[a]at h;have B:=j y a;cases y with
    | ok l=>
     cases h;exact(M5 A B (w5 i)).weak λ σ H Q ⟨O,W,R,p⟩=>⟨O,W,R,λ x H1 s1 n=>⟨O,W,R.mono s1,λ vs o s2 m=>p _ o (s1.trans s2) (.cons (n.mono s2) (m.since s1))⟩⟩
def DI(d:∀q,b=some q->PA X es MH)(h:(Rs.thn b λ l=>if l.length<=p7 then some (.ok (.lst (l.map (·.1))) (if stros l then .fresh else .weak))else none)=some c):PE X (.List es pos) (dE X.D δ c):=
 eK (λ _=>zM) d h λ O W H0 H vs Q l σ k hd g p=>by
  split at k
  ·rename_i m;cases k;refine⟨by rw[g.length];exact V1 m,λ q a=>p _ _ (x4 a) ?_⟩;by_cases z:stros l=true
   ·rw[f8 z];exact X7 hd a (g.stros hd z)
   ·rw[g9 z];exact md hd a (g.repL hd)
  ·cases k
def DJ(e:∀q,b=some q->PA X es MH)(h:(Rs.thn b λ l=>if l.length<=p7 then some (.ok (.tup (l.map (·.1))) (if stros l then .strong else .weak))else none)=some c):PE X (.Tuple es d pos) (dE X.D δ c):=
 eK (λ _=>qI) e h λ O W H0 H vs Q l σ k hd g p=>by
  split at k
  ·rename_i m;cases k;refine⟨by rw[g.length];exact V1 m,λ q a=>p _ _ (x4 a) ?_⟩;by_cases z:stros l=true
   ·rw[f8 z];exact eJ hd a (g.stros hd z)
   ·rw[g9 z];exact me hd a (g.repL hd)
  ·cases k
theorem mz:∀a:on DV,toPs a=a.map toP
 | []=>by rw[toPs];rfl
 | d::r=>by rw[toPs,mz r];rfl
theorem tS:∀{a:on DV} {j:Nat},X4 y a=some j->∃h:j<a.length,deq a[j] y=true/\∀m (b:m<a.length),m<j->deq a[m] y=false
 | [],j,h=>by cases h
 | d::r,j,h=>by
  unfold X4 at h;split at h
  ·rename_i e;cases h;exact⟨Nat.succ_pos _,e,λ m _ b=>absurd b (dg _)⟩
  ·rename_i e;obtain⟨k,l,rfl⟩:=A6.mp h;obtain⟨f,i,g⟩:=tS l;refine⟨Nat.succ_lt_succ f,i,λ m b c=>?_⟩;cases m with
   | zero=>exact Bool.eq_false_iff.mpr e
   | succ m=>exact g m _ (Nat.lt_of_succ_lt_succ c)
theorem tU:∀{ds:on DV} {m:Nat} (h:m<ds.length),DV.plains n ds=true->(ds[m]).plain n=true
 | d::r,0,_,p=>by simp[DV.plains,f7]at p;exact p.1
 | d::r,m+1,h,p=>by simp[DV.plains,f7]at p;exact tU (ds:=r) _ p.2
section
variable {X:Cx} {pins:on (Ku×Obj)} {σ:St} {H:Hp} {s:Kt} {δ:on Sv} {o e:Kw} {to te:TE} {apos cpos:Pos} {ra rb:Kr Re} {re:Re}
def DK(p:y.plain 60=true)(q:DV.plains 60 ds=true)(h:X4 y ds=some j) :
  ∃h:j<(toPs ds).length,PyData.eqv (toPs ds)[j] (toP y)=true/\∀m (c:m<(toPs ds).length),m<j->PyData.eqv (toPs ds)[m] (toP y)=false:=by
 obtain⟨f,e,a⟩:=tS h;have hl:(toPs ds).length=ds.length:=by rw[mz,g8]
 have d:∀m _ (a:m<ds.length),PyData.eqv (toPs ds)[m] _=deq ds[m] y:=λ m e a=>by
  rw[←eM 60 60 ds[m] y (tU a q) p]
  congr 1
  simp[mz,List.getElem_map]
 exact⟨by omega,(d j KE f).trans e,λ m c b=>(d m c KE).trans (a m KE b)⟩
def DL(hu:X.A.units+64<cLine)(I:KR pins)(e:RelV x v)(d:RelV y u)(g:Rep X.D H (.tup ds) x)(f:Rep X.D H a y)(p:a.plain 60=true)(q:DV.plains 60 ds=true)
  (h:X4 a ds=some j) (k:Q (.int j) H):wpAny KO X.A (call (.builtin "tuple.index") [v,u]) (EP X pins σ Q) X.xe s:=by
 obtain⟨as,i⟩:=S8 I 60 p f d;obtain⟨bs,b⟩:=S8 I 61 (Ml q) g e;rw[toP]at b;have c:=eO 60 _ p;have l3:=c.2;obtain⟨l,n,m⟩:=DK p q h;exact SeqAt.index_tuple_reads b i (bV 60 ds q).1 c.1 KE l n m ⟨.int j,H,I.tok _,LY,k⟩
def tIdx(X:Cx)(to te:TE):TE:=λ σ H Q=>to σ H λ x H1=>∃ds,Rep X.D H1 (.tup ds) x/\te σ H1 λ y H2=>∃ds dy j,Rep X.D H2 (.tup ds) x/\Rep X.D H2 dy y/\dy.plain 60=true/\DV.plains 60 ds=true/\X4 dy ds=some j/\Q (.int j) H2
def DM(z:X.A.units+64<cLine)(A:PE X o to)(B:PE X e te)(f:attributeBase o "index" X.env (Ms o)=eval o X.env)(d:(apos.endLine==cpos.line)=true)(n:starEach [e] X.env=[(Mu e)]) :
  PE X (.Call (.Attribute o "index" apos) [e] [] cpos) (tIdx X to te):=by
 intro c s i H Q I h;refine pZ f (by rw[n];rfl) d rfl (thn (A c s i H _ I h) λ v s1 t0=>?_);obtain⟨x,O,p,r1,g⟩:=t0;obtain⟨ds,M,g⟩:=g;obtain⟨a,xs,F,E,e3⟩:=F6.mp M;subst F;cases(r1);obtain⟨l,m,w,r⟩:=p.tupleN E;refine⟨"tuple","tuple.index",PySem.F.plainAttrs_tuple,pM,PySem.F.type_tuple_index,⟨l,m,w⟩,λ b C=>?_,?_⟩
 ·cases C;exact⟨l,m,r⟩
 ·rw[n];refine fD rfl (jz (Calls.spliced_cons (thn (B c s1 i O _ p g) λ u s2 P=>Calls.spliced_nil ?_)));obtain⟨y,H2,N,q,J,dy,j,L,K,p1,p2,p3,k⟩:=P;exact DL z N (show RelV (.ref a) (Value.ref a)from rfl) q L K p1 p2 p3 k
def DN(w:X.A.units+64<cLine)(F:∀q,ra=some q->PE X o KZ)(E:∀q,rb=some q->PE X e KZ)(f:attributeBase o "index" X.env (Ms o)=eval o X.env)(c:(apos.endLine==cpos.line)=true)(B:starEach [e] X.env=[(Mu e)])
  (h:(Re.thn ra λ x _=>if seqB x then Re.thn rb λ y _=>(idxD x y).map λ d=>.ok d .strong else none)=some re):PE X (.Call (.Attribute o "index" apos) [e] [] cpos) (dE X.D δ re):=by
 cases b:ra with
 | none=>rw[b]at h;cases h
 | some q=>
  rw[b]at h;have A:=F q b;cases q with
  | ok n cx=>
   have k:(if seqB n then Re.thn rb λ y _=>(idxD n y).map λ d=>Re.ok d .strong else none)=some re:=h;have r:seqB n=true:=by
    cases z:seqB n with
    | true=>rfl
    | false=>rw[z]at k;cases k
   rw[f8 r]at k;have l:=k;cases a:rb with
   | none=>rw[a]at l;cases l
   | some q=>
    rw[a]at l;have C:=DM w A (E q a) f c B;cases q with
    | ok L cy=>
     obtain⟨d,g,I⟩:=A6.mp l;subst I;unfold idxD at g;split at g
     ·rename_i v;split at g
      ·rename_i m;obtain⟨j,K,rfl⟩:=A6.mp g;rw[f7,f7,B7]at m;exact C.weak λ σ H Q ⟨O,W,R,p⟩=>⟨O,W,R,λ x H1 s1 u=>⟨v,u.all Lh,O,W,R.mono s1,λ y M i J=>
        ⟨v,L,j,(u.mono i).all ((Lh).mono i),(J.since s1).all ((Lh).mono i),m.1.1,m.1.2,K,p _ M (s1.trans i) B2⟩⟩⟩
      ·cases g
     ·cases g
end
def GotR(D:Dm)(O:on Ku)(H0 H:Hp)(d:DV)(fr:Bool)(v:V):Prop:=match fr with
 | false=>Rep D (Ll O) d v
 | true=>∃p xs ds,v=.ref p/\d=.lst ds/\H0 p=none/\H p=some (Lw xs)/\RepL D (Ll (p::O)) ds xs
def spF(D:Dm)(n:Nat)(f:on DV->Kr Ou):Sp:=λ vs H Q E=>∃O ds o,Hdn O H/\ds.length=n/\RepL D (Ll O) ds vs/\f ds=some o /\
 (match o with | .v d fr=>∀v H',Same H H'->GotR D O H H' d fr v->Q v H')
def tV{ps:on Str}{j:St->Hp->Prop}(M:∀ds o,F f ds=some o->ds.length=ps.length)(C:∀q,n=some q->PA X U MH->PE X S (λ σ H Q=>j σ H/\kJ (spF X.D ps.length (F f)) [] E0 MH σ H Q))(E:∀σ H O W,RSt X.D H σ δ O W->j σ H)(I:∀q,n=some q->PA X U MH)
  (h:(Rs.thn n λ l=>M8 F f l)=some B):PE X S (dE X.D δ B):=by
 cases c:n with
 | none=>rw[c]at h;cases h
 | some q=>
  rw[c]at h;have A:=I q c
  replace C:=C q c
  cases q with
  | ok l=>
   have r:M8 F f l=some B:=h;unfold M8 at r;split at r
   ·cases r
   ·rename_i d P i;cases r;refine(C A).weak λ σ H Q ⟨O,W,R,p⟩=>⟨E _ _ _ _ R,O,W,R,λ vs Z s1 N=>?_⟩
    have hd:=R.hid.mono s1;show spF X.D ps.length (F f) _ Z Q E0;rw[B3];by_cases z:LD=true
    ·rw[f8 z]at p;refine⟨O++W,_,_,hd.hdA,M _ _ i,N.strong hd z,i,λ v K s g=>p v K (s1.trans s) ?_⟩;cases P with
     | false=>exact g
     | true=>
      obtain⟨q,k,ds,i,J,x,w,u⟩:=g;exact⟨q,k,ds,i,J,s1.free x,w,u⟩
    ·rw[g9 z]at p;refine⟨O,_,_,hd.hdO,M _ _ i,N.repL hd,i,λ v K s g=>p v K (s1.trans s) ?_⟩;cases P with
     | false=>exact g
     | true=>
      obtain⟨q,k,ds,L,J,x,w,u⟩:=g;subst J;rw[bD];cases y:imL (Lw ds)with
      | true=>exact⟨q,k,ds,L,rfl,s1.free x,w,RepL.immut (λ a I=>by obtain⟨o,e,m⟩:=hd.wl a I;exact⟨o,s _ _ (hd.same _ _ e),m⟩) y u⟩
      | false=>
       exact N0.mpr ⟨q,k,L,by rw[k8 (λ z=>hd.ot q (E3 _ z) (s1.free x))];exact w,u.mono (O6 λ b Y=>o4 _ Y)⟩
def DO(fo:FnOk X.prog X.w X.K X.mg X.base CX0 k c fd ps (spF X.D ps.length (F f)))(n:∀ds o,F f ds=some o->ds.length=ps.length)(m:Room k X.A)(u:Gl X x)(r:X.mg x=some (.ref c))(s:PySem.W.keepIn X.K (.ref c)=true)
  (v:O1 X.K fd ps []) (w:∀q,d=some q->PA X (e::es) MH) (b:Lu=false) (j:u7 e=false) (a:es.any u7=false)
  (h:(Rs.thn d λ l=>M8 F f l)=some g):PE X (LC x) (dE X.D δ g):=by
 have plain:∀(es:on Kw),es.any u7=false->(Mf pos es).any (·.1)=false:=by
  intro es
  induction es with
  | nil=>intro _;rfl
  | cons y ys i=>
   intro q;rw[G0,M0]at q;rw[w5 q.1];show(false||(backTo pos _).any (·.1))=false;rw[i q.2];rfl
 exact tV n (λ t _ z=>(qL fo m u r s v .nil kZ z b (w5 j) (plain es a)).weak λ σ H Q h=>h.2) (λ _ _ _ _ _=>trivial) w h
section
variable {X:Cx} {δ:on Sv} {e:Kw} {es:on Kw} {pos p:Pos} {re:Re} {rs:Kr Rs}
theorem bY:∀(es:on Kw),es.any u7=false->(backTo pos (starEach es env)).any (·.1)=false
 | [],_=>rfl
 | y::a,q=>by rw[G0,M0]at q;rw[w5 q.1];show(false||(backTo pos _).any (·.1))=false;rw[bY a q.2];rfl
def DP(fo:FnOk X.prog X.w X.K X.mg X.base CX0 k c fd ps j)(o:Room k X.A)(hv:PE X (Mo p) (tVar i))(w:PySem.W.keepIn X.K (.ref c)=true)(z:O1 X.K fd ps ds)(hd:Vals d ds)
  (A:PA X (e::es) t) (y:starEach (e::es) X.env=(Mu e)::starEach es X.env:=by rfl) (f:(Mf pos es).any (·.1)=false:=by rfl) :
  PE X (LC x) (λ b H Q=>b[i]? = some (Md c)/\kJ j d E0 t b H Q):=by
 intro a s b H Q I h;obtain⟨B,h⟩:=h;refine aF (thn (hv a s b H (λ v g=>v=.ref c/\g=H) I ⟨_,B,rfl,rfl⟩) λ u s1 t0=>?_);obtain⟨v,g,C,r1,n,m⟩:=t0;subst n m;obtain rfl:u=Value.ref c:=r1;refine jH I.ok.mod.kin w (thn (A pos a s1 b g _ C h) λ us s2 ⟨vs,H2,l,r,q⟩=>⟨l.kIn,?_⟩) y f;exact qK fo o z hd kZ l r q
def DQ(fo:FnOk X.prog X.w X.K X.mg X.base CX0 k b fd ps (spF X.D ps.length (F f)))(r:∀ds o,F f ds=some o->ds.length=ps.length)(n:Room k X.A)(hv:PE X (Mo p) (tVar i))(s:X.mg y=some (.ref b))(u:PySem.W.keepIn X.K (.ref b)=true)
  (z:O1 X.K fd ps []) (w:δ[i]? = some (.val (.fn y))) (A:∀q,rs=some q->PA X (e::es) MH) (m:u7 e=false) (a:es.any u7=false)
  (h:(Rs.thn rs λ l=>M8 F f l)=some re):PE X (LC x) (dE X.D δ re):=by
 refine tV r (λ t _ B=>DP fo n hv u z .nil B (w5 m) (bY es a)) (λ σ H O W R=>?_) A h;obtain⟨v,E,C⟩:=R.val i _ w;obtain⟨g,j,d⟩:=ma.mp C;have c:X.mg y=some _:=d;rw[s]at c;cases c;rw[E,j]
noncomputable def biR(X:Cx)(k:on (DV×Cl)->Kr Re):on V->Hp->VK->Prop:=λ vs H Q=>∃l re O W H0,k l=some re/\Hid O W H0 H/\GotL X.D O W H0 H l vs/\∃d c,re=.ok d c/\∀v H',Same H H'->Got X.D O W H0 H' d c v->Q v H'
def eP(r:A9 X (.builtin f) (biR X k))(o:Gl X x)(m:X.mg x=none)(hv:bootBuiltins x=some (.builtin f))(j:x ≠ "__name__")(b:Lu=false)
  (s:∀q,rs=some q->PA X (e::es) MH) (i:u7 e=false) (a:es.any u7=false) (h:Rs.thn rs k=some re):PE X (LC x) (dE X.D δ re):=
 eK (λ _ u=>gO r o m hv u j b (w5 i) (bY es a)) s h λ O W v H vs Q l σ n hd g p=>by obtain⟨d,c⟩:=re;exact⟨l,_,O,W,v,n,hd,g,d,c,rfl,p⟩
def mB(o:A9 X (.type T) (biR X k))(n:Gl X x)(j:X.mg x=none)(hv:bootBuiltins x=some (.type T))(i:x ≠ "__name__")(b:Lu=false)
  (r:∀q,rs=some q->PA X (e::es) MH) (f:u7 e=false) (a:es.any u7=false) (h:Rs.thn rs k=some re):PE X (LC x) (dE X.D δ re):=
 eK (λ _ s=>qU o n j hv s i b (w5 f) (bY es a)) r h λ O W u H vs Q l σ m hd g p=>by obtain⟨d,c⟩:=re;exact⟨l,_,O,W,u,m,hd,g,d,c,rfl,p⟩
theorem aX:∀{ds:on DV} {b:on Int} {a:on V},ints? ds=some b->RepL D H ds a->a=b.map V.int
 | [],b,a,h,r=>by cases h;exact E2.mp r
 | .int i::ds,b,a,h,r=>by obtain⟨ms,g,f⟩:=A6.mp h;obtain⟨v,vs,e,d,c⟩:=w6.mp r;rw[←f,e,A3,z8.mp d,(aX g c)]
 | .non::ds,b,a,h,_=>by cases h
 | .bl _::ds,b,a,h,_=>by cases h
 | .str _::ds,b,a,h,_=>by cases h
 | .tup _::ds,b,a,h,_=>by cases h
 | .lst _::ds,b,a,h,_=>by cases h
 | .dct _ _::ds,b,a,h,_=>by cases h
 | .fn _::ds,b,a,h,_=>by cases h
 | .lam _ _::ds,b,a,h,_=>by cases h
 | .scr _::ds,b,a,h,_=>by cases h
theorem tW:∀(r:on Int) (m:Int),(minI m r=m\/minI m r∈r)/\minI m r<=m/\∀x∈r,minI m r<=x
 | [],m=>⟨.inl rfl,gB _,λ x h=>by cases h⟩
 | y::r,m=>by
  obtain⟨b,d,a⟩:=tW r (if y<m then y else m);unfold minI;by_cases q:y<m
  ·rw[f8 q]at b d a ⊢;refine⟨.inr ?_,by omega,λ x c=>?_⟩
   ·rcases b with z | z
    ·rw[z];exact o5 ..
    ·exact o4 _ z
   ·rcases i6.mp c with z | z
    ·rwa [z]
    ·exact a x z
  ·rw[g9 q]at b d a ⊢;refine⟨b.imp id (o4 _),d,λ x c=>?_⟩;rcases i6.mp c with z | z
   · omega
   ·exact a x z
theorem tY:∀(r:on Int) (m:Int),(maxI m r=m\/maxI m r∈r)/\m<=maxI m r/\∀x∈r,x<=maxI m r
 | [],m=>⟨.inl rfl,gB _,λ x h=>by cases h⟩
 | y::r,m=>by
  obtain⟨c,b,a⟩:=tY r (if m<y then y else m);unfold maxI;by_cases q:m<y
  ·rw[f8 q]at c b a ⊢;refine⟨.inr ?_,by omega,λ x d=>?_⟩
   ·rcases c with z | z
    ·rw[z];exact o5 ..
    ·exact o4 _ z
   ·rcases i6.mp d with z | z
    ·rw[z];exact b
    ·exact a x z
  ·rw[g9 q]at c b a ⊢;refine⟨c.imp id (o4 _),b,λ x d=>?_⟩;rcases i6.mp d with z | z
   ·rw[z];omega
   ·exact a x z
def tZ(g:M∈n::r)(d:∀x∈n::r,M<=x):M=minI n r:=by
 obtain⟨a,b,c⟩:=tW r n;have e:=d _ (a.elim (λ z=>by rw[z];exact o5 ..) (o4 _));have f:minI n r<=M:=by
  rcases i6.mp g with z | z
  ·rwa [z]
  ·exact c M z
 omega
def ua(g:M∈n::r)(d:∀x∈n::r,x<=M):M=maxI n r:=by
 obtain⟨a,b,c⟩:=tY r n;have e:=d _ (a.elim (λ z=>by rw[z];exact o5 ..) (o4 _));have f:M<=maxI n r:=by
  rcases i6.mp g with z | z
  ·rw[z];exact b
  ·exact c M z
 omega
theorem mD(x:Int):∀l:on Int,(insI x l).Perm (x::l)
 | []=>.rfl
 | y::r=>by
  unfold insI;split
  ·exact .rfl
  ·exact(List.Perm.cons y (mD x r)).trans (List.Perm.swap x y r)
theorem ub:∀l:on Int,(J4 l).Perm l
 | []=>.rfl
 | x::r=>(mD x _).trans (List.Perm.cons x (ub r))
theorem uc(x:Int):∀{l:on Int},l.Pairwise (· <= ·)->(insI x l).Pairwise (· <= ·)
 | [],_=>pR _ _
 | y::r,h=>by
  obtain⟨b,c⟩:=M2.mp h;unfold insI;split
  ·rename_i q;refine M2.mpr ⟨λ z a=>?_,h⟩;rcases i6.mp a with e | e
   ·omega
   ·have:=b z e;omega
  ·rename_i q;refine M2.mpr ⟨λ z a=>?_,uc x c⟩;rcases i6.mp ((mD x r).mem_iff.mp a)with e | e
   ·omega
   ·exact b z e
theorem ud:∀l:on Int,(J4 l).Pairwise (· <= ·)
 | []=>.nil
 | x::r=>uc x (ud r)
theorem ue:∀{a b:on Int},a.Perm b->a.Pairwise (· <= ·)->b.Pairwise (· <= ·)->a=b
 | [],b,p,_,_=>(List.Perm.nil_eq p)
 | x::a,b,p,f,d=>by
  cases b with
  | nil=>exact absurd p.length_eq KS
  | cons y b=>
   obtain⟨j,i⟩:=M2.mp f;obtain⟨h,g⟩:=M2.mp d;have e:x=y:=by
    rcases i6.mp (p.mem_iff.mp (o5)) with z | z
    ·exact z
    ·rcases i6.mp (p.mem_iff.mpr (o5)) with c | c
     ·exact c.symm
     ·have:=j y c;have:=h x z;omega
   subst e;rw[ue (List.Perm.cons_inv p) i g]
def DR:A9 X (.builtin "len") (biR X lenD):=by
 intro b s k H xs n Q I r h;obtain⟨l,re,O,W,H0,e,o,g,d,c,rfl,p⟩:=h;unfold lenD at e;split at e
 ·cases e;obtain⟨v,rfl,f⟩:=g.one;obtain⟨a,m,j,i,q⟩:=f.lst o;exact kX b s k H _ n Q I r ⟨a,m,by rw[j],.inl (SqL.of i),by rw[q.length];exact p _ H Lm B2⟩
 ·cases e;obtain⟨v,rfl,f⟩:=g.one;obtain⟨a,m,j,i,q⟩:=f.tup o;exact kX b s k H _ n Q I r ⟨a,m,by rw[j],.inr i,by rw[q.length];exact p _ H Lm B2⟩
 ·cases e;obtain⟨v,rfl,f⟩:=g.one;obtain⟨a,j,i⟩:=X6.mp (f.all o);exact kX b s k H _ n Q I r ⟨a,_,by rw[j],.inl i.sq,by rw[g8];exact p _ H Lm B2⟩
 ·cases e
theorem uf:∀{ds:on DV} {ps:on (Int×Int×Int)} {d:on V},trips? ds=some ps->RepL D H ds d->TrsV D.K H d ps
 | [],ps,d,h,r=>by cases h;rw[E2.mp r];exact trivial
 | d0::ds,ps,d,h,r=>by
  unfold trips? at h;split at h
  ·rename_i q;cases q
  ·rename_i a b c r' q;cases q;obtain⟨ms,A,z⟩:=A6.mp h;obtain⟨v,vs,y,x,w⟩:=w6.mp r;obtain⟨B,ys,u,e,p⟩:=F6.mp x;obtain⟨v1,l1,o,n,m⟩:=w6.mp p;obtain⟨v2,l2,l,k,j⟩:=w6.mp m;obtain⟨v3,l3,i,g,f⟩:=w6.mp j;rw[←z,y];refine⟨⟨B,u,?_⟩,(uf A w)⟩;rw[o,l,i,E2.mp f,z8.mp n,z8.mp k,z8.mp g]at e;exact e
  ·cases h
theorem TrsV.le{K:KC}(e:Same H b):∀{vs:on V} {ps:on (Int×Int×Int)},TrsV K H vs ps->TrsV K b vs ps
 | [],[],_=>trivial
 | _::_,_::_,x=>by obtain⟨⟨a,f,d⟩,c⟩:=x;exact⟨⟨a,f,e.tseq d⟩,c.le e⟩
 | [],_::_,x=>x.elim
 | _::_,[],x=>x.elim
def DS(w:Mk)(hu:X.A.units+1<cLine):A9 X (.builtin "min") (biR X minD):=by
 intro b s j H xs k Q I r h;obtain⟨l,re,O,W,H0,e,i,g,d,c,rfl,p⟩:=h;unfold minD at e;split at e
 ·cases e;obtain⟨v,v',rfl,f,x⟩:=g.two;exact zL w b s j H _ k Q I r ⟨_,_,by rw[f.int i,x.int i],p _ H Lm B2⟩
 ·split at e
  ·rename_i n m u;cases e;obtain⟨v,rfl,f⟩:=g.one;obtain⟨a,C,B,A,z⟩:=f.lst i;have y:=aX u z;subst y;exact BE w b s j H _ k Q I r ⟨a,n::m,by rw[B],SqL.of A,by simp,λ M q o=>by rw[tZ q o];exact p _ H Lm B2⟩
  ·cases e
 ·split at e
  ·rename_i n m u;cases e;obtain⟨v,rfl,f⟩:=g.one;obtain⟨a,C,B,A,z⟩:=f.tup i;have y:=aX u z;subst y;exact BM w b s j H _ k Q I r ⟨a,n::m,by rw[B],A,by simp,λ M q o=>by rw[tZ q o];exact p _ H Lm B2⟩
  ·cases e
 ·cases e
def DT(u:Mk):A9 X (.builtin "max") (biR X maxD):=by
 intro b s i H xs j Q I r h;obtain⟨l,re,O,W,H0,e,hd,g,d,c,rfl,p⟩:=h;unfold maxD at e;split at e
 ·cases e;obtain⟨v,v',rfl,f,w⟩:=g.two;exact zK u b s i H _ j Q I r ⟨_,_,by rw[f.int hd,w.int hd],p _ H Lm B2⟩
 ·split at e
  ·rename_i n k q;cases e;obtain⟨v,rfl,f⟩:=g.one;obtain⟨a,B,A,z,y⟩:=f.lst hd;have x:=aX q y;subst x;exact BF u b s i H _ j Q I r ⟨a,n::k,by rw[A],SqL.of z,by simp,λ M o m=>by rw[ua o m];exact p _ H Lm B2⟩
  ·cases e
 ·split at e
  ·rename_i n k q;cases e;obtain⟨v,rfl,f⟩:=g.one;obtain⟨a,B,A,z,y⟩:=f.tup hd;have x:=aX q y;subst x;exact BN u b s i H _ j Q I r ⟨a,n::k,by rw[A],z,by simp,λ M o m=>by rw[ua o m];exact p _ H Lm B2⟩
  ·cases e
 ·cases e
def DU(o:Mk):A9 X (.builtin "sum") (biR X sumD):=by
 intro b s i H xs j Q I r h;obtain⟨l,re,O,W,H0,f,n,g,d,c,rfl,p⟩:=h;unfold sumD at f;split at f
 ·obtain⟨k,m,e⟩:=A6.mp f;cases e;obtain⟨v,rfl,q⟩:=g.one;obtain⟨a,ys,y,x,w⟩:=q.lst n;have u:=aX m w;subst u;exact BV o b s i H _ j Q I r ⟨a,k,by rw[y],SqL.of x,p _ H Lm B2⟩
 ·cases f
def DW:bootBuiltins "sum" = some (.builtin "sum"):=by decide +kernel
def ug:bootBuiltins "sorted" = some (.builtin "sorted"):=by decide +kernel
def DX:bootBuiltins "set" = some (.type "set"):=by decide +kernel
def DY{p':Pos}{pos':Pos}(hc:Mk)(hg:Gl X "sorted")(hm:X.mg "sorted" = none)(hg':Gl X "set")(hm':X.mg "set" = none)
  (ha:∀q,rs=some q->PA X [e] MH) (hs:u7 e=false) (h:Rs.thn rs gR=some re):PE X (.Call (.Name "sorted" p) [.Call (.Name "set" p') [e] [] pos'] [] pos) (dE X.D δ re):=
 eK (r:=λ vs H Q=>(∃(a:Ku) (ns:on Int),vs=[.ref a]/\SqL X.K H a (ns.map V.int)/\ns.length<4000/\∀p,H p=none->∃(p1:Ku) (ks:on Int),[V.ref p]=[.ref p1]/\upd H p (setO X.prog X.w p (ns.foldl dk [])) p1=some (setO X.prog X.w p1 ks)/\ks.length<64 /\
   ∀(q:Ku) (ms:on Int),upd H p (setO X.prog X.w p (ns.foldl dk [])) q=none->ms.Perm ks->ms.Pairwise (· <= ·)->Q (.ref q) (upd (upd H p (setO X.prog X.w p (ns.foldl dk []))) q (Lw (ms.map V.int)))))
  (λ t hA=>by
   have q1:=qU (p:=p') (pos:=pos') (BI hc) hg' hm' DX hA KL KL (w5 hs) rfl;have q2:=gO (p:=p) (pos:=pos) (BJ hc) hg hm ug (M5 q1 X2) KL KL rfl rfl;exact q2.weak λ σ H Q h=>h) ha h λ O W H0 H vs Q l σ hl hd g pp=>by
  unfold gR at hl;split at hl
  ·split at hl
   ·rename_i ds c ns hq;split at hl
    ·rename_i hb;cases hl;obtain⟨v,rfl,gv⟩:=g.one;obtain⟨a,ys,e1,e2,e3⟩:=gv.lst hd;have e4:=aX hq e3;subst e4;refine⟨a,ns,by rw[e1],SqL.of e2,hb.1,λ p1 hp1=>⟨p1,_,rfl,y9,hb.2,λ q ms hq1 pm pw=>?_⟩⟩;have e5:ms=J4 (ns.foldl dk []):=ue (pm.trans (ub _).symm) pw (ud _);subst e5;have s1:Same H (upd H p1 (setO X.prog X.w p1 (ns.foldl dk []))):=x4 hp1;exact pp _ _ (s1.trans (x4 hq1)) (X7 (hd.mono s1) hq1 (eH _))
    ·cases hl
   ·cases hl
  ·cases hl
def DZ:A9 X (.type "int") (biR X intD):=by
 intro a s f H xs i Q I r h;obtain⟨l,re,O,W,H0,b,j,g,d,c,rfl,p⟩:=h;unfold intD at b;split at b
 ·cases b;obtain⟨v,rfl,e⟩:=g.one;exact qG a s f H _ i Q I r (.inl ⟨_,by rw[e.int j],p _ H Lm B2⟩)
 ·cases b;obtain⟨v,rfl,e⟩:=g.one;exact qG a s f H _ i Q I r (.inr ⟨_,by rw[e.bl j],p _ H Lm B2⟩)
 ·cases b
def Ea:A9 X (.type "list") (biR X dU):=by
 intro b s n H xs u Q I r h;obtain⟨l,re,O,W,H0,i,f,g,d,c,rfl,p⟩:=h;unfold dU at i;split at i
 ·cases i;obtain⟨v,rfl,j⟩:=g.one;obtain⟨a,m,k⟩:=X6.mp (j.all f);exact kY b s n H _ u Q I r ⟨a,_,by rw[m],.inl k.sq,λ q e=>p _ _ (x4 e) (X7 f e (eH _))⟩
 ·cases i;obtain⟨v,rfl,j⟩:=g.one;obtain⟨a,o,m,k,w⟩:=j.lstC f;exact kY b s n H _ u Q I r ⟨a,o,by rw[m],.inl (SqL.of k),λ q e=>p _ _ (x4 e) (eI f e w)⟩
 ·cases i;obtain⟨v,rfl,j⟩:=g.one;obtain⟨a,o,m,k,w⟩:=j.tupC f;exact kY b s n H _ u Q I r ⟨a,o,by rw[m],.inr k,λ q e=>p _ _ (x4 e) (eI f e w)⟩
 ·cases i
def Eb:A9 X (.builtin "sorted") (biR X dR):=by
 intro e s j H xs n Q I r h;obtain⟨l,re,O,W,H0,b,hd,g,d,c,rfl,p⟩:=h;unfold dR at b;split at b
 ·split at b
  ·rename_i ps f;split at b
   ·rename_i m;cases b;obtain⟨v,rfl,o⟩:=g.one;obtain⟨a,k,w,u,i⟩:=o.lstC hd;exact BU e s j H _ n Q I r ⟨a,k,ps,by rw[w],SqL.of u,(uf f i).le x5,m.1,m.2,λ q f=>p _ _ (x4 f) (eI hd f i)⟩
   ·cases b
  ·cases b
 ·cases b
def Ec:A9 X (.type "tuple") (biR X lu):=by
 intro b s n H xs o Q I r h;obtain⟨l,re,O,W,H0,e,i,g,d,c,rfl,p⟩:=h;unfold lu at e;split at e
 ·cases e;obtain⟨v,rfl,j⟩:=g.one;obtain⟨a,f,m,k,w⟩:=j.lstC i;exact rh b s n H _ o Q I r ⟨a,f,by rw[m],.inl ⟨SqL.of k,λ q u=>p _ _ (x4 u) (tG i u w)⟩⟩
 ·cases e;obtain⟨v,rfl,j⟩:=g.one;obtain⟨a,f,m,k,w⟩:=j.tupC i;exact rh b s n H _ o Q I r ⟨a,f,by rw[m],.inr ⟨k,p _ _ Lm Mn⟩⟩
 ·cases e
end
noncomputable def tyS:DV->Kr KJ
 | .non=>some "NoneType" | .bl _=>some "bool" | .int _=>some "int" | .str _=>some "str" | .tup _=>some "tuple" | .lst _=>some "list" | .dct _ _=>some "dict"
 | _=>none
noncomputable def uh(T t:KJ):Kr Bool:=if(Value.type T==Value.type t)=true then some true else if PySem.W.kitMeta t=true then(fastBuiltinMro T).map (·.contains (.type t))else none
def Ed:(["NoneType","bool","int","str","tuple","list","dict"]:on KJ).all (λ T=>(["int","bool","str","list","tuple","dict"]:on KJ).all λ t=>uh T t==some (T==t||(T == "bool" && t == "int")))=true:=by decide +kernel
def ak{K:KC}(T t:KJ)(b:T∈["NoneType","bool","int","str","tuple","list","dict"])(a:t∈["int","bool","str","list","tuple","dict"]) :
  PySem.W.kitOne K (.type T) (.type t)=some (T==t||(T == "bool" && t == "int")):=by
 exact(show uh T t=_ from by simpa using (J0.mp (J0.mp Ed T b) t a))
section
variable {X:Cx} {δ:on Sv} {e e':Kw} {pos p p':Pos} {re:Re} {ra:Kr Re}
def Ee(I:KR k)(r:Rep X.D H d v)(c:RelV v u)(e:tyS d=some T)(f:t∈["int","bool","str","list","tuple","dict"])
  (h:∀tk,Q (.bool (T==t||(T == "bool" && t == "int"))) {s with toks:=tk}):wpAny KO X.A (call (.builtin "isinstance") [u,.type t]) Q A s:=by
 cases d with
 | non=>cases e;rw[X5.mp r]at c;cases c;exact Y9 PySem.W.kitx_none I.kIn True.intro (ak _ _ KS f) LI h
 | bl b=>cases e;rw[ah.mp r]at c;cases c;exact Y9 PySem.W.kitx_bool I.kIn True.intro (ak _ _ KS f) LI h
 | int b=>cases e;rw[z8.mp r]at c;obtain⟨tk,rfl⟩:=c;exact Y9 PySem.W.kitx_int I.kIn True.intro (ak _ _ KS f) LI h
 | str b=>cases e;rw[(bS.mp r).1]at c;obtain⟨tk,rfl⟩:=c;exact Y9 PySem.W.kitx_str I.kIn True.intro (ak _ _ KS f) LI h
 | tup y=>
  cases e;obtain⟨a,w,j,i,x⟩:=F6.mp r;rw[j]at c;cases c;obtain⟨q,_,⟨o,g,l,_⟩,_⟩:=I.tuple i;exact Y9 PySem.W.kitx_tuple I.kIn ⟨o,g,l⟩ (ak _ _ KS f) LI h
 | lst y=>
  cases e;obtain⟨a,w,j,i,x⟩:=N0.mp r;rw[j]at c;cases c;obtain⟨_,q,n,_,_,g⟩:=I.lstM i;exact Y9 PySem.W.kitx_list I.kIn ⟨_,g,rfl⟩ (ak _ _ KS f) LI h
 | dct ks vs=>
  cases e;rcases S6.mp r with⟨a,m,p,j,i,_⟩ | ⟨a,m,p,j,i,_⟩
  ·rw[j]at c;cases c;obtain⟨_,_,_,_,_,⟨o,_,_,g,l,_⟩⟩:=(show u6 X.prog X.w H s.heap a (.frz m _)from I.hok a _ i);exact Y9 PySem.W.kitx_dict I.kIn ⟨o,g,l.1⟩ (ak _ _ KS f) LI h
  ·rw[j]at c;cases c;obtain⟨_,_,_,_,_,o,_,_,g,l,_⟩:=(show u6 X.prog X.w H s.heap a (.frz m _)from I.hok a _ i);exact Y9 PySem.W.kitx_dict I.kIn ⟨o,g,l.1⟩ (ak _ _ KS f) LI h
 | fn _=>cases e
 | lam _ _=>cases e
 | scr _=>cases e
def rIsi(X:Cx):on V->Hp->VK->Prop:=λ xs H Q=>∃d T t x,xs=[x,.ty t]/\Rep X.D H d x/\tyS d=some T/\t∈["int","bool","str","list","tuple","dict"]/\Q (.bl (T==t||(T == "bool" && t == "int"))) H
def Ef:A9 X (.builtin "isinstance") (rIsi X):=by
 intro b s σ H xs us Q I r h;obtain⟨d,T,t,x,rfl,f,i,g,q⟩:=h;obtain⟨u,w',rfl,e,a⟩:=dM r;cases a;exact Ee I f e i g λ c=>⟨.bl _,H,I.tok c,rfl,q⟩
noncomputable def bZ:Str->Kr KJ:=λ x=>(["int","bool","str","list","tuple","dict"]:on KJ).find? λ t=>Str.ofString t==x
def ui(h:bZ x=some t):bootBuiltins x=some (.type t)/\t∈["int","bool","str","list","tuple","dict"]/\Str.ofString t=x:=by
 unfold bZ at h;have a:=jp h;have b:Str.ofString t=x:=by simpa using (jY h)
 refine⟨?_,a,b⟩;subst b;simp[i6,O9,P3]at a;rcases a with rfl | rfl | rfl | rfl | rfl | rfl
 ·exact boot_int
 ·exact boot_bool
 ·exact boot_str
 ·exact boot_list
 ·exact boot_tuple
 ·exact boot_dict
noncomputable def uj:KJ->on Str
 | "NoneType"=>["NoneType"] | "bool"=>["bool","int"] | "int"=>["int"] | "str"=>["str"] | "tuple"=>["tuple"] | "list"=>["list"] | "dict"=>["dict"]
 | _=>[]
def Eg:(["NoneType","bool","int","str","tuple","list","dict"]:on KJ).all (λ T=>(["int","bool","str","list","tuple","dict"]:on KJ).all λ t=>(uj T).contains (Str.ofString t)==(T==t||(T == "bool" && t == "int")))=true:=by decide +kernel
def Eh(h:bZ x=some t)(b:tyS d=some T):(tyOf d).contains x=(T==t||(T == "bool" && t == "int")):=by
 obtain⟨_,e,c⟩:=ui h;subst c;have a:∀T∈_,(uj T).contains _=(T==t||_):=λ T b=>by have q:=J0.mp (J0.mp Eg T b) t e;simpa using q
 cases d<;>cases b
 ·exact a "NoneType" KS
 ·exact a "bool" KS
 ·exact a "int" KS
 ·exact a "str" KS
 ·exact a "tuple" KS
 ·exact a "list" KS
 ·exact a "dict" KS
def Ei(m:bZ x=some t)(z:Gl X "isinstance")(u:X.mg "isinstance" = none)(i:Gl X x)(g:X.mg x=none)(f:x ≠ "__name__")(j:Lu=false)
  (B:∀q,ra=some q->PE X e KZ) (n:u7 e=false) (h:(Re.thn ra λ y _=>(isiD G y [x]).map λ k=>.ok (.bl k) .strong)=some re):PE X (.Call (.Name "isinstance" p) [e,.Name x p'] [] pos) (dE X.D δ re):=by
 obtain⟨K,l,J⟩:=ui m;have T:PE X (Mo p') (tC (.ty t)):=qr i g K rfl f j;have C:=λ r (E:PE X e r)=>gO (p:=p) (pos:=pos) Ef z u boot_isinstance (M5 E (M5 T X2) (w5 n)) KL KL (w5 n)
 cases a:ra with
 | none=>rw[a]at h;cases h
 | some q=>
  rw[a]at h;have A:=B q a;cases q with
  | ok d cl=>
   obtain⟨k,b,I⟩:=A6.mp (h);cases I;have c:∃T,tyS d=some T/\k=(tyOf d).contains x:=by
    unfold isiD at b;have s:Z6.contains x=true:=by
     rw[←J];simp only[i6,O9,P3]at l;rcases l with rfl | rfl | rfl | rfl | rfl | rfl<;>decide +kernel
    cases d<;>first
     | (simp only[s,if_true]at b;cases b;exact⟨_,rfl,rfl⟩)
     | cases b
   obtain⟨T,o,w⟩:=c;exact(C _ A).weak λ σ H Q ⟨O,W,R,p⟩=>⟨O,W,R,λ v L s1 F=>⟨d,T,t,v,rfl,F.all Lh,o,l,by rw[←Eh m o,←w];exact p _ L s1 aj⟩⟩
end
def Ej(a:Str):N9 (a ++ "<lambda>")=false:=by
 have c:∀b:Str,b.cps.toList.getLast? = some 102->(a++_==b)=false:=λ b d=>by
  rw[x8];intro z;rw[←z]at d;have e:(a++("<lambda>" : Str)).cps.toList.getLast? = some 62:=by show(a.cps++("<lambda>" : Str).cps).toList.getLast? = _;rw[cU,List.getLast?_append];rfl
  rw[e]at d;cases d
 unfold N9;rw[c _ rfl,c _ rfl];rfl
theorem mE:∀(l:on Ks),TriplesOk l->(∃i t,a=.int i t)->(∃i t,b=.int i t)->codeAmong pos' (l++[a,b,c])=some cv->codeAmong pos' l=some cv\/cv=c
 | [],_,⟨i,t,k⟩,⟨j,u,g⟩,h=>by
  subst k g;have d:(if i==pos'.line&&j==pos'.col then some c else codeAmong pos' [])=some cv:=h;split at d
  ·exact .inr (D5 d).symm
  ·cases d
 | .int i t :: .int j u::x::r,ok,f,e,h=>by
  have d:(if i==pos'.line&&j==pos'.col then some x else codeAmong pos' _)=some cv:=h;show(if i==pos'.line&&j==pos'.col then some x else codeAmong pos' r)=some cv\/cv=c;split at d
  ·rename_i z;rw[f8 z];exact .inl d
  ·rename_i z;rw[g9 z];exact mE r ok f e d
theorem mF(e:∃i t,a=.int i t)(d:∃i t,b=.int i t):∀(l:on Ks),TriplesOk l->TriplesOk (l++[a,b,c])
 | [],_=>by obtain⟨i,t,rfl⟩:=e;obtain⟨j,u,rfl⟩:=d;exact trivial
 | .int i t :: .int j u::x::r,ok=>mF e d r ok
structure LamAt(X:Cx)(scope:Scope)(c P:Addr):Prop where
 code:X.env.code=.ref c
 hd:∀{pins:List (Addr×Obj)} {σ:List (Option V)} {H:Hp} {s:Shared},Inv X pins σ H s->PySem.W.CodeHd s.heap c P
 tab:∀{pins:List (Addr×Obj)} {σ:List (Option V)} {H:Hp} {s:Shared},Inv X pins σ H s->H P=some (.tbl Mh)
 fre:∀y∈scope.names,y.2=NameKind.free->X.env.kindOf y.1=some .cell\/X.env.kindOf y.1=some .free
theorem LamAt.has(L:LamAt X scope c P)(ok:X.Ok):∀y∈scope.names,y.2=NameKind.free->∃a,X.env.cells.lookup y.1=some a:=λ y b d=>ok.has y.1 (L.fre y b d)
def Ek(I:KR r)(L:LamAt X scope c P)(a3:defaultsOf g X.env=([],[]))
  (h:∀f k s',Inv X r σ k s'->Same H k->H f=none->Q2 k Mh g body scope (q0 X.env.cells scope.names []) f->Q (.ref f) s') :
  wpAny M A (Ms (.Lambda g body scope pos)) Q E s:=by
 refine PySem.W.kla_eval a3 ?_;have hP:=L.tab I;obtain⟨ps,hp,ht,x⟩:=I.hok _ _ hP;have a5:=gP (scope:=scope) (env:=X.env) (L.has I.ok);have hg:s.heap.Ns mainGlobals X.mg:=I.ok.mod.glob.keeps I.bk;have c0:mainGlobals≠P:=λ z=>by obtain⟨o,es,ep,e,d,_⟩:=hg;rw[z,hp]at e;cases e;cases d
 obtain⟨bm,ob,b1,b2,b3,b4,b5,b6⟩:=I.ok.mod.bmod;have p:=I.bs _ _ b3;have c1:bm≠P:=λ z=>by rw[z,hP]at p;cases p.2
 have c3:bm≠mainGlobals:=λ z=>by obtain⟨o,es,ep,e,d,_⟩:=hg;rw[←z,p.1]at e;cases e;rw[b6]at d;cases d
 have hb:s.heap.BuiltinsAt X.mg P:=⟨bm,ob,b1,b2,c3,c1,p.1,b4,b5,b6⟩;have C:=L.hd I;cases hf:codeAmong pos ps.toList with
 | some cv=>
  obtain⟨j,N,u,vs,t,e1,e2,e3,e4⟩:=x pos cv hf;subst e1;refine PySem.W.kla_makeFunctionHit (mg:=X.mg) a5 I.ok.glob hg L.code C hp ht hf hb λ m i tk hk W=>?_
  have hn:H i.objs.size=none:=I.hok.fresh W;refine h _ (upd H i.objs.size (.frz _ (.own i.objs.size))) _ (I.laid (t':=tk) (λ b u e=>n7 _ (hk b u e)) W ⟨r9 _ rfl,_,r9 _ rfl⟩) (x4 hn) hn ?_;refine⟨j,N,u,vs,t,_,m,y9,?_,e3,e4.1⟩;rw[n6 (A7 e2 hn)];exact e2
 | none=>
  refine PySem.W.kla_makeFunction (mg:=X.mg) a5 I.ok.glob hg L.code C hp ht hf c0 hb λ j m i tk hx l B Y U=>?_;obtain⟨c5,N,vs,t,e2,Z,hd,hv⟩:=Y;cases e2;have b9:H j=none:=I.hok.fresh l;have a0:H i.objs.size=none:=I.hok.fresh (i7 l (W6 B));have S:∀{b:Ku} {u:HO},H b=some u->b≠j/\b≠i.objs.size:=λ e=>⟨A7 e b9,A7 e a0⟩;have v:∀{b:Ku} {o:Obj},s.heap.get? b=some o->b≠j/\b≠i.objs.size:=λ {b o} e=>⟨q9 (t7 (k9 e) l),q9 (t7 (k9 e) (i7 l (W6 B)))⟩;generalize a2:PySem.W.kla_obj "<lambda>" Mh g body scope _ _ j m=fo;have a1:fo.isFreed=false:=by rw[←a2];rfl
  generalize F:upd (upd H j (.frz N (.own j))) i.objs.size (.frz fo (.own i.objs.size))=k;have a8:k i.objs.size=some (.frz fo (.own i.objs.size)):=by rw[←F];exact y9
  have at2:k j=some (.frz N (.own j)):=by rw[←F,n6 (q9 B)];exact y9
  have K:∀{b:Ku},b≠j->b≠i.objs.size->k b=H b:=λ h1 h2=>by rw[←F,n6 h2,n6 h1]
  have sm:Same H k:=λ b o e=>by rw[K (S e).1 (S e).2];exact e
  have kp:∀b o,b≠P->s.heap.get? b=some o->(i.push fo).get? b=some o:=λ b o hb e=>n7 _ (hx b o hb e);have a6:∀b,H b=none->b≠P:=λ b n z=>by rw[z,hP]at n;cases n
  have un:Un X.fs [] H k s.heap (i.push fo):=by
   refine⟨λ b o e n _ _=>kp b o (a6 b n) e,λ b o e n _ _=>⟨o.slots,kp b o (a6 b n) e⟩,λ b o e n _=>by rw[K (v e).1 (v e).2];exact n,λ b o e _=>?_,λ b xs e=>sm _ _ e,λ b o u e=>sm _ _ e,λ b q e=>sm _ _ e⟩;by_cases z:b=P
   ·subst z;exact⟨_,n7 _ U⟩
   ·exact⟨o,kp b o z e⟩
  have b8:HOk X.prog X.w k (i.push fo):=λ b u e=>by
   by_cases z1:b=i.objs.size
   ·subst z1;rw[a8]at e;cases e;exact⟨r9 _ a1,_,r9 _ a1⟩
   ·by_cases z2:b=j
    ·subst z2;rw[at2]at e;cases e;exact⟨n7 _ Z,_,n7 _ Z⟩
    ·rw[K z2 z1]at e;by_cases z3:b=P
     ·subst z3;rw[hP]at e;cases e;refine⟨_,n7 _ U,?_,λ R cv a4=>?_⟩
      ·rw[cU];exact mF ⟨_,_,rfl⟩ ⟨_,_,rfl⟩ _ ht
      ·rw[cU]at a4;rcases mE (a:=rawInt pos.line) (b:=rawInt pos.col) (c:=.ref j) ps.toList ht ⟨_,_,rfl⟩ ⟨_,_,rfl⟩ a4 with w | w
       ·obtain⟨c2,b0,u2,a9,t2,f1,f2,f3,f4⟩:=x R cv w;refine⟨c2,b0,u2,a9,t2,f1,sm _ _ f2,f3,f4.1,λ y=>?_⟩;obtain⟨y0,T,a7,tf,J,tg,b7,O,tt,y1,y2,y3,y4,y5,y6,y7,y8⟩:=f4.2 y;exact⟨y0,T,a7,tf,J,tg,b7,O,tt,y1,y2,y3,y4,y5,y6,y7,sm _ _ y8⟩
       ·exact⟨j,N,_,vs,t,w,at2,hd,hv,λ y=>by rw[show N9 Mh=false from Ej _]at y;cases y⟩
     ·refine(I.hok b u e).stay (λ b' u' c4 q=>kp b' u' ?_ q) (λ b' q=>sm _ _ q) (λ b' xs q=>sm _ _ q) (λ b' xs q=>sm _ _ q) λ b' _ _ _ _ q=>sm _ _ q;rcases c4 with w | w
      ·rw[w];exact z3
      ·intro z;rw[z,hP]at w;cases w
  refine h i.objs.size k _ (I.un (t':=tk) un b8) sm a0 ⟨j,N,_,vs,t,(X.mg "__name__").getD .none,m,by rw[a8,←a2],at2,hd,hv⟩
end L2
namespace L2
open PySem PySem.Spec PyProof.Rows
noncomputable def trC(l:on Ku)(h:Kv)(H:Hp):Hp:=λ b=>if b∈l then(h.get? b).map λ o=>HO.frz o (.own b)else H b
def al(a:b∈l)(e:h.get? b=some o):trC l h H b=some (.frz o (.own b)):=by
 unfold trC;rw[f8 a,e];rfl
def aY(a:b∉l):trC l h H b=H b:=g9 a
structure Cells(l:List Addr)(h:Heap)(H:Hp):Prop where
 none:∀c∈l,H c=none
 cel:∀c∈l,∃o v,h.get? c=some o/\o.data=.cell v
section
variable {P:Kz} {w:Ky} {K:KC} {mg:Str->Kr Ks} {base:Kv} {A:KA} {outer:on Env} {s s':Kt} {H:Hp} {l:on Ku} {Q Q':VK} {u:Ks}
def Cells.same(C:Cells l s.heap H):Same H (trC l s.heap H):=λ b o e=>by
 rw[aY λ z=>by rw[C.none b z]at e;cases e];exact e
theorem HOk.trC(C:Cells l s.heap H)(x:HOk P w H s.heap):HOk P w (trC l s.heap H) s.heap:=λ b u e=>by
 by_cases hb:b∈l
 ·obtain⟨o,v,g,_⟩:=C.cel b hb;rw[al hb g]at e;cases e;exact⟨g,o,g⟩
 ·rw[aY hb]at e;exact(x b u e).stay (λ _ _ _ q=>q) (λ _ q=>C.same _ _ q) (λ _ _ q=>C.same _ _ q) (λ _ _ q=>C.same _ _ q) λ _ _ _ _ _ q=>C.same _ _ q
theorem Env0.trC(C:Cells l s.heap H)(hb:∀c∈l,base.get? c=none)(hf:∀c∈l,c∉frs outer)(e:Env0 P w K mg base A outer s H):Env0 P w K mg base A outer s (trC l s.heap H):=
 ⟨e.frames,e.mod,λ b o q=>⟨(e.bs b o q).1,by rw[aY λ z=>by rw[hb b z]at q;cases q];exact(e.bs b o q).2⟩,e.bsz,e.funs,⟨λ b q=>by rw[aY λ z=>hf b z q];exact e.frf.1 b q,λ p hp=>C.same _ _ (e.frf.2 p hp)⟩,HOk.trC C e.hok,e.bare⟩
theorem CE.trC(C:Cells l s.heap H)(h:CE outer P w (trC l s.heap H) s Q' u s')(hq:∀v H',Same (trC l s.heap H) H'->Q' v H'->Q v (L2.wo l H'))(hs:∀v H',Q' v H'->Same (trC l s.heap H) H'):CE outer P w H s Q u s':=by
 obtain⟨v,H',os,bare,un,hok,r,q⟩:=h;have at1:∀{b:Ku},b∈l->∃o v,s.heap.get? b=some o/\o.data=.cell v/\H' b=some (.frz o (.own b))/\s'.heap.get? b=some o:=λ {b} hb=>by obtain⟨o,v,g,d⟩:=C.cel b hb;have z:=un.frzs b o _ (al hb g);exact⟨o,v,g,d,z,(hok b _ z).1⟩
 refine⟨v,L2.wo l H',os,bare,⟨λ b o e n hf hx=>?_,λ b o e n hf hx=>?_,λ b o e n hx=>?_,un.there,λ b xs e=>?_,λ b o x e=>?_,λ b x e=>?_⟩,λ b x e=>?_,r,hq v H' (hs v H' q) q⟩
 ·by_cases hb:b∈l
  ·obtain⟨o',_,g,_,_,g'⟩:=at1 hb;rw[e]at g;cases g;exact g'
  ·exact un.keep b o e (by rw[aY hb];exact n) hf hx
 ·by_cases hb:b∈l
  ·obtain⟨o',_,g,_,_,g'⟩:=at1 hb;rw[e]at g;cases g;exact⟨o.slots,g'⟩
  ·exact un.slot b o e (by rw[aY hb];exact n) hf hx
 ·by_cases hb:b∈l
  ·exact ai hb
  ·rw[k8 hb];exact un.free b o e (by rw[aY hb];exact n) hx
 ·rw[k8 λ z=>by rw[C.none b z]at e;cases e];exact un.tups b xs (C.same _ _ e)
 ·rw[k8 λ z=>by rw[C.none b z]at e;cases e];exact un.frzs b o x (C.same _ _ e)
 ·rw[k8 λ z=>by rw[C.none b z]at e;cases e];exact un.tbls b x (C.same _ _ e)
 ·obtain⟨hb,e⟩:=C7 e;refine(hok b x e).stay (λ _ _ _ q=>q) (λ b' q=>?_) (λ b' _ q=>?_) (λ b' _ q=>?_) λ b' o' _ vs d q=>?_
  ·rw[k8 λ z=>by obtain⟨_,_,_,_,g,_⟩:=at1 z;rw[q]at g;cases g];exact q
  ·rw[k8 λ z=>by obtain⟨_,_,_,_,g,_⟩:=at1 z;rw[q]at g;cases g];exact q
  ·rw[k8 λ z=>by obtain⟨_,_,_,_,g,_⟩:=at1 z;rw[q]at g;cases g];exact q
  ·rw[k8 λ z=>by obtain⟨_,_,_,d',g,_⟩:=at1 z;rw[q]at g;cases g;rw[d]at d';cases d'];exact q
structure CellsT(l:List Addr)(h:Heap)(H:Hp):Prop where
 at_:∀c∈l,∃o v,H c=some MM/\h.get? c=some o/\o.data=.cell v
noncomputable def ov(l:on Ku)(H H':Hp):Hp:=λ b=>if b∈l then H b else H' b
def iI(h:b∈l):ov l H a b=H b:=f8 h
def V2(h:b∉l):ov l H a b=a b:=g9 h
def HOk.woC(C:CellsT l s.heap H)(x:HOk P w H s.heap):HOk P w (Ll l) s.heap:=λ b u e=>by
 obtain⟨hb,e⟩:=C7 e;refine(x b u e).stay (λ _ _ _ q=>q) (λ a q=>?_) (λ a _ q=>?_) (λ a _ q=>?_) λ a o' _ vs d q=>?_
 ·rw[k8 λ z=>by obtain⟨_,_,g,_⟩:=C.at_ _ z;rw[q]at g;cases g];exact q
 ·rw[k8 λ z=>by obtain⟨_,_,g,_⟩:=C.at_ _ z;rw[q]at g;cases g];exact q
 ·rw[k8 λ z=>by obtain⟨_,_,g,_⟩:=C.at_ _ z;rw[q]at g;cases g];exact q
 ·rw[k8 λ z=>by obtain⟨_,_,g,_,c⟩:=C.at_ _ z;rw[q]at g;cases g;rw[d]at c;cases c];exact q
def CE.woC(C:CellsT l s.heap H)(m:∀b∈frs outer,H b=none)(h:CE outer P w (Ll l) s Q' u s')(J:∀v i,(∀c∈l,i c=none)->Q' v i->Q v (ov l H i)):CE outer P w H s Q u s':=by
 obtain⟨v,i,F,p,un,A,r,q⟩:=h;have I:∀c∈l,c∉frs outer:=λ c y z=>by obtain⟨_,_,g,_⟩:=C.at_ c y;rw[m c z]at g;cases g
 have f:∀c∈l,i c=none:=λ c y=>by obtain⟨o,_,_,g,_⟩:=C.at_ c y;exact un.free c o g (ai y) KS
 refine⟨v,ov l H i,F,p,⟨λ b o e n m j=>?_,λ b o e n m j=>?_,λ b o e n j=>?_,un.there,λ b E e=>?_,λ b o x e=>?_,λ b x e=>?_⟩,λ b x e=>?_,r,J v i f q⟩
 ·have a:b∉l:=λ z=>by obtain⟨_,_,g,_⟩:=C.at_ b z;rw[n]at g;cases g
  exact un.keep b o e (by rw[k8 a];exact n) m j
 ·have a:b∉l:=λ z=>by obtain⟨_,_,g,_⟩:=C.at_ b z;rw[n]at g;cases g
  exact un.slot b o e (by rw[k8 a];exact n) m j
 ·have a:b∉l:=λ z=>by obtain⟨_,_,g,_⟩:=C.at_ b z;rw[n]at g;cases g
  rw[V2 a];exact un.free b o e (by rw[k8 a];exact n) j
 ·have a:b∉l:=λ z=>by obtain⟨_,_,g,_⟩:=C.at_ b z;rw[e]at g;cases g
  rw[V2 a];exact un.tups b E (by rw[k8 a];exact e)
 ·by_cases a:b∈l
  ·rw[iI a];exact e
  ·rw[V2 a];exact un.frzs b o x (by rw[k8 a];exact e)
 ·have a:b∉l:=λ z=>by obtain⟨_,_,g,_⟩:=C.at_ b z;rw[e]at g;cases g
  rw[V2 a];exact un.tbls b x (by rw[k8 a];exact e)
 ·by_cases a:b∈l
  ·rw[iI a]at e;obtain⟨o,_,g,K,_⟩:=C.at_ b a;rw[g]at e;cases e;have k:=un.keep b o K (ai a) (I b a) KS;exact⟨k,o,k⟩
  ·rw[V2 a]at e;refine(A b x e).stay (λ _ _ _ q=>q) (λ B q=>?_) (λ B _ q=>?_) (λ B _ q=>?_) λ B o' _ vs d q=>?_
   all_goals (rw[V2 λ z=>by rw[f _ z]at q;cases q];exact q)
end
noncomputable def V3(P:Kz)(w:Ky)(K:KC)(mg:Str->Kr Ks)(base:Kv)(N:on Str)(qual:Str)(scope:KD)(f:Ku)(cd:Ks)(cl:on (Str×Ku))(A:KA)(outer:on Env)(s:Kt)(H:Hp):Cx where
 prog:=P
 w:=w
 K:=K
 mg:=mg
 base:=base
 A:=A.deeper (PySem.W.envX qual scope s.heap.objs.size f cd cl)
 N:=N
 s₀:=s
 H₀:=H
 env:=PySem.W.envX qual scope s.heap.objs.size f cd cl
 outer:=outer
 stack:=PySem.W.envX qual scope s.heap.objs.size f cd cl::outer
 ex:=[]
 calm:=true
 fn:=λ _=>false
 pn:=[]
 xe:=λ _ _=>False
def El{P:Kz}{w:Ky}{K:KC}{mg:Str->Kr Ks}{base:Kv}{A:KA}{outer:on Env}{s:Kt}{H:Hp}{l:on Ku}{N ps:on Str}{q:Str}{scope:KD}{cl:on (Str×Ku)}{f:Ku}{us:on Ks}{vs ws:on V}{cd:Ks}{h₁:Kv}{tk:Nat}(S:LamScope N ps scope cl l)(C:CellsT l s.heap H)(hd:Ma)(e0:Env0 P w K mg base A outer s H)(hl:vs.length=ps.length)(r:Vals vs us)(hlen:N.length=ps.length+ws.length)
  (hw:LB)
  (hns:h₁.Ns s.heap.objs.size (λ x=>(ps.zip us).reverse.lookup x)) (hk:∀b o,s.heap.get? b=some o->h₁.get? b=some o) :
  Inv (V3 P w K mg base N q scope f cd cl A outer s (Ll l)) [] ((vs++ws).map some) (Ll l) {s with heap:=h₁,toks:=tk}:=by
 have nl:∀{b:Ku},H b=none->b∉l:=λ {b} n z=>by obtain⟨_,_,g,_⟩:=C.at_ b z;rw[n]at g;cases g
 have noA:∀b:Ku,b∉(V3 P w K mg base N q scope f cd cl A outer s (Ll l)).ex:=λ b z=>absurd (show b∈([]:on Ku)from z) KS;have wn:∀{b:Ku},H b=none->L2.wo l H b=none:=λ {b} n=>by rw[k8 (nl n)];exact n
 have cellAt:∀x c,cl.lookup x=some c->∃v,h₁.IsCell c v:=λ x c e=>by obtain⟨o,v,_,g,d⟩:=C.at_ c (S.mem x c e);exact⟨v,o,hk _ _ g,d⟩
 refine⟨⟨e0.mod,S.kind,rfl,rfl,i9 _,S.inj,λ y hy=>?_,λ y c z=>(nomatch z),λ _=>hd,jy e0.frames,.inr ⟨rfl,rfl⟩,λ b z=>absurd z (noA b),λ b o e=>⟨(e0.bs b o e).1,wn (e0.bs b o e).2⟩,e0.bsz,λ b _ _=>noA b,λ b z=>absurd z (noA b),e0.funs,λ b hb=>wn (e0.frf.1 b hb),λ p hp=>?_⟩,
  rfl,e0.bare,Un.kept hk,⟨_,hns,λ i y v h1 h2 h3=>?_⟩,cellAt,?_,λ y c h=>ai (S.mem y c h),λ p hp=>absurd (show p∈([]:on (Ku×Obj))from hp) KS,(HOk.woC C e0.hok).kept hk,?_⟩
 ·have hy:scope.names.lookup y=some .cell\/scope.names.lookup y=some .free:=hy;rcases hy with hy | hy
  ·exact absurd rfl (S.nocell _ (C8 hy))
  ·exact S.has y hy
 ·have z:=e0.frf.2 p hp;show L2.wo l H p.1=_;rw[k8 λ m=>by obtain⟨_,_,g,_⟩:=C.at_ _ m;rw[z]at g;cases g];exact z
 ·have h1:N[i]? = some y:=h1;rw[t5]at h2;have h2':(vs++ws)[i]? = some v:=by
   cases z:(vs++ws)[i]? with
   | none=>rw[z]at h2;cases h2
   | some a=>rw[z]at h2;exact congrArg some (D5 (D5 h2))
  by_cases hi:i<ps.length
  ·rw[Q5 KE]at h2';obtain⟨u,hu,rv⟩:=r.get h2';have hp:ps[i]? = some y:=by rw[←S.pre,Y3 hi];exact h1
   have ndP:ps.Nodup:=by rw[←S.pre];exact S.nd.sublist (fN _ _)
   refine⟨u,rv,.inl ⟨S.par y (K7 hp),?_⟩⟩;show(ps.zip us).reverse.lookup y=some u;have nd2:((ps.zip us).reverse.map (·.1)).Nodup:=by rw[List.map_reverse,List.map_fst_zip (by have:=r.length;omega)];exact qi.mpr (jP (λ h=>Ne.symm h) ndP)
   refine Z5 nd2 (List.mem_reverse.mpr ?_);have hz:(ps.zip us)[i]? = some (y,u):=by rw[fz];exact⟨hp,hu⟩
   exact K7 hz
  ·rw[T4 KE]at h2';obtain⟨c,u,e1,e2,e3⟩:=hw (i - vs.length) y v (by rw[show ps.length+(i - vs.length)=i by omega];exact h1) h2';exact⟨u,e3,.inr ⟨.inr (S.fre i y KE h1),c,e1,e2.keeps hk⟩⟩
 ·show L2.wo l H s.heap.objs.size=none;exact wn (e0.hok.fresh (i9 _))
 ·show((vs++ws).map some).length=N.length;rw[g8,t9];omega
def Em{K:KC}(S:LamScope N ps scope cl l)(C:CellsT l s.heap H)(M:A.depth<recursionLimit/\A.handled=none)(m:Env0 P w K mg base A outer s H)(hf:Q2 H q params body scope cl f)
  (h:∀B a j,bindArgs (PySem.W.kla_fn "<lambda>" q params body scope cl B (.ref a) j) ⟨us,[]⟩=pure (ps.zip us)) (hl:vs.length=ps.length) (r:Vals vs us) (p:N.length=ps.length+ws.length)
  (Y:LB)
  (g:∀a,∃t,PE (V3 P w K mg base N q scope f (.ref a) cl A outer s (Ll l)) body t/\t ((vs++ws).map some) (Ll l) (λ v k=>(∀c∈l,k c=none)->Q v (ov l H k))) :
  codeAny My A (.call (.ref f) ⟨us,[]⟩) (CR CX outer P w H s Q E) s:=by
 obtain⟨a,W,u,y,t,B,j,h1,h2,h3,h4⟩:=hf;refine PySem.W.kla_callFunE M.1 ((m.hok f _ h1).1) rfl S.co S.gen rfl ⟨a,W,y,t,rfl,((m.hok a _ h2).1),h3,h4⟩ ?_;show wpAny _ _ _ _ _ s;rw[h B a j];refine f9 (wpAny_newFunctionEnv S.nocell (λ x X=>S.par x.1 (db X).1) (λ L I n=>⟨(m.mod.nolimit.keeps λ b o e=>(m.bs b o e).1).fresh _ n,?_⟩) S.kind);show codeAny _ _ _ _ _;obtain⟨t,Z,hq⟩:=g a;exact PySem.W.kla_codeExpr (B4 (Z [] _ _ _ _ (El S C M.2 m hl r p Y I (λ b o e=>n.extBut b o (q9 (k9 e)) (n7 _ e))) hq) (λ v R ⟨O,k,J,U,z⟩=>CE.woC (Q':=λ v k=>(∀c∈l,k c=none)->Q v (ov l H k)) C m.frf.1 ⟨O,k,J.os,J.bare,J.base,J.hok,U,z⟩ λ _ _ z q=>q z) λ e R z=>(z:False).elim)
open PySem.Calls
def En(F:closureFor sc env=pure cl)(B:env.globals=mainGlobals)(L:s.heap.Ns mainGlobals mg)(hc:env.code=.ref c)(C:PySem.W.CodeHd s.heap c P)(N:s.heap.get? P=some (PySem.W.tabObj ps))(ht:TriplesOk ps.toList)(hn:codeAmong pos ps.toList=none)(u:mainGlobals≠P)(hb:s.heap.BuiltinsAt mg P)
  (h:∀a T K I h' tk,Heap.ExtBut P s.heap h'->s.heap.objs.size<=a->a<h'.objs.size->s.heap.objs.size<=T->h'.IsCode a T #[]->h'.TableAt a T #[]->h'.CodeRec (.ref a) p->h'.get? P=some (PySem.W.tabObj (ps ++ #[rawInt pos.line,rawInt pos.col,.ref a])) ->
   Q (.ref h'.objs.size) {s with heap:=h'.push (PySem.W.fnMade nm p y bd sc cl I ((mg "__name__").getD .none) a K),toks:=tk}) :
  wpAny M A (makeFunction nm p y (.stmts bd) sc env [] [] [] pos R) Q E s:=by
 obtain⟨bm,ob,b1,Z,_,Y,X,W,U,S⟩:=hb;have O:∀(s1:Kt),(∀b o,s.heap.get? b=some o->s1.heap.get? b=some o)->s.heap.objs.size<=s1.heap.objs.size->s1.gens=s.gens->s1.drawn=s.drawn->s1.os=s.os ->
   wpAny M A (functionCode env pos R nm p y sc (.stmts bd)) (λ J w=>∃a T h' tk,J=.ref a/\w = {s with heap:=h',toks:=tk} /\ Heap.ExtBut P s.heap h'/\s.heap.objs.size<=a/\a<h'.objs.size/\s.heap.objs.size<=T/\h'.IsCode a T #[]/\h'.TableAt a T #[]/\h'.CodeRec (.ref a) p/\h'.get? P=some (PySem.W.tabObj (ps ++ #[rawInt pos.line,rawInt pos.col,.ref a]))) E s1:=λ s1 k z g1 g2 g3=>by
  have C1:=C.keeps k;refine wpAny_functionCodeX hc (C1.code (k _ _ N) ht) (C1.tab (k _ _ N)) hn λ a h' tk d n m _ l j x6=>?_
  obtain⟨T,i,g,f⟩:=x6;refine⟨a,T,h',tk,rfl,by rw[g1,g2,g3],λ b o H e=>d b o H (k b o e),i7 z n,m,i7 z i,g,f,l,j.2⟩
 rw[makeFunction_eq];simp only[List.zip_nil_right,List.filterMap_nil,jR,if_true,pure_bind];unfold makeTail;rw[F,B];refine f0 (f9 ?_);cases cl with
 | nil=>
  simp only[jR,if_true];refine f0 (f9 (f0 (B4 (O s (λ _ _ e=>e) (i9 _) rfl rfl rfl) (λ J w q=>?_) λ _ _ x=>x)));obtain⟨a,T,h',tk,rfl,rfl,d,n,m,i,g,f,l,j⟩:=q;have v:=L.extBut d u;refine f0 (wpAny_builtinsFor v b1 Z (d _ _ Y X) W U S (f0 (wpAny_nsGet v ?_)));cases hd:docOf bd with
  | none=>exact f0 (f9 (C9 (h a T _ _ h' tk d n m i g f l j) MF))
  | some t=>exact f0 (kr (C9 (h a T _ _ h' _ d n m i g f l j) MF))
 | cons q r=>
  simp only[List.isEmpty_cons,Q8,if_false];refine f0 (wpAny_newTextTuple (f0 (B4 (O _ (λ b o e=>n7 _ e) (by rw[M4];omega) rfl rfl rfl) (λ J w q=>?_) λ _ _ x=>x)));obtain⟨a,T,h',tk,rfl,rfl,d,n,m,i,g,f,l,j⟩:=q;have v:=L.extBut d u;refine f0 (wpAny_builtinsFor v b1 Z (d _ _ Y X) W U S (f0 (wpAny_nsGet v ?_)));cases hd:docOf bd with
  | none=>exact f0 (f9 (C9 (h a T _ _ h' tk d n m i g f l j) MF))
  | some t=>exact f0 (kr (C9 (h a T _ _ h' _ d n m i g f l j) MF))
structure DefAt(X:Cx)(scope:Scope)(c P:Addr)(q:Str):Prop where
 code:X.env.code=.ref c
 hd:∀h:Heap,X.K.In h->PySem.W.CodeHd h c P
 tab:(P,q)∈A8 X.K
 fre:∀y∈scope.names,y.2=NameKind.free->X.env.kindOf y.1=some .cell
 dq:N9 q=true
def L5(H:Hp)(nm q:Str)(pr:KG)(bd:on KB)(sc:KD)(cl:on (Str×Ku))(f:Ku):Prop:=
 ∃(c':Ku) (oc:Obj) (u:HO) (vs:Kx Ks) (t:Tok) (doc pm ctv:Ks) (T:Ku),H f=some (.frz (PySem.W.fnMade nm q pr bd sc cl doc pm c' ctv) (.own f))/\H c'=some (.frz oc u)/\oc.data=.fields vs/\vs[1]? = some (.str q t)/\H T=some (.tbl MG) /\
  ∀h:Kv,h.get? c'=some oc->PySem.W.CodeHd h c' T
def L5.mono(e:Same H d)(h:L5 H nm q c bd sc cl f):L5 d nm q c bd sc cl f:=by
 obtain⟨p,j,u,g,t,a,i,b,T,o,n,m,l,k,r⟩:=h;exact⟨p,j,u,g,t,a,i,b,T,e _ _ o,e _ _ n,m,l,e _ _ k,r⟩
def Eo(I:KR U)(L:DefAt X sc c P q)
  (h:∀f r s',Inv X U σ r s'->Same H r->H f=none->L5 r nm q pr bd sc Ln f->Q (.ref f) s') :
  wpAny M A (makeFunction nm q pr (.stmts bd) sc X.env [] [] [] pos fl) Q E s:=by
 have hP:=I.tabs _ L.tab;obtain⟨ps,hp,ht,Y⟩:=I.hok _ _ hP;have a9:=gP (scope:=sc) (env:=X.env) λ y hy hf=>I.ok.has y.1 (.inl (L.fre y hy hf));have hg:s.heap.Ns mainGlobals X.mg:=I.ok.mod.glob.keeps I.bk;have c9:mainGlobals≠P:=λ z=>by obtain⟨o,es,ep,e,d,_⟩:=hg;rw[z,hp]at e;cases e;cases d
 obtain⟨bm,ob,b1,b2,b3,b4,b5,b6⟩:=I.ok.mod.bmod;have R:=I.bs _ _ b3;have d0:bm≠P:=λ z=>by rw[z,hP]at R;cases R.2
 have e0:bm≠mainGlobals:=λ z=>by obtain⟨o,es,ep,e,d,_⟩:=hg;rw[←z,R.1]at e;cases e;rw[b6]at d;cases d
 have hb:s.heap.BuiltinsAt X.mg P:=⟨bm,ob,b1,b2,e0,d0,R.1,b4,b5,b6⟩;have C:=L.hd s.heap I.kIn;have W:∀{l:Ku} {x:Obj} {p:Kx Ks} {T:Ku} {j:Str} {tf:Tok} {g:Int} {tg:Tok} {m:Bool} {i:Int} {tt:Tok},x.data=.fields p->x.cls=.type "code" -> p[11]? = some (.ref T)->p.getD 11 .none=.ref T->p.getD 18 .none=.str j tf->p.getD 7 .none=.int g tg->p.getD 9 .none=.bool m->p.getD 10 .none=.int i tt->l≠T ->
   ∀h:Kv,h.get? l=some x->PySem.W.CodeHd h l T:=λ d1 d2 d3 d4 d5 d6 d7 d8 d9 h e=>⟨_,_,_,_,_,_,_,_,_,e,d2,d1,d3,d4,d5,d6,d7,d8,d9⟩
 cases hf:codeAmong pos ps.toList with
 | some cv=>
  obtain⟨l,x,u,p,t,e1,e2,e3,e4,e5⟩:=Y pos cv hf;subst e1;obtain⟨y0,T,j,tf,g,tg,m,i,tt,y1,y2,y3,y4,y5,y6,y7,y8⟩:=e5 L.dq;refine PySem.W.makeFunction_hit (mg:=X.mg) a9 I.ok.glob hg L.code C hp ht hf hb λ O N k tk hk a4=>?_
  have hn:H k.objs.size=none:=I.hok.fresh a4;refine h _ (upd H k.objs.size (.frz _ (.own k.objs.size))) _ (I.laid (t':=tk) (λ b u e=>n7 _ (hk b u e)) a4 ⟨r9 _ rfl,_,r9 _ rfl⟩) (x4 hn) hn ?_;refine⟨l,x,u,p,t,N,_,O,T,y9,?_,e3,e4,?_,W e3 y0 y1 y2 y3 y4 y5 y6 y7⟩
  ·rw[n6 (A7 e2 hn)];exact e2
  ·rw[n6 (A7 y8 hn)];exact y8
 | none=>
  refine En (mg:=X.mg) a9 I.ok.glob hg L.code C hp ht hf c9 hb λ l T O N k tk hx F a0 b0 c8 c4 a5 a3=>?_;obtain⟨e9,x,p,t,e2,B,hd,hv⟩:=a5;cases e2;obtain⟨⟨o1,c1,g1,g2,g3,g4⟩,b7⟩:=c4;rw[B]at g1;cases g1;rw[hd]at g3;cases g3;obtain⟨o1,c1,j,tf,g,tg,m,i,tt,op,j1,j2,j3,j4,j5,j6,j7,_,_,_,j8⟩:=c8;rw[B]at j1;cases j1;rw[hd]at j2;cases j2;have c6:H l=none:=I.hok.fresh F;have c7:H T=none:=I.hok.fresh b0;have a6:H k.objs.size=none:=I.hok.fresh (i7 F (W6 a0));have e7:T<k.objs.size:=k9 b7;have e8:T≠k.objs.size:=q9 e7;have Z:∀{b:Ku} {u:HO},H b=some u->b≠l/\b≠T/\b≠k.objs.size:=λ e=>⟨A7 e c6,A7 e c7,A7 e a6⟩;have v:∀{b:Ku} {o:Obj},s.heap.get? b=some o->b≠l/\b≠T/\b≠k.objs.size:=λ {b o} e=>⟨q9 (t7 (k9 e) F),q9 (t7 (k9 e) b0),q9 (t7 (k9 e) (i7 F (W6 a0)))⟩;generalize a8:PySem.W.fnMade nm q pr bd sc _ N _ l O=fo;have a7:fo.isFreed=false:=by rw[←a8];rfl
  generalize K:upd (upd (upd H l (.frz x (.own l))) T (.tbl MG)) k.objs.size (.frz fo (.own k.objs.size))=r;have b9:r k.objs.size=some (.frz fo (.own k.objs.size)):=by rw[←K];exact y9
  have a1:r T=some (.tbl MG):=by rw[←K,n6 e8];exact y9
  have at2:r l=some (.frz x (.own l)):=by rw[←K,n6 (q9 a0),n6 j8];exact y9
  have a2:∀{b:Ku},b≠l->b≠T->b≠k.objs.size->r b=H b:=λ h1 h2 h3=>by rw[←K,n6 h3,n6 h2,n6 h1]
  have sm:Same H r:=λ b o e=>by rw[a2 (Z e).1 (Z e).2.1 (Z e).2.2];exact e
  have kp:∀b o,b≠P->s.heap.get? b=some o->(k.push fo).get? b=some o:=λ b o hb e=>n7 _ (hx b o hb e);have b8:∀b,H b=none->b≠P:=λ b n z=>by rw[z,hP]at n;cases n
  have un:Un X.fs [] H r s.heap (k.push fo):=by
   refine⟨λ b o e n _ _=>kp b o (b8 b n) e,λ b o e n _ _=>⟨o.slots,kp b o (b8 b n) e⟩,λ b o e n _=>by rw[a2 (v e).1 (v e).2.1 (v e).2.2];exact n,λ b o e _=>?_,λ b xs e=>sm _ _ e,λ b o u e=>sm _ _ e,λ b q e=>sm _ _ e⟩;by_cases z:b=P
   ·subst z;exact⟨_,n7 _ a3⟩
   ·exact⟨o,kp b o z e⟩
  have c5:HOk X.prog X.w r (k.push fo):=λ b u e=>by
   by_cases z1:b=k.objs.size
   ·subst z1;rw[b9]at e;cases e;exact⟨r9 _ a7,_,r9 _ a7⟩
   ·by_cases z0:b=T
    ·subst z0;rw[a1]at e;cases e;exact⟨#[],n7 _ b7,trivial,λ S cv J=>by cases J⟩
    ·by_cases z2:b=l
     ·subst z2;rw[at2]at e;cases e;exact⟨n7 _ B,_,n7 _ B⟩
     ·rw[a2 z2 z0 z1]at e;by_cases z3:b=P
      ·subst z3;rw[hP]at e;cases e;refine⟨_,n7 _ a3,?_,λ S cv J=>?_⟩
       ·rw[cU];exact mF ⟨_,_,rfl⟩ ⟨_,_,rfl⟩ _ ht
       ·rw[cU]at J;rcases mE (a:=rawInt pos.line) (b:=rawInt pos.col) (c:=.ref l) ps.toList ht ⟨_,_,rfl⟩ ⟨_,_,rfl⟩ J with w | w
        ·obtain⟨c2,c3,u2,c0,t2,f1,f2,f3,f4⟩:=Y S cv w;refine⟨c2,c3,u2,c0,t2,f1,sm _ _ f2,f3,f4.1,λ y=>?_⟩;obtain⟨y0,T2,j,tf,g,tg,m,i,tt,y1,y2,y3,y4,y5,y6,y7,y8⟩:=f4.2 y;exact⟨y0,T2,j,tf,g,tg,m,i,tt,y1,y2,y3,y4,y5,y6,y7,sm _ _ y8⟩
        ·exact⟨l,x,_,p,t,w,at2,hd,hv,λ _=>⟨g2,T,j,tf,g,tg,m,i,tt,g4,j3,j4,j5,j6,j7,j8,a1⟩⟩
      ·refine(I.hok b u e).stay (λ b' u' e6 q=>kp b' u' ?_ q) (λ b' q=>sm _ _ q) (λ b' xs q=>sm _ _ q) (λ b' xs q=>sm _ _ q) λ b' _ _ _ _ q=>sm _ _ q;rcases e6 with w | w
       ·rw[w];exact z3
       ·intro z;rw[z,hP]at w;cases w
  exact h k.objs.size r _ (I.un (t':=tk) un c5) sm a6 ⟨l,x,_,p,t,N,(X.mg "__name__").getD .none,O,T,by rw[b9,←a8],at2,hd,hv,a1,W hd g2 g4 j3 j4 j5 j6 j7 j8⟩
structure CloScope(N ps:List Str)(n:Nat)(sc:Scope)(cl:List (Str×Addr))(l:List Addr):Prop where
 kind:sc.kind=.function
 co:sc.isCoroutine=false
 gen:sc.isGenerator=false
 nd:N.Nodup
 pre:N.take ps.length=ps
 par:∀x∈ps,sc.names.lookup x=some .local
 nocell:∀y∈sc.names,y.2 ≠ .cell
 fre:∀i x,ps.length<=i->i<ps.length+n->N[i]? = some x->sc.names.lookup x=some .free
 has:∀x,sc.names.lookup x=some .free->∃c,cl.lookup x=some c
 inj:∀x y c,cl.lookup x=some c->cl.lookup y=some c->x=y
 mem:∀x c,cl.lookup x=some c->c∈l
def Ep{K:KC}(S:CloScope N ps ws.length scope cl l)(C:CellsT l s.heap H)(hd:Ma)(k:Env0 P w K mg base A outer s H)(hl:vs.length=ps.length)(r:Vals vs M)(Y:N.length=ps.length+ws.length+n)
  (hw:LB)
  (X:j.Ns s.heap.objs.size (λ x=>(ps.zip M).reverse.lookup x)) (R:∀b o,s.heap.get? b=some o->j.get? b=some o) :
  Inv (V3 P w K mg base N q scope f cd cl A outer s (Ll l)) [] ((vs++ws).map some++List.replicate n none) (Ll l) {s with heap:=j,toks:=tk}:=by
 have nl:∀{b:Ku},H b=none->b∉l:=λ {b} n z=>by obtain⟨_,_,g,_⟩:=C.at_ b z;rw[n]at g;cases g
 have I:∀b:Ku,b∉(V3 P w K mg base N q scope f cd cl A outer s (Ll l)).ex:=λ b z=>absurd (show b∈([]:on Ku)from z) KS;have wn:∀{b:Ku},H b=none->L2.wo l H b=none:=λ {b} n=>by rw[k8 (nl n)];exact n
 have E:∀x c,cl.lookup x=some c->∃v,j.IsCell c v:=λ x c e=>by obtain⟨o,v,_,g,d⟩:=C.at_ c (S.mem x c e);exact⟨v,o,R _ _ g,d⟩
 refine⟨⟨k.mod,S.kind,rfl,rfl,i9 _,S.inj,λ y J=>?_,λ y c z=>(nomatch z),λ _=>hd,jy k.frames,.inr ⟨rfl,rfl⟩,λ b z=>absurd z (I b),λ b o e=>⟨(k.bs b o e).1,wn (k.bs b o e).2⟩,k.bsz,λ b _ _=>I b,λ b z=>absurd z (I b),k.funs,λ b hb=>wn (k.frf.1 b hb),λ p L=>?_⟩,
  rfl,k.bare,Un.kept R,⟨_,X,λ i y v Q F h3=>?_⟩,E,?_,λ y c h=>ai (S.mem y c h),λ p L=>absurd (show p∈([]:on (Ku×Obj))from L) KS,(HOk.woC C k.hok).kept R,?_⟩
 ·have J:=J;rcases J with J | J
  ·exact absurd rfl (S.nocell _ (C8 J))
  ·exact S.has y J
 ·have z:=k.frf.2 p L;show L2.wo l H p.1=_;rw[k8 λ m=>by obtain⟨_,_,g,_⟩:=C.at_ _ m;rw[z]at g;cases g];exact z
 ·have Q:N[i]? = some y:=Q;have O:i<(vs++ws).length:=by
   by_cases z:i<(vs++ws).length
   ·exact z
   ·rw[T4 (by rw[g8];omega),cN]at F;split at F<;>cases F
  rw[Q5 (by rw[g8];exact O),t5]at F;have B:(vs++ws)[i]? = some v:=by
   cases z:(vs++ws)[i]? with
   | none=>rw[z]at F;cases F
   | some a=>rw[z]at F;exact congrArg some (D5 (D5 F))
  by_cases hi:i<ps.length
  ·rw[Q5 KE]at B;obtain⟨u,hu,rv⟩:=r.get B;have L:ps[i]? = some y:=by rw[←S.pre,Y3 hi];exact Q
   have U:ps.Nodup:=by rw[←S.pre];exact S.nd.sublist (fN _ _)
   refine⟨u,rv,.inl ⟨S.par y (K7 L),?_⟩⟩;show(ps.zip M).reverse.lookup y=some u;have W:((ps.zip M).reverse.map (·.1)).Nodup:=by rw[List.map_reverse,List.map_fst_zip (by have:=r.length;omega)];exact qi.mpr (jP (λ h=>Ne.symm h) U)
   refine Z5 W (List.mem_reverse.mpr ?_);have Z:(ps.zip M)[i]? = some (y,u):=by rw[fz];exact⟨L,hu⟩
   exact K7 Z
  ·rw[T4 KE]at B;obtain⟨c,u,e1,e2,e3⟩:=hw (i - vs.length) y v (by rw[show ps.length+(i - vs.length)=i by omega];exact Q) B;exact⟨u,e3,.inr ⟨.inr (S.fre i y KE (by rw[t9]at O;omega) Q),c,e1,e2.keeps R⟩⟩
 ·show L2.wo l H s.heap.objs.size=none;exact wn (k.hok.fresh (i9 _))
 ·show((vs++ws).map some++List.replicate n none).length=N.length;rw[t9,g8,t9,cP];omega
def Er{K:KC}(S:CloScope N ps ws.length scope cl l)(C:CellsT l s.heap H)(Y:A.depth<recursionLimit/\A.handled=none)(y:Env0 P w K mg base A outer s H)(hf:L5 H nm q a body scope cl f)
  (k:∀m pm d p,bindArgs (PySem.W.fnX nm q a body scope cl .none .none m pm none (.ref d) p) ⟨L,[]⟩=pure (ps.zip L)) (hl:vs.length=ps.length) (r:Vals vs L) (I:N.length=ps.length+ws.length+n)
  (hw:LB)
  (j:∀d B u T,H d=some (.frz B u)->H T=some (.tbl MG)->(∀h:Kv,h.get? d=some B->PySem.W.CodeHd h d T)->∃t,PSs (V3 P w K mg base N q scope f (.ref d) cl A outer s (Ll l)) body t/\t {nx:=λ _ _=>False,rt:=λ v O=>(∀c∈l,O c=none)->Q v (ov l H O)} ((vs++ws).map some++List.replicate n none) (Ll l)) :
  codeAny My A (.call (.ref f) ⟨L,[]⟩) (CR CX outer P w H s Q E) s:=by
 obtain⟨d,B,u,R,t,m,pm,p,T,h1,Z,h3,h4,h5,h6⟩:=hf;have U:=(y.hok d _ Z).1;refine qg Y.1 ((y.hok f _ h1).1) rfl S.co S.gen rfl ⟨d,B,R,t,rfl,U,h3,h4⟩ ?_
 show wpAny _ _ _ _ _ s;rw[k m pm d p];refine f9 (wpAny_newFunctionEnv S.nocell (λ x hx=>S.par x.1 (db hx).1) (λ X W F=>⟨(y.mod.nolimit.keeps λ b o e=>(y.bs b o e).1).fresh _ F,?_⟩) S.kind);have g:=λ b o e=>F.extBut b o (q9 (k9 e)) (n7 _ e)
 obtain⟨t,ht,hq⟩:=j d B u T Z h5 h6;refine codeAny_func (B4 (ht [] _ _ _ _ (Ep S C Y.2 y hl r I hw W g) hq) (λ fl s' M=>?_) λ e s' z=>(z:False).elim)
 cases fl with
 | ret u=>
  obtain⟨v',σ',O,J,rv,z⟩:=M;exact CE.woC C y.frf.1 ⟨v',O,J.os,J.bare,J.base,J.hok,rv,z⟩ λ _ _ z q=>q z
 | next=>obtain⟨_,_,_,z⟩:=M;exact False.elim z
 | brk=>obtain⟨_,_,_,z⟩:=M;exact False.elim z
 | cont=>obtain⟨_,_,_,z⟩:=M;exact False.elim z
def Es{K:KC}(C:CellsT l s.heap H)(k:H a=some (.frz i u))(hd:∀v,i.data ≠ .cell v)(j:H T=some (.tbl MG))(r:∀h:Kv,h.get? a=some i->PySem.W.CodeHd h a T)
  (c:∀y∈sc.names,y.2=NameKind.free->scope.names.lookup y.1=some .free):LamAt (V3 P w K mg base N q scope f (.ref a) cl A outer s (Ll l)) sc a T where
 code:=rfl
 hd:=λ {b m x s1} I=>by have e:L2.wo l H a=some _:=(by rw[k8 λ z=>by obtain⟨o,v,g,_,d⟩:=C.at_ _ z;rw[k]at g;cases g;exact hd v d];exact k);exact r _ (I.hok _ _ (I.base.frzs _ _ _ e)).1
 tab:=λ {b m x s1} I=>I.base.tbls _ _ (show L2.wo l H T=_ by
  rw[k8 λ z=>by obtain⟨o,v,g,_,d⟩:=C.at_ _ z;rw[j]at g;cases g];exact j)
 fre:=λ y n p=>.inr (c y n p)
structure RoomL(k:Nat)(A:Around):Prop where
 hd:A.handled=none
 dp:A.depth+3*k+5<recursionLimit
 un:A.units+16*k+198<cLine
def Room.toL(r:Room k A):RoomL k A:=⟨r.hd,r.dp,by have:=r.un;omega⟩
theorem RoomL.deeper(r:RoomL (k+1) A)(env:Env):Room k (A.deeper env):=
 ⟨r.hd,by have:=r.dp;show A.depth+1+3*k+5<_;omega,by have:=r.un;show A.units+3+16*k+200<_;omega⟩
def RoomL.ok(r:RoomL k A):A.depth<recursionLimit/\A.handled=none:=⟨by have:=r.dp;omega,r.hd⟩
def am(P:Kz)(w:Ky)(K:KC)(mg:Str->Kr Ks)(base:Kv)(fn bl cl:on Str)(k:Nat)(Fl:on DV->Kr Ou):Prop:=
 ∀(A:KA) (outer:on Env) (s:Kt) (H:Hp) (us:on Ks) (vs:on V) (Q:VK) (E:XK) (O:on Ku) (f:Ku) (m:LamD) (cs ds:on DV) (d:DV),RoomL k A->Env0 P w K mg base A outer s H->Vals vs us->Hdn O H->m.fn=fn->m.bl=bl->m.cl=cl ->
  Rep ⟨K,mg⟩ (Ll O) (.lam m cs) (.ref f)->RepL ⟨K,mg⟩ (Ll O) ds vs->Fl (.lam m cs::ds)=some (.v d false)->(∀v H',Same H H'->Rep ⟨K,mg⟩ (L2.wo O H') d v->Q v H') ->
  codeAny My A (.call (.ref f) ⟨us,[]⟩) (CR CX0 outer P w H s Q E) s
section
variable {D:Dm} {O l:on Ku} {H:Hp}
def ce(d:∀c∈l,∃o,H c=some MM)(h:L2.wo O H b=some u)(a:∀o c,u ≠ .frz o (.own c)):L2.wo O (Ll l) b=some u:=by
 obtain⟨f,e⟩:=C7 h;rw[k8 f,k8 λ z=>by obtain⟨o,g⟩:=d b z;rw[e]at g;cases g;exact a _ _ rfl];exact e
mutual
theorem uk(hl:∀c∈l,∃o,H c=some MM):∀{d:DV} {v:V},d.nolam=true->Rep D (Ll O) d v->Rep D (L2.wo O (Ll l)) d v
 | .non,_,_,h=>by unfold Rep at h ⊢;exact h
 | .bl _,_,_,h=>by unfold Rep at h ⊢;exact h
 | .int _,_,_,h=>by unfold Rep at h ⊢;exact h
 | .str _,_,_,h=>by unfold Rep at h ⊢;exact h
 | .tup ds,_,m,h=>by
  unfold Rep at h ⊢;obtain⟨a,xs,e1,e2,e3⟩:=h;unfold DV.nolam at m;refine⟨a,xs,e1,?_,X8 hl m e3⟩;rcases e2 with(h | ⟨o,h⟩) | h
  ·exact .inl (.inl (ce hl h (by intro o c z;cases z)))
  ·exact .inl (.inr ⟨o,ce hl h (by intro o c z;cases z)⟩)
  ·exact .inr h
 | .lst ds,_,m,h=>by unfold Rep at h ⊢;obtain⟨a,xs,e1,e2,e3⟩:=h;unfold DV.nolam at m;exact⟨a,xs,e1,ce hl e2 (by intro o c z;cases z),X8 hl m e3⟩
 | .dct _ _,_,m,h=>by
  unfold Rep at h ⊢;unfold DV.nolam at m;rcases h with⟨a,ob,kvs,e1,e2,e3,e4⟩ | ⟨a,ob,kvs,e1,e2,e3,e4⟩
  ·exact .inl ⟨a,ob,kvs,e1,ce hl e2 (by intro o c z;cases z),e3,X8 hl m e4⟩
  ·exact .inr ⟨a,ob,kvs,e1,ce hl e2 (by intro o c z;cases z),e3,X8 hl m e4⟩
 | .fn _,_,_,h=>by unfold Rep at h ⊢;exact h
 | .lam _ _,_,m,_=>by unfold DV.nolam at m;cases m
 | .scr _,_,_,h=>by
  unfold Rep at h ⊢;obtain⟨a,e1,e2⟩:=h;refine⟨a,e1,?_⟩;rcases e2 with⟨o,h⟩ | h
  ·exact .inl ⟨o,ce hl h (by intro o c z;cases z)⟩
  ·exact .inr h
theorem X8(hl:∀c∈l,∃o,H c=some MM):∀{ds:on DV} {xs:on V},DV.nolams ds=true->RepL D (Ll O) ds xs->RepL D (L2.wo O (Ll l)) ds xs
 | [],_,_,h=>by unfold RepL at h ⊢;exact h
 | d::ds,_,m,h=>by unfold RepL at h ⊢;obtain⟨v,vs,e1,e2,e3⟩:=h;unfold DV.nolams at m;rw[f7]at m;exact⟨v,vs,e1,uk hl m.1 e2,X8 hl m.2 e3⟩
end
end
section
variable {X:Cx} {pins:on (Ku×Obj)} {σ:St} {H:Hp} {s:Kt} {sc:KD} {N ps:on Str}
def cf(d:∀y∈sc.names,y.2=NameKind.free->∃a,b.lookup y.1=some a)(h:(q0 b sc.names []).lookup x=some c):b.lookup x=some c/\MK∈sc.names:=by
 rcases bN d (C8 h)with z | z
 ·cases z
 ·exact z
def eQ(g:∀y∈sc.names,y.2=NameKind.free->∃a,b.lookup y.1=some a)(f:MK∈sc.names)(d:b.lookup x=some c):(q0 b sc.names []).lookup x=some c:=by
 obtain⟨c',e⟩:=ll (gQ f d);have:=(cf g e).1;rw[d]at this;cases this;exact e
structure LamTx(N ps:List Str)(sc:Scope):Prop where
 kind:sc.kind=.function
 co:sc.isCoroutine=false
 gen:sc.isGenerator=false
 nd:N.Nodup
 pre:N.take ps.length=ps
 par:∀x∈ps,sc.names.lookup x=some .local
 nocell:∀y∈sc.names,y.2 ≠ .cell
 fre:∀i x,ps.length<=i->N[i]? = some x->sc.names.lookup x=some .free
def LamTx.full(T:LamTx N ps sc)(I:KR pins)(b:LO):LamScope N ps sc Ln ((Ln).map (·.2)) where
 kind:=T.kind
 co:=T.co
 gen:=T.gen
 nd:=T.nd
 pre:=T.pre
 par:=T.par
 nocell:=T.nocell
 fre:=T.fre
 has:=λ x h=>by have d:=C8 h;obtain⟨c,e⟩:=b _ d rfl;exact⟨c,eQ b d e⟩
 inj:=λ x y c g f=>I.ok.inj x y c (cf b g).1 (cf b f).1
 mem:=λ x c h=>i8.mpr ⟨_,C8 h,rfl⟩
def iJ(I:KR pins)(d:LO):∀c∈(q0 X.env.cells sc.names []).map (·.2),∃x,X.env.cells.lookup x=some c/\MK∈sc.names:=λ c e=>by
 obtain⟨⟨x,c'⟩,b,rfl⟩:=i8.mp e;rcases bN d b with z | z
 ·cases z
 ·exact⟨x,z.1,z.2⟩
def Cells.of(I:KR pins)(f:LO):Cells ((Ln).map (·.2)) s.heap H where
 none:=λ c b=>by obtain⟨x,e,_⟩:=iJ I f c b;exact I.freeC x c e
 cel:=λ c b=>by obtain⟨x,e,_⟩:=iJ I f c b;obtain⟨v,o,g,d⟩:=I.cell x c e;exact⟨o,v,g,d⟩
def Et(I:KR pins)(h:LO)(d:∀y∈sc.names,y.2=NameKind.free->X.fn y.1=true):∀c∈(q0 X.env.cells sc.names []).map (·.2),X.base.get? c=none/\c∉frs X.stack:=λ c i=>by
 obtain⟨x,e,g⟩:=iJ I h c i;have b:=I.ok.cab x c (d _ g rfl) e;refine⟨cS (i7 I.ok.bsz b),λ z=>?_⟩;rcases i6.mp (I.stkSub c z)with w | w
 ·exact I.cne x c e w
 ·obtain⟨_,o,f,_⟩:=I.ok.funs.mem w
  exact absurd (t7 (k9 f) b) (P2 _)
end
section
variable {X:Cx} {δ:on Sv} {ea eb bd:Kw} {pos p lp:Pos} {re:Re} {k:Nat} {x:Str} {pr:KG} {sc:KD} {c P:Ku} {m:LamD} {cs:on DV} {fr:on Nat}
def tLam(X:Cx)(pr:KG)(bd:Kw)(sc:KD):TE:=λ _ H Q=>∀f H',Same H H'->H f=none->Q2 H' Mh pr bd sc Ln f->Q (.ref f) H'
def Eu(L:LamAt X sc c P)(a:defaultsOf pr X.env=([],[])):PE X (.Lambda pr bd sc lp) (tLam X pr bd sc):=by
 intro b s σ H Q I h;exact Ek I L a λ f d s' g sm e lf=>⟨.ref f,d,g,rfl,h f d sm e lf⟩
theorem mG(R:Mr D):∀{b:on Nat} {cs:on DV},capD δ b=some cs->∃a:on V,a.length=b.length/\RepL D (Ll (O++W)) cs a/\∀(j i:Nat) v,b[j]? = some i->a[j]? = some v->σ[i]? = some (some v)
 | [],cs,h=>by cases h;exact⟨[],rfl,by unfold RepL;rfl,λ j i v h=>by cases h⟩
 | i::r,cs,h=>by
  unfold capD at h;split at h
  ·rename_i d ds q p;split at h
   ·cases h;obtain⟨a,l,k,g⟩:=mG R p;obtain⟨v,o,n⟩:=R.val i d q;refine⟨v::a,by rw[x9,x9,l],w6.mpr ⟨v,a,rfl,n,k⟩,λ j m f e c=>?_⟩;cases j with
    | zero=>cases e;cases c;exact o
    | succ j=>exact g j m f e c
   ·cases h
  ·cases h
end
section
variable {X:Cx} {δ:on Sv} {v:Kw} {te:TE} {pos kpos:Pos} {i:Int} {j:Nat}
def Inv.notSys(I:KR b)(h:s.heap.objs.size<=a):(a==sysModules)=false:=by
 have:=t7 (T7 (by decide:(1:Nat)<=mainGlobals) I.mod.glob.lt) (i7 (i7 I.ok.bsz I.sz) h);exact x8.mpr (N7 this)
def V4(c:H p=some (.dK []))(h:L2.wo O H b=some u)(a:u ≠ .dK []):L2.wo O (upd H p o) b=some u:=by
 obtain⟨d,e⟩:=C7 h;rw[k8 d,n6 (λ z=>by rw[z,c]at e;cases e;exact a rfl)];exact e
mutual
theorem mH{D:Dm}{O:on Ku}{H:Hp}{p:Ku}{o:HO}(hp:H p=some (.dK [])):∀{d:DV} {v:V},Rep D (Ll O) d v->Rep D (L2.wo O (upd H p o)) d v
 | .non,_,h=>by unfold Rep at h ⊢;exact h
 | .bl _,_,h=>by unfold Rep at h ⊢;exact h
 | .int _,_,h=>by unfold Rep at h ⊢;exact h
 | .str _,_,h=>by unfold Rep at h ⊢;exact h
 | .tup ds,_,h=>by
  unfold Rep at h ⊢;obtain⟨a,xs,e1,e2,e3⟩:=h;refine⟨a,xs,e1,?_,cg hp e3⟩;rcases e2 with(h | ⟨o,h⟩) | h
  ·exact .inl (.inl (V4 hp h KP))
  ·exact .inl (.inr ⟨o,V4 hp h KP⟩)
  ·exact .inr h
 | .lst ds,_,h=>by unfold Rep at h ⊢;obtain⟨a,xs,e1,e2,e3⟩:=h;exact⟨a,xs,e1,V4 hp e2 KP,cg hp e3⟩
 | .dct _ _,_,h=>by
  unfold Rep at h ⊢;rcases h with⟨a,ob,kvs,e1,e2,e3,e4⟩ | ⟨a,ob,kvs,e1,e2,e3,e4⟩
  ·exact .inl ⟨a,ob,kvs,e1,V4 hp e2 KP,e3,cg hp e4⟩
  ·exact .inr ⟨a,ob,kvs,e1,V4 hp e2 KP,e3,cg hp e4⟩
 | .fn _,_,h=>by unfold Rep at h ⊢;exact h
 | .lam m cs,_,h=>by
  unfold Rep at h ⊢;obtain⟨f,pr,bd,sc,q,cl,l,ws,e1,⟨c',oc,u,vs,t,pm,ctv,f1,f2,f3⟩,e3,e4,e5,g1,g2,g3⟩:=h;refine⟨f,pr,bd,sc,q,cl,l,ws,e1,⟨c',oc,u,vs,t,pm,ctv,V4 hp f1 KP,V4 hp f2 KP,f3⟩,e3,e4,cg hp e5,g1,λ c hc=>?_,λ i x v h1 h2=>?_⟩
  ·obtain⟨o,v,k1,k2⟩:=g2 c hc;exact⟨o,v,V4 hp k1 KP,k2⟩
  ·obtain⟨c,o,u,k1,k2,k3⟩:=g3 i x v h1 h2;exact⟨c,o,u,k1,V4 hp k2 KP,k3⟩
 | .scr _,_,h=>by
  unfold Rep at h ⊢;obtain⟨a,e1,e2⟩:=h;refine⟨a,e1,?_⟩;rcases e2 with⟨o,h⟩ | h
  ·exact .inl ⟨o,V4 hp h KP⟩
  ·exact .inr h
theorem cg{D:Dm}{O:on Ku}{H:Hp}{p:Ku}{o:HO}(hp:H p=some (.dK [])):∀{ds:on DV} {xs:on V},RepL D (Ll O) ds xs->RepL D (L2.wo O (upd H p o)) ds xs
 | [],_,h=>by unfold RepL at h ⊢;exact h
 | d::ds,_,h=>by unfold RepL at h ⊢;obtain⟨v,vs,e1,e2,e3⟩:=h;exact⟨v,vs,e1,mH hp e2,cg hp e3⟩
end
end
def Ev(x y:Str)(ta tb:TE):TE:=λ σ H Q=>∀a,H a=none->ta σ (upd H a (.dK [])) λ v H1=>tb σ H1 λ w H2=>H2 a=some (.dK [])/\∀o,Q (.ref a) (upd H2 a (.frz o (.dK [(.inr x,v),(.inr y,w)])))
def Ew{X:Cx}{ea eb:Kw}{ta tb:TE}{pos kp1 kp2:Pos}{x y:Str}{j1 j2:Nat}(hxy:x≠y)(ha:PE X ea ta)(hb:PE X eb tb):PE X (.Dict [some (.Constant (.str x) j1 kp1),some (.Constant (.str y) j2 kp2)] [ea,eb] pos) (Ev x y ta tb):=by
 intro pins s σ H Q I h;have hf:H s.heap.objs.size=none:=I.hok.fresh (i9 _);have ns:=I.notSys (i9 _);have I0:Inv X pins σ (upd H s.heap.objs.size (.dK [])) {s with heap:=s.heap.push {cls:=.type "dict",data:=.dict #[]}}:=
  I.laid (t':=s.toks) (λ b u e=>n7 _ e) (i9 _) ⟨D9 _,ns,[],.nil,Heap.DictOf.new _⟩
 refine wpAny_Dict_walk (knd:=G5 X.prog X.w) rfl rfl KS (show(2:Nat)<=15 by decide) ?_;refine pairTrees_cons_walk (thn (kz (x:=x) (j:=j1) (pos:=kp1) pins _ σ _ (λ v H1=>v=.str x/\ta σ H1 λ v H1=>tb σ H1 λ w H2=>H2 s.heap.objs.size=some (.dK [])/\∀o,Q Ls (upd H2 s.heap.objs.size (.frz o (.dK [(.inr x,v),(.inr y,w)])))) I0 ⟨rfl,h _ hf⟩) λ ku s1 ⟨kx,H1,I1,rk,e,q⟩=>?_);subst e;obtain⟨tk,rfl⟩:=rk;refine thn (ha pins s1 σ H1 _ I1 q) λ vu s2 ⟨vx,H2,I2,rv,q2⟩=>?_;refine pairTrees_cons_walk (thn (kz (x:=y) (j:=j2) (pos:=kp2) pins _ σ _ (λ v H1=>v=.str y/\tb σ H1 λ w H2=>H2 s.heap.objs.size=some (.dK [])/\∀o,Q Ls (upd H2 s.heap.objs.size (.frz o (.dK [(.inr x,vx),(.inr y,w)])))) I2 ⟨rfl,q2⟩) λ ku s3 ⟨kx,H3,I3,rk,e,q⟩=>?_);subst e;obtain⟨tk2,rfl⟩:=rk;refine thn (hb pins s3 σ H3 _ I3 q) λ wu s4 ⟨wx,H4,I4,rw',hd,q4⟩=>pairTrees_nil_walk ?_;obtain⟨z,ns',vs',kv,dd⟩:=(show u6 X.prog X.w H4 s4.heap s.heap.objs.size (.dK [])from I4.hok _ _ hd);cases kv;have mg:merged [] [((.inr x:Key),vu),(.inr y,wu)]=[(.inr x,vu),(.inr y,wu)]:=merged_nil_of_nodup _ (by
  have:(Sum.inr x:Key) ≠ .inr y:=λ z=>hxy (by cases z;rfl);simpa using this)
 refine⟨[(.inr x,vu),(.inr y,wu)],⟨strKind_is X.prog X.w x tk,rfl,strKind_is X.prog X.w y tk2,rfl,trivial⟩,dd,λ h' hd' sb=>?_⟩;rw[mg]at hd';obtain⟨o,es,ep,e,r'⟩:=id hd';refine⟨.ref s.heap.objs.size,upd H4 s.heap.objs.size (.frz o (.dK [(.inr x,vx),(.inr y,wx)])),?_,rfl,q4 o⟩;exact I4.write (x:=s.heap.objs.size) (e:=s.heap.objs.size) (by rw[hd];trivial) Mv (λ b u hb e=>sb.extBut b u hb e) ⟨o,e⟩ ⟨e,show(2:Nat)<=sizeLine by decide,ns,[(.inr x,vu),(.inr y,wu)],.cons ⟨rfl,rv⟩ (.cons ⟨rfl,rw'⟩ .nil),hd'⟩
def Ex(J:x≠y)(f:∀q,E=some q->PE X P KZ)(n:∀q,C=some q->PE X N KZ)(h:(Re.thn E λ d c=>Re.thn C λ r K=>dc2D x y d r c K)=some s) :
  PE X (.Dict [some (.Constant (.str x) U I),some (.Constant (.str y) S F)] [P,N] pos) (dE X.D δ s):=by
 cases j:E with
 | none=>rw[j]at h;cases h
 | some q=>
  rw[j]at h;have A:=f q j;cases q with
  | ok d c=>
   cases i:C with
   | none=>rw[i]at h;cases h
   | some L=>
    rw[i]at h;have B:=n L i;cases L with
    | ok r K=>
     have o:dc2D x y d r c K=some s:=h;unfold dc2D at o;split at o
     ·rename_i m;obtain⟨c1,c2,_⟩:=m;cases o;refine(Ew J A B).weak λ σ H Q ⟨O,W,R,p⟩ a f=>⟨O,W,R.mono (x4 f),λ v H1 s1 g=>⟨O,W,(R.mono (x4 f)).mono s1,λ w H2 s2 Z=>⟨s2 _ _ (s1 _ _ y9),λ M=>?_⟩⟩⟩
      have k:=s2 _ _ (s1 _ _ y9);have sm:Same H (upd H2 a (.frz M (.dK [(.inr x,v),(.inr y,w)]))):=λ b u e=>by have n:b≠a:=A7 e f;rw[n6 n];exact s2 _ _ (s1 _ _ (by rw[n6 n];exact e))
      have l:=(((R.mono (x4 f)).mono s1).hid).mono s2;have Y:=(g.stro (((R.mono (x4 f)).hid).mono s1) c1).mono s2.wo;exact p _ _ sm (S6.mpr (.inl ⟨a,M,_,rfl,by rw[k8 (λ z=>R.hid.ot a z f)];exact y9,rfl,w6.mpr ⟨_,_,rfl,(mH k Y),RepL.one (mH k (Z.stro l c2))⟩⟩):Rep X.D _ (.dct [.s x,.s y] [d,r]) _)
     ·cases o
structure Wk(D:Dm)(J:It)(ds:List DV)(Oc Oi:List Addr)(H1:Hp):Prop where
 go:∀i H,Same (L2.wo Oc H1) (Ll Oc)->i<ds.length->J.go i H
 same:∀i H x H',J.yld i H x H'->Same H H'
 yld:∀i H x H' d O2,Same (L2.wo Oc H1) (Ll Oc)->Same (L2.wo Oi H1) (Ll Oi)->J.yld i H x H'->ds[i]? = some d->(∀a∈O2,H a≠none/\(a∈Oi\/H1 a=none))->Rep D (L2.wo O2 H') d x
 stop:∀H,Same (L2.wo Oc H1) (Ll Oc)->J.stop ds.length H
def hidW(O W:on Ku):Cl->on Ku
 | .top=>O
 | .weak=>O
 | _=>O++W
def Ey(D:Dm)(O W:on Ku)(H:Hp)(R:It->Hp->Prop):Ri->Prop
 | .ok ds c=>∀J H',Same H H'->Wk D J ds (hidW O W c) (N1 O W c) H'->R J H'
def dI(D:Dm)(δ:on Sv)(r:Ri):TI:=λ σ H R=>∃O W,RSt D H σ δ O W/\Ey D O W H R r
def PI.weak(h:PI X tg a t)(k:∀b H R,t' b H R->t b H R):PI X tg a t':=λ c s b H R I q=>h c s b H R I (k b H R q)
def mI(s:Same (L2.wo O c) (Ll O))(h:∀a∈d,H a≠none/\(a∈O\/c a=none)):Same (L2.wo O c) (L2.wo d H):=λ b o e=>by
 have q:=s b o e;obtain⟨f,e⟩:=C7 e;obtain⟨_,q⟩:=C7 q;rw[k8 λ z=>?_]
 ·exact q
 ·rcases(h b z).2 with w | w
  ·exact f w
  ·rw[w]at e;cases e
def Wk.list(h:SqL D.K (L2.wo f b) a xs)(r:RepL D (L2.wo c b) ds xs):Wk D (Itl D.K a) ds f c b where
 go:=λ i H s hi=>⟨xs,xs[i]'(by rwa [r.length]),x5.seq (s.seq h),m7 _⟩
 same:=λ i H x n y=>by rw[y.1];exact Same.refl _
 yld:=λ i H x n d O2 s g y e l=>by obtain⟨m,y⟩:=y;subst m;obtain⟨v,k,j⟩:=r.get e;have:=y xs (x5.seq (s.seq h));rw[k]at this;cases this;exact j.mono (mI g l)
 stop:=λ H s=>⟨xs,x5.seq (s.seq h),by rw[r.length];exact i9 _⟩
def Wk.tup(h:SqT D.K (L2.wo f b) a xs)(r:RepL D (L2.wo c b) ds xs):Wk D (Itt D.K a) ds f c b where
 go:=λ i H s hi=>⟨xs,xs[i]'(by rwa [r.length]),x5.tseq (s.tseq h),m7 _⟩
 same:=λ i H x n y=>by rw[y.1];exact Same.refl _
 yld:=λ i H x n d O2 s g y e l=>by obtain⟨m,y⟩:=y;subst m;obtain⟨v,k,j⟩:=r.get e;have:=y xs (x5.tseq (s.tseq h));rw[k]at this;cases this;exact j.mono (mI g l)
 stop:=λ H s=>⟨xs,x5.tseq (s.tseq h),by rw[r.length];exact i9 _⟩
def mJ(a:Int)(n:Nat):(upTo a n).length=n:=by unfold upTo;rw[g8,C3]
def Ez(h:(upTo a n)[i]? = some d):i<n/\d=.int (a+i):=by
 have b:i<n:=by have:=(z7.mp h).1;rw[mJ]at this;exact this
 unfold upTo at h;rw[t5,fH b]at h;cases h;exact⟨b,rfl⟩
def Wk.range(a:Int)(n:Nat):Wk D (Itr a n) (upTo a n) h g j where
 go:=λ i H s b=>by rw[mJ]at b;exact b
 same:=λ i H x k y=>by rw[y.1];exact Same.refl _
 yld:=λ i H x k d O2 s s' y e ho=>by obtain⟨f,y⟩:=y;subst f;obtain⟨_,c⟩:=Ez e;subst c;exact z8.mpr y
 stop:=λ H s=>by rw[mJ];exact i9 _
def Got.walkL(g:Got D O W f H (Lw ds) c v)(hd:LW f):∃a xs,v=.ref a/\SqL D.K (Ll (hidW O W c)) a xs/\RepL D (Ll (N1 O W c)) ds xs:=by
 cases c with
 | weak=>obtain⟨a,xs,e,d,b⟩:=N0.mp g;exact⟨a,xs,e,SqL.of d,b⟩
 | top=>obtain⟨a,xs,e,e0,d,b⟩:=g;exact⟨a,xs,e,SqL.of d,b⟩
 | strong=>obtain⟨a,xs,e,d,b⟩:=N0.mp g;exact⟨a,xs,e,SqL.of d,b⟩
 | fresh=>obtain⟨a,xs,e,d,b⟩:=N0.mp (g.strong hd);exact⟨a,xs,e,SqL.of d,b⟩
def Got.walkT(g:Got D O W b H (.tup ds) c v)(hd:LW b):∃a xs,v=.ref a/\SqT D.K (Ll (hidW O W c)) a xs/\RepL D (Ll (N1 O W c)) ds xs:=by
 cases c with
 | weak=>exact F6.mp g
 | top=>
  obtain⟨a,xs,f,e,d⟩:=F6.mp (g);exact⟨a,xs,f,(O6 bT).tseq e,d⟩
 | strong=>exact F6.mp g
 | fresh=>obtain⟨_,_,_,_,q,_⟩:=g;cases q
def Got.walkS(g:Got D O W f H (.scr e) c v)(hd:LW f):∃a,v=.ref a/\SqL D.K (Ll (hidW O W c)) a (e.map V.int):=by
 cases c with
 | weak=>obtain⟨a,d,b⟩:=X6.mp g;exact⟨a,d,b.sq⟩
 | top=>obtain⟨a,d,b⟩:=X6.mp (g);exact⟨a,d,(O6 bT).seq b.sq⟩
 | strong=>obtain⟨a,d,b⟩:=X6.mp g;exact⟨a,d,b.sq⟩
 | fresh=>obtain⟨_,_,_,_,q,_⟩:=g;cases q
def ul(s:∀q,l=some q->PE X e KZ)(h:r3 l=some o):PI X tg e (dI X.D δ o):=by
 cases g:l with
 | none=>rw[g]at h;cases h
 | some q=>
  rw[g]at h;have A:=s q g;cases q with
  | ok d c=>
   obtain⟨ds,b,f⟩:=A6.mp (h);cases f;unfold seqD at b;split at b
   ·cases b;exact(qC A).weak λ n H r ⟨O,W,R,p⟩=>⟨O,W,R,λ v j s1 i=>by
     obtain⟨a,b,f⟩:=i.walkS Lh;exact⟨a,b,⟨_,x5.seq f⟩,p _ j s1 (.list f (eH _))⟩⟩
   ·cases b;exact(qC A).weak λ n H r ⟨O,W,R,p⟩=>⟨O,W,R,λ v j s1 i=>by
     obtain⟨a,k,b,f,m⟩:=i.walkL Lh;exact⟨a,b,⟨k,x5.seq f⟩,p _ j s1 (.list f m)⟩⟩
   ·cases b;exact(za A).weak λ n H r ⟨O,W,R,p⟩=>⟨O,W,R,λ v j s1 i=>by
     obtain⟨a,k,b,f,m⟩:=i.walkT Lh;exact⟨a,b,⟨k,x5.tseq f⟩,p _ j s1 (.tup f m)⟩⟩
   ·cases b
def mK(h:J7 i=true) : -(2^62)<=i/\i<2^62:=by
 unfold J7 at h;simpa[f7]using h
def um(h:r3 (o.map λ a=>Re.ok (.lst a) .fresh)=some b):∃a,o=some a/\b=.ok a .fresh:=by
 cases o with
 | none=>cases h
 | some a=>cases h;exact⟨a,rfl,rfl⟩
def EA(r:Gl X "range")(n:X.mg "range" = none)(s:∀q,d=some q->PA X [e] MH)(k:u7 e=false)(h:r3 (Rs.thn d λ l=>(rngD l).map λ g=>Re.ok (.lst g) .fresh)=some f)(o:∀l,d=some (.ok l)->l.length=1) :
  PI X tg (.Call (.Name "range" p) [e] [] pos) (dI X.D δ f):=by
 cases a:d with
 | none=>rw[a]at h;cases h
 | some q=>
  rw[a]at h;have A:=s q a;cases q with
  | ok l=>
   have i:=o l a;obtain⟨g,b,y⟩:=um (h);cases y;unfold rngD at b;split at b
   ·rename_i j c;split at b
    ·rename_i m;cases b;rw[f7]at m;have q:=mK m.1;exact((λ t (u:PA X [e] t)=>ze r n u (w5 k)) _ A).weak λ σ H R' ⟨O,W,R,p⟩=>⟨O,W,R,λ vs z s1 x=>by
      obtain⟨v,rfl,w⟩:=x.one;exact⟨j,by rw[w.int Lh],q.1,q.2,p _ z s1 (.range _ _)⟩⟩
    ·cases b
   ·cases i
   ·cases b
def EB(y:Gl X "range")(w:X.mg "range" = none)(z:∀q,f=some q->PA X [e,g] MH)(u:u7 e=false)(d:u7 g=false)(h:r3 (Rs.thn f λ l=>(rngD l).map λ r=>Re.ok (.lst r) .fresh)=some n)(x:∀l,f=some (.ok l)->l.length=2) :
  PI X tg (.Call (.Name "range" p) [e,g] [] pos) (dI X.D δ n):=by
 cases a:f with
 | none=>rw[a]at h;cases h
 | some q=>
  rw[a]at h;have A:=z q a;cases q with
  | ok l=>
   have s:=x l a;obtain⟨r,b,F⟩:=um (h);cases F;unfold rngD at b;split at b
   ·cases s
   ·rename_i i c j c';split at b
    ·rename_i m;cases b;rw[f7,f7]at m;have q:=mK m.1.1;have o:=mK m.1.2;exact((λ t (B:PA X [e,g] t)=>zf y w B (by rw[w5 u,w5 d];rfl) (w5 d)) _ A).weak λ σ H R' ⟨O,W,R,p⟩=>⟨O,W,R,λ vs I s1 E=>by
      obtain⟨v,v',rfl,C,k⟩:=E.two;exact⟨i,j,by rw[C.int Lh,k.int Lh],⟨q.1,q.2,o.1,o.2⟩,p _ I s1 (.range _ _)⟩⟩
    ·cases b
   ·cases b
def iK:on Nat->TGs
 | []=>gNil
 | i::is=>qB (dL i) (iK is)
def gT(K:KC):Tg->TG
 | .one i=>dL i
 | .many is=>gTup K is.length (iK is)
def RSt.setVal(R:Mr D)(r:Rep D (Ll (O++W)) d v)(i:Nat):RSt D H (σ.set i (some v)) (δ.set i (.val d)) O W where
 val:=λ j u h=>by
  by_cases e:j=i
  ·subst e;have c:=(by have:=(z7.mp h).1;rw[E4]at this;exact this);rw[K6 c]at h;cases h;exact⟨v,K6 (by rw[R.len];exact c),r⟩
  ·rw[A2 (Mq e)]at h ⊢;exact R.val j u h
 own:=λ j l h=>by
  by_cases e:j=i
  ·subst e;have c:=(by have:=(z7.mp h).1;rw[E4]at this;exact this);rw[K6 c]at h;cases h
  ·rw[A2 (Mq e)]at h ⊢;exact R.own j l h
 inj:=λ j k a f q b g n m=>by
  have ne:∀{j:Nat} {f:DV},(δ.set i (.val d))[j]? = some (.own f)->j≠i:=λ {j f} b z=>by
   subst z;have c:j<δ.length:=by have:=(z7.mp b).1;rw[E4]at this;exact this
   rw[K6 c]at b;cases b
  have p:=ne b;have o:=ne g;rw[A2 (Mq p)]at b n;rw[A2 (Mq o)]at g m;exact R.inj j k a f q b g n m
 od:=R.od.step (mh _ (by intro d z;cases z)) (λ _ h _=>h) (λ _ _ _ h _=>h)
 len:=by rw[E4,E4];exact R.len
 hid:=R.hid
theorem uo:∀{g:on Nat} {j:on DV} {f:on V} {c:St} {e a:on Sv},RSt D H c e O W->RepL D (Ll (O++W)) j f->bP e g j=some a->(∀b,RSt D H b a O W->Q b H)->iK g f c H Q
 | [],[],f,c,e,a,R,r,h,q=>by cases h;exact⟨E2.mp r,q c R⟩
 | i::g,d::j,f,c,e,a,R,r,h,q=>by obtain⟨v,k,n,m,l⟩:=w6.mp r;exact⟨v,k,n,uo (R.setVal m i) l h q⟩
 | [],_::_,_,_,_,_,_,_,h,_=>by cases h
 | _::_,[],_,_,_,_,_,_,h,_=>by cases h
theorem mL:∀{is:on Nat} {f:on DV} {e c:on Sv},bP e is f=some c->is.length=f.length/\c.length=e.length
 | [],[],_,_,h=>by cases h;exact⟨rfl,rfl⟩
 | i::is,d::f,e,c,h=>by obtain⟨a,b⟩:=mL (is:=is) h;exact⟨by rw[x9,x9,a],by rw[b,E4]⟩
 | [],_::_,_,_,h=>by cases h
 | _::_,[],_,_,h=>by cases h
def mM(R:Mr D)(r:Rep D (Ll (O++W)) d x)(h:tg.bind d δ=some c)(q:∀b,RSt D H b c O W->Q b H):gT D.K tg x σ H Q:=by
 cases tg with
 | one i=>cases h;exact q _ (R.setVal r i)
 | many is=>
  unfold Tg.bind at h;dsimp at h;split at h
  ·rename_i ds;obtain⟨a,f,j,g,e⟩:=F6.mp r;exact⟨a,f,j,x5.tseq g,by rw[e.length,(mL h).1],uo R e h q⟩
  ·cases h
def RSt.less(R:RSt D H σ b O W)(f:δ.length=b.length)(h:∀(i:Nat) c,δ[i]? = some c->c=.no\/b[i]? = some c):RSt D H σ δ O W where
 val:=λ i d e=>by
  rcases h i _ e with z | z
  ·cases z
  ·exact R.val i d z
 own:=λ i d e=>by
  rcases h i _ e with z | z
  ·cases z
  ·exact R.own i d z
 inj:=λ i j a d k e g=>by
  rcases h i _ e with z | z
  ·cases z
  ·rcases h j _ g with y | y
   ·cases y
   ·exact R.inj i j a d k z y
 od:=R.od.step (λ j d e=>by
  rcases h j _ e with z | z
  ·cases z
  ·exact⟨z,rfl⟩) (λ _ h _=>h) (λ _ _ _ h _=>h)
 len:=by rw[f];exact R.len
 hid:=R.hid
def EC:∀{is:on Nat} {f:on DV} {b a:on Sv},bP b is f=some a->(∀i∈is,b[i]? = some .no\/b[i]? = none)->∀(i:Nat) sv,b[i]? = some sv->sv=.no\/a[i]? = some sv
 | [],[],_,_,h,_,i,sv,e=>by cases h;exact .inr e
 | j::is,d::f,b,a,h,p,i,sv,e=>by
  by_cases c:i∈j::is
  ·rcases p i c with z | z
   ·rw[z]at e;cases e;exact .inl rfl
   ·rw[z]at e;cases e
  ·have o:j≠i:=λ z=>c (by rw[z];exact o5);have n:=λ z=>c (o4 _ z);have g:∀{is:on Nat} {f:on DV} {b a:on Sv},bP b is f=some a->i∉is->b[i]? = some sv->a[i]? = some sv:=by
    intro is
    induction is with
    | nil=>intro f b a h _ e;cases f with
     | nil=>cases h;exact e
     | cons _ _=>cases h
    | cons k is m=>intro f b a h l e;cases f with
     | nil=>cases h
     | cons d f=>
      refine m h (λ z=>l (o4 _ z)) ?_;rw[A2 (λ z=>l (by rw[z];exact o5))];exact e
   exact .inr (g h c e)
 | [],_::_,_,_,h,_,_,_,_=>by cases h
 | _::_,[],_,_,h,_,_,_,_=>by cases h
def uq(h:tg.bind d δ=some δ')(b:∀i∈aV tg,δ[i]? = some .no\/δ[i]? = none):δ.length=δ'.length/\∀(i:Nat) sv,δ[i]? = some sv->sv=.no\/δ'[i]? = some sv:=by
 cases tg with
 | one j=>
  cases h;refine⟨(E4 ..).symm,λ i sv e=>?_⟩;by_cases a:i=j
  ·subst a;rcases b i (by simp[aV])with z | z
   ·rw[z]at e;cases e;exact .inl rfl
   ·rw[z]at e;cases e
  ·exact .inr (by rw[A2 (Mq a)];exact e)
 | many is=>
  unfold Tg.bind at h;dsimp only at h;split at h
  ·exact⟨(mL h).2.symm,EC h b⟩
  ·cases h
theorem RSt.inner(R:Mr D)(fr:on (Kr Nat))(B:∀(j k i:Nat),fr[j]? = some (some i)->fr[k]? = some (some i)->j=k):RSt D H (L2.inner fr σ) (A4 fr δ) O W:=by
 have c:∀(j:Nat) x,(A4 fr δ)[j]? = some x->x ≠ .no->∃i,fr[j]? = some _/\δ[i]? = some x:=λ j x h L=>by
  unfold A4 at h;rw[t5]at h;cases q:fr[j]? with
  | none=>rw[q]at h;cases h
  | some o=>
   rw[q]at h;cases o with
   | none=>cases h;exact absurd rfl L
   | some i=>
    refine⟨i,rfl,?_⟩;have C:δ.getD i .no=x:=by simpa using h
    rw[u8]at C;cases z:δ[i]? with
    | none=>rw[z]at C;exact absurd C.symm L
    | some P=>
     rw[z]at C;exact congrArg some C
 have f:∀(j i:Nat) (v:V),fr[j]? = some (some i)->σ[i]? = some (some v)->(L2.inner fr σ)[j]? = some (some v):=λ j i v q e=>by unfold L2.inner;rw[t5,q];simp[e]
 refine⟨λ j d h=>?_,λ j d h=>?_,λ j k a d E S Q r p=>?_,λ j d h=>?_,?_,R.hid⟩
 ·obtain⟨i,m,n⟩:=c j _ h KP;obtain⟨v,r,p⟩:=R.val i d n;exact⟨v,f j i v m r,p⟩
 ·obtain⟨i,m,n⟩:=c j _ h KP;obtain⟨a,K,M,F,r,p⟩:=R.own i d n;exact⟨a,K,M,F,f j i _ m r,p⟩
 ·obtain⟨i,m,n⟩:=c j _ S KP;obtain⟨A,g,l⟩:=c k _ Q KP;obtain⟨b,K,M,_,I,_⟩:=R.own i d n;obtain⟨b',N,U,_,w,_⟩:=R.own A E l;have y:=f j i _ m I;have J:=f k A _ g w;rw[r]at y;rw[p]at J;cases y;cases J;have:=R.inj i A a d E n l I w;subst this;exact B j k i m g
 ·obtain⟨i,m,n⟩:=c j _ h KP;obtain⟨⟨a,o,F,r,p⟩,u⟩:=R.od i d n;refine⟨⟨a,o,F,f j i _ m r,p⟩,λ k E z=>?_⟩;obtain⟨A,g,l⟩:=c k _ z KP;rw[u A E l]at g;exact B k j i g m
 ·unfold L2.inner A4;rw[g8,g8]
section
variable {X:Cx} {δ:on Sv} {iter elt tgE:Kw} {ifs:on Kw} {pos:Pos} {N':on Str} {scope:KD} {fr:on (Kr Nat)} {tg:Tg} {ri:Kr Ri} {re:Re}
def mN{Q:VK}(w:Wk D J ds (hidW O W c) (N1 O W c) F)(X:Hid O W H H)(hc:c ≠ .weak)(R:RSt D F σ o O W)
  (hn:∀i∈aV tg,o[i]? = some .no\/o[i]? = none) (hz:ds.length<=sizeLine) (hx:A5 g ds=some xs) (s1:Same H F)
  (step:∀d S,d∈ds->g d=some S->∃b,tg.bind d o=some b/\∀j l,Same F l->RSt D l j b O W->∀K:Bool->Hp->Prop,(S=.skip->∀m,Same l m->K false m)->(∀x,S=.item x->∀m,Same l m->K true m)->tc j l K)
  (C:∀d x,d∈ds->g d=some (.item x)->∀b,tg.bind d o=some b->∀j l,Same F l->RSt D l j b O W->∀K:VK,(∀v m,Same l m->Rep D (L2.wo (O++W) m) x v->K v m)->te j l K)
  (Y:∀v r,Same H r->Got D O W H r (Lw xs) .fresh v->Q v r) :
  lq J (gT D.K tg) tc te (λ M r=>∀p,r p=none->Q (.ref p) (upd r p (.lst M))) σ F:=by
 have ci:N1 O W c=O++W:=by cases c<;>first | rfl | exact absurd rfl hc
 rw[ci]at w;refine⟨λ i n M j r=>n=ds.length - i/\i<=ds.length/\M.length<=i/\RSt D r j o O W/\Same F r/\∃f rest,A5 g (ds.drop i)=some rest/\f++rest=xs/\RepL D (L2.wo (O++W) r) f M,
  ⟨ds.length,rfl,D9 _,D9 _,R,Same.refl _,[],xs,hx,rfl,E2.mpr rfl⟩,?_⟩
 rintro i n M σ2 l ⟨rfl,hi',hy,R2,s2,f,rest,h1,h2,r2⟩
 by_cases k:i<ds.length
 ·refine .inr ⟨w.go i l s2.wo k,T7 hy (t7 k hz),λ N m y=>?_⟩;have A:=w.same i l N m y;have y3:=w.yld i l N m _ (O++W) s2.wo s2.wo y (m7 k) λ a ha=>⟨R2.hid.ot a ha,.inl ha⟩;rw[pI k]at h1;have U:=Y8 k;unfold A5 at h1;split at h1
  ·cases h1
  ·rename_i q;obtain⟨b,I,Z⟩:=step _ _ U q;refine mM (R2.mono A) y3 I λ u L=>?_
   have h:=uq I hn;refine Z u m (s2.trans A) L _ (λ _ H4 B=>?_) (λ x z=>nomatch z);show if false=true then _ else _
   rw[g9 B5];exact⟨ds.length - (i+1),by omega,rfl,k,Nat.le_succ_of_le hy,(L.less h.1 h.2).mono B,(s2.trans A).trans B,f,rest,h1,h2,r2.mono (A.trans B).wo⟩
  ·rename_i x q;split at h1
   ·cases h1
   ·rename_i E q';cases h1;obtain⟨b,I,Z⟩:=step _ _ U q;refine mM (R2.mono A) y3 I λ u L=>?_
    have h:=uq I hn;refine Z u m (s2.trans A) L _ LI (λ N z H4 B=>?_);cases z;show if true=true then _ else _
    rw[f8 rfl];refine C _ x U q b I u H4 ((s2.trans A).trans B) (L.mono B) _ λ v H5 P rv=>?_
    exact⟨ds.length - (i+1),by omega,rfl,k,by rw[t9,W3];omega,(L.less h.1 h.2).mono (B.trans P),((s2.trans A).trans B).trans P,f++[x],E,q',by rw[Q9];exact h2,
     (r2.mono ((A.trans B).trans P).wo).append (RepL.one rv)⟩
 ·have e:i=ds.length:=by omega
  subst e;rw[jS]at h1;cases h1;rw[B3]at h2;subst h2;have s0:=s1.trans s2;refine .inl ⟨w.stop l s2.wo,λ p hp=>Y _ _ (s0.trans (x4 hp)) ?_⟩;exact X7 (X.mono s0) hp r2
def PE.any{t:ι->TE}(h:∀k,PE Y e (t k)):PE Y e (λ b H Q=>∃k,t k b H Q):=λ a s b H Q I ⟨k,q⟩=>h k a s b H Q I q
def PTs.any{t:ι->TT}(h:∀k,PTs Y es (t k)):PTs Y es (λ b H Q=>∃k,t k b H Q):=λ a s b H Q I ⟨k,q⟩=>h k a s b H Q I q
def Rc.of_item(h:Rc.of r=some (.item x)):∃c,r=some (.ok x c)/\stro x c=true:=by
 unfold Rc.of at h;split at h
 ·rename_i d c;split at h
  ·rename_i m;cases h;exact⟨c,rfl,m⟩
  ·cases h
 ·cases h
def Rc.of_skip(h:Rc.of r=some .skip):False:=by
 unfold Rc.of at h;split at h
 ·split at h<;>cases h
 ·cases h
def mO{i:Nat}(h:fr[i]? = some none):(A4 fr δ)[i]? = some .no:=by
 unfold A4;rw[t5,h];rfl
def ao(X:Cx)(δ:on Sv)(tgE iter:Kw)(ifs:on Kw)(elt:Kw)(scope:KD)(N':on Str)(fr:on (Kr Nat))(tg:Tg)(re:Re):Prop:=
 ∃(wi:TI) (tc:TT) (te:TE),PI X tgE iter wi/\(∀C cells s₂ H₂ fp,PTs (v6 X scope N' C cells s₂ H₂ fp) ifs tc)/\(∀C cells s₂ H₂ fp,PE (v6 X scope N' C cells s₂ H₂ fp) elt te) /\
  ∀σ H Q,dE X.D δ re σ H Q->lr fr wi (gT X.K tg) tc te σ H Q
def mP(b:K0 a=false):∀x,foldedSetIterable a env x=pure x:=by cases a<;>first | (intro _;rfl) | cases b
def ao.pe(P:ao X δ tgE iter ifs elt scope N' fr tg re)(S:Mg N')(e:Mk)(f:∀C a b d fp,PG (v6 X scope N' C a b d fp) tgE (gT X.K tg))(c:K0 iter=false) :
  PE X (.ListComp elt [⟨tgE,iter,ifs,0⟩] scope pos) (dE X.D δ re):=by
 obtain⟨wi,tc,te,j,i,h,g⟩:=P;exact(AD S e j f i h (mP c)).weak g
def RSt.noNames(R:Mr D)(fr:on (Kr Nat)):RSt D H (L2.inner fr σ) (A4 fr []) O []:=by
 have c:∀(j:Nat) e,(A4 fr [])[j]? = some e->e=.no:=λ j e h=>by
  unfold A4 at h;rw[t5]at h;cases q:fr[j]? with
  | none=>rw[q]at h;cases h
  | some o=>
   rw[q]at h;cases o with
   | none=>cases h;rfl
   | some i=>cases h;rfl
 refine⟨λ j d h=>(by cases c j _ h),λ j d h=>(by cases c j _ h),λ j k a d d' f h2 e1 e2=>(by cases c j _ f),λ j d h=>(by cases c j _ h),?_,?_⟩
 ·unfold L2.inner A4;rw[g8,g8]
 ·exact⟨λ a b=>R.hid.ot a (by rw[B3]at b;exact E3 _ b),Same.refl _,λ a b=>(nomatch b),λ a b=>(nomatch b),R.hid.om⟩
def ED{a:on Sv->Kr Re}(S:Mg N')(hc:Mk)(P:∀(j k i:Nat),fr[j]? = some (some i)->fr[k]? = some (some i)->j=k)(B:∀i∈aV tg,fr[i]? = some none)(E:∀q,ri=some q->PI X tgE iter (dI X.D δ q))
  (hG:∀C b e f fp,PG (v6 X scope N' C b e f fp) tgE (gT X.K tg)) (he:∀δ' r,a δ'=some r->∀C b e f fp,PE (v6 X scope N' C b e f fp) elt (dE X.D δ' r))
  (h:(Ri.thn ri λ n c=>if c=.weak\/p7<n.length then(if c=.weak/\n.length<=p7 then gV (A5 (λ d=>(tg.bind d (A4 fr [])).bind λ δ'=>Rc.of (a δ')) n)else none)else Z7 (A5 (λ d=>(tg.bind d (A4 fr δ)).bind λ δ'=>Rc.of (a δ')) n))=some re):ao X δ tgE iter [] elt scope N' fr tg re:=by
 cases u:ri with
 | none=>rw[u]at h;cases h
 | some q=>
  rw[u]at h;have A:=E q u;refine⟨_,_,_,A,(λ C b e f fp=>AB),(λ C b e f fp=>PE.any (ι:={p:on Sv×Re // a p.1=some p.2}) (t:=λ k=>dE X.D k.1.1 k.1.2) λ k=>he k.1.1 k.1.2 k.2 C b e f fp),?_⟩;cases q with
  | ok n c=>
   have l:(if c=.weak\/p7<n.length then(if c=.weak/\n.length<=p7 then gV (A5 (λ d=>(tg.bind d (A4 fr [])).bind λ δ'=>Rc.of (a δ')) n)else none)else Z7 (A5 (λ d=>(tg.bind d (A4 fr δ)).bind λ δ'=>Rc.of (a δ')) n))=some re:=h;split at l
   ·split at l
    ·rename_i m;obtain⟨rfl,ml⟩:=m;unfold gV at l;split at l
     ·cases l
     ·rename_i xs N;cases l;refine λ σ H Q ⟨O,W,R,p⟩=>⟨O,W,R,λ J H1 s1 w=>?_⟩
      have w':Wk X.D J n (hidW O [] .strong) (N1 O [] .strong) H1:=(by show Wk X.D J n (O++[]) (O++[]) H1;rw[B3];exact w);have F:Hid O [] H H:=(R.noNames fr).hid;refine mN (tg:=tg) (D:=X.D) (O:=O) (W:=[]) w' F KP ((MB).noNames fr) (λ i E=>.inl (mO (B i E))) (V1 KE) N s1 (λ d L U g=>?_) (λ d x U g δ' o s I s2 R2 K Y=>?_) (λ v H' s' g'=>p v H' s' ?_)
      ·cases o:tg.bind d (A4 fr [])with
       | none=>rw[o]at g;cases g
       | some δ'=>
        rw[o]at g;refine⟨δ',rfl,λ s I s2 R2 K k1 M=>?_⟩;cases L with
        | skip=>exact(Rc.of_skip g).elim
        | item x=>exact M x rfl I (Same.refl _)
      ·rw[o]at g;obtain⟨cl,e1,e2⟩:=Rc.of_item g;exact⟨⟨⟨δ',.ok x cl⟩,e1⟩,O,[],R2,λ v H3 y Z=>Y v H3 y (Z.stro (R2.hid.mono y) e2)⟩
      ·show Rep X.D (L2.wo O H') _ v;have:=Got.strong g' (F.mono s');rw[B3]at this;exact this
    ·cases l
   ·rename_i m;rw[not_or]at m;unfold Z7 at l;split at l
    ·cases l
    ·rename_i xs N;cases l;refine λ σ H Q ⟨O,W,R,p⟩=>⟨O,W,R,λ J H1 s1 w=>?_⟩
     refine mN (tg:=tg) (D:=X.D) w R.hid m.1 ((MB).inner fr P) (λ i E=>.inl (mO (B i E))) (V1 KE) N s1 (λ d L U g=>?_) (λ d x U g δ' o s I s2 R2 K Y=>?_) p
     ·cases o:tg.bind d (A4 fr δ)with
      | none=>rw[o]at g;cases g
      | some δ'=>
       rw[o]at g;refine⟨δ',rfl,λ s I s2 R2 K k1 M=>?_⟩;cases L with
       | skip=>exact(Rc.of_skip g).elim
       | item x=>exact M x rfl I (Same.refl _)
     ·rw[o]at g;obtain⟨cl,e1,e2⟩:=Rc.of_item g;exact⟨⟨⟨δ',.ok x cl⟩,e1⟩,O,W,R2,λ v H3 y Z=>Y v H3 y (Z.stro (R2.hid.mono y) e2)⟩
def EF{f:on Sv->Kr Re}{l:on Sv->Kr Rt}(S:Mg N')(hc:Mk)(I:∀(j k i:Nat),fr[j]? = some (some i)->fr[k]? = some (some i)->j=k)(F:∀i∈aV tg,fr[i]? = some none)(L:∀q,ri=some q->PI X tgE iter (dI X.D δ q))
  (hG:∀C a b e fp,PG (v6 X scope N' C a b e fp) tgE (gT X.K tg)) (he:∀δ' r,f δ'=some r->∀C a b e fp,PE (v6 X scope N' C a b e fp) elt (dE X.D δ' r))
  (Y:∀δ' r,l δ'=some r->∀C a b e fp,PT (v6 X scope N' C a b e fp) n (dT X.D δ' r))
  (h:(Ri.thn ri λ z c=>if c=.weak\/p7<z.length then none else Z7 (A5 (λ d=>(tg.bind d (A4 fr δ)).bind λ δ'=>Rc.test (l δ') (Rc.of (f δ'))) z))=some re):ao X δ tgE iter [n] elt scope N' fr tg re:=by
 cases o:ri with
 | none=>rw[o]at h;cases h
 | some q=>
  rw[o]at h;refine⟨_,_,_,(L q o),(λ C a b e fp=>PTs.any (ι:={p:on Sv×Rt // l p.1=some p.2}) (t:=λ k=>dT X.D k.1.1 k.1.2) λ k=>AC (Y k.1.1 k.1.2 k.2 C a b e fp)),
   (λ C a b e fp=>PE.any (ι:={p:on Sv×Re // f p.1=some p.2}) (t:=λ k=>dE X.D k.1.1 k.1.2) λ k=>he k.1.1 k.1.2 k.2 C a b e fp),?_⟩
  cases q with
  | ok z c=>
   have y:(if c=.weak\/p7<z.length then none else Z7 (A5 (λ d=>(tg.bind d (A4 fr δ)).bind λ δ'=>Rc.test (l δ') (Rc.of (f δ'))) z))=some re:=h;split at y
   ·cases y
   ·rename_i m;rw[not_or]at m;unfold Z7 at y;split at y
    ·cases y
    ·rename_i xs U;cases y;refine λ σ H Q ⟨O,W,R,p⟩=>⟨O,W,R,λ J H1 s1 w=>?_⟩
     refine mN w R.hid m.1 ((MB).inner fr I) (λ i L=>.inl (mO (F i L))) (V1 KE) U s1 (λ d M Z s=>?_) (λ d x Z s δ' B E H2 s2 R2 K hK=>?_) p
     ·cases B:tg.bind d (A4 fr δ)with
      | none=>rw[B]at s;cases s
      | some δ'=>
       rw[B]at s;have g:Rc.test (l δ') (Rc.of (f δ'))=some M:=s;refine⟨δ',rfl,λ E H2 s2 R2 K P N=>?_⟩;unfold Rc.test at g;split at g
       ·rename_i q;refine⟨⟨⟨δ',.ok true⟩,q⟩,O,W,R2,λ A u=>?_⟩;cases M with
        | skip=>exact(Rc.of_skip g).elim
        | item x=>exact N x rfl A u
       ·rename_i q;cases g;exact⟨⟨⟨δ',.ok false⟩,q⟩,O,W,R2,λ A u=>P rfl A u⟩
       ·cases g
     ·rw[B]at s;have g:Rc.test (l δ') (Rc.of (f δ'))=some (.item x):=s;unfold Rc.test at g;split at g
      ·obtain⟨cl,e1,e2⟩:=Rc.of_item g;exact⟨⟨⟨δ',.ok x cl⟩,e1⟩,O,W,R2,λ v A u g3=>hK v A u (g3.stro (R2.hid.mono u) e2)⟩
      ·cases g
      ·cases g
end
def Inv.turnedL{ch:on Ku}(I:KR a)(k:∀b o,b∉ch->s.heap.get? b=some o->h'.get? b=some o)(g:∀b∈ch,FpOk X a H b):Inv X a σ H {s with heap:=h',toks:=t'}:=by
 have f:∀b u,H b=some u->b∉ch:=λ b u e z=>by rw[(g b z).1]at e;cases e
 refine I.step (ch:=ch) (λ b j=>?_) (λ b o _ _ d e _=>k b o d e) (λ b o _ _ d e _=>⟨o.slots,k b o d e⟩) (λ _ _ _ _ n=>n)
  (λ b o d e=>⟨o,k b o d e⟩) (λ _ _ e=>e) (λ _ _ _ e=>e) (λ _ _ e=>e) (λ m i=>?_) (λ b u e=>?_) I.bare
 ·obtain⟨_,x,_,w,p,l⟩:=g b j;exact⟨w,x,p,l⟩
 ·obtain⟨o,y,A,h,r⟩:=i;exact⟨o,y,A,k _ o (λ z=>(g _ z).2.1 rfl) h,r⟩
 ·refine(I.hok b u e).stay (λ c v d q=>k c v ?_ q) (λ _ q=>q) (λ _ _ q=>q) (λ _ _ q=>q) λ _ _ _ _ _ q=>q;rcases d with z | z
  ·rw[z];exact f b u e
  ·exact f c _ z
def SqD(t:Bool)(K:KC)(H:Hp)(a:Ku)(xs:on V):Prop:=match t with | false=>SqL K H a xs | true=>SqT K H a xs
def Same.sqd{K:KC}(e:Same H b)(h:SqD t K H a xs):SqD t K b a xs:=by
 cases t
 ·exact e.seq h
 ·exact e.tseq h
def Inv.sqd(I:KR c)(h:SqD t X.K H a xs):∃b:on Ks,Vals xs b/\SqK t s.heap a b.toArray:=by
 cases t
 ·obtain⟨b,d,p,_⟩:=I.list h;exact⟨b,d,p.isList⟩
 ·obtain⟨b,d,p,_⟩:=I.tuple h;exact⟨b,d,p⟩
def Inv.sqd_inj(I:KR b)(h:SqD t X.K H a xs)(d:SqD t X.K H a c):xs=c:=by
 cases t
 ·exact I.list_inj h d
 ·exact I.tuple_inj h d
def itK(t:Bool)(h:Kv)(ia la:Ku)(k:Nat):Prop:=match t with | false=>h.IsListIter ia la k | true=>h.IsTupleIter ia la k
def ur(p:itK t h b a k)(q:SqK t h a vs):sK t b a vs k h:=by
 cases t<;>exact⟨p,q⟩
def ut(p:sK t b a vs k h):itK t h b a k:=by
 cases t<;>exact p.1
def uu{t:Bool}{ia la:Ku}{k:Nat}{h h':Kv}(p:itK t h ia la k)(e:∀o,h.get? ia=some o->h'.get? ia=some o):itK t h' ia la k:=by
 cases t
 ·exact Heap.IsListIter.at p e
 ·obtain⟨o,z,r⟩:=p;exact⟨o,e o z,r⟩
def uv(p:itK t h a c k):∃o b,h.get? a=some o/\o.data=.fields b:=by
 cases t
 ·obtain⟨o,e,_,d⟩:=p;exact⟨o,_,e,d⟩
 ·obtain⟨o,e,_,d⟩:=p;exact⟨o,_,e,d⟩
def SqK.lt(p:SqK t h a vs):a<h.objs.size:=by
 cases t
 ·obtain⟨o,e,_⟩:=p;exact k9 e
 ·obtain⟨o,e,_⟩:=p;exact k9 e
def EG:∀b∈hidW O W (Cl.meet c d),b∈hidW O W c:=by
 cases c<;>cases d<;>intro b a<;>first | exact a | exact E3 _ a
def EH:∀b∈N1 O W (Cl.meet c d),b∈N1 O W c:=by
 cases c<;>cases d<;>intro b a<;>first | exact a | exact E3 _ a
def EI(k:aQ d=some (t,ds))(g:Got D O W f H d c v)(e:LW f):∃a b,v=.ref a/\SqD t D.K (Ll (hidW O W c)) a b/\RepL D (Ll (N1 O W c)) ds b:=by
 cases d<;>cases k
 ·exact g.walkT e
 ·exact g.walkL e
section
variable {P:Kz} {w:Ky} {A:KA} {E:Ks->Kt->Prop} {s:Kt} {n c l:Ku} {k:Nat} {vs:Kx Ks} {S:Nat->Kv->Prop} {x old:Ks}
abbrev uw(s:Kt)(h':Kv)(n c:Ku)(k:Nat)(x:Ks)(S:Nat->Kv->Prop):Prop:=
 IsEnumOut h' n c ((k:Int)+1) x s.heap.objs.size/\S (k+1) h'/\h'.get? s.heap.objs.size=some {cls:=.type "tuple",data:=.seq #[.int k s.toks,x]} /\ h'.objs.size=s.heap.objs.size+1/\(∀b o,b≠n->b≠c->s.heap.get? b=some o->h'.get? b=some o)
def EJ{Q:Ks->Kt->Prop}(R:Src P w c l vs S)(X:IsEnum s.heap n c k old)(hS:S k s.heap)(hx:vs[k]? = some x)(J:n≠c)(d2:l≠n)(hQ:∀h',uw s h' n c k x S->Q Ls {s with heap:=h',toks:=s.toks+1}) :
  wpAny My A (Builtin.«enumerate.__next__» ⟨[.ref n],[]⟩) (λ Z s'=>∃v,Z=.done (.ret v)/\Q v s') E s:=by
 obtain⟨f,i,j,a,h⟩:=s;show wpAny _ _ (field (.ref n) 2 >>= _) _ _ _;refine f0 (J1 X rfl (x:=.ref c) rfl (f0 (R.step k x hS hx λ m r1 r=>?_)))
 replace r:Heap.SameBut c f m:=r
 have W:IsEnum m n c k old:=(r.2 n J).trans X;show wpAny _ _ (field (.ref n) 3 >>= _) _ _ ⟨m,i,j,a,h⟩;refine f0 (J1 W rfl (x:=rawInt k) rfl ?_);show wpAny _ _ (field (.ref n) 4 >>= _) _ _ ⟨m,i,j,a,h⟩;refine f0 (J1 W rfl (x:=.none) rfl ?_);show wpAny _ _ (mkInt k >>= _) _ _ ⟨m,i,j,a,h⟩;refine f0 (wpAny_mkInt ?_);show wpAny _ _ (setField (.ref n) 3 (rawInt ((k:Int)+1)) >>= _) _ _ ⟨m,i,j,a+1,h⟩;refine f0 (N5 W KS λ I U q=>?_)
 replace q:Heap.SameBut n m I:=q
 replace U:IsEnum I n c ((k:Int)+1) old:=U
 show wpAny _ _ (setField (.ref n) 4 .none >>= _) _ _ ⟨I,i,j,a+1,h⟩;refine f0 (N5 U KS λ d O p=>?_)
 replace p:Heap.SameBut n I d:=p
 replace O:IsEnum d n c ((k:Int)+1) old:=O
 show wpAny _ _ (newTuple [.int k a,x] >>= _) _ _ ⟨d,i,j,a+1,h⟩;refine f0 (ke ?_);have C:IsEnum Mj n c ((k:Int)+1) old:=n7 _ O;have K:d.objs.size=f.objs.size:=by rw[p.1,q.1,r.1]
 have q4:(Mj).get? f.objs.size=some {cls:=.type "tuple",data:=.seq #[.int k a,x]}:=by rw[←K];exact r9 _ rfl
 have z4:(Mj).objs.size=f.objs.size+1:=by rw[M4,K]
 have k4:∀b o,b≠n->b≠c->f.get? b=some o->(Mj).get? b=some o:=λ b o g b2 e=>
  n7 _ (p.extBut b o g (q.extBut b o g (r.extBut b o b2 e)))
 have r4:S (k+1) (d.push {cls:=.type "tuple",data:=.seq #[.int k a,x]}):=
  R.keep _ _ _ (R.ext (R.ext r1 q.extBut (Mq J) d2) p.extBut (Mq J) d2) (λ o e=>n7 _ e) (λ o e=>n7 _ e)
 generalize Mj=g4 at C q4 z4 k4 r4 ⊢;have lt:n<f.objs.size:=k9 X;show wpAny _ _ (Builtin.SmallTypes.ownedTupleIsFree (.ref n) >>= _) _ _ ⟨g4,i,j,a+1,h⟩;rw[K];refine f0 ?_;unfold Builtin.SmallTypes.ownedTupleIsFree;refine f0 (J1 C rfl (x:=.none) rfl (f9 ?_));simp only[if_true];refine f0 (dF (f0 (J1 C rfl (x:=old) rfl (f0 (N5 C KS λ H N B=>?_)))))
 replace B:Heap.SameBut n g4 H:=B
 replace N:IsEnum H n c ((k:Int)+1) x:=N
 show wpAny _ _ (Builtin.SmallTypes.ownedTupleHandOut (.ref n) (.ref f.objs.size) >>= _) _ _ ⟨H,i,j,a+1,h⟩;refine f0 ?_;unfold Builtin.SmallTypes.ownedTupleHandOut;refine f0 (N5 N KS λ Y M z=>?_)
 replace z:Heap.SameBut n H Y:=z
 replace M:IsEnumOut Y n c ((k:Int)+1) x f.objs.size:=M
 refine N5 M KS λ F L y=>?_
 replace y:Heap.SameBut n Y F:=y
 replace L:IsEnumOut F n c ((k:Int)+1) x f.objs.size:=L
 have u:∀b o,b≠n->g4.get? b=some o->F.get? b=some o:=λ b o g e=>y.extBut b o g (z.extBut b o g (B.extBut b o g e));exact f0 (bG (f9 ⟨_,rfl,hQ F ⟨L,R.keep _ _ _ r4 (λ o e=>u _ o (Mq J) e) (λ o e=>u _ o d2 e),u _ _ (N7 lt) q4,by rw[y.1,z.1,B.1,z4],λ b o g b2 e=>u b o g (k4 b o g b2 e)⟩⟩))
def EK(R:Src P w c l vs S)(d:IsEnum s.heap n c k old)(f:S k s.heap)(e:vs[k]? = some x)(i:n≠c)(h:l≠n)(g:∀b,uw s b n c k x S->Q (some Ls) {s with heap:=b,toks:=s.toks+1}) :
  wpAny My A (pyNext (.ref n)) Q E s:=by
 have T:s.TypeIs (.ref n) "enumerate":=⟨_,d,rfl⟩;unfold pyNext;exact f0 (U3 (Q6 T fF (G3 fF T qb (EJ R d f e i h λ b a=>f9 (g b a)) (pS _))))
def EL(i:Ma)(R:Src P w c l vs S)(a:IsEnum s.heap n c k old)(m:S k s.heap)(h:vs[k]? = none)(p:∀b,Heap.ExtBut c s.heap b->Q none {s with heap:=b}) :
  wpAny My A (pyNext (.ref n)) Q E s:=by
 have T:s.TypeIs (.ref n) "enumerate":=⟨_,a,rfl⟩;unfold pyNext;refine f0 (U3 (Q6 T fF (G3 fF T qb ?_ (pS _))));show wpAny _ _ (field _ 2 >>= _) _ _ _;refine f0 (J1 a rfl rfl (f0 (R.stop k i m h λ g1 e d j=>?_)));obtain⟨o,g,f⟩:=j;exact f0 (bx ⟨o,g,f⟩ dm (f9 (p _ d)))
end
open AutoSeq1 (wpAny_loadPart') in
def EM(l:Ku)(vs:Kx Ks)(m:Nat)(dc:Kr Ku)(sl:Kx (Kr Ks)):Meets (Builtin.«enumerate.__new__» ⟨[.type "enumerate",.ref l],[]⟩) (λ _ R s=>s.heap.get? l=some {cls:=.type "tuple",dict:=dc,data:=.seq vs m,slots:=sl} /\
  R (.ok (.ret (.ref (zH1 s.heap true l).objs.size))) {s with heap:=(zH1 s.heap true l).push {cls:=.type "enumerate",data:=.fields #[.none,.bool false,.ref s.heap.objs.size,rawInt 0,.none,.none]}}):=
 .of_wp λ P w A R s h=>by
  obtain⟨g0,gg,gd,gt,go⟩:=s;obtain⟨q,h⟩:=h;have hsub:=sub_enumerate;have qT:Heap.IsTuple (Shared.heap ⟨g0,gg,gd,gt,go⟩) l vs:=⟨_,q,rfl,m,rfl⟩
  wp_walk using cQ q
  refine wpAny_stack_any λ st=>f9 ?_;split
  ·rename_i y _ _ _ _ _;cases(y==Value.type "enumerate")
   ·wp_walk using cQ q,bq qT
    exact⟨_,rfl,h⟩
   ·wp_walk using cQ q,bq qT
    exact⟨_,rfl,h⟩
  ·wp_walk using cQ q,bq qT
   exact⟨_,rfl,h⟩
def EN         (t : Bool) (q : SqK t s.heap l vs)
    (h : ∀ a, IsEnum a (s.heap.objs.size + 1) s.heap.objs.size 0 .none -> sK t s.heap.objs.size l vs 0 a -> a.objs.size = s.heap.objs.size + 2 -> (∀ b o, s.heap.get? b = some o -> a.get? b = some o) -> Q (.ref (s.heap.objs.size + 1)) { s with heap := a }) :
    wpAny My A (call (.type "enumerate") [.ref l]) Q E s := by
  cases t with
  | false => exact call_enumerate_list (q) λ a z x v k => h a z ⟨x, Heap.IsList.at (q) λ o e => k _ o e⟩ v k
  | true =>
    obtain⟨⟨y, u, r, n⟩, p, d, m, c⟩ := id (q)
    replace d : y = .type "tuple" := d
    replace c : r = .seq vs m := c
    subst d c;refine callType_new F.called_enumerate KL (F.typeCall_enumerate_1 _) (F.newCall_enumerate_1 _) (λ f => F.args_object_init_2 f _) F.entry_enumerate_new (EM l vs m u n) ⟨p, ?_⟩;have g : (zH1 s.heap true l).objs.size = s.heap.objs.size + 1 := M4 ..;have i := r9 (zH1 s.heap true l) (o := { cls := .type "enumerate", data := .fields #[.none, .bool false, .ref s.heap.objs.size, rawInt 0, .none, .none] }) rfl;have j : ∀ b o, s.heap.get? b = some o -> ((zH1 s.heap true l).push { cls := .type "enumerate", data := .fields #[.none, .bool false, .ref s.heap.objs.size, rawInt 0, .none, .none] }).get? b = some o := λ b o e => n7 _ (n7 _ e)
    rw [g] at i;show _ /\ _;rw [g];exact ⟨⟨_, i, rfl⟩, h _ i (AJ (n7 _ (r9 _ rfl)) q j) (by rw [M4, g]) j⟩
def Ite(K:KC)(t:Bool)(a:Ku):It:=
  ⟨λ i H=>∃xs x,SqD t K H a xs/\xs[i]? = some x,
   λ i H x H'=>∃p v,x=.ref p/\H p=none/\(∀xs,SqD t K H a xs->xs[i]? = some v)/\H'=upd H p (.tup [.int i,v]),
   λ i H=>∃xs,SqD t K H a xs/\xs.length<=i⟩
def EO{K:KC}(t:Bool)(d1:n≠c)(d2:l≠n)(d3:l≠c) :
  Turn P w K (.Tuple elts k pos) (Ite K t l) [n,c] n (λ i h=>(∃f,IsEnum h n c (i:Nat) f)/\itK t h c l i) where
 mem:=by simp
 obj:=λ i h st b g=>by
  obtain⟨⟨f,m⟩,r⟩:=st;simp only[i6,O9,P3]at g;rcases g with rfl | rfl
  ·exact⟨_,m,λ v q=>by cases q⟩
  ·obtain⟨o,Y,e,d⟩:=uv r;exact⟨o,e,λ v q=>by rw[d]at q;cases q⟩
 keep:=λ i h h' st q=>by obtain⟨⟨f,m⟩,r⟩:=st;exact⟨⟨f,q n KS _ m⟩,uu r λ o e=>q c KS o e⟩
 item:=by
  intro X R N S Z i j s C H E I B st Q;subst R N S;obtain⟨⟨f,m⟩,r⟩:=st;obtain⟨Y,x,A,M⟩:=Q;obtain⟨L,J,p⟩:=I.sqd A;obtain⟨u,hu,ru⟩:=J.get M;refine EK (rA t d3) m (ur r p) (x:=u) (Lq hu) d1 d2 λ h' a=>⟨_,rfl,?_⟩
  obtain⟨a1,a2,a3,a4,a5⟩:=a;refine wpAny_letOwnedTupleGo_enum a1 λ U O F=>?_
  have z:s.heap.objs.size≠n:=N7 (k9 m);have keep:∀b o,b∉[n,c]->s.heap.get? b=some o->U.get? b=some o:=λ b o g e=>F.extBut _ _ (λ q=>g (by simp[q])) (a5 b o (λ q=>g (by simp[q])) (λ q=>g (by simp[q])) e);have I1:Inv X j C H {s with heap:=U,toks:=s.toks+1}:=I.turnedL (t':=s.toks+1) keep B;have y:H s.heap.objs.size=none:=I.hok.fresh (i9 _);have W:=I.fpOk (i9 _) y;have h0:X.s₀.heap.get? s.heap.objs.size=none:=cS I.sz;have I2:Inv X j C (upd H s.heap.objs.size (.tup [.int i,x])) {s with heap:=U,toks:=s.toks+1}:=I1.track y h0 W.2.1 (λ n c e=>W.2.2.2.2.1 n c e) (λ q hq=>W.2.2.2.2.2 q hq)
   ⟨by show(2:Nat)<=sizeLine;decide,[.int i s.toks,u],.cons LY (.cons ru .nil),_,(F.extBut _ _ z a3),⟨rfl,rfl⟩,_,rfl⟩
  refine⟨.ref s.heap.objs.size,_,I2,rfl,⟨_,x,rfl,y,λ xs' e=>by rw[I.sqd_inj e A];exact M,rfl⟩,⟨⟨_,by simpa using O⟩,uu (ut a2) λ o e=>F.extBut _ _ (Mq d1) e⟩,λ b g=>?_⟩;have lt:b≠s.heap.objs.size:=by
   simp only[i6,O9,P3]at g;rcases g with rfl | rfl
   ·exact Ne.symm z
   ·obtain⟨o,_,e,_⟩:=uv r;exact q9 (k9 e)
  rw[n6 lt];exact(B b g).1
 done:=by
  intro X R N S Z i j s C H E I B st Q;subst R N S;obtain⟨⟨f,m⟩,r⟩:=st;obtain⟨Y,A,M⟩:=Q;obtain⟨L,J,p⟩:=I.sqd A;have e1:=J.length;exact EL (I.ok.hd Z) (rA t d3) m (ur r p) (by simp;omega) λ h' a=>⟨rfl,I.turnedL (t':=s.toks) (ch:=[n,c]) (λ b o g e=>a b o (λ q=>g (by simp[q])) e) B⟩
 self:=λ _ _ _ _ _ st h=>by obtain⟨⟨f,m⟩,_⟩:=st;exact wpAny_pyIter_enum m h
theorem mQ:∀(k:Nat) (a:on DV),(enuD k a).length=a.length
 | _,[]=>rfl
 | k,x::a=>by rw[enuD,x9,mQ _ a,x9]
theorem ux:∀{k:Nat} {a:on DV} {i:Nat} {d:DV},(enuD k a)[i]? = some d->∃x,a[i]? = some x/\d=.tup [.int ((k+i:Nat):Int),x]
 | _,[],_,_,h=>by simp[enuD]at h
 | k,x::a,0,d,h=>by simp[enuD]at h;exact⟨x,rfl,h.symm⟩
 | k,x::a,i+1,d,h=>by rw[enuD,pT]at h;obtain⟨y,c,b⟩:=ux h;exact⟨y,by simpa using c,by rw[b,show k+1+i=k+(i+1)from by omega]⟩
def Wk.enum(h:SqD t D.K (L2.wo k c) a xs)(r:RepL D (L2.wo j c) ds xs):Wk D (Ite D.K t a) (enuD 0 ds) k j c where
 go:=λ i H s u=>by rw[mQ]at u;exact⟨xs,xs[i]'(by rw[r.length];omega),x5.sqd (s.sqd h),m7 _⟩
 same:=λ i H x A y=>by obtain⟨p,v,_,b,_,e⟩:=y;rw[e];exact x4 b
 yld:=λ i H x A d O2 s o y e g=>by obtain⟨p,v,ex,b,n,w⟩:=y;obtain⟨d1,q,rfl⟩:=ux e;obtain⟨v1,m,l⟩:=r.get q;have f:=n xs (x5.sqd (s.sqd h));rw[m]at f;cases f;subst w;refine F6.mpr ⟨p,_,ex,SqT.of (by rw[k8 (λ z=>(g p z).1 b)];exact y9),?_⟩;exact w6.mpr ⟨_,_,rfl,z8.mpr (by rw[gw]),RepL.one (l.mono ((mI o g).trans (x4 b).wo))⟩
 stop:=λ H s=>⟨xs,x5.sqd (s.sqd h),by rw[mQ,r.length];exact i9 _⟩
def mR(h:a<n):n+1≠n/\a≠n+1/\a≠n:=by omega
def EQ:bootBuiltins "enumerate" = some (.type "enumerate"):=by decide +kernel
def ER(E:Gl X "enumerate")(C:X.mg "enumerate" = none)(F:PA X [e] o)(hs:u7 e=false) :
  PI X (.Tuple elts k tpos) (.Call (.Name "enumerate" p) [e] [] pos) (λ i H R=>o i H λ n g=>∃t a,n=[.ref a]/\(∃m,SqD t X.K g a m)/\R (Ite X.K t a) g):=by
 intro b s i H R I h;refine Call_ (aP I E C EQ (fw (thn (F pos b s i H _ I h) λ us s1 ⟨n,g,f,y,z⟩=>?_) (by rw[w5 hs]) (bY [] KS)));obtain⟨t,a,J,⟨m,B⟩,q⟩:=z;subst J;obtain⟨u,rfl,x⟩:=y.one;cases x;obtain⟨A,rv,p1⟩:=f.sqd B;have j:=p1.lt;refine EN t p1 λ h' l w z6 v=>?_
 refine wpAny_pyIter_enum l ⟨s1.heap.objs.size+1,[s1.heap.objs.size+1,s1.heap.objs.size],_,_,g,rfl,(f.kept v),
  EO t (mR j).1 (mR j).2.1 (mR j).2.2,⟨⟨_,l⟩,ut w⟩,λ c r=>?_,q⟩
 have d:s1.heap.objs.size<=c:=by
  simp[i6,O9,P3]at r;rcases r with rfl | rfl
  ·exact R5 ..
  ·exact i9 _
 exact f.fpOk d (f.hok.fresh d)
def ES(u:Gl X "enumerate")(s:X.mg "enumerate" = none)(j:u7 e=false)(v:∀q,i=some q->PE X e KZ)
  (h:r3 (Re.thn i λ x c=>gU x c)=some g):PI X (.Tuple elts k d) (.Call (.Name "enumerate" p) [e] [] pos) (dI X.D δ g):=by
 cases b:i with
 | none=>rw[b]at h;cases h
 | some q=>
  rw[b]at h;have A:=v q b;cases q with
  | ok C F=>
   have f:r3 (gU C F)=some g:=h;unfold gU at f;split at f
   ·rename_i o E r;cases f;exact((λ n (w:PE X e n)=>ER u s (M5 w X2 (w5 j)) j) _ A).weak λ σ H R' ⟨O,W,R,p⟩=>⟨O,W,R,λ x I s1 y=>by
     obtain⟨a,m,B,l,z⟩:=EI r y Lh;exact⟨o,a,by rw[B],⟨m,x5.sqd l⟩,p _ I s1 (.enum ((O6 EG).sqd l) (z.mono (O6 EH)))⟩⟩
   ·cases f
def ap(f:FpOk X a H b)(h:c b=none):FpOk X a c b:=⟨h,f.2⟩
def ET{p:on Int}(hh:Ma)(b6:p.length=vs.length)(a5:l≠J)(Q:S≠J)(hlS:l≠S)
  (turn:∀(i:Nat) (v:V) (u:Ks) (k:Int),vs[i]? = some v->RelV v u->p[i]? = some k->∀pins' q n,Inv X pins' σ n q->Same H n->wpAny KO A.in1 (call (.ref f) [u]) (EP X pins' σ (λ w b5=>w=.int k/\Same n b5)) (λ _ _=>False) q)
  (hR:∀i v u q n,vs[i]? = some v->RelV v u->(∀j,j<vs.length->p.getD i 0<=p.getD j 0/\(j<i->p.getD i 0<p.getD j 0))->Inv X g σ n q->Same H n->R (.ok (.ret u)) q) :
  ∀(r j i:Nat) (q:Kt) (n:Hp) (U:Ks) (v:V) (tb:Tok) (c:Nat),vs.length - (j+1)=r->j+1<=vs.length->Inv X g σ n q->Same H n->FpOk X g n S->FpOk X g n J->SqL X.K n l vs ->
   q.heap.get? S=some (seqObj "list" #[U,.int (p.getD i 0) tb] c)->q.heap.IsListIter J l (j+1)->vs[i]? = some v->RelV v U->i<=j->(∀y,y<=j->p.getD i 0<=p.getD y 0/\(y<i->p.getD i 0<p.getD y 0)) ->
   codeAny KO A (.builtin "min.loop" ⟨[.ref J,.ref f,.ref S],[]⟩) R q:=by
 have ml : "min.loop" = (toString "min" ++ toString ".loop" : KJ):=by decide
 intro r
 induction r with
 | zero=>
  intro j i q n U v tb c hr hj I sm Z fJ hq gS P hv rv b3 m;obtain⟨us,ru,pl,zl⟩:=I.list hq;have b0:=ru.length;have W:=gD (prog:=X.prog) (w:=X.w) (A:=A.in1) hh J l a5 us.toArray;refine U0 jv ?_;rw[Y4 aD _];show wpAny _ A.in1 (seqItems? (.ref S) >>= _) _ _ _;refine f0 (aL gS rfl ?_);show wpAny _ A.in1 _ _ _ _;refine f0 (bC (W.done _ _ _ ⟨by rw[v5,show us.length=j+1 by omega];exact P,pl.isList⟩ λ h1 B hk=>?_));have E:=hk S _ (Lq Q) gS;have s1:=N4 h1 S (Obj.mapSeq λ _=>(#[]:Kx Ks));show wpAny _ A.in1 (updateSeq S (λ _=>#[]) >>= _) _ _ _;refine f0 (de E rfl (f0 (bG (f9 ?_))));have I9:Inv X g σ n {q with heap:=h1.update S (Obj.mapSeq λ _=>(#[]:Kx Ks)),toks:=B}:=by
   refine I.turnedL (t':=B) (ch:=[J,S]) (λ b o d e=>?_) λ b d=>?_
   ·rw[s1.2 b λ z=>d (by rw[z];simp)];exact hk b o (λ z=>d (by rw[w4.mp z];simp)) e
   ·rcases i6.mp d with rfl | d
    ·exact fJ
    ·rw[w4.mp d];exact Z
  exact hR i v U _ n hv rv (λ y a7=>m y KE) I9 sm
 | succ r ih=>
  intro j i q n U v tb c hr hj I sm Z fJ hq gS P hv rv b3 m;have O:j+1<vs.length:=by omega
  obtain⟨us,ru,pl,zl⟩:=I.list hq;have b0:=ru.length;have W:=gD (prog:=X.prog) (w:=X.w) (A:=A.in1) hh J l a5 us.toArray;refine U0 jv ?_;rw[Y4 aD _];show wpAny _ A.in1 (seqItems? (.ref S) >>= _) _ _ _;refine f0 (aL gS rfl ?_);show wpAny _ A.in1 _ _ _ _;refine f0 (bC (W.item (j+1) _ _ _ (by rw[v5];omega) ⟨P,pl.isList⟩ λ u h1 B hP b2 hk=>?_));have hu:us[j+1]? = some u:=by simpa using hP
  obtain⟨oJ,a4,a3,N⟩:=id b2.1;have E:=hk S _ (Lq Q) gS;obtain⟨v1,M⟩:∃v1,vs[j+1]? = some v1:=⟨_,m7 O⟩;obtain⟨u',a1,a0⟩:=ru.get M;rw[hu]at a1;cases a1;obtain⟨K,a6⟩:∃K,p[j+1]? = some K:=⟨_,m7 KE⟩;have a9:p.getD (j+1) 0=K:=by rw[u8,a6];rfl
  have I1:Inv X g σ n {q with heap:=h1,toks:=B}:=I.turnedL (ch:=[J]) (λ b o d e=>hk b o d e) λ b d=>by rw[w4.mp d];exact fJ
  have Ip:=I1.pinned (fp:=[S,J]) (λ b d=>by
   rcases i6.mp d with rfl | d
   ·exact Z
   ·rw[w4.mp d];exact fJ) (λ b d=>by
   rcases i6.mp d with rfl | d
   ·exact⟨_,E,λ v z=>by cases z⟩
   ·rw[w4.mp d];exact⟨_,a4,λ v z=>by rw[N]at z;cases z⟩)
  show wpAny _ A.in1 _ _ _ _;refine f0 (bC (F9 (B4 (turn (j+1) v1 u K M a0 a6 _ _ n Ip sm) (λ x s2 he=>?_) λ _ _ hF=>hF.elim)));obtain⟨w2,H2,I2,r2,rfl,L⟩:=he;obtain⟨Y,rfl⟩:=r2;obtain⟨qS,nS,_⟩:=I2.pin _ (A0 _ (A0 _ (Z4 (o5 ..) E)));obtain⟨qJ,nJ,_⟩:=I2.pin _ (A0 _ (A0 _ (Z4 (o4 _ (o5 ..)) a4)));have I3:=I2.unpinned;have a2:SqL X.K H2 l vs:=L.seq hq;show wpAny _ A.in1 _ _ _ _;refine f0 (bC (F9 (f0 (CmpOf.ints_lt (prog:=X.prog) (w:=X.w) (A:=A.in1) (λ i=>p.getD i 0) (λ i v h=>h) (j+1) i _ _ _ _ _ ⟨Y,by rw[a9]⟩ ⟨tb,rfl⟩ ?_))));refine f0 (F9 (T8 (f0 (bG (f9 ?_)))));by_cases a8:p.getD (j+1) 0<p.getD i 0
  ·have s1:=N4 s2.heap S (Obj.mapSeq λ _=>#[u,.int K Y]);obtain⟨c2,b4⟩:∃c2,(s2.heap.update S (Obj.mapSeq λ _=>#[u,.int K Y])).get? S=some (seqObj "list" #[u,.int K Y] c2):=⟨_,get?_update_seq qS λ _=>#[u,.int K Y]⟩;simp only[a8,decide_true,if_true];refine f0 (de qS rfl (f0 (bG ?_)));rw[←ml];refine f9 ⟨W5 aD _,ih (j+1) (j+1) _ H2 u v1 Y c2 KE O (I3.turnedL (t':=s2.toks) (ch:=[S]) (λ b o d e=>by rw[s1.2 b λ z=>d (by rw[z];simp)];exact e) λ b d=>by rw[w4.mp d];exact ap Z nS) (sm.trans L) (ap Z nS) (ap fJ nJ) a2 (by rw[a9];exact b4) ⟨oJ,(s1.2 J Q.symm).trans qJ,a3,N⟩ M a0 (i9 _) λ y a7=>?_⟩;by_cases e:y=j+1
   ·subst e;exact⟨by omega,λ _=>by omega⟩
   ·have b1:=(m y KE).1;exact⟨by omega,λ _=>by omega⟩
  ·simp only[a8,decide_false,Q8,if_false];refine f0 (bG ?_);rw[←ml];refine f9 ⟨W5 aD _,ih (j+1) i _ H2 U v tb c KE O I3 (sm.trans L) (ap Z nS) (ap fJ nJ) a2 qS ⟨oJ,qJ,a3,N⟩ hv rv KE λ y a7=>?_⟩;by_cases e:y=j+1
   ·subst e;exact⟨by omega,λ _=>by omega⟩
   ·exact m y KE
def EU{p:on Int}(I:KR g)(hh:X.A.handled=none)(hq:SqL X.K H l vs)(P:0<vs.length)(R:p.length=vs.length)
  (turn:∀(i:Nat) (v:V) (u:Ks) (k:Int),vs[i]? = some v->RelV v u->p[i]? = some k->∀pins' s' n,Inv X pins' σ n s'->Same H n->wpAny KO X.A.in1 (call (.ref f) [u]) (EP X pins' σ (λ w a7=>w=.int k/\Same n a7)) (λ _ _=>False) s')
  (h:∀i v n,vs[i]? = some v->(∀j,j<vs.length->p.getD i 0<=p.getD j 0/\(j<i->p.getD i 0<p.getD j 0))->Same H n->Q v n):wpAny KO X.A (call (.builtin "min") [.ref l] [(Str.ofString "key",.ref f)]) (EP X g σ Q) E s:=by
 have ml : "min.loop" = (toString "min" ++ toString ".loop" : KJ):=by decide
 obtain⟨us,ru,pl,zl⟩:=I.list hq;have a1:=ru.length;have y:l<s.heap.objs.size:=by obtain⟨o,e,_⟩:=pl.isList;exact k9 e
 refine kmk_tree PySem.F.kind_min PySem.F.plain_min PySem.F.entry_min (kmk_min_key _ _) ?_;show wpAny _ X.A.in1 _ _ _ s;refine f0 (aN (a:=[some (.ref f),none]) rfl (f0 (f9 (f0 (jK pl.isList (f0 (gl ?_ (D9 _))))))));rw[←ml];generalize hJ:s.heap.objs.size=J at y;generalize B:s.heap.push {cls:=.type "list_iterator",data:=.fields #[.ref l,.int 0 0]} = g0;have z0:g0.objs.size=J+1:=by rw[←B,bH,hJ]
 have gS:(g0.push LP).get? (J+1)=some (seqObj "list" #[] 0):=by rw[←z0];exact r9 _ rfl
 have I0:Inv X g σ H {s with heap:=g0.push LP}:=I.kept (t':=s.toks) λ b o e=>by rw[←B];exact n7 _ (n7 _ e)
 have fJ:FpOk X g H J:=I.fpOk KE (I.hok.fresh KE);have fS:FpOk X g H (J+1):=I.fpOk KE (I.hok.fresh KE);refine f9 ⟨W5 aD _,?_⟩;show codeAny KO X.A _ _ {s with heap:=g0.push LP};rw[z0];have S:l≠J:=q9 y;have C:J+1≠J:=N7 (Y7 _);have a4:l≠J+1:=q9 (N6 y);obtain⟨us,ru,pl,zl⟩:=I0.list hq;have a1:=ru.length;have W:=gD (prog:=X.prog) (w:=X.w) (A:=X.A.in1) hh J l S us.toArray;refine U0 jv ?_;rw[Y4 aD _];show wpAny _ X.A.in1 (seqItems? (.ref (J+1)) >>= _) _ _ _;refine f0 (aL gS rfl ?_);show wpAny _ X.A.in1 (tryCatch (pyNext (.ref J)) _ >>= _) _ _ _;refine f0 (bC (W.item 0 _ _ _ (by rw[v5];omega) ⟨⟨_,((by rw[←B,←hJ];exact n7 _ (r9 _ rfl))),rfl,rfl⟩,pl.isList⟩ λ u h1 a0 hP a2 hk=>?_));have hu:us[0]? = some u:=by simpa using hP
 obtain⟨oJ,O,a3,N⟩:=id a2.1;have Y:=hk (J+1) _ (Lq C) gS;obtain⟨v1,r⟩:∃v1,vs[0]? = some v1:=⟨_,m7 P⟩;obtain⟨u',M,L⟩:=ru.get r;rw[hu]at M;cases M;obtain⟨q,U⟩:∃q,p[0]? = some q:=⟨_,m7 KE⟩;have a6:p.getD 0 0=q:=by rw[u8,U];rfl
 have I1:=I0.turnedL (h':=h1) (t':=a0) (ch:=[J]) (λ b o m e=>hk b o m e) λ b m=>by rw[w4.mp m];exact fJ
 have Ip:=I1.pinned (fp:=[J+1,J]) (λ b m=>by
  rcases i6.mp m with rfl | m
  ·exact fS
  ·rw[w4.mp m];exact fJ) (λ b m=>by
  rcases i6.mp m with rfl | m
  ·exact⟨_,Y,λ v z=>by cases z⟩
  ·rw[w4.mp m];exact⟨_,O,λ v z=>by rw[N]at z;cases z⟩)
 show wpAny _ X.A.in1 _ _ _ _;refine f0 (bC (F9 (B4 (turn 0 v1 u q r L U _ _ H Ip Lm) (λ x s2 he=>?_) λ _ _ hF=>hF.elim)));obtain⟨w2,H2,I2,r2,rfl,K⟩:=he;obtain⟨F,rfl⟩:=r2;obtain⟨qS,nS,_⟩:=I2.pin _ (A0 _ (A0 _ (Z4 (o5 ..) Y)));obtain⟨qJ,nJ,_⟩:=I2.pin _ (A0 _ (A0 _ (Z4 (o4 _ (o5 ..)) O)));have I3:=I2.unpinned;have s1:=N4 s2.heap (J+1) (Obj.mapSeq λ _=>#[u,.int q F]);obtain⟨c2,a5⟩:∃c2,(s2.heap.update (J+1) (Obj.mapSeq λ _=>#[u,.int q F])).get? (J+1)=some (seqObj "list" #[u,.int q F] c2):=⟨_,get?_update_seq qS λ _=>#[u,.int q F]⟩;show wpAny _ X.A.in1 _ _ _ _;refine f0 (de qS rfl ?_);rw[←ml];refine f9 ⟨W5 aD _,ET (H:=H) hh R S C a4 turn (λ i v u s' n e1 e2 e3 e4 e5=>⟨v,n,e4,e2,h i v n e1 e3 e5⟩) _ 0 0 _ H2 u v1 F c2 rfl P (I3.turnedL (t':=s2.toks) (ch:=[J+1]) (λ b o m e=>by rw[s1.2 b λ z=>m (by rw[z];simp)];exact e) λ b m=>by rw[w4.mp m];exact ap fS nS) K (ap fS nS) (ap fJ nJ) (K.seq hq) (by rw[a6];exact a5) ⟨oJ,(s1.2 J C.symm).trans qJ,a3,N⟩ r L (i9 _) λ j' hj'=>?_⟩;have e:j'=0:=by omega
 subst e;exact⟨by omega,λ h=>absurd h (P2 _)⟩
def EV{X:Cx}{δ:on Sv}{bd:Kw}{pr:KG}{sc:KD}{c P:Ku}{m:LamD}{cs:on DV}{fr:on Nat}{pins:on (Ku×Obj)}{σ:St}{H:Hp}{s:Kt}{O W:on Ku}{f:Ku}(I:KR pins)(L:LamAt X sc c P)(T:LamTx m.N (m.N.take m.np) sc)(hcor:ag m pr bd sc=true)(hN:m.N.length=m.np+fr.length)(hslot:LS)
  (hcap:capD δ fr=some cs) (R:Mr X.D) (lf:Q2 H Mh pr bd sc Ln f):Rep X.D (L2.wo (O++W) (trC ((Ln).map (·.2)) s.heap H)) (.lam m cs) (.ref f):=by
 generalize hl:(Ln).map (·.2)=l;have Ce:=Cells.of (sc:=sc) I (L.has I.ok);rw[hl]at Ce;have S:=T.full I (L.has I.ok);rw[hl]at S;obtain⟨ws,w1,w2,w3⟩:=mG R hcap;have same:=Ce.same;have hdA:=R.hid.hdA;have ou:∀{b:Ku} {o:Obj} {u:HO},H b=some (.frz o u)->b∉O++W:=λ {b o u} e z=>by obtain⟨o',q1,q2⟩:=hdA b z;rw[e]at q1;cases q1;cases q2
 have oc:∀{b:Ku},b∈l->b∉O++W:=λ {b} hb z=>by obtain⟨o',q1,q2⟩:=hdA b z;rw[Ce.none b hb]at q1;cases q1
 refine lZ.mpr ⟨f,pr,bd,sc,X.env.qual ++ "<lambda>",q0 X.env.cells sc.names [],l,ws,rfl,?_,hcor,S,w2.mono same.wo,by rw[hN,w1],λ c hc=>?_,λ i y v h1 h2=>?_⟩
 ·obtain⟨c',oc',u,vs,t,pm,ctv,h1,h2,h3⟩:=lf;exact⟨c',oc',u,vs,t,pm,ctv,by rw[k8 (ou h1)];exact same _ _ h1,by rw[k8 (ou h2)];exact same _ _ h2,h3⟩
 ·obtain⟨o,v,g,d'⟩:=Ce.cel c hc;exact⟨o,v,by rw[k8 (oc hc)];exact al hc g,d'⟩
 ·have hi:i<fr.length:=by rw[←w1];exact(z7.mp h2).1
  have hj:fr[i]? = some fr[i]:=m7 hi;obtain⟨y',q1,q2,q3⟩:=hslot i _ hj;rw[h1]at q1;cases q1;have hv:=w3 i _ v hj h2;obtain⟨mm,hn',hl'⟩:=I.loc;obtain⟨u,rv,lk⟩:=hl' _ y v q2 hv (.inr q3);rcases lk with⟨k1,_⟩ | ⟨k1,cc,k2,o,k3,k4⟩
  ·have k1:X.env.kindOf y=some .local:=k1;rcases q3 with q3 | q3<;>(rw[q3]at k1;cases k1)
  ·have hfre:(y,NameKind.free)∈sc.names:=C8 (T.fre (m.np+i) y (by rw[F8];exact i7 (Nat.min_le_left _ _) (R5 _ _)) h1);have hcl:=eQ (L.has I.ok) hfre k2;have hcc:cc∈l:=S.mem y cc hcl;exact⟨cc,o,u,hcl,by rw[k8 (oc hcc)];exact al hcc k3,k4,rv⟩
def EW{F:Nat->on DV->Kr Ou}(I:KR h)(lo:am X.prog X.w X.K X.mg X.base fn bl cl k (F G6))(hr:RoomL k A)(hA:A.frames=X.A.frames)(h1:m.fn=fn)(h2:m.bl=bl)(h3:m.cl=cl)
  (L:LamAt X sc c P) (T:LamTx m.N (m.N.take m.np) sc) (B:∀{h:on (Ku×Obj)} {σ:on (Kr V)} {H:Hp} {s:Kt},Inv X h σ H s->∀c∈(q0 X.env.cells sc.names []).map (·.2),X.base.get? c=none/\c∉frs X.stack) (C:ag m S bd sc=true) (hN:m.N.length=m.np+fr.length) (x:LS)
  (E:capD δ fr=some cs) (R:Mr X.D) (lf:Q2 H Mh S bd sc Ln f) (Z:Rep X.D (Ll (O++W)) d v) (Y:RelV v u) (hF:F G6 [.lam m cs,d]=some (.v (.int n) false)) :
  wpAny KO A (call (.ref f) [u]) (EP X h σ (λ w Q=>w=.int n/\Same H Q)) (λ _ _=>False) s:=by
 have lamR:=EV I L T C hN x E R lf;generalize U:(Ln).map (·.2)=l at lamR;have J:=Cells.of I (L.has I.ok);rw[U]at J;have M:=B I;rw[U]at M;have same:=J.same;have q:=I.env0;have e1:Env0 X.prog X.w X.K X.mg X.base A X.stack s H:=⟨hA.trans q.frames,q.mod,q.bs,q.bsz,q.funs,q.frf,q.hok,q.bare⟩;refine dB (U4 (lo A X.stack s _ [u] [v] (λ v K=>Same (trC l s.heap H) K/\v=.int n) (λ _ _ _=>False) (O++W) f m cs [d] _ hr (Env0.trC J (λ c N=>(M c N).1) (λ c N=>(M c N).2) e1) (.cons Y .nil) (λ a ha=>?_) h1 h2 h3 lamR (RepL.one (Z.mono same.wo)) hF λ v K sm g=>⟨sm,z8.mp g⟩) λ r s' p=>?_)
 ·obtain⟨o,q1,q2⟩:=R.hid.hdA a ha;exact⟨o,same _ _ q1,q2⟩
 ·cases r with
  | error e=>exact(p:False).elim
  | ok fl=>
   cases fl with
   | ret u=>
    refine I.after (CE.trC J p (λ v K sm z=>⟨z.2,λ b o e=>?_⟩) λ v K z=>z.1);rw[k8 λ w=>by rw[J.none b w]at e;cases e];exact sm _ _ (same _ _ e)
   | next=>exact False.elim p
   | brk=>exact False.elim p
   | cont=>exact False.elim p
theorem uy:∀{b:on DV} {a:on Int},U6 F mm b=some a->a.length=b.length/\∀(i:Nat) d n,b[i]? = some d->a[i]? = some n->F G6 [mm,d]=some (.v (.int n) false)
 | [],a,h=>by cases h;exact⟨rfl,λ i d n h=>by cases h⟩
 | d::r,a,h=>by
  unfold U6 at h;split at h
  ·rename_i n e;obtain⟨l,m,rfl⟩:=A6.mp h;obtain⟨j,g⟩:=uy m;refine⟨by rw[x9,x9,j],λ i o k f c=>?_⟩;cases i with
   | zero=>cases f;cases c;exact e
   | succ i=>exact g i o k f c
  ·cases h
def Room.toL1(r:Room k A):RoomL k A.in1:=⟨r.hd,r.dp,by have:=r.un;show A.units+1+16*k+198<_;omega⟩
def EX(h:P5 ks=some i)(d:c<ks.length)(h':∀j,j<ks.length->ks.getD c 0<=ks.getD j 0/\(j<c->ks.getD c 0<ks.getD j 0)):c=i:=by
 unfold P5 at h;have f:=jp h;have e:=jY h;rw[u0]at f;simp only[J0,u0,f7,D8,B7]at e;have a:=e c d;have b:=h' i f;rcases Nat.lt_trichotomy i c with z | z | z
 ·have:=b.2 z;omega
 ·exact z.symm
 ·have:=a.2;omega
section
variable {X:Cx} {δ:on Sv} {ea bd:Kw} {pos p lp kp:Pos} {re:Re} {k:Nat} {x:Str} {pr:KG} {sc:KD} {c P:Ku} {m:LamD} {cs:on DV} {fr:on Nat} {pins:on (Ku×Obj)} {σ:St} {H:Hp} {s:Kt} {O W:on Ku} {f:Ku}
def QM(X:Cx)(δ:on Sv)(F:Lo)(m:LamD)(cs:on DV)(pr:KG)(bd:Kw)(sc:KD)(σ:St)(Q:VK):on V->Hp->Prop:=λ vs H1=>∃va,vs=[va]/\∀f H2,Same H1 H2->H1 f=none->Q2 H2 Mh pr bd sc Ln f ->
 ∃O W a xs ds ks i,va=V.ref a/\RSt X.D H2 σ δ O W/\SqL X.K H2 a xs/\RepL X.D (L2.wo (O++W) H2) ds xs/\0<ds.length/\U6 F (.lam m cs) ds=some ks/\P5 ks=some i/\∀H' v,Same H2 H'->xs[i]? = some v->Q v H'
def EY(lo:am X.prog X.w X.K X.mg X.base fn bl cl k (F G6))(hr:Room k X.A)(h1:m.fn=fn)(h2:m.bl=bl)(h3:m.cl=cl)(hg:Gl X "min")(hm:X.mg "min" = none)(B:u7 ea=false)
  (L:LamAt X sc c P) (Z:defaultsOf pr X.env=([],[])) (T:LamTx m.N (m.N.take m.np) sc) (Y:∀{b:on (Ku×Obj)} {l:on (Kr V)} {H:Hp} {s:Kt},Inv X b l H s->∀c∈(q0 X.env.cells sc.names []).map (·.2),X.base.get? c=none/\c∉frs X.stack) (a0:ag m pr bd sc=true) (hN:m.N.length=m.np+fr.length) (w:LS)
  (a1:capD δ fr=some cs) (ha:PE X ea (dE X.D δ ra)) (h:(Re.thn (some ra) λ x cx=>mnkL F (.lam m cs) x cx)=some re):PE X (.Call (.Name "min" p) [ea] [⟨some "key",.Lambda pr bd sc lp,kp⟩] pos) (dE X.D δ re):=by
 have C:∀{ta:TE},PE X ea ta->PE X (.Call (.Name "min" p) [ea] [⟨some "key",.Lambda pr bd sc lp,kp⟩] pos) (λ l H Q=>kH ta tNil l H (QM X δ F m cs pr bd sc l Q)):=λ {ta} A=>by
  intro b s l H Q I h;refine aF (aP I hg hm boot_min ?_ KL KL);refine PyProof.Rows.callWith_kw (thn (M5 A (X2 (X:=X)) (w5 B) pos b s l H _ I h) λ us s1 ⟨vs,H1,I1,r1,N⟩=>?_) (by rw[w5 B];rfl) (by rw[w5 B];rfl);obtain⟨va,rfl,N⟩:=N;refine thn (zQ (nm:=some "key") (kpos:=kp) (Eu (bd:=bd) (lp:=lp) L Z) (zN (X:=X)) pos b s1 l H1 (λ ws o=>∃f,ws=[.ref f]/\Q2 o Mh pr bd sc Ln f/\∃O W a r q ks i,va=V.ref a/\RSt X.D o l δ O W/\SqL X.K o a r/\RepL X.D (L2.wo (O++W) o) q r/\0<q.length/\U6 F (.lam m cs) q=some ks/\P5 ks=some i/\∀J v,Same o J->r[i]? = some v->Q v J) I1
   (λ f o sm hn U=>⟨f,rfl,U,N f o sm hn U⟩)) λ ws K B0=>?_
  obtain⟨zs,o,I2,rz,f,e,U,O,W,a,r,q,ks,ix,e',R,sq,M,a6,hk,E,hq⟩:=B0;subst e e';obtain⟨u1,rfl,a4⟩:=K8 r1;obtain⟨u2,rfl,a3⟩:=K8 rz;obtain rfl:u1=Value.ref a:=a4;obtain rfl:u2=Value.ref f:=a3;show wpAny _ X.A _ _ X.xe K;obtain⟨k1,k2⟩:=uy hk;refine EU I2 hr.hd sq (by rw[M.length];exact a6) (by rw[k1,M.length]) (λ i v u n hv ru hn a5 s' J I' sm=>?_) λ i v J hv hb sm=>?_
  ·have hi:i<q.length:=by rw[←M.length];exact(z7.mp hv).1
   have hd:=m7 hi;obtain⟨v',e1,rp⟩:=M.get hd;rw[hv]at e1;cases e1;exact EW I' lo hr.toL1 rfl h1 h2 h3 L T Y a0 hN w a1 (R.mono sm) (U.mono sm) (rp.mono sm.wo) ru (k2 i _ n hd hn)
  ·have hi:i<ks.length:=by rw[k1,←M.length];exact(z7.mp hv).1
   have:=EX E hi λ j hj=>hb j (by rw[M.length,←k1];exact hj);subst this;exact hq J v sm hv
 cases ra with
 | ok dx cx=>
  have g:mnkL F (.lam m cs) dx cx=some re:=h;unfold mnkL at g;split at g
  ·rename_i q;split at g
   ·rename_i z;obtain⟨ks,hk,g⟩:=z9.mp g;obtain⟨ix,E,g⟩:=z9.mp g;obtain⟨d,hd,rfl⟩:=A6.mp g;refine(C ha).weak λ l H Q ⟨O,W,R,p⟩=>⟨O,W,R,λ va H1 s1 g1=>⟨va,rfl,λ f o K hn U=>?_⟩⟩
    have S:=s1.trans K;obtain⟨a,r,e1,e2,e3⟩:=g1.lstC Lh;have a2:RepL X.D (L2.wo (O++W) H1) q r:=by
     cases cx with
     | strong=>exact e3
     | fresh=>exact e3
     | weak=>cases z
     | top=>exact e3
    refine⟨O,W,a,r,q,ks,ix,e1,R.mono S,SqL.of (K _ _ e2),a2.mono K.wo,T7 (D9 _) (z7.mp hd).1,hk,E,λ J v sm hv=>p _ _ (S.trans sm) ?_⟩;obtain⟨v',N,q2⟩:=a2.get hd;rw[hv]at N;cases N;exact(q2.mono (K.trans sm).wo:Rep X.D (L2.wo (O++W) J) d v)
   ·cases g
  ·cases g
end
noncomputable def dEnd(D:Dm)(H0:Hp)(O:on Ku)(Dn:Ends):Out->Prop
 | .nx δ=>∀σ H W,RSt D H σ δ O W->(∀a∈W,H0 a=none)->Same H0 H->Dn.nx σ H
 | .rt d fr=>∀v H,Same H0 H->GotR D O H0 H d fr v->Dn.rt v H
def dS(D:Dm)(δ:on Sv)(o:Out):TS:=λ Dn σ H=>∃H0 O W,RSt D H σ δ O W/\(∀a∈W,H0 a=none)/\(∀a∈O,H0 a≠none)/\Same H0 H/\dEnd D H0 O Dn o
def EZ:PSs X [] (dS X.D δ (.nx δ)):=qz.weak λ Dn a H ⟨H0,O,W,R,b,fo,sm,k⟩=>k a H W R b sm
def Fa{X:Cx}{δ δ1:on Sv}{st:KB}{rest:on KB}{o:Out}(h1:PS X st (dS X.D δ (.nx δ1)))(h2:PSs X rest (dS X.D δ1 o)):PSs X (st::rest) (dS X.D δ o):=
 (X1 h1 h2).weak λ Dn σ H ⟨H0,O,W,R,fr,fo,sm,k⟩=>⟨H0,O,W,R,fr,fo,sm,λ σ' H' W' R' fr' sm'=>⟨H0,O,W',R',fr',fo,sm',k⟩⟩
def Fb{X:Cx}{δ:on Sv}{st:KB}{rest:on KB}{d:DV}{fr:Bool}(h1:PS X st (dS X.D δ (.rt d fr))):PSs X (st::rest) (dS X.D δ (.rt d fr)):=
 (X1 h1 gI).weak λ Dn σ H ⟨H0,O,W,R,fr,fo,sm,k⟩=>⟨H0,O,W,R,fr,fo,sm,k⟩
def Fd(n:∀q,e=some q->PT X c (dT X.D δ q))(r:∀q,l=some q->PSs X body (dS X.D δ q))(p:∀q,j=some q->PSs X d (dS X.D δ q))(h:(Rt.thnS δ e λ k=>if k then l else j)=some o):PS X (.If c body d pos) (dS X.D δ o):=by
 cases a:e with
 | none=>rw[a]at h;cases h
 | some q=>
  rw[a]at h;have C:=n q a;cases q with
  | ok b=>
   cases b with
   | true=>
    have f:=h;exact(dJ C (r o f) gI).weak λ u m H ⟨i,O,W,R,g,fo,sm,k⟩=>⟨O,W,R,λ s s1=>iteT ⟨i,O,W,R.mono s1,g,fo,sm.trans s1,k⟩⟩
   | false=>
    have f:=h;exact(dJ C gI (p o f)).weak λ u m H ⟨i,O,W,R,g,fo,sm,k⟩=>⟨O,W,R,λ s s1=>iteF ⟨i,O,W,R.mono s1,g,fo,sm.trans s1,k⟩⟩
def Fe(w:∀q,j=some q->PE X e KZ)(h:(Re.thnS δ j λ d c=>some (retD d c))=some o):PS X (.Return (some e) pos) (dS X.D δ o):=by
 cases f:j with
 | none=>rw[f]at h;cases h
 | some q=>
  rw[f]at h;have A:=w q f;cases q with
  | ok d cl=>
   have x:=h;cases x;refine(bK A).weak λ J σ H ⟨I,O,W,R,y,fo,sm,k⟩=>⟨O,W,R,λ v F s1 g=>(k:dEnd X.D I O J _) v F (sm.trans s1) ?_⟩;cases l:frD d cl with
   | false=>exact g.weak Lh
   | true=>
    unfold frD at l;split at l
    ·obtain⟨p,i,E,s,r,n,C,B⟩:=g;exact⟨p,i,E,s,r,sm.free n,C,B.mono (O6 λ b m=>by rcases i6.mp m with z | z;exact i6.mpr (.inl z);exact o4 _ (E3 _ z))⟩
    ·obtain⟨a,i,s,u,r,n⟩:=g;exact⟨a,i,_,s,rfl,y a u,x5 _ _ r,n.mono (O6 λ b m=>by rcases i6.mp m with z | z;rw[z];exact A0 _ u;exact E3 _ z)⟩
    ·cases l
def iL(h:aT v=false):swapsWith v t l env=pure false:=by
 cases v<;>first | rfl | cases h
def Ff(i:∀q,b=some q->PE X e KZ)(f:aT e=false)(h:(Re.thnS δ b λ _ _=>some (.nx δ))=some o):PS X (.Expr e pos) (dS X.D δ o):=by
 cases a:b with
 | none=>rw[a]at h;cases h
 | some q=>
  rw[a]at h;have A:=i q a;cases q with
  | ok d cl=>cases h;exact(gH A (iL f)).weak λ Dn c H ⟨H0,O,W,R,j,fo,sm,k⟩=>⟨O,W,R,λ v l s1 g=>k c l W MB j (sm.trans s1)⟩
def eR:b∈O++p::W↔b∈p::(O++W):=by
 simp[F1,i6];constructor
 ·rintro(h | h | h)
  ·exact .inr (.inl h)
  ·exact .inl h
  ·exact .inr (.inr h)
 ·rintro(h | h | h)
  ·exact .inr (.inl h)
  ·exact .inl h
  ·exact .inr (.inr h)
def V5{l:on c}(h:(l.set i a)[j]? = some b)(d:a≠b):j≠i:=λ z=>by
 subst z;have e:j<l.length:=by have:=(z7.mp h).1;rw[E4]at this;exact this
 rw[K6 e]at h;exact d (D5 h)
def eS{l:on c}(h:(l.set i a)[i]? = some b):i<l.length/\a=b:=by
 have d:=(by have:=(z7.mp h).1;rw[E4]at this;exact this);rw[K6 d]at h;exact⟨d,D5 h⟩
def RSt.alloc(R:Mr D)(s:Same H A)(F:H p=none)(f:A p=some (Lw xs))(r:RepL D (L2.wo (p::(O++W)) A) ds xs)(i:Nat) :
  RSt D A (σ.set i (Md p)) (δ.set i (.own (Lw ds))) O (p::W):=by
 have l:Same (Ll (O++W)) (L2.wo (O++p::W) A):=λ b o e=>by obtain⟨I,e⟩:=C7 e;rw[k8 (λ z=>by rcases i6.mp (eR.mp z)with z | z;exact A7 e F z;exact I z)];exact s b o e
 refine⟨λ j d h=>?_,λ j J h=>?_,λ j k a g d2 U S x w=>?_,R.od.step (mh _ (by intro d z;cases z)) (λ _ h _=>o4 _ h) (λ a P _ h _=>s _ _ h),by rw[E4,E4];exact R.len,⟨λ a u=>?_,Same.refl _,λ a u=>?_,λ a u=>?_,R.hid.omS s⟩⟩
 ·have c:=V5 h KP;rw[A2 (Mq c)]at h ⊢;obtain⟨v,x,w⟩:=R.val j d h;exact⟨v,x,w.mono l⟩
 ·by_cases c:j=i
  ·subst c;obtain⟨Q,e⟩:=eS h;cases e;exact⟨p,xs,ds,rfl,K6 (by rw[R.len];exact Q),o5,f,r.mono (O6 λ b I=>eR.mp I)⟩
  ·rw[A2 (Mq c)]at h ⊢;obtain⟨a,B,y,Z,x,w,Y,X⟩:=R.own j J h;exact⟨a,B,y,Z,x,o4 _ w,s _ _ Y,X.mono l⟩
 ·have n:∀{j:Nat} {g:DV},(δ.set i (.own (Lw ds)))[j]? = some (.own g)->(σ.set i (Md p))[j]? = some (some (V.ref a))->(j=i/\a=p)\/(j≠i/\δ[j]? = some (.own g)/\σ[j]? = some (some (V.ref a))/\a≠p):=λ {j g} h e=>by
   by_cases c:j=i
   ·subst c;obtain⟨_,z⟩:=eS e;cases z;exact .inl ⟨rfl,rfl⟩
   ·rw[A2 (Mq c)]at h e;refine .inr ⟨c,h,e,λ z=>?_⟩;obtain⟨a',B,y,_,N,_,M,_⟩:=R.own j g h;rw[e]at N;cases N;rw[z,F]at M;cases M
  rcases n U x with⟨K,C⟩ | ⟨K,C,z3,z4⟩<;>rcases n S w with⟨L,E⟩ | ⟨L,E,y3,y4⟩
  ·rw[K,L]
  ·exact absurd C y4
  ·exact absurd E z4
  ·exact R.inj j k a g d2 C E z3 y3
 ·rcases i6.mp (eR.mp u)with z | z
  ·rw[z,f];intro q;cases q
  ·intro q;exact R.hid.ot a z (s.free q)
 ·rcases i6.mp u with z | z
  ·exact⟨_,by rw[z];exact f,rfl⟩
  ·obtain⟨B,q,m⟩:=R.hid.wl a z;exact⟨B,s _ _ q,m⟩
 ·rcases i6.mp u with z | z
  ·intro q;exact R.hid.ot p (E3 _ (by rw[←z];exact q)) F
  ·exact R.hid.dj a z
def uz(h:noOt i δ=true)(q:δ[j]? = some (.od d)):j=i:=by
 unfold noOt at h;rw[J0]at h;have:=h j (u0.mpr ((z7.mp q).1));rw[q]at this;simpa using this
def RSt.write(R:Mr D)(A:δ[i]? = some (.own (Lw ds)))(C:σ[i]? = some (Md a))(r:RepL D (Ll (O++W)) g f) :
  RSt D (upd H a (.lst f)) σ (δ.set i (.own (.lst g))) O W:=by
 obtain⟨a',xs,ds0,e0,L,K,Z,e4⟩:=R.own i _ A;rw[C]at L;cases L;have p:Same _ (L2.wo (O++W) (upd H a (.lst f))):=λ b o e=>by obtain⟨w,e⟩:=C7 e;rw[k8 w,n6 λ z=>w (by rw[z];exact A0 _ K)];exact e
 have hl:=(z7.mp A).1;refine⟨λ j d h=>?_,λ j n h=>?_,λ j k b J d2 Y X u x=>?_,R.od.step (CT (by intro d z;cases z)) (λ _ h _=>h) (λ b U _ h m=>by rw[n6 (λ z=>by rw[z,Z]at h;cases h;cases m)];exact h),by rw[E4];exact R.len,⟨λ b w q=>?_,Same.refl _,λ b w=>?_,R.hid.dj,R.hid.omW (by assumption)⟩⟩
 ·have l:=V5 h KP;rw[A2 (Mq l)]at h;obtain⟨v,u,x⟩:=R.val j d h;exact⟨v,u,x.mono p⟩
 ·by_cases l:j=i
  ·subst l;obtain⟨_,e⟩:=eS h;cases e;exact⟨a,f,g,rfl,C,K,y9,r.mono p⟩
  ·rw[A2 (Mq l)]at h;obtain⟨b,B,E,S,u,x,Q,P⟩:=R.own j n h;refine⟨b,B,E,S,u,x,?_,P.mono p⟩;rw[n6 λ z=>l (R.inj j i a n _ h A (by rw[←z];exact u) C)];exact Q
 ·have y:∀{j:Nat} {J:DV},(δ.set i (.own (.lst g)))[j]? = some _->∃d0,δ[j]? = some (.own d0):=λ {j J} h=>by
   by_cases l:j=i
   ·subst l;exact⟨_,A⟩
   ·rw[A2 (Mq l)]at h;exact⟨J,h⟩
  obtain⟨I,N⟩:=y Y;obtain⟨F,M⟩:=y X;exact R.inj j k b I F N M u x
 ·by_cases c:b=a
  ·rw[c,y9]at q;cases q
  ·rw[n6 c]at q;exact R.hid.ot b w q
 ·by_cases c:b=a
  ·exact⟨_,by rw[c];exact y9,rfl⟩
  ·obtain⟨B,q,m⟩:=R.hid.wl b w;exact⟨B,by rw[n6 c];exact q,m⟩
def eT(h:Same c H)(d:c a=none):Same c (upd H a o):=λ b u e=>by
 rw[n6 (A7 e d)];exact h b u e
def uA{own:Bool}(h:(if own then dX i δ d cl else(ML cl))=some o)
  (R:Mr D) (fr:∀a∈W,c a=none) (sm:Same c H) (k:dEnd D c O j o):∀v e,Same H e->Got D O W H e d cl v->j.nx (σ.set i (some v)) e:=λ v b s1 g=>by
 cases own with
 | true=>
  simp only[if_true]at h;unfold dX at h;split at h
  ·cases h;obtain⟨p,xs,ds,s,r,f,q,n⟩:=g;subst s r;exact k _ b (p::W) (R.alloc s1 f q n i) (λ a l=>by
    rcases i6.mp l with z | z
    ·rw[z];exact sm.free f
    ·exact fr a z) (sm.trans s1)
  ·split at h
   ·cases h;exact k _ b W ((MB).setVal (X5.mpr (X5.mp (g.weak Lh))) i) fr (sm.trans s1)
   ·cases h
 | false=>
  simp only[Q8,if_false]at h;split at h
  ·rename_i m;cases h;exact k _ b W ((MB).setVal (g.stro Lh m) i) fr (sm.trans s1)
  ·cases h
def uB{X:Cx}{δ:on Sv}{o:Out}{e:Kw}{pos pos':Pos}{ra:Kr Re}{i:Nat}{x:Str}{own:Bool}(hN:X.N.Nodup)(hi:X.N[i]? = some x)(hx:Loc X.env.scope x)(hf:X.fn x=true\/X.env.scope.names.lookup x=some .local)(ha:∀q,ra=some q->PE X e KZ)(hc:swapsWith e (some (Mo pos')) pos.line X.env=pure false)
  (h:(Re.thnS δ ra λ d c=>if own then dX i δ d c else(ML c))=some o):PS X (.Assign [.Name x pos'] e pos) (dS X.D δ o):=by
 cases hra:ra with
 | none=>rw[hra]at h;cases h
 | some q=>
  rw[hra]at h;have A:=ha q hra;cases q with
  | ok d cl=>exact(gJ hN hi hx A hc hf).weak λ Dn σ H ⟨H0,O,W,R,fr,fo,sm,k⟩=>⟨O,W,R,uA h R fr sm k⟩
def Fg{X:Cx}{δ:on Sv}{o:Out}{pos pos':Pos}{i:Nat}{x:Str}{own:Bool}{tgE iter elt:Kw}{ifs:on Kw}{scope:KD}{N':on Str}{fr:on (Kr Nat)}{tg:Tg}{re:Re}(S:Mg N')(hc:Mk)(hN:X.N.Nodup)(hi:X.N[i]? = some x)(hx:X.env.scope.names.lookup x=some .local)
  (P:ao X δ tgE iter ifs elt scope N' fr tg re) (hG:∀C cells s₂ H₂ fp,PG (v6 X scope N' C cells s₂ H₂ fp) tgE (gT X.K tg)) (hset:K0 iter=false) {cpos:Pos} (hsw:swapsWith (.ListComp elt [⟨tgE,iter,ifs,0⟩] scope cpos) (some (Mo pos')) pos.line X.env=pure true)
  (h:(Re.thnS δ (some re) λ d c=>if own then dX i δ d c else(ML c))=some o):PS X (.Assign [.Name x pos'] (.ListComp elt [⟨tgE,iter,ifs,0⟩] scope cpos) pos) (dS X.D δ o):=by
 obtain⟨wi,tc,te,h1,h2,h3,h4⟩:=P;refine(AE S hc hN hi hx h1 hG h2 h3 hsw (mP hset)).weak λ Dn σ H ⟨H0,O,W,R,fr,fo,sm,k⟩=>?_
 unfold tAsg;refine h4 σ H _ ⟨O,W,R,?_⟩;cases re with
 | ok d cl=>exact uA h R fr sm k
def Fh(hv:PE X (Mo b) (tVar i))(I:∀q,r=some q->PE X e KZ)(s:u7 e=false)(n:(j.endLine==f.line)=true)
  (h:(match δ[i]? with
   | some (.own (.lst p))=>Re.thnS δ r λ d c=>if stro d c/\p.length<p7 then some (.nx (δ.set i (.own (Lw (p++[d])))))else none
   | _=>none)=some o):PS X (.Expr (.Call (.Attribute (Mo b) "append" j) [e] [] f) pos) (dS X.D δ o):=by
 split at h
 ·rename_i p y;cases l:r with
  | none=>rw[l]at h;cases h
  | some q=>
   rw[l]at h;have A:=I q l;cases q with
   | ok d cl=>
    have u:(if stro d cl/\p.length<p7 then some (Out.nx (δ.set i (.own (Lw (p++[d])))))else none)=some o:=h;split at u
    ·rename_i m;cases u;exact((λ t (J:PE X e t)=>gH (rm pU PySem.F.slot_list_append PySem.F.type_list_append Ap hv (M5 J X2 (w5 s)) rfl (by rw[w5 s];rfl) n (w5 s) rfl) rfl) _ A).weak λ Dn F H ⟨H0,O,W,R,z,fo,sm,k⟩=>by obtain⟨a,w,M,L,E,K,C,B⟩:=R.own i _ y;cases L;refine⟨.ref a,E,.inl ⟨rfl,w,SqL.of C⟩,O,W,R,λ v H1 s1 g=>?_⟩;refine⟨a,w,v,rfl,rfl,s1 _ _ C,by rw[B.length];exact t7 m.2 KL,?_⟩;exact k F _ W ((MB).write y E ((B.mono s1.wo).append (RepL.one (g.stro Lh m.1)))) z (eT (sm.trans s1) (z a K))
    ·cases u
 ·cases h
def Fi(hv:PE X (Mo b) (tVar i))(U:∀q,z=some q->PE X e KZ)(Q:∀q,w=some q->PE X l KZ)(E:U8 l=false)
  (h:(match δ[i]? with
   | some (.own (.lst s))=>Re.thnS δ z λ d c=>Re.thnS δ w λ k _=>(match k with
    | .int k=>(match E5 s.length k with
     | some j=>if stro d c then some (.nx (δ.set i (.own (Lw (s.set j d)))))else none
     | none=>none)
    | _=>none)
   | _=>none)=some o):PS X (.Assign [.Subscript (Mo b) l f] e pos) (dS X.D δ o):=by
 have sub:∀v,assign (.Subscript (Mo b) l f) X.env v=(do
   let ov ←holding [v] (eval (Mo b) X.env)
   let iv ←holding [v,ov] (Ms l)
   standAt f
   holding [v,ov,iv] (setItem ov iv v)
   release [v,ov,iv] []):=by cases l<;>first | (intro _;rfl) | cases E
 have C:=λ t N (Z:PE X e t) (Y:PE X l N)=>yT (pos:=pos) Z (yR hv Y Aj sub) (by cases e<;>rfl) (by cases e<;>rfl) rfl;split at h
 ·rename_i s F;cases p:z with
  | none=>rw[p]at h;cases h
  | some q=>
   rw[p]at h;have A:=U q p;cases q with
   | ok d cl=>
    cases n:w with
    | none=>rw[n]at h;cases h
    | some q=>
     rw[n]at h;have B:=Q q n;cases q with
     | ok dk ck=>
      have r:(match(generalizing:=false) dk with
       | .int k=>(match E5 s.length k with
        | some j=>if stro d cl then some (Out.nx (δ.set i (.own (Lw (s.set j d)))))else none
        | none=>none)
       | _=>none)=some o:=h
      split at r
      ·rename_i P;split at r
       ·rename_i j S;split at r
        ·rename_i m;cases r;exact(C _ _ A B).weak λ Dn L H ⟨H0,O,W,R,I,fo,sm,k⟩=>⟨O,W,R,λ v H1 s1 g=>by
          have u:=R.mono s1;obtain⟨a,M,ds0,e0,K,e2,e3,J⟩:=u.own i _ F;cases e0;refine⟨.ref a,K,O,W,u,λ y H2 s2 g2=>?_⟩;have R2:=u.mono s2;refine⟨a,M,P,j,rfl,g2.int (u.hid.mono s2),s2 _ _ e3,by rw[J.length];exact S,?_⟩;exact k L _ W (R2.write F K (RepL.set ((g.mono s2).stro ((Lh).mono s2) m) j (J.mono s2.wo))) I (eT ((sm.trans s1).trans s2) (I a e2))⟩
        ·cases r
       ·cases r
      ·cases r
 ·cases h
def Got.seq(g:Got D O W n H d c v)(m:LW n)(o:c=.strong\/c=.fresh)(f:aQ d=some (b,k)):∃a e,v=.ref a/\(SqL D.K H a e\/SqT D.K H a e)/\RepL D (Ll (O++W)) k e:=by
 have l:c ≠ .weak:=by rcases o with z | z<;>(rw[z];intro q;cases q)
 unfold aQ at f;split at f
 ·cases f;obtain⟨a,e,j,i,h⟩:=g.items m l;exact⟨a,e,j,.inl (SqL.of i),h⟩
 ·cases f;obtain⟨a,e,j,i,h⟩:=g.itemsT m l;exact⟨a,e,j,.inr i,h⟩
 ·cases f
def Fj(hv:PE X (Mo f) (tVar i))(P:∀q,y=some q->PE X e KZ)(z:u7 e=false)(p:(l.endLine==j.line)=true)
  (h:(match δ[i]? with
   | some (.own (.lst u))=>Re.thnS δ y λ d c=>if c=.strong\/c=.fresh then(match aQ d with
    | some (_,s)=>if u.length+s.length<=p7 then some (.nx (δ.set i (.own (Lw (u++s)))))else none
    | none=>none)else none
   | _=>none)=some o):PS X (.Expr (.Call (.Attribute (Mo f) "extend" l) [e] [] j) pos) (dS X.D δ o):=by
 split at h
 ·rename_i u E;cases n:y with
  | none=>rw[n]at h;cases h
  | some q=>
   rw[n]at h;have A:=P q n;cases q with
   | ok d cl=>
    have r:(if cl=.strong\/cl=.fresh then(match aQ d with
     | some (_,s)=>if u.length+s.length<=p7 then some (Out.nx (δ.set i (.own (Lw (u++s)))))else none
     | none=>none)else none)=some o:=h
    split at r
    ·rename_i B;split at r
     ·rename_i b s N;split at r
      ·rename_i m;cases r;exact((λ t (Q:PE X e t)=>gH (rm pU PySem.F.slot_list_extend PySem.F.type_list_extend BD hv (M5 Q X2 (w5 z)) rfl (by rw[w5 z];rfl) p (w5 z) rfl) rfl) _ A).weak λ Dn M H ⟨H0,O,W,R,F,fo,sm,k⟩=>by obtain⟨a,C,ds0,Z,L,Y,K,J⟩:=R.own i _ E;cases Z;refine⟨.ref a,L,.inl ⟨rfl,C,SqL.of K⟩,O,W,R,λ v H1 s1 g=>?_⟩;obtain⟨a2,w,U,S,I⟩:=g.seq Lh B N;refine⟨a,a2,C,w,rfl,by rw[U],s1 _ _ K,S,by rw[J.length,I.length];exact i7 m KL,?_⟩;exact k M _ W ((MB).write E L ((J.mono s1.wo).append I)) F (eT (sm.trans s1) (F a Y))
      ·cases r
     ·cases r
    ·cases r
 ·cases h
def PSs.any{t:ι->TS}(h:∀k,PSs X body (t k)):PSs X body (λ D b H=>∃k,t k D b H):=λ a s b H D I ⟨k,q⟩=>h k a s b H D I q
def PT.any{t:ι->TT}(h:∀k,PT X e (t k)):PT X e (λ b H Q=>∃k,t k b H Q):=λ a s b H Q I ⟨k,q⟩=>h k a s b H Q I q
structure Lp(H0 H1:Hp)(O W:List Addr):Prop where
 out:∀{H:Hp},Same (L2.wo W H1) H->Same H0 H
 outW:∀{a:Addr},L2.wo W H1 a=none->H0 a=none
 in1:∀a∈W,L2.wo W H1 a=none
 in2:∀a∈O,L2.wo W H1 a≠none
 wsame:∀{H:Hp},Same (L2.wo W H1) H->Same (L2.wo (O++W) H1) (Ll (O++W))
def Lp.mk'(fr:∀a∈W,d a=none)(fo:∀a∈O,d a≠none)(sm:Same d g):Lp d g O W where
 out:=λ {H} s b u e=>s b u (by
  rw[k8 λ z=>by rw[fr b z]at e;cases e];exact sm b u e)
 outW:=λ {a} q=>by
  by_cases z:a∈W
  ·exact fr a z
  ·rw[k8 z]at q;exact sm.free q
 in1:=λ a c=>ai c
 in2:=λ a c=>by rw[k8 λ z=>fo a c (fr a z)];intro q;exact fo a c (sm.free q)
 wsame:=λ {H} s b u e=>by obtain⟨f,e⟩:=C7 e;rw[k8 f];exact s b u (by rwa [k8 λ z=>f (A0 _ z)])
def Lp.gotR(L:Lp b a O W)(g:GotR D O (L2.wo W a) H d fr v):GotR D O b H d fr v:=by
 cases fr with
 | false=>exact g
 | true=>
  obtain⟨p,c,k,j,i,h,f,e⟩:=g;exact⟨p,c,k,j,i,L.outW h,f,e⟩
def Fk(hp:PassesOwn KO X.A X.env X.xe)(hc:Mk)(hi:∀q,ri=some q->PI X u j (dI X.D δ q))(hG:PG X u (gT X.K tg))(hb:∀δ' o,f δ'=some o->PSs X body (dS X.D δ' o))(M:K0 j=false)
  (h:(Ri.thnS δ ri λ l c=>if c=.strong\/c=.fresh then C6 tg f l δ else none)=some o):PS X (.For u j body [] pos) (dS X.D δ o):=by
 have B:PSs X body (λ D E H=>∃k:{p:on Sv×Out // f p.1=some p.2},dS X.D k.1.1 k.1.2 D E H):=PSs.any λ k=>hb k.1.1 k.1.2 k.2;cases C:ri with
 | none=>rw[C]at h;cases h
 | some q=>
  rw[C]at h;have A:=hi q C;cases q with
  | ok l c=>
   have h':(if c=.strong\/c=.fresh then C6 tg f l δ else none)=some o:=h;split at h'
   ·rename_i m;refine(zh hp hc A hG B (mP M)).weak λ Dn E H ⟨H0,O,W,R,fr,fo,sm,k⟩=>⟨O,W,R,λ J I s1 w=>?_⟩
    have R1:=R.mono s1;have L:=Lp.mk' fr fo (sm.trans s1);have w:Wk X.D J l (O++W) (O++W) I:=(by rcases m with m | m<;>subst m<;>exact w);refine⟨λ i n E H=>n=l.length - i/\i<=l.length/\∃b F,C6 tg f (l.drop i) b=some o/\RSt X.D H E b O F/\(∀a∈F,L2.wo W I a=none)/\Same (L2.wo W I) H,
     ⟨l.length,rfl,D9 _,δ,W,h',R1,L.in1,x5⟩,?_⟩
    rintro i n S P ⟨rfl,hi,b,W2,hgo,R2,b1,b2⟩
    by_cases s:i<l.length
    ·refine .inr ⟨w.go i P (L.wsame b2) s,λ E H=>∃b F,C6 tg f _ b=some o/\RSt X.D H E b O F/\_/\Same (L2.wo W I) H,
      λ U H' q=>⟨l.length - (i+1),by omega,rfl,s,q⟩,λ x H3 y=>?_⟩
     have Y:=w.same i P x H3 y;have y3:=w.yld i P x H3 _ (O++W2) (L.wsame b2) (L.wsame b2) y (m7 s) λ a Q=>⟨R2.hid.ot a Q,by
      rcases F1.mp Q with z | z
      ·exact .inl (E3 _ z)
      ·have q:=b1 a z;by_cases hw:a∈W
       ·exact .inl (A0 _ hw)
       ·rw[k8 hw]at q;exact .inr q⟩
     rw[pI s]at hgo;unfold C6 at hgo;split at hgo
     ·cases hgo
     ·rename_i K a2;refine mM (R2.mono Y) y3 a2 λ σ3 R3=>?_
      split at hgo
      ·rename_i r a1;exact⟨⟨⟨K,.nx r⟩,a1⟩,L2.wo W I,O,W2,R3,b1,L.in2,b2.trans Y,λ U H' F R' N Z=>⟨r,F,hgo,R',N,Z⟩⟩
      ·rename_i a0;refine⟨⟨⟨K,o⟩,hgo⟩,L2.wo W I,O,W2,R3,b1,L.in2,b2.trans Y,?_⟩;cases o with
       | nx r=>exact absurd hgo (a0 r)
       | rt d N=>exact λ v H' s' g=>k v H' (L.out s') (L.gotR g)
    ·have e:i=l.length:=by omega
     subst e;rw[jS]at hgo;cases hgo;exact .inl ⟨w.stop P (L.wsame b2),k S P W2 R2 (λ a Q=>L.outW (b1 a Q)) (L.out b2)⟩
   ·cases h'
def Fm(J:PassesOwn KO X.A X.env X.xe)(K:∀δ' r,e δ'=some r->PT X c (dT X.D δ' r))(M:∀δ' o,f δ'=some o->PSs X body (dS X.D δ' o))(h:O4 e f n δ=some o):PS X (.While c body [] pos) (dS X.D δ o):=by
 have B:PSs X body (λ D j H=>∃k:{p:on Sv×Out // f p.1=some p.2},dS X.D k.1.1 k.1.2 D j H):=PSs.any λ k=>M k.1.1 k.1.2 k.2;have T:PT X c (λ j H Q=>∃k:{p:on Sv×Rt // e p.1=some p.2},dT X.D k.1.1 k.1.2 j H Q):=PT.any λ k=>K k.1.1 k.1.2 k.2;refine(yV J T B).weak λ Dn j H t0=>?_;obtain⟨H0,O,W,R,P,fo,sm,k⟩:=t0;have L:=Lp.mk' P fo sm;refine⟨λ m j w=>∃b u,O4 e f m b=some o/\RSt X.D w j b O u/\(∀a∈u,L2.wo W H a=none)/\Same (Ll W) w,⟨n,δ,W,h,R,L.in1,x5⟩,?_⟩
 rintro m A w ⟨b,W2,hgo,R2,b1,b2⟩
 cases m with
 | zero=>cases hgo
 | succ m=>
  unfold O4 at hgo;split at hgo
  ·cases hgo
  ·rename_i l;cases hgo;refine⟨⟨⟨b,.ok false⟩,l⟩,O,W2,R2,λ x s=>iteF ?_⟩;exact k A x W2 (R2.mono s) (λ a N=>L.outW (b1 a N)) (L.out (b2.trans s))
  ·rename_i l;refine⟨⟨⟨b,.ok true⟩,l⟩,O,W2,R2,λ x s=>iteT ?_⟩;refine⟨λ j w=>∃b u,O4 e f m b=some o/\RSt X.D w j b O u/\_/\Same _ w,λ C x q=>⟨m,Y7 m,q⟩,?_⟩;split at hgo
   ·rename_i i y;exact⟨⟨⟨b,.nx i⟩,y⟩,L2.wo W H,O,W2,R2.mono s,b1,L.in2,b2.trans s,λ C x u S z E=>⟨i,u,hgo,S,z,E⟩⟩
   ·rename_i F;refine⟨⟨⟨b,o⟩,hgo⟩,L2.wo W H,O,W2,R2.mono s,b1,L.in2,b2.trans s,?_⟩;cases o with
    | nx i=>exact absurd hgo (F i)
    | rt d z=>exact λ v x I g=>k v x (L.out I) (L.gotR g)
def RSt.anyNo(R:Mr D)(n:δ[i]? = some .no)(x:Kr V):RSt D H (σ.set i x) δ O W:=by
 have ne:∀{j:Nat} {s:Sv},δ[j]? = some s->s ≠ .no->j≠i:=λ {j s} h l z=>by subst z;rw[n]at h;cases h;exact l rfl
 have b:∀{j:Nat},j≠i->(σ.set i x)[j]? = σ[j]?:=λ {j} m=>A2 (Mq m);refine⟨λ j d h=>?_,λ j d h=>?_,λ j k a p o e c g f=>?_,R.od.step (λ j d h=>⟨h,b (ne h KP)⟩) (λ _ h _=>h) (λ _ _ _ h _=>h),by rw[E4];exact R.len,R.hid⟩
 ·rw[b (ne h KP)];exact R.val j d h
 ·rw[b (ne h KP)];exact R.own j d h
 ·rw[b (ne e KP)]at g;rw[b (ne c KP)]at f;exact R.inj j k a p o e c g f
section
variable {κ:Type} [DecidableEq κ]
noncomputable def valV(kvs:on (κ×V))(k:κ):Kr V:=(kvs.find? λ kv=>decide (kv.1=k)).map (·.2)
noncomputable def putK(kvs:on (κ×V))(k:κ)(v:V):on (κ×V):=
 if(kvs.any λ kv=>decide (kv.1=k))=true then kvs.map (λ kv=>if kv.1=k then(kv.1,v)else kv)else kvs++[(k,v)]
def cj{k:κ}(e:p.1=k):valV (p::r) k=some p.2:=by simp[valV,bA,e]
def cn{k:κ}(e:¬p.1=k):valV (p::r) k=valV r k:=by simp[valV,bA,e]
theorem mS(k:κ):∀a:on (κ×V),(a.any λ b=>decide (b.1=k))=(valV a k).isSome
 | []=>rfl
 | p::r=>by
  rw[G0];by_cases e:p.1=k
  ·simp only[cj e,C5 e,Bool.true_or,Option.isSome_some]
  ·rw[cn e,B8 e,kg];exact mS k r
def uC(a:on (κ×V))(k:κ)(v:V):(putK a k v).length<=a.length+1:=by
 unfold putK;split
 ·rw[g8];omega
 ·rw[t9,x9,jW];omega
def RelO.isSome_eq(r:RelO o u):o.isSome=u.isSome:=by
 cases o with
 | none=>cases u with
  | none=>rfl
  | some _=>exact(r).elim
 | some _=>cases u with
  | none=>exact(r).elim
  | some _=>rfl
def KV.val(r:KV a vs)(k:κ):RelO (valV a k) (valueAt vs k):=by
 unfold KV at r
 induction r with
 | nil=>exact True.intro
 | @cons p q ps qs h t ih=>
  obtain⟨d,f⟩:=h;by_cases e:p.1=k
  ·have c:=d.symm.trans e;have b:valueAt (q::qs) k=some q.2:=by simp[valueAt,bA,c]
   rw[cj e,b];exact f
  ·have c:¬q.1=k:=λ z=>e (d.trans z);have b:valueAt (q::qs) k=valueAt qs k:=by simp[valueAt,bA,c]
   rw[cn e,b];exact ih
theorem KV.any(r:KV a vs)(k:κ):(a.any λ b=>decide (b.1=k))=vs.any λ b=>decide (b.1=k):=by
 unfold KV at r
 induction r with
 | nil=>rfl
 | cons h t c=>rw[G0,G0,c,h.1]
def KV.repl(r:KV b vs)(k:κ)(d:RelV y u) :
  KV (b.map λ a=>if a.1=k then(a.1,y)else a) (vs.map λ a=>if a.1=k then(a.1,u)else a):=by
 unfold KV at r ⊢
 induction r with
 | nil=>exact .nil
 | @cons p q ps qs h t ih=>
  rw[A3,A3];refine .cons ?_ ih;obtain⟨c,f⟩:=h;by_cases e:p.1=k
  ·rw[f8 e,f8 (c.symm.trans e)];exact⟨c,d⟩
  ·rw[g9 e,g9 (λ z=>e (c.trans z))];exact⟨c,f⟩
def KV.put(r:KV a vs)(k:κ)(b:RelV y u):KV (putK a k y) (stored vs k u):=by
 unfold putK stored;rw[r.any k];by_cases e:(vs.any λ c=>decide (c.1=k))=true
 ·rw[f8 e,f8 e];exact r.repl k b
 ·rw[g9 e,g9 e];exact Paired.snoc r ⟨rfl,b⟩
theorem KV.length(r:KV a vs):a.length=vs.length:=gh r
end
def mT(r:RelV (kV k) u):(G5 P w).is k u=true:=by
 cases k with
 | inl i=>obtain⟨t,e⟩:=(r);subst e;exact yw P w i t
 | inr x=>obtain⟨t,e⟩:=(r);subst e;exact yx P w x t
theorem iM:∀{ks:on Key} {us:on Ks},Vals (ks.map kV) us->ItemsAre (G5 P w) ks us
 | [],_,r=>by rw[kj]at r;cases r;exact .nil
 | k::ks,_,r=>by
  rw[A3]at r;cases r with
  | cons h t=>exact .cons (mT h) (iM t)
abbrev KT(H:Hp):on (on Key×V)->on (on Key×Ku×Ks)->Prop:=Paired λ p q=>p.1=q.1/\H q.2.1=some (.tup (p.1.map kV))/\RelV p.2 q.2.2
def KT.val(r:KT H a xs)(k:on Key):RelO (valV a k) ((atKey xs k).map (·.2)):=by
 induction r with
 | nil=>exact True.intro
 | @cons p q ps qs h t ih=>
  obtain⟨d,_,f⟩:=h;by_cases e:p.1=k
  ·have c:=d.symm.trans e;have b:atKey (q::qs) k=some q.2:=by simp[atKey,bA,c]
   rw[cj e,b];exact f
  ·have c:¬q.1=k:=λ z=>e (d.trans z);have b:atKey (q::qs) k=atKey qs k:=by simp[atKey,bA,c]
   rw[cn e,b];exact ih
def KT.repl(r:KT H a xs)(k:on Key)(f:RelV y u) :
  KT H (a.map λ c=>if c.1=k then(c.1,y)else c) (xs.map (putAt k u)):=by
 induction r with
 | nil=>exact .nil
 | @cons p q ps qs h t ih=>
  rw[A3,A3];refine .cons ?_ ih;obtain⟨b,d,g⟩:=h;unfold putAt;by_cases e:p.1=k
  ·rw[f8 e,f8 (b.symm.trans e)];exact⟨b,d,f⟩
  ·rw[g9 e,g9 (λ z=>e (b.trans z))];exact⟨b,d,g⟩
def KT.put(r:KT H a xs)(k:on Key)(d:H b=some (.tup (k.map kV)))(c:RelV y u) :
  KT H (putK a k y) (storedH xs k b u):=by
 have e:(a.any λ kv=>decide _)=(atKey xs k).isSome:=(by rw[mS,(r.val k).isSome_eq,Option.isSome_map]);unfold putK storedH;rw[e];by_cases q:(atKey xs k).isSome=true
 ·rw[f8 q,f8 q];exact r.repl k c
 ·rw[g9 q,g9 q];exact Paired.snoc r ⟨rfl,d,c⟩
def KT.keeps(r:KT H a xs)(e:∀b c,H b=some (.tup c)->d b=some (.tup c)):KT d a xs:=
 Paired.mapP r λ _ _ z=>⟨z.1,e _ _ z.2.1,z.2.2⟩
def mU(ok:HOk P w H h)(e:Rd H a u):u6 P w H h a u:=e.ok ok
def mV(ok:HOk P w H h)(e:Rd H a (.dK b)):b.length<=sizeLine/\(a==sysModules)=false/\∃vs,KV b vs/\h.DictOf (G5 P w) a vs:=
 show u6 P w H h a (.dK b)from mU ok e
def Fn(ok:HOk P w H h)(e:H a=some (.dK b)):b.length<=sizeLine/\(a==sysModules)=false/\∃vs,KV b vs/\h.DictOf (G5 P w) a vs:=mV ok (.inl e)
def mW(ok:HOk P w H h)(e:H a=some (.tup (ks.map kV))):(tupleKind (G5 P w)).is h ks a:=by
 obtain⟨_,b,r,o,f,d,n,c⟩:=(show u6 P w H h a (.tup _)from ok a _ e);exact⟨o,b.toArray,n,f,d.1,c,by simpa using iM r⟩
def cq(ok:HOk P w H h)(e:Rd H a (.dT b)):b.length<=sizeLine/\(a==sysModules)=false /\
  ∃xs,KT H b xs/\h.DictOfH (tupleKind (G5 P w)) a xs:=by
 obtain⟨z,y,xs,r,o,k,n,j,i,g,f,d⟩:=(show u6 P w H h a (.dT b)from mU ok e);refine⟨z,y,xs,r,o,k,n,j,i,g,f,λ x c=>?_,d⟩;have all:∀{l:on _} {m:on _},KT H l m->∀x∈m,(tupleKind (G5 P w)).is h x.1 x.2.1:=by
  intro l m q
  induction q with
  | nil=>intro x c;exact nomatch c
  | @cons p q ps qs hq t ih=>
   intro x c;rcases i6.mp c with e | c
   ·subst e;exact mW ok (by rw[←hq.1];exact hq.2.1)
   ·exact ih x c
 exact all r x c
def Fo(ok:HOk P w H h)(e:H a=some (.dT b)):b.length<=sizeLine/\(a==sysModules)=false /\
  ∃xs,KT H b xs/\h.DictOfH (tupleKind (G5 P w)) a xs:=cq ok (.inl e)
def DGet(H:Hp)(a:Ku)(y:V)(r:Kr V):Prop:=
 (∃kvs k,Rd H a (.dK kvs)/\y=kV k/\r=valV kvs k)\/∃kvs k b,Rd H a (.dT kvs)/\y=.ref b/\H b=some (.tup (k.map kV))/\r=valV kvs k
def DPut(H:Hp)(a:Ku)(y v:V)(H':Hp):Prop:=
 (∃kvs k,H a=some (.dK kvs)/\y=kV k/\kvs.length<sizeLine/\H'=upd H a (.dK (putK kvs k v))) \/
 ∃kvs k b,H a=some (.dT kvs)/\y=.ref b/\H b=some (.tup (k.map kV))/\kvs.length<sizeLine/\H'=upd H a (.dT (putK kvs k v))
def DPut.t{k:on Key}(e:H a=some (.dT c))(f:H b=some (.tup (k.map kV)))(d:c.length<sizeLine) :
  DPut H a (.ref b) v (upd H a (.dT (putK c k v))):=.inr ⟨c,k,b,e,rfl,f,d,rfl⟩
def Inv.big(I:KR a):sysModules<s.heap.objs.size:=by
 exact dv KL ((I.mod.glob.keeps I.bk).lt)
def Fp(x:A.units+1<cLine)(I:KR c)(g:DGet H a y (some v))(w:RelV y u)(h:∀i r,Inv X c σ H r->RelV v i->Q i r) :
  wpAny KO A (getItem (.ref a) u) Q E s:=by
 rcases g with⟨j,k,e,o,l⟩ | ⟨j,k,b,e,o,eb,l⟩
 ·subst o;obtain⟨z,hd,vs,f,q⟩:=mV I.hok e;obtain⟨i,m,d⟩:=RelO.some_of (by rw[l];exact f.val k);exact wpAny_getItem_of (mT w) q.mapOf m (h i _ (I.tok _) d)
 ·subst o;cases(w);obtain⟨z,hd,xs,f,q⟩:=cq I.hok e;obtain⟨i,m,d⟩:=RelO.some_of (by rw[l];exact f.val k);obtain⟨p,B,n⟩:=A6.mp m;refine wpAny_getItem_heap (fL x) (mW I.hok eb) q B ?_;rw[n];exact h i _ (I.tok _) d
def uD(I:KR c)(e:Mut (H a))(f:Heap.SameBut a s.heap h')(g:∃q,h'.get? a=some q)(new:u6 X.prog X.w (upd H a d) h' a d) :
  Inv X c σ (upd H a d) {s with heap:=h',toks:=t'}:=
 I.write e Mv (λ b q h z=>(f.2 b h).trans z) g new
def Fq(z:b.length<=sizeLine)(hd:(a==sysModules)=false)(c:KV b vs)(dd:h'.DictOf (G5 P w) a vs) :
  u6 P w d h' a (.dK b):=⟨z,hd,vs,c,dd⟩
def Fs(P:A.units+1<cLine)(I:KR j)(g:DPut H a y v L)(C:RelV y u)(F:RelV v r)(h:∀B,Inv X j σ L B->Q () B) :
  wpAny KO A (setItem (.ref a) u r) Q E s:=by
 rcases g with⟨f,k,e,p,l,w⟩ | ⟨f,k,b,e,p,eb,l,w⟩
 ·subst p w;obtain⟨z,hd,N,d,x⟩:=Fn I.hok e;have O:N.length<=sizeLine:=by rw[←d.length];exact z
  have o:(putK f k v).length<=sizeLine:=by have:=uC f k v;omega
  refine wpAny_setItem_pairs (mT C) x λ J i n=>h _ ?_;have R:∃q,J.get? a=some q:=let ⟨q,_,_,m,_⟩:=i;⟨q,m⟩;exact uD I (by rw[e];exact True.intro) n R (Fq o hd (d.put k F) i)
 ·subst p w;cases(C);obtain⟨z,hd,M,d,x⟩:=Fo I.hok e;have O:M.length<=sizeLine:=by rw[←gh d];exact z
  have o:(putK f k v).length<=sizeLine:=by have:=uC f k v;omega
  refine wpAny_setItem_heap (fL P) (mW I.hok eb) x λ J i n=>h _ ?_;obtain⟨q,Z,ep,m,Y,W,U,_,S⟩:=i;refine uD I (by rw[e];exact True.intro) n ⟨q,m⟩ ⟨o,hd,_,(d.put k eb F).keeps λ c ys K=>?_,q,Z,ep,m,Y,W,U,S⟩;rw[n6 (yy K e LI)];exact K
def NoSl(i:Kw):Prop:=∀ov iv,subscripted i false ov iv=operate [ov,iv] (getItem ov iv)
def Ft
  (p:typeLookup (.type T) "__getitem__" = pure (some (.builtin m))) (n:NoSl a)
  (h:wpAny KN A (eval b env) (λ o f=>wpAny KN A (eval a env) (λ i c=>c.TypeIs o T/\wpAny KN A (getItem o i) Q E c) E f) E s) :
  wpAny KN A (eval (.Subscript b a pos) env) Q E s:=by
 refine Subscript_ (B4 h (λ o f j=>B4 j (λ i c d=>?_) λ _ _ x=>x) λ _ _ x=>x);obtain⟨l,d⟩:=d;unfold subscriptTail;refine f0 ?_;rw[getitemInPython_of_ne l.not_modules];refine f0 (wpAny_specialOf l p ?_);have k:wpAny KN A (subscripted a false o i) (λ r e=>wpAny KN A (letTemporaryGo b o r >>= λ _=>pure r) Q E e) E c:=by rw[n o i];exact wpAny_operating (B4 d (λ r e g=>f0 (wpAny_letTemporaryGo (f9 g))) λ _ _ x=>x)
 first
  | exact f9 (f0 k)
  | exact f0 _
  | exact f0 k
def Fu(I:KR c)(g:DGet H a y o):s.TypeIs (.ref a) "dict":=by
 rcases g with⟨d,k,e,_,_⟩ | ⟨d,k,b,e,_,_,_⟩
 ·obtain⟨_,_,vs,_,f⟩:=mV I.hok e;exact f.typeIs
 ·obtain⟨_,_,xs,_,f⟩:=cq I.hok e;exact f.typeIs
noncomputable def Fv(td ty tv:TE):TS:=λ D σ H=>tv σ H λ v H1=>td σ H1 λ x H2=>ty σ H2 λ y H3=>∃a H4,x=.ref a/\DPut H3 a y v H4/\D.nx σ H4
def Fw(w:X.A.units+1<cLine)(A:PE X o f)(B:PE X i ty)(hv:PE X b e)(z:swapsWith b (some (.Subscript o i pos')) pos.line X.env=pure false) :
  PS X (.Assign [.Subscript o i pos'] b pos) (Fv f ty e):=by
 intro c s d H D I h;refine wpAny_Assign_Subscript (thn (hv c s d H _ I h) λ r s1 ⟨v,M,J,m,q⟩=>thn (A c s1 d M _ J q) λ u j ⟨x,L,F,l,p⟩=>thn (B c j d L _ F p) λ iv s3 ⟨y,H3,E,k,a,K,ex,g,n⟩=>?_) z;subst ex;obtain rfl:u=Value.ref a:=l;exact Fs w E g k m λ s4 C=>⟨d,K,C,n⟩
def Fx(h:Kv)(a:sysModules<h.objs.size):u6 P w H (h.push {cls:=.type "dict",data:=.dict #[]}) h.objs.size (.dT []):=
 ⟨D9 _,x8.mpr (Mq (q9 a)),[],.nil,_,#[],0,r9 _ rfl,⟨rfl,rfl,rfl⟩,rfl,rfl,gb⟩
def Fy:TE:=λ _ H Q=>∀p,H p=none->Q (.ref p) (upd H p (.dT []))
def Fz:PE X (.Dict [] [] pos) Fy:=λ a s σ H Q I h=>
 wpAny_Dict_empty ⟨.ref s.heap.objs.size,_,I.laid (λ _ _ q=>n7 _ q) (i9 _) (Fx s.heap I.big),rfl,h _ (I.hok.fresh (i9 _))⟩
def RSt.growD(R:Mr D)(k:H p=none)(u:mutO i=true):RSt D (upd H p i) σ δ O (p::W):=by
 have s:Same H (upd H p i):=x4 k;have c:Same _ (L2.wo (O++(p::W)) _):=λ b o e=>by
  obtain⟨w,e⟩:=C7 e;rw[k8 λ z=>?_]
  ·exact s b o e
  ·rcases i6.mp (eR.mp z)with z | z
   ·rw[z,k]at e;cases e
   ·exact w z
 refine⟨λ j d h=>?_,λ j d h=>?_,R.inj,R.od.step (λ j d h=>⟨h,rfl⟩) (λ _ h _=>o4 _ h) (λ a _ _ h _=>s _ _ h),R.len,⟨λ a f=>?_,Same.refl _,λ a f=>?_,λ a f=>?_,R.hid.omS s⟩⟩
 ·obtain⟨v,n,l⟩:=R.val j d h;exact⟨v,n,l.mono c⟩
 ·obtain⟨a,g,r,A,n,l,y,x⟩:=R.own j d h;exact⟨a,g,r,A,n,o4 _ l,s _ _ y,x.mono c⟩
 ·rcases i6.mp (eR.mp f)with z | z
  ·rw[z,y9];intro q;cases q
  ·intro q;exact R.hid.ot a z (s.free q)
 ·rcases i6.mp f with z | z
  ·exact⟨_,by rw[z];exact y9,u⟩
  ·obtain⟨g,q,m⟩:=R.hid.wl a z;exact⟨g,s _ _ q,m⟩
 ·rcases i6.mp f with z | z
  ·intro q;exact R.hid.ot p (E3 _ (by rw[←z];exact q)) k
  ·exact R.hid.dj a z
def RSt.setOd(R:Mr D)(x:p∈W)(m:OdOk u p l)(A:H p=some l)(c:noOt i δ=true):RSt D H (σ.set i (Md p)) (δ.set i (.od u)) O W:=by
 refine⟨λ j d h=>?_,λ j d h=>?_,λ j k a C B g f r o=>?_,λ j d h=>?_,by rw[E4,E4];exact R.len,R.hid⟩
 ·have b:=V5 h KP;rw[A2 (Mq b)]at h ⊢;exact R.val j d h
 ·have b:=V5 h KP;rw[A2 (Mq b)]at h ⊢;exact R.own j d h
 ·have w:=V5 g KP;have v:=V5 f KP;rw[A2 (Mq w)]at g r;rw[A2 (Mq v)]at f o;exact R.inj j k a C B g f r o
 ·have b:j=i:=by
   by_cases b:j=i
   ·exact b
   ·rw[A2 (Mq b)]at h;exact uz c h
  subst b;obtain⟨y,e⟩:=eS h;cases e;refine⟨⟨p,l,m,K6 (by rw[R.len];exact y),x,A⟩,λ k d' q=>?_⟩;by_cases n:k=j
  ·exact n
  ·rw[A2 (Mq n)]at q;exact uz c q
def RSt.writeOd(R:Mr D)(K:δ[i]? = some (.od d))(P:σ[i]? = some (Md p))(B:p∈W)(Q:H p=some I)(C:dicO I=true)(w:OdOk y p x):RSt D (upd H p x) σ (δ.set i (.od y)) O W:=by
 have u:Same _ (L2.wo (O++W) (upd H p x)):=λ b o e=>by obtain⟨r,e⟩:=C7 e;rw[k8 r,n6 λ z=>r (by rw[z];exact A0 _ B)];exact e
 have A:∀{b:Ku} {n:on V},H b=some (.lst n)->b≠p:=λ {b n} h z=>by rw[z,Q]at h;cases h;cases C
 refine⟨λ j d h=>?_,λ j d h=>?_,λ j k a y X l g U S=>?_,λ j d h=>?_,by rw[E4];exact R.len,⟨λ b r q=>?_,Same.refl _,λ b r=>?_,R.hid.dj,R.hid.omW B⟩⟩
 ·have f:=V5 h KP;rw[A2 (Mq f)]at h;obtain⟨v,l,g⟩:=R.val j d h;exact⟨v,l,g.mono u⟩
 ·have f:=V5 h KP;rw[A2 (Mq f)]at h;obtain⟨b,n,E,M,l,g,F,L⟩:=R.own j d h;exact⟨b,n,E,M,l,g,by rw[n6 (A F)];exact F,L.mono u⟩
 ·have N:=V5 l KP;rw[A2 (Mq N)]at l;rw[A2 (Ne.symm (V5 g KP))]at g;exact R.inj j k a y X l g U S
 ·have f:j=i:=by
   by_cases f:j=i
   ·exact f
   ·rw[A2 (Mq f)]at h;exact(R.od i _ K).2 j _ h
  subst f;obtain⟨hl,e⟩:=eS h;cases e;refine⟨⟨p,x,w,P,B,y9⟩,λ k d' q=>?_⟩;by_cases J:k=j
  ·exact J
  ·rw[A2 (Mq J)]at q;exact(R.od j _ K).2 k _ q
 ·by_cases c:b=p
  ·rw[c,y9]at q;cases q
  ·rw[n6 c]at q;exact R.hid.ot b r q
 ·by_cases c:b=p
  ·exact⟨_,by rw[c];exact y9,w.mut⟩
  ·obtain⟨n,q,m⟩:=R.hid.wl b r;exact⟨n,by rw[n6 c];exact q,m⟩
section
variable {X:Cx} {δ:on Sv} {o:Out} {e ek ed ea:Kw} {pos pos' npos spos apos cpos:Pos} {ra rb rc:Kr Re} {i:Nat} {x:Str} {re:Re}
def FA(L:on ((Int×Int)×Int)):(oeK L).map (λ p=>DKey.t p.1)=L.map λ p=>.t [.inl p.1.1,.inl p.1.2]:=by
 unfold oeK;rw[o9];rfl
def FB(L:on ((Int×Int)×Int)):RepL D H (MC p.2) ((oeK L).map (·.2)):=by
 unfold oeK;rw[o9]
 induction L with
 | nil=>exact E2.mpr rfl
 | cons p r a=>exact w6.mpr ⟨_,_,rfl,z8.mpr rfl,a⟩
def dkO:HO->Bool
 | .dK _=>true
 | .dT _=>true
 | _=>false
def FC(hv:PE X (Mo npos) (tVar i)):PE X (Mo npos) (λ k H Q=>∃a o,k[i]? = some (Md a)/\H a=some o/\dkO o=true/\∀c,Q (.ref a) (upd H a (.frz c o))):=by
 intro g s k H Q I h;obtain⟨a,o,y,f,d,q⟩:=h;refine thn (hv g s k H (λ v j=>v=.ref a/\j=H) I ⟨_,y,rfl,rfl⟩) λ u s1 t0=>?_;obtain⟨v,j,n,r1,w,r⟩:=t0
 subst w r;have ok:=n.hok _ _ f;obtain⟨c,z5⟩:∃c,s1.heap.get? a=some c:=by
  cases o with
  | dK m=>obtain⟨_,_,_,_,c,_,_,e,_⟩:=ok;exact⟨c,e⟩
  | dT m=>obtain⟨_,_,_,_,c,_,_,e,_⟩:=ok;exact⟨c,e⟩
  | _=>cases d
 have l:u6 X.prog X.w (upd j a (.frz c o)) s1.heap a o:=by
  refine ok.stay (λ _ _ _ e=>e) (λ b e=>?_) (λ b p e=>?_) (λ b p e=>?_) λ b _ _ _ _ e=>?_
  ·rw[n6 λ z=>by rw[z,f]at e;cases e;cases d];exact e
  ·rw[n6 λ z=>by rw[z,f]at e;cases e;cases d];exact e
  ·rw[n6 λ z=>by rw[z,f]at e;cases e;cases d];exact e
  ·rw[n6 λ z=>by rw[z,f]at e;cases e;cases d];exact e
 exact⟨.ref a,upd j a (.frz c o),n.write (by rw[f];cases o<;>first | trivial | cases d) (.inl rfl) (λ b u hb e=>e) ⟨c,z5⟩ ⟨z5,l⟩,r1,q c⟩
def FE (hv : PE X (Mo npos) (tVar i)) (h : (match δ[i]? with
   | some (.od d) => if isDc d then some (Out.rt (unT d) false) else none
   | _ => none) = some o) : PS X (.Return (some (Mo npos)) pos) (dS X.D δ o) := by
 split at h
 ·rename_i d f;split at h
  rotate_left
  ·cases h
  rename_i g;cases h;refine (bK (FC hv)).weak λ Dn σ H ⟨H0, O, W, R, j, fo, sm, k⟩ => ?_
  obtain ⟨⟨p, ob, n, m, a, l⟩, u⟩ := R.od i _ f;obtain ⟨L, c, b⟩ := n;subst c b;refine ⟨p, _, m, l, rfl, λ e => k _ _ (eT sm (j p a)) ?_⟩;show Rep X.D _ _ _;exact S6.mpr (.inr ⟨p, e, oeK L, rfl, by rw [k8 (R.hid.dj p a)]; exact y9, FA L, FB L⟩)
 ·cases h
def uE(h:U8 ek=false):NoSl ek:=λ ov iv=>by cases ek<;>first | rfl | cases h
theorem uF:∀{a:on (Key×V)} {b:on DV},RepL D H b (a.map (·.2))->J3 (.s k) (a.map λ p=>dKey p.1) b=some d->∃v,valV a (.inr k)=some v/\Rep D H d v
 | [],b,r,h=>by cases b<;>cases h
 | _::a,[],r,h=>by cases h
 | (e,g)::a,n::b,r,h=>by
  obtain⟨w,ws,m,l,i⟩:=w6.mp r;cases m;have c:(if dKey e=.s k then some n else J3 (.s k) _ b)=some d:=h;by_cases f:e=.inr k
  ·subst f;rw[f8 (show dKey _=.s k from rfl)]at c;cases c;rw[cj rfl];exact⟨g,rfl,l⟩
  ·rw[g9 (λ z=>f (by cases e with | inl j=>cases z | inr j=>cases z;rfl))]at c;rw[cn f];exact uF i c
theorem mX{d:Type}{f:d->DKey}:∀{l:on d} {c:on DV},(∀a∈l,f a≠k)->J3 k (l.map f) c=none
 | [],c,_=>by cases c<;>rfl
 | a::l,[],_=>rfl
 | a::l,v::c,h=>by
  show(if f a=k then some v else J3 k _ c)=none;rw[g9 (h a (o5 ..))];exact mX λ b e=>h b (o4 _ e)
theorem uG:∀{a:on (on Key×V)} {b:on DV},RepL D H b (a.map (·.2))->J3 (.t k) (a.map λ p=>DKey.t p.1) b=some (.int v)->valV a k=some (.int v)
 | [],b,r,h=>by cases b<;>cases h
 | _::a,[],r,h=>by cases h
 | (g,f)::a,d::b,r,h=>by
  obtain⟨w,ws,l,j,i⟩:=w6.mp r;cases l;have c:(if DKey.t g=.t k then some d else J3 (.t k) _ b)=some _:=h;by_cases e:g=k
  ·subst e;rw[f8 rfl]at c;cases c;rw[cj rfl];show some f=_;rw[show f=.int v from z8.mp j]
  ·rw[g9 (λ z=>e (DKey.t.inj z))]at c;rw[cn e];exact uG i c
def mY(K:KC)(H:Hp)(a:Ku)(y:V)(r:Kr V):Prop:=DGet H a y r\/∃kvs k b,Rd H a (.dT kvs)/\y=.ref b/\SqT K H b (k.map kV)/\r=valV kvs k
def uH(I:KR c)(e:SqT X.K H a (ks.map kV)):(tupleKind (G5 X.prog X.w)).is s.heap ks a:=by
 rcases e with h | ⟨o,b,n,g,f,d,_,h5⟩
 ·obtain⟨_,b,r,o,g,f,n,d⟩:=(show u6 X.prog X.w H s.heap a (.tup _)from mU I.hok h);exact⟨o,b.toArray,n,g,f.1,d,by simpa using iM r⟩
 ·exact⟨o,b,n,I.kIn a o g,f.1,d,iM h5⟩
def FG{E:Ks->Kt->Prop}(o:A.units+1<cLine)(I:KR c)(g:mY X.K H a y (some v))(n:RelV y u)(h:∀d m,Inv X c σ H m->RelV v d->Q d m) :
  wpAny KO A (getItem (.ref a) u) Q E s:=by
 rcases g with g | ⟨kvs,k,b,e,ey,eb,l⟩
 ·exact Fp o I g n h
 ·subst ey;cases(n);obtain⟨z,hd,xs,i,w⟩:=cq I.hok e;obtain⟨d,q,f⟩:=RelO.some_of (by rw[l];exact i.val k);obtain⟨p,r,j⟩:=A6.mp q;refine wpAny_getItem_heap (fL o) (uH I eb) w r ?_;rw[j];exact h d _ (I.tok _) f
def FH{o:Kr V}(I:KR c)(g:mY X.K H a y o):s.TypeIs (.ref a) "dict":=by
 rcases g with g | ⟨kvs,k,b,e,ey,eb,l⟩
 ·exact Fu I g
 ·obtain⟨_,_,xs,_,d⟩:=cq I.hok e;exact d.typeIs
noncomputable def FJ(K:KC)(td ty:TE):TE:=λ σ H Q=>td σ H λ x H1=>ty σ H1 λ y H2=>∃a v,x=.ref a/\mY K H2 a y (some v)/\Q v H2
def uI{e:TE}(m:X.A.units+1<cLine)(o:PE X ea e)(p:PE X ek ty)(n:NoSl ek):PE X (.Subscript ea ek pos) (FJ X.K e ty):=by
 intro b s d H Q I h;refine Ft PySem.F.slot_dict_getitem.lookup n (thn (o b s d H _ I h) λ u s1 ⟨x,z,r,j,l⟩=>thn (p b s1 d z _ r l) λ iv s2 t0=>?_);obtain⟨y,w,f,i,a,v,ex,g,k⟩:=t0;subst ex;obtain rfl:u=Value.ref a:=j;exact⟨FH f g,FG m f g i λ w' s3 q c=>⟨v,w,q,c,k⟩⟩
def mZ(h:Rep D H (.tup [.int a,.int b]) v):∃p,v=.ref p/\SqT D.K H p (([.inl a,.inl b]:on Key).map kV):=by
 obtain⟨p,xs,j,c,i⟩:=F6.mp h;obtain⟨v1,vs,rfl,r1,g⟩:=w6.mp i;obtain⟨v2,d,rfl,f,e⟩:=w6.mp g;rw[z8.mp r1,z8.mp f,E2.mp e]at c;exact⟨p,j,c⟩
def FK(hu:X.A.units+1<cLine)(ha:∀q,ra=some q->PE X ea KZ)(hk:∀q,rb=some q->PE X ek KZ)(hs:U8 ek=false)
  (h:(Re.thn ra λ x c=>Re.thn rb λ y _=>dixC x c y)=some re):PE X (.Subscript ea ek pos) (dE X.D δ re):=by
 have C:=λ t Z (hA:PE X ea t) (hB:PE X ek Z)=>uI (pos:=pos) hu hA hB (uE hs);cases l:ra with
 | none=>rw[l]at h;cases h
 | some q=>
  rw[l]at h;have A:=ha q l;cases q with
  | ok N cx=>
   cases j:rb with
   | none=>rw[j]at h;cases h
   | some w=>
    rw[j]at h;have B:=hk w j;cases w with
    | ok dk ck=>
     have e:dixC N cx dk=some re:=h;unfold dixC at e;split at e
     ·rename_i k0;split at e
      ·rename_i E;subst E;obtain⟨⟨ks,S⟩,hd,e⟩:=z9.mp e;obtain⟨d,b,rfl⟩:=A6.mp e;cases N<;>cases hd;refine(C _ _ A B).weak λ P H Q ⟨O,W,R,p⟩=>⟨O,W,R,λ v H1 s1 g=>⟨O,W,R.mono s1,λ U L i F=>?_⟩⟩
       obtain⟨I,_⟩:=bS.mp (F.all ((MB).hid.mono i));subst I;rcases S6.mp g with⟨a,n,f,u,r,m,o⟩ | ⟨a,n,f,u,r,m,o⟩
       ·subst m;obtain⟨M,q1,w⟩:=uF o b;exact⟨a,M,u,.inl (.inl ⟨f,.inr k0,.inr ⟨n,i _ _ (C7 r).2⟩,rfl,q1.symm⟩),p _ L (s1.trans i) (w.mono i.wo:Rep X.D _ d M)⟩
       ·subst m;rw[mX (λ a _ z=>by cases z)]at b;cases b
      ·cases e
     unfold dixD at e;split at e
     ·rename_i ks S a0 b0 _;split at e
      ·rename_i Y b;cases e;refine(C _ _ A B).weak λ P H Q ⟨O,W,R,p⟩=>⟨O,W,R,λ v H1 s1 g=>⟨O,W,R.mono s1,λ U L i F=>?_⟩⟩
       obtain⟨pk,K,J⟩:=mZ (F.all ((MB).hid.mono i));rcases S6.mp (g.all Lh)with⟨a,n,f,u,r,m,o⟩ | ⟨a,n,f,u,r,m,o⟩
       ·subst m;rw[mX (λ a _ z=>by rcases a with⟨k | k,_⟩<;>cases z)]at b;cases b
       ·subst m;exact⟨a,.int Y,u,.inr ⟨f,_,pk,.inr ⟨n,i _ _ r⟩,K,J,(uG o b).symm⟩,p _ L (s1.trans i) B2⟩
      ·cases e
     ·cases e
end
def kP(p:Int×Int):on Key:=[.inl p.1,.inl p.2]
def eU(h:kP p=kP q):p=q:=by
 unfold kP at h;obtain⟨a,b⟩:=p;obtain⟨c,d⟩:=q;simp at h;rw[h.1,h.2]
noncomputable def putP(L:on ((Int×Int)×Int))(k:Int×Int)(z:Int):on ((Int×Int)×Int):=if(L.any λ p=>decide (p.1=k))=true then L.map (λ p=>if p.1=k then(p.1,z)else p)else L++[(k,z)]
def FL(L:on ((Int×Int)×Int))(k:Int×Int)(z:Int):putK (oeK L) (kP k) (.int z)=oeK (putP L k z):=by
 have e:((oeK L).any λ a=>decide (a.1=kP k))=L.any λ p=>decide (p.1=k):=by
  unfold oeK;rw[Z2]
  congr 1
  funext p
  show decide (kP p.1=kP k)=decide _;by_cases h:p.1=k
  ·rw[C5 (by rw[h]),C5 h]
  ·rw[B8 (λ z=>h (eU z)),B8 h]
 unfold putK putP;rw[e];split
 ·unfold oeK;rw[o9,o9];apply M1;intro p _;show(if kP p.1=kP k then(kP p.1,V.int z)else(kP p.1,V.int p.2))=(kP (if p.1=k then(p.1,z)else p).1,V.int (if p.1=k then(p.1,z)else p).2);by_cases h:p.1=k
  ·rw[f8 (by rw[h]),f8 h]
  ·rw[g9 (λ z=>h (eU z)),g9 h]
 ·unfold oeK;rw[C4];rfl
def kD(p:Int×Int):DKey:=.t [.inl p.1,.inl p.2]
def iN(h:kD p=kD q):p=q:=eU (DKey.t.inj h)
def FM(L:on ((Int×Int)×Int))(k:Int×Int)(z:Int):putD (kD k) (.int z) (L.map λ p=>kD p.1) (MC p.2)=((putP L k z).map (λ p=>kD p.1),(putP L k z).map (λ p=>.int p.2)):=by
 have e:(kD k∈L.map λ p=>kD p.1)↔(L.any λ p=>decide (p.1=k))=true:=by
  rw[i8,T9];constructor
  ·rintro⟨p,c,b⟩;exact⟨p,c,by rw[B7];exact iN b⟩
  ·rintro⟨p,c,b⟩;exact⟨p,c,by rw[B7.mp b]⟩
 unfold putD putP;by_cases h:(L.any λ p=>decide (p.1=k))=true
 ·rw[f8 (e.mpr h),f8 h,o9,o9];refine Prod.ext ?_ ?_
  ·apply M1;intro p _;show kD p.1=kD (if p.1=k then(p.1,z)else p).1;split<;>rfl
  ·show List.map _ _=_;rw[List.zip_map_left,List.zip_map_right];have:∀(L:on ((Int×Int)×Int)),List.zip L L=L.map λ p=>(p,p):=by
    intro L
    induction L with
    | nil=>rfl
    | cons a r d=>rw[List.zip_cons_cons,d];rfl
   rw[this,o9,o9,o9];apply M1;intro p _;show(if kD p.1=kD k then DV.int z else DV.int p.2)=DV.int (if p.1=k then(p.1,z)else p).2;by_cases h:p.1=k
   ·rw[f8 (by rw[h]),f8 h]
   ·rw[g9 (λ z=>h (iN z)),g9 h]
 ·rw[g9 (λ z=>h (e.mp z)),g9 h,C4,C4];rfl
section
variable {X:Cx} {δ:on Sv} {o:Out} {e ek ed ea:Kw} {es:on Kw} {x1:Nat} {pos pos' npos spos apos cpos tpos:Pos} {ra rb rc:Kr Re} {rs:Kr Rs} {i:Nat} {x:Str} {re:Re}
def FN(m:X.N.Nodup)(g:X.N[i]? = some x)(f:Loc X.env.scope x)(j:X.fn x=true\/X.env.scope.names.lookup x=some .local)(h:(if noOt i δ then some (Out.nx (δ.set i (.od (.tup [.dct [] []]))))else none)=some o):PS X (.Assign [.Name x c] (.Dict [] [] b) pos) (dS X.D δ o):=by
 split at h
 ·rename_i e;cases h;refine(gJ m g f Fz rfl j).weak λ Dn σ H ⟨H0,O,W,R,n,fo,sm,k⟩=>λ p d=>?_
  exact k _ _ _ ((R.growD d rfl).setOd (o5 ..) ⟨[],rfl,rfl⟩ y9 e) (λ a l=>by
   rcases i6.mp l with z | z
   ·rw[z];exact sm.free d
   ·exact n a z) (sm.trans (x4 d))
 ·cases h
def FO(h:J3 (kD k) (L.map λ p=>kD p.1) (MC p.2)=some (.int v)):valV (oeK L) (kP k)=some (.int v):=by
 induction L with
 | nil=>cases h
 | cons p r c=>
  have b:(if kD p.1=kD k then some (DV.int p.2)else J3 (kD k) _ _)=some _:=h;show valV ((kP p.1,V.int p.2)::oeK r) (kP k)=_;by_cases a:p.1=k
  ·rw[f8 (by rw[a])]at b;cases b;rw[cj (by rw[a])]
  ·rw[g9 (λ z=>a (iN z))]at b;rw[cn (λ z=>a (eU z))];exact c b
def FP(L:on ((Int×Int)×Int))(k:Int×Int):(valV (oeK L) (kP k)).isSome=decide (kD k∈L.map λ p=>kD p.1):=by
 rw[←mS];have e:((oeK L).any λ c=>decide (c.1=kP k))=L.any λ p=>decide (p.1=k):=by
  unfold oeK;rw[Z2]
  congr 1
  funext p
  show decide (kP p.1=kP k)=decide _;by_cases h:p.1=k
  ·rw[C5 (by rw[h]),C5 h]
  ·rw[B8 (λ z=>h (eU z)),B8 h]
 rw[e,U1,T9,M3,i8];constructor
 ·rintro⟨p,b,a⟩;exact⟨p,b,by rw[B7.mp a]⟩
 ·rintro⟨p,b,a⟩;exact⟨p,b,by rw[B7];exact iN a⟩
def FQ(K:KC)(ty td:TE):TE:=λ σ H Q=>ty σ H λ y H1=>td σ H1 λ x H2=>∃a b kvs k,x=.ref a/\Rd H2 a (.dT kvs)/\y=.ref b/\SqT K H2 b (k.map kV)/\Q (.bl (valV kvs k).isSome) H2
def FR(p:X.A.units+1<cLine)(v:PE X ek ty)(r:PE X ea j):PC X .In ek ea (FQ X.K ty j):=by
 intro c s i H Q I h;refine thn (v c s i H _ I h) λ iv s1 ⟨y,F,C,l,o⟩=>thn (r c s1 i F _ C o) λ u s2 t0=>?_;obtain⟨x,E,g,m,a,b,f,k,ex,e,w,A,n⟩:=t0
 subst ex w;obtain rfl:u=Value.ref a:=m;cases(l);obtain⟨z,hd,xs,d,B⟩:=cq g.hok e;refine wpAny_in_heap (fL p) (uH g A) hd B ?_;have q:=(d.val k).isSome_eq;rw[Option.isSome_map]at q;exact⟨.bl (valV f k).isSome,E,g.tok _,by rw[q];exact rfl,n⟩
def FT(hu:X.A.units+1<cLine)(hv:PE X (Mo f) (tVar i))(he:∀q,I=some q->PE X e KZ)(hk:∀q,F=some q->PA X es MH)(hc:aT e=false)
  (h:(match δ[i]? with
   | some (.od (.tup [.dct ks C]))=>Re.thnS δ I λ d _=>Rs.thnS δ F λ l=>(dppD i δ ks C l d).map Out.nx
   | _=>none)=some o):PS X (.Assign [.Subscript (Mo f) (.Tuple es x1 r) s] e pos) (dS X.D δ o):=by
 split at h
 ·rename_i ks C Y;cases m:I with
  | none=>rw[m]at h;cases h
  | some q=>
   rw[m]at h;have A:=he q m;cases q with
   | ok d cl=>
    cases j:F with
    | none=>rw[j]at h;cases h
    | some S=>
     rw[j]at h;have B:=hk S j;cases S with
     | ok l=>
      obtain⟨δ',n,h2⟩:=A6.mp h;cases h2;unfold dppD at n;split at n
      ·rename_i a ca b cb z;split at n
       ·rename_i U;cases n;refine((λ t t' (hA:PE X e t) (hB:PA X es t')=>Fw hu hv (qI hB) hA (iL hc)) _ _ A B).weak λ Dn σ H ⟨H0,O,W,R,Z,fo,sm,k⟩=>⟨O,W,R,λ v H1 s1 g=>?_⟩
        obtain⟨⟨p,ob,e0,e1,e2,e3⟩,u⟩:=R.od i _ Y;obtain⟨L,Q,eo⟩:∃L,DV.tup _=.tup [oeD L]/\ob=.dT (oeK L):=e0;subst eo;obtain⟨P,N⟩:ks=L.map (λ p=>kD p.1)/\C=L.map _:=DV.dct.inj (dt (DV.tup.inj Q)).1;subst P N;refine⟨.ref p,e1,O,W,R.mono s1,λ vs2 H2 s2 g2=>?_⟩;have M:=g.int Lh;obtain⟨w1,w2,ew,g3,g4⟩:=g2.two;have w:=(MB).hid.mono s2;have K:=g3.int w;have J:=g4.int w;subst M K J ew;refine⟨by show(2:Nat)<=sizeLine;decide,λ q hq=>?_⟩;have E:Same H2 (upd H2 q (.tup [.int a,.int b])):=x4 hq;have y:=E _ _ (s2 _ _ (s1 _ _ e3));rw[g8]at U;refine⟨p,_,rfl,DPut.t (k:=kP (a,b)) y y9 (by unfold oeK;rw[g8];exact t7 U KL),?_⟩;rw[FL];have pe:=FM L (a,b) z;unfold kD at pe k;rw[pe]at k;exact k σ _ W ((((MB).mono s2).mono E).writeOd Y e1 e2 y rfl ⟨_,rfl,rfl⟩) Z (eT (((sm.trans s1).trans s2).trans E) (Z p e2))
       ·cases n
      ·cases n
 ·cases h
def FU(C:X.A.units+1<cLine)(hv:PE X (Mo a) (tVar i))(F:∀q,m=some q->PE X j KZ)(E:U8 j=false)
  (h:(match δ[i]? with
   | some (.od (.tup [.dct ks g]))=>Re.thn m λ y _=>dgpD ks g y
   | _=>none)=some l):PE X (.Subscript (Mo a) j pos) (dE X.D δ l):=by
 split at h
 ·rename_i ks g I;cases b:m with
  | none=>rw[b]at h;cases h
  | some r=>
   rw[b]at h;have B:=F r b;cases r with
   | ok dk ck=>
    have e:dgpD ks g dk=some l:=h;unfold dgpD at e;split at e
    ·rename_i Y U;split at e
     ·rename_i v n;cases e;refine((λ w (J:PE X j w)=>uI C hv J (uE E)) _ B).weak λ σ H Q t0=>?_;obtain⟨O,W,R,p⟩:=t0
      obtain⟨⟨s,A,S,P,e2,N⟩,u⟩:=R.od i _ I;obtain⟨L,o,M⟩:∃L,DV.tup _=.tup _/\A=.dT _:=S;subst M;obtain⟨d,c⟩:ks=L.map _/\g=L.map _:=DV.dct.inj (dt (DV.tup.inj o)).1;subst d c;refine⟨.ref s,P,O,W,R,λ v2 Z s2 K=>?_⟩;obtain⟨z,d,c⟩:=mZ (K.all (R.hid.mono s2));exact⟨s,.int v,rfl,.inr ⟨oeK L,_,z,.inl (s2 _ _ N),d,c,(FO (k:=(Y,U)) n).symm⟩,p _ Z s2 B2⟩
     ·cases e
    ·cases e
 ·cases h
def uJ(o:X.A.units+1<cLine)(hv:PE X (Mo npos) (tVar i))(r:∀q,rb=some q->PE X ek KZ)
  (h:(match δ[i]? with
   | some (.od (.tup [.dct ks _]))=>Re.thn rb λ y _=>dinD ks y
   | _=>none)=some re):∃t,PC X .In ek (Mo npos) t/\∀σ H Q,dE X.D δ re σ H Q->t σ H Q:=by
 split at h
 ·rename_i ks l v;cases a:rb with
  | none=>rw[a]at h;cases h
  | some g=>
   rw[a]at h;refine⟨_,FR o (r g a) hv,λ σ H Q ⟨O,W,R,p⟩=>?_⟩;cases g with
   | ok dk ck=>
    have d:dinD ks dk=some re:=h;unfold dinD at d;split at d
    ·rename_i F E;cases d;obtain⟨⟨j,n,C,B,e2,A⟩,u⟩:=R.od i _ v;obtain⟨L,f,z⟩:∃L,DV.tup _=.tup _/\n=.dT _:=C;subst z;obtain⟨c,b⟩:ks=L.map _/\l=L.map _:=DV.dct.inj (dt (DV.tup.inj f)).1;subst c b;refine⟨O,W,R,λ v2 I e w=>⟨.ref j,B,?_⟩⟩;obtain⟨m,c,b⟩:=mZ (w.all (R.hid.mono e));refine⟨j,m,oeK L,kP (F,E),rfl,.inl (e _ _ A),c,b,?_⟩;rw[FP L _];exact p _ I e aj
    ·cases d
 ·cases h
end
def Kp(a:Ku)(h h':Kv):Prop:=∀b o,b≠a->h.get? b=some o->h'.get? b=some o
def Kp.of{a:Ku}{h h':Kv}(x:Heap.SameBut a h h'):Kp a h h':=λ b o n e=>x.extBut b o n e
def Kp.trans(x:Kp a h h')(y:Kp a h' c):Kp a h c:=λ b o n e=>y b o n (x b o n e)
theorem Kp.push{a:Ku}{h h':Kv}(x:Kp a h h')(o':Obj):Kp a h (h'.push o'):=λ b o n e=>n7 _ (x b o n e)
section
variable {prog:Kz} {w:Ky} {A:KA} {E:Ks->Kt->Prop} {s:Kt} {d it:Ku} {i ep:Nat} {od:Obj} {es:Kx DictEntry} {ok ov:Ks}
def FV(hd:(d==sysModules)=false):MeetsIn prog w (Builtin.«dict.items» ⟨[.ref d],[]⟩) (λ _ R s=>s.TypeIs (.ref d) "dict" /\
  R (.ok (.ret Ls)) {s with heap:=s.heap.push {cls:=.type "dict_items",data:=.fields #[.ref d]}}):=.of_wp λ A R s q=>by
 have a:¬((d==sysModules)=true):=by rw[hd];exact B5
 unfold Builtin.«dict.items» Builtin.Dict.noArgs Builtin.Dict.showsAll;refine f0 (f0 (qj q.1 (f9 ?_)));show wpAny _ _ _ _ _ s;rw[g9 a];exact f0 (f9 (f0 (C9 (f9 ⟨_,rfl,q.2⟩))))
def FW(hv:s.heap.IsItemsView v d)(c:s.heap.get? d=some b)(a:b.data=.dict es ep)
  (q:Q Ls {s with heap:=s.heap.push {cls:=.type "dict_itemiterator",data:=.fields #[.none,.bool false,.ref d,.int 0 0,.int es.size 0,.int ep 0,.none,.none]}}):wpAny KN A (pyIter (.ref v)) Q E s:=by
 obtain⟨_,f,_,e⟩:=id hv;refine fO hv.typeIs qc (G3 qc hv.typeIs F.entry_dict_items_iter ?_ (F.args_dict_items_iter_1 _));unfold Builtin.«dict_items.__iter__» Builtin.Dict_items.dictOf Builtin.Dict_items.newIterator;refine f0 (f9 (f0 (f0 (J1 f e rfl (f9 (f0 (f0 (fP c a (f0 (fX c a ?_))))))))));rw[show Builtin.Dict_items.ownsTuple "dict_itemiterator" = true from by decide];exact C9 (f9 ⟨_,rfl,"dict_itemiterator",_,⟨_,r9 _ rfl,rfl⟩,F.slot_dict_itemiterator_next.lookup,q⟩) (by show(8:Nat)<=_;rw[R6];omega)
def uK{ov:Ks}(P:Ma)(c:IsItemIter s.heap it d i es.size ep ok ov)(g:s.heap.get? d=some u)(k:u.data=.dict es ep)
  (e:∀en h',es[i]? = some en->IsItemIterOut h' it d (i+1) es.size ep en.key en.val s.heap.objs.size->h'.get? s.heap.objs.size=some {cls:=.type "tuple",data:=.seq #[en.key,en.val]} -> Kp it s.heap h'->Q (some Ls) {s with heap:=h'})
  (f:∀h',es[i]? = none->Kp it s.heap h'->Q none {s with heap:=h'}):wpAny KN A (pyNext (.ref it)) Q E s:=by
 have ty:∀{h:Kv} {j:Nat} {x y:Ks},IsItemIter h it d j es.size ep x y->Shared.TypeIs {s with heap:=h} (.ref it) "dict_itemiterator":=λ z=>⟨_,z,rfl⟩;have o:Builtin.Dict_items.ownsTuple "dict_itemiterator" = true:=by decide
 have O:¬((Value.ref d==Value.none)=true):=B5;unfold pyNext;refine f0 (U3 (Q6 (ty c) pz (G3 pz (ty c) F.entry_dict_itemiterator_next ?_ (F.args_dict_itemiterator_next_1 _))));refine f0 (f9 (f0 (f0 (f0 (jn (ty c) (f9 (f0 (bB c rfl ?_))))))));simp only[o,if_true];show wpAny _ _ (if(Value.ref d==Value.none)=true then _ else _) _ _ s;rw[g9 O];refine f0 (f9 (f0 (fP g k ?_)));rw[g9 KS];refine f0 (f9 (f0 (fX g k ?_)));rw[g9 KS];refine f9 ?_;dsimp only;rw[g9 (show ¬((i:Int)<0) by omega),B6];cases B:es[i]? with
 | none=>
  dsimp only;refine f0 (f0 (jn (ty c) (f9 ?_)));simp only[o,if_true];refine f0 (N5 c KS λ l r s1=>f0 ?_);unfold newExc newTuple;refine f0 (C9 (f0 (m:=firstArgMember _ _) (aN (a:=Value.none) (by first | rfl | (simp only[firstArgMember];rfl)) (C9 (wpAny_raiseNew_none P (f0 (bx (T:="StopIteration") (b:=true) ⟨_,r9 _ rfl,rfl⟩ dm (f9 ?_)))) MF))) MF);exact f _ B (((Kp.of s1).push _).push _)
 | some en=>
  dsimp only;refine f0 (f0 (jn (ty c) (f9 (f0 (jw (ty c) ?_)))));simp only[o,if_true];refine f0 (N5 c KS λ l r s1=>?_);have p:IsItemIter l it d (i+1) es.size ep ok ov:=by unfold IsItemIter;rw[show((i+1:Nat):Int)=(i:Int)+1 by omega];exact r
  refine f0 (F9 (f0 (jw (ty p) (f0 (jw (ty p) ?_)))));show wpAny _ _ _ _ _ {s with heap:=l};unfold Builtin.Dict_items.pairFromOwner Builtin.Dict_items.ownedTupleIsFree;have sz:=s1.1;have n:IsItemIter (l.push {cls:=.type "tuple",data:=.seq #[en.key,en.val]}) it d (i+1) es.size ep ok ov:=n7 _ p;have J:(l.push {cls:=.type "tuple",data:=.seq #[en.key,en.val]}).get? s.heap.objs.size=some {cls:=.type "tuple",data:=.seq #[en.key,en.val]}:=by rw[←sz];exact r9 _ rfl
  refine f0 (ke (f0 (f0 (J1 n rfl (x:=.none) rfl (f9 ?_)))));simp only[if_true];refine f0 (J1 n rfl (x:=ok) rfl (f0 (J1 n rfl (x:=ov) rfl ?_)));refine f0 (N5 n KS λ h3 I N=>f0 (N5 I KS λ h4 H M=>f0 (N5 H KS λ h5 C L=>f0 (N5 C KS λ R q K=>?_))));have v:=(((Kp.of N).trans (.of M)).trans (.of L)).trans (.of K);refine f0 (bG (f9 (f9 ⟨_,rfl,f9 ?_⟩)));rw[sz]at q ⊢;exact e en R B q (v _ _ (Mq (q9 (k9 c))) J) (((Kp.of s1).push _).trans v)
def cu(h:Kv)(it d:Ku)(i n ep:Nat):Prop:=h.get? it=some {cls:=.type "dict_keyiterator",dict:=none,data:=.fields #[.ref d,.int i 0,.int n 0,.int ep 0],slots:=#[]}
def FX(f:(d==sysModules)=false)(b:s.TypeIs (.ref d) "dict")(c:s.heap.get? d=some od)(a:od.data=.dict es ep)
  (q:Q Ls {s with heap:=s.heap.push {cls:=.type "dict_keyiterator",data:=.fields #[.ref d,.int 0 0,.int es.size 0,.int ep 0]}}):wpAny KN A (pyIter (.ref d)) Q E s:=by
 have e:¬((d==sysModules)=true):=by rw[f];exact B5
 refine fO b F.slot_dict_iter (G3 F.slot_dict_iter b F.entry_dict_iter ?_ (F.args_dict_iter_1 _));unfold Builtin.«dict.__iter__» Builtin.Dict.dictSlotNone Builtin.Dict.showsAll;refine f0 (f0 (qj b (f9 ?_)));show wpAny _ _ ((if _=true then _ else _) >>= _) _ _ s;rw[g9 e];exact f0 (f9 (f0 (fP c a (f0 (fX c a (f0 (C9 (f9 ⟨_,rfl,"dict_keyiterator",_,⟨_,r9 _ rfl,rfl⟩,F.slot_dict_keyiterator_next.lookup,q⟩))))))))
def uL(u:Ma)(c:cu s.heap it d i es.size ep)(k:s.heap.get? d=some od)(l:od.data=.dict es ep)
  (e:∀en g,es[i]? = some en->cu g it d (i+1) es.size ep->Kp it s.heap g->Q (some en.key) {s with heap:=g})
  (f:∀g,es[i]? = none->Kp it s.heap g->Q none {s with heap:=g}):wpAny KN A (pyNext (.ref it)) Q E s:=by
 have ty:∀{h:Kv} {j:Nat},cu h it d j es.size ep->Shared.TypeIs {s with heap:=h} (.ref it) "dict_keyiterator":=λ z=>⟨_,z,rfl⟩;have m:Builtin.Dict_items.ownsTuple "dict_keyiterator" = false:=by decide
 have r:¬((Value.ref d==Value.none)=true):=B5;unfold pyNext;refine f0 (U3 (Q6 (ty c) pB (G3 pB (ty c) F.entry_dict_keyiterator_next ?_ (F.args_dict_keyiterator_next_1 _))));refine f0 (f9 (f0 (f0 (f0 (jo (ty c) (f9 (f0 (bB c rfl ?_))))))));simp only[m,Q8,if_false];show wpAny _ _ (if(Value.ref d==Value.none)=true then _ else _) _ _ s;rw[g9 r];refine f0 (f9 (f0 (fP k l ?_)));rw[g9 KS];refine f0 (f9 (f0 (fX k l ?_)));rw[g9 KS];refine f9 ?_;dsimp only;rw[g9 KE,B6];cases p:es[i]? with
 | none=>
  dsimp only;refine f0 (f0 (jo (ty c) (f9 ?_)));simp only[m,Q8,if_false];refine f0 (N5 c KS λ n o s1=>f0 ?_);unfold newExc newTuple;refine f0 (C9 (f0 (aN (by first | rfl | (simp only[firstArgMember];rfl)) (C9 (wpAny_raiseNew_none u (f0 (bx ⟨_,r9 _ rfl,rfl⟩ dm (f9 ?_)))) MF))) MF);exact f _ p (((Kp.of s1).push _).push _)
 | some en=>
  dsimp only;refine f0 (f0 (jo (ty c) (f9 (f0 (qk (ty c) ?_)))));simp only[m,Q8,if_false];refine f0 (N5 c KS λ n o s1=>?_);have q:cu n it d (i+1) es.size ep:=by unfold cu;rw[show((i+1:Nat):Int)=(i:Int)+1 by omega];exact o
  refine f0 (F9 (f0 (qk (ty q) ?_)));exact f9 (f9 ⟨_,rfl,f9 (e en n p q (.of s1))⟩)
end
def ItP(a:Ku)(ob:Obj)(qs:on Ku)(kvs:on (on Key×V)):It:=
  ⟨λ i H=>H a=some (.frz ob (.dT kvs))/\∃k v,kvs[i]? = some (k,v),
   λ i H x H'=>∃p q k v,x=.ref p/\H p=none/\kvs[i]? = some (k,v)/\qs[i]? = some q/\H q=some (.tup (k.map kV))/\H'=upd H p (.tup [.ref q,v]),
   λ i H=>H a=some (.frz ob (.dT kvs))/\kvs.length<=i⟩
def uM(r:KT H c xs):∀{i:Nat} {k:on Key} {v:V},c[i]? = some (k,v)->∃b u,xs[i]? = some (k,b,u)/\H b=some (.tup (k.map kV))/\RelV v u:=by
 induction r with
 | nil=>intro i k v h;cases h
 | cons p t e=>
  intro i k v h;cases i with
  | zero=>
   obtain⟨p1,p2,p3⟩:=p;rename_i a b _ _;obtain⟨a1,a2⟩:=a;obtain⟨b1,g,f⟩:=b;cases h;have d:=p1;subst d;exact⟨g,f,rfl,p2,p3⟩
  | succ i=>exact e h
theorem KT.length(r:KT H a xs):a.length=xs.length:=by
 induction r with
 | nil=>rfl
 | cons _ _ b=>rw[x9,x9,b]
def cw(I:KR b)(h:H a=some (.frz c (.dT d)))(hd:c.data=.dict es ep) :
  s.heap.get? a=some c/\(a==sysModules)=false/\c.ExactDict/\∃xs,KT H d xs/\es.toList=xs.map (entryOfKey (tupleKind (G5 X.prog X.w))):=by
 obtain⟨e,z1,j,xs,i,o,m,n,g,l,f,k,y5⟩:=(show u6 X.prog X.w H s.heap a (.frz c _)from I.hok _ _ h);rw[e]at g;cases g;rw[hd]at f;cases f;exact⟨e,j,l,xs,i,k⟩
def eV(es:Kx DictEntry)(qs:on Ku):Prop:=es.toList.map (·.key)=qs.map Value.ref
def FY{K:KC}(hd:ob.data=.dict es ep)(M:eV es C) :
  Turn P w K (.Tuple elts k pos) (ItP a ob C F) [it] it (λ i h=>∃ok ov,IsItemIter h it a i es.size ep ok ov) where
 mem:=by simp
 obj:=λ i h st b d=>by obtain⟨ok,ov,g⟩:=st;rw[w4]at d;subst d;exact⟨_,g,λ v q=>by cases q⟩
 keep:=λ i h y st q=>by obtain⟨ok,ov,g⟩:=st;exact⟨ok,ov,q it KS _ g⟩
 item:=by
  intro X S J U R i j s Z H E I x st O;subst S J U;obtain⟨ok,ov,g⟩:=st;obtain⟨W,k0,v0,r⟩:=O;obtain⟨B,z2,z4,xs,A,z⟩:=cw I W hd;obtain⟨b,u,hu,d,ru⟩:=uM A r;have Q:es[i]? = some (entryOfKey (tupleKind (G5 X.prog X.w)) (k0,b,u)):=by rw[entry_at z,hu];rfl
  have L:C[i]? = some b:=by
   have h1:(es.toList.map (·.key))[i]? = some (.ref b):=by rw[t5,L8,Q];rfl
   rw[M,t5]at h1;obtain⟨c,e1,e2⟩:=A6.mp h1;cases e2;exact e1
  refine uK (I.ok.hd R) g B hd (λ en y f b2 b3 b5=>?_) (λ y p _=>by rw[Q]at p;cases p);rw[Q]at f;cases f;refine⟨_,rfl,?_⟩;refine wpAny_letOwnedTupleGo_items b2 λ h2 N t2=>?_;have m:=N7 (k9 g);have I1:=I.turnedL (t':=s.toks) (λ b o d e=>t2.extBut _ _ (λ q=>d (by simp[q])) (b5 b o (λ q=>d (by simp[q])) e)) x;have l:=I.hok.fresh (i9 _);have Y:=I.fpOk (i9 _) l;have I2:Inv X j Z (upd H s.heap.objs.size (.tup [.ref b,v0])) {s with heap:=h2}:=I1.track l (cS I.sz) Y.2.1 (λ n c e=>Y.2.2.2.2.1 n c e) (λ q M=>Y.2.2.2.2.2 q M)
   ⟨by show(2:Nat)<=sizeLine;decide,[.ref b,u],.cons rfl (.cons ru .nil),_,(t2.extBut _ _ m b3),⟨rfl,rfl⟩,_,rfl⟩
  refine⟨.ref s.heap.objs.size,_,I2,rfl,⟨_,b,k0,v0,rfl,l,r,L,d,rfl⟩,⟨_,_,N⟩,λ b d=>?_⟩;rw[w4]at d;subst d;rw[n6 (Mq m)];exact(x b KS).1
 done:=by
  intro X S J U R i j s Z H E I x st O;subst S J U;obtain⟨ok,ov,g⟩:=st;obtain⟨W,r⟩:=O;obtain⟨B,z2,z4,xs,A,z⟩:=cw I W hd;have hl:es.size<=i:=by rw[size_of_entries z,←A.length];exact r
  exact uK (I.ok.hd R) g B hd (λ en y f _ _ _=>by rw[T6 hl]at f;cases f) λ y _ a=>⟨rfl,I.turnedL (t':=s.toks) (ch:=[it]) (λ b o d e=>a b o (λ q=>d (by simp[q])) e) x⟩
 self:=λ _ _ _ _ _ st h=>by obtain⟨ok,ov,g⟩:=st;exact PySem.W.kcp_self g h
def Wk.itemsP{K:on Ku}(h:L2.wo K g a=some (.frz C (.dT b)))(e:b=oeK L)(P:∀q∈B,∃n,g q=some (.tup n))(R:Hdn J g):Wk D (ItP a C B b) (L.map λ p=>.tup [.tup [.int p.1.1,.int p.1.2],.int p.2]) K J g:=by
 subst e;have Q:(oeK L).length=L.length:=by unfold oeK;rw[g8]
 have c:∀(i:Nat),(oeK L)[i]? = (L[i]?).map λ p=>(kP p.1,V.int p.2):=λ i=>by unfold oeK;rw[t5];rfl
 refine⟨λ i H s I=>?_,λ i H x U y=>?_,λ i H x U d M s s' y e F=>?_,λ H s=>?_⟩
 ·rw[g8]at I;exact⟨x5 _ _ (s _ _ h),kP L[i].1,.int L[i].2,by rw[c,m7 I];rfl⟩
 ·obtain⟨p,q,k,v,_,f,_,_,_,e⟩:=y;rw[e];exact x4 f
 ·obtain⟨p,q,k,v,ex,f,j,N,r,S⟩:=y;rw[t5]at e;rw[c]at j;cases E:L[i]? with
  | none=>rw[E]at e;cases e
  | some O=>
   rw[E]at e j;cases e;cases j;have l:q∉M:=λ z=>by
    obtain⟨n,w⟩:=P q (K7 N);rcases(F q z).2 with u | u
    ·obtain⟨o,A,m⟩:=R q u;rw[w]at A;cases A;cases m
    ·rw[w]at u;cases u
   subst S;have r1:Rep D (L2.wo M (upd H p (.tup [.ref q,.int O.2]))) _ _:=
    F6.mpr ⟨q,_,rfl,SqT.of (by rw[k8 l,n6 (A7 r f)];exact r),w6.mpr ⟨_,_,rfl,z8.mpr rfl,RepL.one (z8.mpr rfl)⟩⟩
   exact F6.mpr ⟨p,_,ex,SqT.of (by rw[k8 (λ z=>(F p z).1 f)];exact y9),w6.mpr ⟨_,_,rfl,r1,RepL.one (z8.mpr rfl)⟩⟩
 ·exact⟨x5 _ _ (s _ _ h),by rw[g8,Q];exact i9 _⟩
section
variable {X:Cx} {δ:on Sv} {e:Kw} {elts:on Kw} {k:Nat} {tpos apos pos:Pos} {ra:Kr Re} {ri:Ri}
def ItKy(a:Ku)(ob:Obj)(qs:on Ku)(kvs:on (on Key×V)):It:=
  ⟨λ i H=>H a=some (.frz ob (.dT kvs))/\∃k v,kvs[i]? = some (k,v),
   λ i H x H'=>∃q k v,x=.ref q/\kvs[i]? = some (k,v)/\qs[i]? = some q/\H q=some (.tup (k.map kV))/\H'=H,
   λ i H=>H a=some (.frz ob (.dT kvs))/\kvs.length<=i⟩
def FZ{K:KC}(hd:O.data=.dict es ep)(hq:eV es z) :
  Turn P w K tg (ItKy a O z A) [it] it (λ i h=>cu h it a i es.size ep) where
 mem:=by simp
 obj:=λ i h f b g=>by rw[w4]at g;subst g;exact⟨_,f,λ v q=>by cases q⟩
 keep:=λ i h p f q=>q it KS _ f
 item:=by
  intro X L B M l i j s U H E I n f F;subst L B M;obtain⟨N,Q,v0,m⟩:=F;obtain⟨y,Y,W,Z,x,r⟩:=cw I N hd;obtain⟨b,u,hu,g,ru⟩:=uM x m;have J:es[i]? = some (entryOfKey (tupleKind (G5 X.prog X.w)) (Q,b,u)):=by rw[entry_at r,hu];rfl
  have C:z[i]? = some b:=by
   have R:(es.toList.map (·.key))[i]? = some (.ref b):=by rw[t5,L8,J];rfl
   rw[hq,t5]at R;obtain⟨c,e1,e2⟩:=A6.mp R;cases e2;exact e1
  refine uL (I.ok.hd l) f y hd (λ en p d S b5=>?_) (λ p k _=>by rw[J]at k;cases k);rw[J]at d;cases d;refine⟨_,rfl,gK S rfl rfl KL ?_⟩;exact⟨.ref b,H,(I.turnedL (λ b o g e=>b5 b o (λ q=>g (by simp[q])) e) n),rfl,⟨b,Q,v0,rfl,m,C,g,rfl⟩,S,λ c l=>(n c l).1⟩
 done:=by
  intro X L B M l i j s U H E I n f F;subst L B M;obtain⟨N,m⟩:=F;obtain⟨y,Y,W,Z,x,r⟩:=cw I N hd;have hl:es.size<=i:=by rw[size_of_entries r,←x.length];exact m
  exact uL (I.ok.hd l) f y hd (λ en p d _ _=>by rw[T6 hl]at d;cases d) λ p _ a=>⟨rfl,I.turnedL (λ b o g e=>a b o (λ q=>g (by simp[q])) e) n⟩
 self:=λ _ _ _ _ _ f h=>wpAny_pyIter_keyiter ⟨_,f,rfl,rfl⟩ h
def Wk.keysP(h:L2.wo F f a=some (.frz A (.dT b)))(e:b=oeK L)(K:∀q∈r,∃l,f q=some (.tup l))(O:Hdn E f):Wk D (ItKy a A r b) (L.map λ p=>.tup [.int p.1.1,.int p.1.2]) F E f:=by
 subst e;have N:(oeK L).length=L.length:=by unfold oeK;rw[g8]
 have c:∀(i:Nat),(oeK L)[i]? = (L[i]?).map λ p=>(kP p.1,V.int p.2):=λ i=>by unfold oeK;rw[t5];rfl
 refine⟨λ i H s C=>?_,λ i H x R y=>?_,λ i H x R d Q s s' y e M=>?_,λ H s=>?_⟩
 ·rw[g8]at C;exact⟨x5 _ _ (s _ _ h),kP L[i].1,.int L[i].2,by rw[c,m7 C];rfl⟩
 ·obtain⟨q,k,v,_,_,_,_,e⟩:=y;rw[e];exact Same.refl _
 ·obtain⟨q,k,v,ex,g,J,I,P⟩:=y;rw[t5]at e;rw[c]at g;cases B:L[i]? with
  | none=>rw[B]at e;cases e
  | some q'=>
   rw[B]at e g;cases e;cases g;have j:q∉Q:=λ z=>by
    obtain⟨l,w⟩:=K q (K7 J);rcases(M q z).2 with u | u
    ·obtain⟨o,n,m⟩:=O q u;rw[w]at n;cases n;cases m
    ·rw[w]at u;cases u
   subst P;exact F6.mpr ⟨q,_,ex,SqT.of (by rw[k8 j];exact I),w6.mpr ⟨_,_,rfl,z8.mpr rfl,RepL.one (z8.mpr rfl)⟩⟩
 ·exact⟨x5 _ _ (s _ _ h),by rw[g8,N];exact i9 _⟩
def Ga(he:PE X e S)(n:attributeBase e "items" X.env (Ms e)=eval e X.env)(j:(apos.endLine==pos.line)=true) :
  PI X (.Tuple elts k tpos) (.Call (.Attribute e "items" apos) [] [] pos) (λ C H R=>S C H λ x g=>∃a f d,x=.ref a/\g a=some (.frz f (.dT d))/\∀U:on Ku,(∀q∈U,∃F,g q=some (.tup F))->R (ItP a f U d) g):=by
 intro u s C H R I h;refine pP n j (thn (he u s C H _ I h) λ v s1 t0=>?_);obtain⟨x,g,B,r1,a,f,d,e1,L,q⟩:=t0;subst e1;cases r1;obtain⟨i,w,A,N,E⟩:∃i w A,s1.heap.get? a=some i/\i.data=.dict w A:=by obtain⟨r,z1,Q,xs,P,o,w,A,y1,y2,y3,y4⟩:=(show u6 X.prog X.w g s1.heap a (.frz f (.dT d))from B.hok _ _ L);exact⟨o,w,A,y1,y3⟩
 have yo:i=f:=(by obtain⟨r,_⟩:=(show u6 X.prog X.w g s1.heap a (.frz f (.dT d))from B.hok _ _ L);rw[r]at N;cases N;rfl);subst yo;obtain⟨r,Q,O,xs,P,Z⟩:=cw B L E;have J:s1.TypeIs (.ref a) "dict":=⟨i,r,O.1⟩;have nD:∀b,Value.ref a=.ref b->∃f,s1.heap.get? b=some f/\f.dict=none:=λ b q=>by cases q;exact⟨i,r,O.2.1⟩
 refine⟨"dict","dict.items",PySem.F.plainAttrs_dict,pV,PySem.F.type_dict_items,J,nD,fD rfl (PySem.evalArgs_none ?_)⟩;refine call_meetsIn pV J PySem.F.entry_dict_items (PySem.F.args_dict_items_1 _) (FV Q) ⟨J,?_⟩;have W:∀b o,s1.heap.get? b=some o->(s1.heap.push {cls:=.type "dict_items",data:=.fields #[.ref a]}).get? b=some o:=λ b o e=>n7 _ e;have M:=B.kept (t':=s1.toks) W;refine FW ⟨_,r9 _ rfl,rfl,rfl⟩ (W _ _ r) E ?_;refine⟨_,[_],_,ItP a i _ d,g,rfl,M.kept (t':=s1.toks) λ b o e=>n7 _ e,FY (elts:=elts) (k:=k) (pos:=tpos) E ((by unfold eV;rw[Z,o9,o9];rfl)),⟨.none,.none,r9 _ rfl⟩,λ c Y=>?_,q _ λ b hb=>?_⟩
 ·rw[w4]at Y;subst Y;exact M.fpOk (i9 _) (M.hok.fresh (i9 _))
 ·obtain⟨y,hy,rfl⟩:=i8.mp hb;have all:∀{l:on (on Key×V)} {m:on _},KT g l m->∀x∈m,∃F,g x.2.1=some (.tup F):=by
   intro l m q
   induction q with
   | nil=>intro x K;exact nomatch K
   | cons p t ih=>
    intro x K;rcases i6.mp K with z | z
    ·rw[z];exact⟨_,p.2.1⟩
    ·exact ih x z
  exact all P y hy
def uN(h:kvp? ks vs=some L){a:on (Key×V)}(e:a.map (λ p=>dKey p.1)=ks):L=[]/\a=[]:=by
 cases a with
 | nil=>
  subst e;cases vs with
  | nil=>cases h;exact⟨rfl,rfl⟩
  | cons _ _=>cases h
 | cons p a=>
  subst e;obtain⟨k,v⟩:=p;cases k<;>cases vs<;>cases h
def uO:∀{ks:on DKey} {d:on DV} {L:on ((Int×Int)×Int)},kvp? ks d=some L->∀{D:Dm} {H:Hp} {c:on (on Key×V)},c.map (λ p=>DKey.t p.1)=ks->RepL D H d (c.map (·.2))->c=oeK L:=by
 intro ks
 induction ks with
 | nil=>
  intro d L h D H c e r;cases c with
  | nil=>cases d with
   | nil=>cases h;rfl
   | cons _ _=>cases h
  | cons _ _=>cases e
 | cons l ks m=>
  intro d L h D H c e r;unfold kvp? at h;split at h
  ·exact absurd (by assumption:l::ks=[]) (List.cons_ne_nil _ _)
  ·rename_i a b j v g q;cases q;obtain⟨L',o,n⟩:=A6.mp h;subst n;cases c with
   | nil=>cases e
   | cons p c=>
    obtain⟨k,i⟩:=p;obtain⟨w,ws,y,x,u⟩:=w6.mp r;cases y;have f:=dt e;rw[m o f.2 u,show k=[.inl a,.inl b]from DKey.t.inj f.1,show i=.int v from z8.mp x];rfl
  ·cases h
def Gb(i:attributeBase e "items" X.env (Ms e)=eval e X.env)(g:(d.endLine==pos.line)=true)(F:∀q,r=some q->PE X e KZ)
  (h:r3 (Re.thn r λ x c=>itmD x c)=some o):PI X (.Tuple elts k j) (.Call (.Attribute e "items" d) [] [] pos) (dI X.D δ o):=by
 cases f:r with
 | none=>rw[f]at h;cases h
 | some q=>
  rw[f]at h;have A:=F q f;cases q with
  | ok K M=>
   have b:r3 (itmD K M)=some o:=h;unfold itmD at b;split at b
   ·rename_i ks B;split at b
    ·rename_i u;obtain⟨rfl,s⟩:=u;cases m:kvp? ks B with
     | none=>rw[m]at b;cases b
     | some L=>
      rw[m]at b;cases b;exact((λ C (I:PE X e C)=>Ga I i g) _ A).weak λ σ H R' ⟨O,W,R,p⟩=>⟨O,W,R,λ x N s1 J=>by
       rcases S6.mp (J)with⟨a,w,l,z,v,n,y⟩ | ⟨a,w,l,z,v,n,y⟩
       ·obtain⟨rfl,rfl⟩:=uN m n;subst n;cases s
       ·exact⟨a,w,l,z,x5 _ _ v,λ qs E=>p _ N s1 (Wk.itemsP v (uO m n y) E (Lh).hdA)⟩⟩
    ·cases b
   ·cases b
def Gc(he:PE X e N) :
  PI X tg e (λ A H R=>N A H λ x f=>∃a g d,x=.ref a/\f a=some (.frz g (.dT d))/\∀O:on Ku,(∀q∈O,∃C,f q=some (.tup C))->R (ItKy a g O d) f):=by
 intro n s A H R I h;refine thn (he n s A H _ I h) λ v s1 t0=>?_;obtain⟨x,f,j,r1,r⟩:=t0
 obtain⟨a,g,d,e1,F,q⟩:=r;subst e1;cases r1;obtain⟨i,u,w,J,B⟩:∃i u w,s1.heap.get? a=some i/\i.data=.dict u w:=by obtain⟨k,z1,L,M,K,o,u,w,Y,y2,W,y4⟩:=(show u6 X.prog X.w f s1.heap a (.frz g _)from j.hok _ _ F);exact⟨o,u,w,Y,W⟩
 have U:i=g:=(by obtain⟨k,_⟩:=(show u6 X.prog X.w f s1.heap a (.frz g _)from j.hok _ _ F);rw[k]at J;cases J;rfl);subst U;obtain⟨k,L,S,M,K,Q⟩:=cw j F B;refine FX L ⟨i,k,S.1⟩ k B ?_;have E:eV u (M.map (·.2.1)):=by unfold eV;rw[Q,o9,o9];rfl
 refine⟨_,[_],_,ItKy a i _ d,f,rfl,j.kept λ b o e=>n7 _ e,FZ B E,r9 _ rfl,λ c P=>?_,q _ λ b hb=>?_⟩
 ·rw[w4]at P;subst P;exact j.fpOk (i9 _) (j.hok.fresh (i9 _))
 ·obtain⟨y,hy,rfl⟩:=i8.mp hb;have all:∀{l:on _} {m:on _},KT f l m->∀x∈m,∃C,f x.2.1=some (.tup C):=by
   intro l m q
   induction q with
   | nil=>intro x r;exact nomatch r
   | cons p t Z=>
    intro x r;rcases i6.mp r with z | z
    ·rw[z];exact⟨_,p.2.1⟩
    ·exact Z x z
  exact all K y hy
def Gd(v:∀q,ra=some q->PE X e KZ)(h:r3 (Re.thn ra λ x c=>kysD x c)=some ri):PI X tg e (dI X.D δ ri):=by
 cases d:ra with
 | none=>rw[d]at h;cases h
 | some q=>
  rw[d]at h;have A:=v q d;cases q with
  | ok z B=>
   have b:r3 (kysD z B)=some ri:=h;unfold kysD at b;split at b
   ·rename_i k0 ks o;split at b
    ·rename_i j;subst j;cases g:kvp? _ o with
     | none=>rw[g]at b;cases b
     | some L=>
      rw[g]at b;cases b;exact((λ r (w:PE X e r)=>Gc w) _ A).weak λ σ H R' ⟨O,W,R,p⟩=>⟨O,W,R,λ x C s1 y=>by
       rcases S6.mp (y)with⟨a,l,f,n,k,i,m⟩ | ⟨a,l,f,n,k,i,m⟩
       ·obtain⟨rfl,rfl⟩:=uN g i;cases i
       ·exact⟨a,l,f,n,x5 _ _ k,λ qs u=>p _ C s1 (Wk.keysP k (uO g i m) u (Lh).hdA)⟩⟩
    ·cases b
   ·cases b
end
def Ge(h:eF e ps=true)(c:a.length=ps.length):bindArgs (PySem.W.fnX nm q e b sc cl .none .none d pm none cd f) ⟨a,[]⟩=pure (ps.zip a):=by
 revert c;refine tE h λ x y c=>?_
 obtain⟨u,v,rfl⟩:∃u v,a=[u,v]:=by
  cases a with
  | nil=>cases c
  | cons u r=>cases r with
   | nil=>cases c
   | cons v r=>cases r with
    | nil=>exact⟨u,v,rfl⟩
    | cons _ _=>cases c
 rfl
structure CloTx(C:CloD)(sc:Scope):Prop where
 kind:sc.kind=.function
 co:sc.isCoroutine=false
 gen:sc.isGenerator=false
 nd:C.N.Nodup
 len:C.np+C.nc<=C.N.length
 par:∀x∈C.N.take C.np,sc.names.lookup x=some .local
 nocell:∀y∈sc.names,y.2 ≠ .cell
 fre:∀i x,C.np<=i->i<C.np+C.nc->C.N[i]? = some x->sc.names.lookup x=some .free
 slf:sc.names.lookup o8=some .free
theorem uP:∀{l:on Str},Q0 l=true->l.Nodup
 | [],_=>gb
 | x::r,h=>by unfold Q0 at h;rw[f7]at h;refine P0.mpr ⟨λ z=>?_,uP h.2⟩;have:=h.1;rw[L9.mpr z]at this;cases this
def ng(h:af C fn bl cl k bd sc d=true):eF k (C.N.take C.np)=true/\CloTx C sc/\d=(C.N.drop C.np).take C.nc/\E6 ⟨C.N,sc.names,fn,bl,cl,false,true,noCo⟩ C.body bd=true:=by
 unfold af at h;simp only[f7,h8,u5,J0,W8,ne_eq,B7]at h;obtain⟨⟨⟨⟨⟨⟨⟨⟨⟨⟨⟨⟨u,r⟩,q⟩,p⟩,o⟩,n⟩,h7⟩,m⟩,l⟩,c⟩,j⟩,g⟩,f⟩:=h;refine⟨u,⟨r,q,p,uP o,n,m,l,λ i x a b e=>j x ?_,g⟩,c,f⟩;rw[c];refine K7 (i:=i - C.np) ?_;rw[Y3 KE,aG,show C.np+_=i by omega];exact e
def uQ(D:Dm)(base:Kv)(outer:on Env)(O:on Ku)(H:Hp)(C:CloD)(fn bl cl:on Str)(cs:on DV)(f:Ku):Prop:=
 ∃q pr bd sc cap cc l ws c o,L5 H o8 q pr bd sc cc f/\af C fn bl cl pr bd sc cap=true/\CloScope C.N (C.N.take C.np) C.nc sc cc l/\RepL D (Ll O) cs ws/\ws.length=C.nc/\(∀c∈l,∃o v,H c=some MM/\o.data=.cell v) /\
  (∀(i:Nat) x v,C.N[C.np+i]? = some x->ws[i]? = some v->∃c o u,cc.lookup x=some c/\H c=some MM/\o.data=.cell (some u)/\RelV v u) /\
  (∀c∈l,∃x,cc.lookup x=some c)/\(cc.lookup o8=some c/\H c=some MM/\o.data=.cell (Md f))/\∀c∈l,base.get? c=none/\c∉frs outer
def aq(P:Kz)(w:Ky)(K:KC)(mg:Str->Kr Ks)(base:Kv)(C:CloD)(fn bl cl:on Str)(k:Nat)(Fc:on DV->Kr Ou):Prop:=
 ∀(A:KA) (outer:on Env) (s:Kt) (H:Hp) (us:on Ks) (vs:on V) (Q:VK) (E:XK) (O:on Ku) (f:Ku) (cs ds:on DV) (d:DV),RoomL k A->Env0 P w K mg base A outer s H->Vals vs us->Hdn O H ->
  uQ ⟨K,mg⟩ base outer O H C fn bl cl cs f->ds.length=C.np->RepL ⟨K,mg⟩ (Ll O) ds vs->Fc (ds++cs)=some (.v d false)->(∀v H',Same H H'->Rep ⟨K,mg⟩ (L2.wo O H') d v->Q v H') ->
  codeAny My A (.call (.ref f) ⟨us,[]⟩) (CR CX0 outer P w H s Q E) s
section
variable {X:Cx} {δ:on Sv} {pos p:Pos} {re:Re} {k:Nat} {x:Str} {pr:KG} {bd:on KB} {sc:KD} {C:CloD} {fn bl cl cap:on Str} {cs:on DV} {fr:on Nat} {pins:on (Ku×Obj)} {σ:St} {H:Hp} {s:Kt} {O W:on Ku} {f:Ku} {q:Str} {cc:on (Str×Ku)} {l:on Ku} {F:on DV->Kr Ou}
def Gf(I:KR pins)(co:aq X.prog X.w X.K X.mg X.base C fn bl cl k F)(hr:RoomL k X.A)(df:L5 H o8 q pr bd sc cc f)(A:af C fn bl cl pr bd sc cap=true)(S:CloScope C.N (C.N.take C.np) C.nc sc cc l)
  (J:∀x c,cc.lookup x=some c->X.env.cells.lookup x=some c) (hl:∀c∈l,∃x,cc.lookup x=some c) (n:∀c∈l,X.base.get? c=none/\c∉frs X.stack) (N:cc.lookup o8=some c0) (a0:s.heap.IsCell c0 (Md f))
  (a4:fr.length=C.nc) (E:∀(j i:Nat),fr[j]? = some i->∃y,C.N[C.np+j]? = some y/\X.N[i]? = some y/\(X.env.kindOf y=some .cell\/X.env.kindOf y=some .free)) (U:capD δ fr=some cs) (R:Mr X.D)
  (a1:ds.length=C.np) (rl:RepL X.D (Ll (O++W)) ds vs) (ru:Vals vs Z) (hF:F (ds++cs)=some (.v d false)) (hd:d.nolam=true) (hQ:∀v p,Same H p->Rep X.D (L2.wo (O++W) p) d v->Q v p) :
  wpAny KO X.A (call (.ref f) Z) (EP X pins σ Q) EE s:=by
 have K:Cells l s.heap H:=⟨λ c h=>by obtain⟨x,e⟩:=hl c h;exact I.freeC x c (J x c e),λ c h=>by
  obtain⟨x,e⟩:=hl c h;obtain⟨v,o,g,d⟩:=I.cell x c (J x c e);exact⟨o,v,g,d⟩⟩
 have same:=K.same;have hdA:=R.hid.hdA;obtain⟨ws,w1,w2,w3⟩:=mG R U;have oc:∀{b:Ku},b∈l->b∉O++W:=λ {b} hb z=>by obtain⟨o',B,Y⟩:=hdA b z;rw[K.none b hb]at B;cases B
 obtain⟨o0,g0,d0⟩:=a0;have ca:uQ X.D X.base X.stack (O++W) (trC l s.heap H) C fn bl cl cs f:=by
  refine⟨q,pr,bd,sc,cap,cc,l,ws,c0,o0,df.mono same,A,S,w2.mono same.wo,by rw[w1,a4],λ c h=>?_,λ i y v h1 h2=>?_,hl,⟨N,al (S.mem _ _ N) g0,d0⟩,n⟩
  ·obtain⟨o,v,g,d'⟩:=K.cel c h;exact⟨o,v,al h g,d'⟩
  ·have hi:i<fr.length:=by rw[←w1];exact(z7.mp h2).1
   have hj:=m7 hi;obtain⟨y',B,Y,L⟩:=E i _ hj;rw[h1]at B;cases B;have hv:=w3 i _ v hj h2;obtain⟨mm,hn',a3⟩:=I.loc;obtain⟨u,rv,lk⟩:=a3 _ y v Y hv (.inr L);rcases lk with⟨M,_⟩ | ⟨M,cx,k2,o,k3,k4⟩
   ·have M:=M;rcases L with L | L<;>(rw[L]at M;cases M)
   ·have P:=S.fre (C.np+i) y (by rw[F8];omega) (by rw[F8];have:=(ng A).2.1.len;omega) h1;obtain⟨c2,e2⟩:=S.has y P;have:=J y c2 e2;rw[k2]at this;cases this;exact⟨cx,o,u,e2,al (S.mem y cx e2) k3,k4,rv⟩
 have e0:=I.env0;refine dB (U4 (co X.A X.stack s _ Z vs (λ v p=>Same (trC l s.heap H) p/\Rep X.D (L2.wo (O++W) p) d v) (λ _ _ _=>False) (O++W) f cs ds d hr (Env0.trC K (λ c h=>(n c h).1) (λ c h=>(n c h).2) e0) ru (λ a ha=>?_) ca a1 (rl.mono same.wo) hF λ v p sm g=>⟨sm,g⟩) λ r s' m=>?_)
 ·obtain⟨o,B,Y⟩:=hdA a ha;exact⟨o,same _ _ B,Y⟩
 ·cases r with
  | error e=>exact(m:False).elim
  | ok fl=>
   cases fl with
   | ret u=>
    refine I.after (Q:=Q) (CE.trC (Q:=Q) K m (λ v p sm z=>?_) λ v p z=>z.1);have a2:∀c∈l,∃o,p c=some (.frz o (.own c)):=λ c h=>by obtain⟨o,v,g,_⟩:=K.cel c h;exact⟨o,sm _ _ (al h g)⟩
    refine hQ v _ (λ b o e=>?_) (uk a2 hd z.2);rw[k8 λ w=>by rw[K.none b w]at e;cases e];exact sm _ _ (same _ _ e)
   | next=>exact False.elim m
   | brk=>exact False.elim m
   | cont=>exact False.elim m
def uR(I:KR pins)(h:L5 H o8 q pr bd sc cc f):PySem.W.FnAt f s.heap:=by
 obtain⟨c',oc,u,vs,t,b,pm,c,T,a,_⟩:=h;exact⟨_,_,_,_,(I.hok _ _ a).1⟩
def uS{l:on (DV×Cl)}(h:R8 a np cs l=some re):∃d,LD=true/\(l.map (·.1)).length=np/\a F2 (l.map (·.1)++cs)=some (.v d false)/\d.nolam=true/\re=.ok d .strong:=by
 unfold R8 at h;split at h
 ·rename_i z;split at h
  ·rename_i d b;split at h
   ·rename_i nl;cases h;exact⟨d,z.1,by rw[g8];exact z.2,b,nl,rfl⟩
   ·cases h
  ·cases h
 ·cases h
def tClo(X:Cx)(δ:on Sv)(F:Lo)(C:CloD)(cs:on DV)(ta:TA)(at_:St->Hp->Ku->Prop):TE:=λ σ H Q=>∃f O W,at_ σ H f/\RSt X.D H σ δ O W/\ta σ H λ vs H1=>Same H H1/\∃ds d,RepL X.D (L2.wo (O++W) H1) ds vs/\ds.length=C.np/\F F2 (ds++cs)=some (.v d false)/\d.nolam=true/\∀v H',Same H1 H'->Rep X.D (L2.wo (O++W) H') d v->Q v H'
def uT(co:aq X.prog X.w X.K X.mg X.base C fn bl cl k (FF F2))(hr:Room k X.A)(o:af C fn bl cl pr bd sc cap=true)(S:X.Ok->CloScope C.N (C.N.take C.np) C.nc sc cc l/\(∀x c,cc.lookup x=some c->X.env.cells.lookup x=some c)/\∀c∈l,∃x,cc.lookup x=some c)(m:∀{a:on (Ku×Obj)} {b:on (Kr V)} {H:Hp} {s:Kt},Inv X a b H s->∀c∈l,X.base.get? c=none/\c∉frs X.stack)
  (z:∀{a:on (Ku×Obj)} {b:on (Kr V)} {H H':Hp} {s:Kt} {f:Ku},Inv X a b H' s->Same H H'->at_ b H f->L5 H' o8 q pr bd sc cc f/\∃c0,cc.lookup o8=some c0/\s.heap.IsCell c0 (Md f)) (n:X.env.kindOf o8=some .cell\/X.env.kindOf o8=some .free)
  (L:fr.length=C.nc) (g:∀(j i:Nat),fr[j]? = some i->∃y,C.N[C.np+j]? = some y/\X.N[i]? = some y/\(X.env.kindOf y=some .cell\/X.env.kindOf y=some .free)) (w:capD δ fr=some cs)
  (A:PA X (e::es) P) (hs:u7 e=false) (K:es.any u7=false):PE X (LC o8) (tClo X δ FF C cs P at_):=by
 intro a s b H Q I h;obtain⟨f,O,W,U,R,h⟩:=h;obtain⟨df,c0,M,Y⟩:=z I Lm U;obtain⟨S,v,hl⟩:=S I.ok;have B:=v _ _ M;have J:wpAny KO X.A (Ms (.Name o8 p)) (λ u s1=>u=.ref f/\Inv X a b H s1) X.xe s:=by
  rcases n with n | n
  ·exact dz (wpAny_loadName_cell I.ok.kind n B Y ⟨rfl,I⟩) KL
  ·exact dz (wpAny_loadName_free I.ok.kind n B Y ⟨rfl,I⟩ KL) KL
 refine aF (thn J λ u s1 t0=>?_);obtain⟨eu,Z⟩:=t0;subst eu;refine PySem.W.callWith_F (uR Z df) (thn (A pos a s1 b H _ Z h) λ us s2 B0=>?_) (w5 hs) (bY es K);obtain⟨vs,H2,F,r,sm,ds,d,g1,g2,g3,g4,g5⟩:=B0;obtain⟨E,c2,N,y2⟩:=z F sm U;rw[M]at N;cases N;refine⟨uR F E,?_⟩;exact Gf F co hr.toL E o S v hl (m F) M y2 L g w (R.mono sm) g2 g1 r g3 g4 g5
def L5.un(u:Un fs ex H c h h')(d:L5 H nm q pr bd sc cc f):L5 c nm q pr bd sc cc f:=by
 obtain⟨p,i,o,e,t,a,g,b,T,n,m,l,k,j,r⟩:=d;exact⟨p,i,o,e,t,a,g,b,T,u.frzs _ _ _ n,u.frzs _ _ _ m,l,k,u.tbls _ _ j,r⟩
def Gg(T:CloTx C sc)(ok:X.Ok)(d:LO):CloScope C.N (C.N.take C.np) C.nc sc Ln ((Ln).map (·.2))/\(∀x c,(Ln).lookup x=some c->X.env.cells.lookup x=some c)/\∀c∈(q0 X.env.cells sc.names []).map (·.2),∃x,(Ln).lookup x=some c:=by
 have g:(C.N.take C.np).length=C.np:=by rw[F8];have:=T.len;omega
 refine⟨⟨T.kind,T.co,T.gen,T.nd,by rw[g],T.par,T.nocell,λ i x a b e=>T.fre i x (by rw[g]at a;exact a) (by rw[g]at b;exact b) e,λ x h=>?_,λ x y c l k=>ok.inj x y c (cf d l).1 (cf d k).1,λ x c h=>i8.mpr ⟨_,C8 h,rfl⟩⟩,λ x c h=>(cf d h).1,λ c j=>?_⟩
 ·have f:=C8 h;obtain⟨c,e⟩:=d _ f rfl;exact⟨c,eQ d f e⟩
 ·obtain⟨⟨x,c'⟩,f,rfl⟩:=i8.mp j;rcases bN d f with z | z
  ·cases z
  ·exact⟨x,eQ d z.2 z.1⟩
def uU(P:∀{c:TA},PA X (e::es) c->PE X (LC o8) (tClo X δ i C cs c at_))(A:PA X (e::es) (dA X.D δ b))(h:(Rs.thn (some b) λ l=>R8 i C.np cs l)=some re) :
  PE X (LC o8) (λ a H Q=>∃f,at_ a H f/\dE X.D δ re a H Q):=by
 cases b with
 | ok l=>
  obtain⟨d,z,j,m,nl,rfl⟩:=uS h;exact(P A).weak λ a H Q ⟨f,k,O,W,R,p⟩=>⟨f,O,W,k,R,O,W,R,λ vs H1 s1 n=>⟨s1,_,d,n.strong Lh z,j,m,nl,λ v o s g=>p v o (s1.trans s) g⟩⟩
def Gh(L:DefAt X sc c P (X.env.qual++o8))(b:eF pr (C.N.take C.np)=true)(q:X.N.Nodup)(o:X.N[i]? = some o8)(n:X.env.kindOf o8=some .cell)(k:Loc X.env.scope o8)(p:X.fn o8=true\/X.env.scope.names.lookup o8=some .local) :
  PS X (.FunctionDef o8 pr bd [] none [] sc none o8 pos) (λ j e H=>∀f a,Same H a->H f=none->L5 a o8 (X.env.qual++o8) pr bd sc Ln f->j.nx (e.set i (Md f)) a):=by
 intro g s e H j I h;have l:qualnameIn X.env o8 o8=X.env.qual++o8:=by unfold qualnameIn;rw[n];rfl
 have d:pr.defaults=[]/\pr.kw_defaults=[]/\annTrees pr none X.env=[]:=tE b λ x y=>⟨rfl,rfl,rfl⟩;refine PySem.W.nestDef_K d.1 d.2.1 d.2.2 ?_;rw[l];refine Eo I L λ f a s' w sm m r=>?_;exact gF w q o k (v:=.ref f) rfl (λ s2 u=>⟨_,a,u,h f a sm m r⟩) p
end
def CloG(G:Gs)(F:Lo)(X:Cx):Prop:=
 (∃c P,X.env.code=.ref c/\∀{pins:on (Ku×Obj)} {σ:on (Kr V)} {H:Hp} {s:Kt},Inv X pins σ H s->PySem.W.CodeHd s.heap c P/\H P=some (.tbl Mh)) /\
 (∀x a,X.env.cells.lookup x=some a->X.base.get? a=none/\a∉frs X.stack) /\
 ∀{δ:on Sv} {e:Kw} {es:on Kw} {pos p:Pos} {rs:Rs} {re:Re} {np nc:Nat},PA X (e::es) (dA X.D δ rs)->u7 e=false->es.any u7=false->dW G F np nc (some rs) (capD δ (List.range' np nc))=some re->PE X (LC o8) (dE X.D δ re)
noncomputable def tagN(sc:on (Str×KI)):Str:=if sc.lookup o8=some .cell then o8 else "<lambda>"
structure Good(sg:Sg)(G:Gs)(F:Nat->List DV->Option Ou)(X:Cx):Prop where
 N:X.N=sg.N
 nd:X.N.Nodup
 vis:∀x,visB sg x=true->Vis X.env.scope x
 glo:∀x,gloB sg x=true->Gl X x
 loc:∀x,locB sg x=true->Loc X.env.scope x/\(X.fn x=true\/X.env.scope.names.lookup x=some .local)
 lcl:∀x,sg.sc.lookup x=some .local->X.env.scope.names.lookup x=some .local
 cel:∀x,(sg.sc.lookup x=some .cell\/sg.sc.lookup x=some .free)->X.env.scope.names.lookup x=some .cell\/X.env.scope.names.lookup x=some .free
 calm:X.calm=true
 hu:X.A.units+64<cLine
 fns:∀f x,sg.fn[f]? = some x->∃k fa fd ps,Room k X.A/\X.mg x=some (.ref fa)/\PySem.W.keepIn X.K (.ref fa)=true/\O1 X.K fd ps []/\(∀ds o,F f ds=some o->ds.length=ps.length) /\
  FnOk X.prog X.w X.K X.mg X.base CX0 k fa fd ps (spF X.D ps.length (F f))
 blt:∀x∈sg.bl,X.mg x=none
 con:∀x d,G.con.lookup x=some d->∃u v,X.mg x=some u/\RelV v u/\∀H,Rep X.D H d v
 own:sg.lp=true->PassesOwn KO X.A X.env X.xe
 st:sg.top=true->X.stack=X.env::X.outer/\X.env.frame=some X.env.locals/\X.ex=[]
 lms:G.fnl.isEmpty=false->(G.fnl=sg.fn/\G.bll=sg.bl/\G.cll=sg.cl)/\(∃k,Room k X.A/\am X.prog X.w X.K X.mg X.base sg.fn sg.bl sg.cl k (F G6)/\∀C,G.clo=some C->aq X.prog X.w X.K X.mg X.base C sg.fn sg.bl sg.cl k (F F2))/\(sg.top=true->∃c P,X.env.code=.ref c/\(∀h:Heap,X.K.In h->PySem.W.CodeHd h c P)/\(P,X.env.qual++tagN sg.sc)∈A8 X.K/\(sg.sc.lookup o8=some .cell->N9 (X.env.qual++o8)=true))
 cos:∀pr bd sc cap,sg.co pr bd sc cap=true->∃C,G.clo=some C/\af C sg.fn sg.bl sg.cl pr bd sc cap=true
 clo:sg.lp=true->sg.top=false->CloG G F X
theorem cA:∀{l:on Str},Q0 l=true->l.Nodup
 | [],_=>gb
 | x::r,h=>by unfold Q0 at h;rw[f7]at h;refine P0.mpr ⟨λ z=>?_,cA h.2⟩;have:=h.1;rw[L9.mpr z]at this;cases this
def eW(g:Good m G F X)(h:aW m f fr sc tg=true):CompScope X.N f sc X.env.scope fr/\(∀(j k i:Nat),fr[j]? = some (some i)->fr[k]? = some (some i)->j=k)/\∀i∈aV tg,fr[i]? = some none:=by
 unfold aW at h;simp only[f7,J0,h8]at h;obtain⟨⟨⟨⟨⟨⟨B,A⟩,o⟩,z⟩,n⟩,w⟩,v⟩:=h;have d:∀(j i:Nat),fr[j]? = some _->∃x,f[j]? = some x/\m.N[i]? = some x/\MK∈sc.names:=λ j i e=>by
  have l:j<f.length:=by rw[←n];exact (z7.mp e).1
  have r:(some i,f[j])∈fr.zip f:=(by refine K7 (i:=j) ?_;rw[fz];exact⟨e,m7 l⟩);have q:=w _ r;simp only[f7,h8,L9]at q;exact⟨_,m7 l,q.1,q.2⟩
 refine⟨⟨A,cA o,cA z,n,λ j i e=>?_,λ y s u=>?_⟩,λ j k i E C=>?_,B⟩
 ·obtain⟨x,a,b,c⟩:=d j i e;exact⟨x,a,by rw[g.N];exact b,c⟩
 ·have q:=v y s;rw[f8 u]at q;simp only[D8,h8]at q;exact g.cel _ q
 ·obtain⟨x,a,b,_⟩:=d j i E;obtain⟨x',H,p,_⟩:=d k i C;rw[b]at p;cases p;exact gE (cA o) a H
def aZ(g:Good j G F X)(h:aW j i fr sc tg=true)(C:Ku)(b:on (Str×Ku))(c:Kt)(d:Hp)(fp:on Ku):Good ⟨i,sc.names,j.fn,j.bl,j.cl,false,false,noCo⟩ G F (v6 X sc i C b c d fp):=by
 obtain⟨S,_,_⟩:=eW g h;have f:∀x,(v6 X sc i C b c d fp).env.scope.names.lookup x=(sc.names.lookup x).map λ k=>if(k==NameKind.free&&X.env.scope.kind == .function&&X.env.kindOf x==some .cell)=true then NameKind.cell else k:=λ x=>lm
 have one:∀x k,sc.names.lookup x=some k->k ≠ .free->(v6 X sc i C b c d fp).env.scope.names.lookup x=some k:=λ x k e l=>by rw[f,e,P1,g9];intro z;simp only[f7,h8]at z;exact l z.1.1
 have two:∀x,sc.names.lookup x=some .free->(v6 X sc i C b c d fp).env.scope.names.lookup x=some .cell\/(v6 X sc i C b c d fp).env.scope.names.lookup x=some .free:=λ x e=>by
  rw[f,e,P1];split
  ·exact .inl rfl
  ·exact .inr rfl
 refine⟨rfl,S.nd,λ x a=>?_,λ x a=>?_,λ x a=>?_,λ x a=>one x _ a KP,λ x a=>?_,g.calm,g.hu,g.fns,g.blt,g.con,LI,LI,(λ z=>⟨(g.lms z).1,(g.lms z).2.1,λ w=>nomatch w⟩),(λ _ _ _ _ z=>nomatch z),LI⟩
 ·unfold visB at a;simp only[D8,h8]at a;rcases a with(a | a) | a
  ·exact .inl (one x _ a KP)
  ·exact .inr (.inl (one x _ a KP))
  ·exact .inr (two x a)
 ·unfold gloB at a;rw[h8]at a;exact one x _ a KP
 ·unfold locB at a;simp only[D8,h8]at a;rcases a with a | a
  ·exact⟨.inl (one x _ a KP),.inr (one x _ a KP)⟩
  ·exact⟨.inr (one x _ a KP),.inl (by show(sc.names.lookup x==some .cell)=true;rw[a];rfl)⟩
 ·rcases a with a | a
  ·exact .inl (one x _ a KP)
  ·exact two x a
def N2(g:Good a G F X)(h:O5 a i x=true):X.N[i]? = some x/\Vis X.env.scope x/\Lu=false/\(x==("__classdict__" : Str))=false:=by
 unfold O5 at h;simp only[f7,h8,W8,ne_eq]at h;obtain⟨⟨⟨e,d⟩,c⟩,b⟩:=h;exact⟨by rw[g.N];exact e,g.vis x d,x8.mpr c,x8.mpr b⟩
def cB(g:Good a G F X)(h:bltB a x f=true):(∃p,f=.Name x p)/\Gl X x/\X.mg x=none:=by
 unfold bltB at h;simp only[f7,h8,L9]at h;obtain⟨⟨d,c⟩,b⟩:=h;exact⟨V0 d,g.glo x c,g.blt x b⟩
theorem uV(g:Good b G F X):∀(is:on Nat) (es:on Kw),es.length=is.length->((is.zip es).all λ p=>match K4 p.2 with | some x=>b.N[p.1]? == some x&&locB b x | none=>false)=true ->
  PGs X es (iK is)/\(assignEach es X.env).length=is.length/\(assignEach es X.env).findIdx? (·.1)=none
 | [],[],_,_=>⟨yO,rfl,rfl⟩
 | [],_::_,h,_=>by cases h
 | _::_,[],h,_=>by cases h
 | i::is,e::es,c,h=>by
  rw[List.zip_cons_cons,gn,f7]at h;obtain⟨a,d⟩:=h;obtain⟨A,B,C⟩:=uV g is es (Lq c) d;split at a
  ·rename_i x q;obtain⟨p,rfl⟩:=V0 q;simp only[f7,h8]at a;have l:=g.loc x a.2;refine⟨yP (qA g.nd (by rw[g.N];exact a.1) l.1 l.2) A rfl,?_,?_⟩
   ·show(assignEach es X.env).length+1=is.length+1;rw[B]
   ·show(_::assignEach es X.env).findIdx? (·.1)=none;rw[List.findIdx?_cons,C];rfl
  ·cases a
def eX(g:Good b G F X)(h:tgOk b tg a=true):PG X a (gT X.K tg):=by
 cases tg with
 | one i=>
  unfold tgOk at h;dsimp only at h;split at h
  ·rename_i x q;obtain⟨p,rfl⟩:=V0 q;simp only[f7,h8]at h;have l:=g.loc x h.2;exact qA g.nd (by rw[g.N];exact h.1) l.1 l.2
  ·cases h
 | many c=>
  unfold tgOk at h;dsimp only at h;split at h
  ·rename_i d q;obtain⟨k,p,rfl⟩:=lX q;rw[f7,f7,h8]at h;obtain⟨A,B,C⟩:=uV g c d h.1.1 h.2;exact yQ g.calm A B C
  ·cases h
section
variable (G:Gs) (F:Lo)
def SE(m:ME):Prop:=∀{sg:Sg} {X:Cx} {e:Kw} {δ:on Sv} {r:Re},Good sg G F X->corE sg false m e=true->evE G F m δ=some r->PE X e (dE X.D δ r)
def ST(m:ME):Prop:=∀{sg:Sg} {X:Cx} {e:Kw} {δ:on Sv} {r:Rt},Good sg G F X->corE sg false m e=true->tstD (La m)=some r->PT X e (dT X.D δ r)
def SI(m:ME):Prop:=∀{sg:Sg} {X:Cx} {e tg:Kw} {δ:on Sv} {r:Ri},Good sg G F X->corE sg true m e=true->(isZp m=true->(S5 tg).isSome=true)->r3 (La m)=some r->PI X tg e (dI X.D δ r)
def SEs(ms:on ME):Prop:=∀{sg:Sg} {X:Cx} {es:on Kw} {δ:on Sv} {r:Rs},Good sg G F X->u4 sg ms es=true->evEs G F ms δ=some r->PA X es (dA X.D δ r)
def SAnd(ms:on ME):Prop:=∀{sg:Sg} {X:Cx} {es:on Kw} {δ:on Sv} {pos:Pos},Good sg G F X->u4 sg ms es=true ->
 (∀r,O3 G F ms δ=some r->PE X (MN es) (dE X.D δ r))/\(∀r,tstD (O3 G F ms δ)=some r->PW X (MN es) (dT X.D δ r))
def SOr(ms:on ME):Prop:=∀{sg:Sg} {X:Cx} {es:on Kw} {δ:on Sv} {pos:Pos},Good sg G F X->u4 sg ms es=true ->
 (∀r,evOr G F ms δ=some r->PE X (.BoolOp .Or es pos) (dE X.D δ r))/\(∀r,tstD (evOr G F ms δ)=some r->PW X (.BoolOp .Or es pos) (dT X.D δ r))
def S1(m:ME):Prop:=SE G F m/\ST G F m/\SI G F m
end
def S1.of(h:SE G F m)(hw:∀b e,corE b true m e=corE b false m e)(i:∀b e env,corE b false m e=true->∀a,isTrue e env a=(do let v ←a;standAt e.pos;holding [v] (truthy v))):S1 G F m:=
 ⟨h,λ {b X e f r} g c q=>Dy (λ z d=>h g c d) (i b e X.env c) q,λ {b X e tg f r} g c _ q=>ul (λ z d=>h g (by rw[←hw];exact c) d) q⟩
def S1.of2(h:SE G F m)(c:ST G F m)(hw:∀a e,corE a true m e=corE a false m e):S1 G F m:=
 ⟨h,c,λ {a X e tg δ r} g d _ q=>ul (λ z b=>h g (by rw[←hw];exact d) b) q⟩
noncomputable def uW:Kw->Bool
 | .UnaryOp .Not _ _=>false | .BoolOp _ _ _=>false | .IfExp _ _ _ _=>false | .Compare _ _ _ _=>false
 | _=>true
def D7(h:uW e=true)(env:Env):∀b,isTrue e env b=(do let v ←b;standAt e.pos;holding [v] (truthy v)):=by
 cases e with
 | UnaryOp o a p=>cases o<;>first | (intro _;rfl) | cases h
 | BoolOp _ _ _=>cases h
 | IfExp _ _ _ _=>cases h
 | Compare _ _ _ _=>cases h
 | _=>intro _;rfl
section
variable {G:Gs} {F:Nat->on DV->Kr Ou} {a b c:ME}
def Gi:S1 G F (.var i):=by
 refine .of (λ {c X e δ r} g a h=>?_) Lz (λ c e b a=>?_)
 ·refine G9 a λ x p a=>?_;obtain⟨k,j,f,d⟩:=N2 g a;exact CV k j f d h
 ·exact G9 a λ x p _=>D7 rfl b
def iO(f:∀a w e,corE a w m e=true->ae e=some k)(l:∀δ,evE G F m δ=some (Lc d))(hw:∀a e,corE a true m e=corE a false m e)
  (i:∀{X:Cx} {δ:on Sv} {j:Nat} {pos:Pos} a e,corE a false m e=true->PE X (.Constant k j pos) (dE X.D δ (Lc d))):S1 G F m:=by
 refine .of (λ {a X e δ r} g b h=>?_) hw (λ a e c b=>?_)
 ·obtain⟨j,p,rfl⟩:=iA (f a false e b);rw[l]at h;cases h;exact i a _ b
 ·obtain⟨j,p,rfl⟩:=iA (f a false e b);exact D7 rfl c
def Gj:S1 G F (.int i):=iO (λ sg w e h=>h8.mp h) (λ δ=>rfl) Lz λ _ _ _=>CW
def s_bl:S1 G F (.bl i):=iO (λ sg w e h=>h8.mp h) (λ δ=>rfl) Lz λ _ _ _=>CY
def Gk:S1 G F .non:=iO (λ sg w e h=>h8.mp h) (λ δ=>rfl) Lz λ _ _ _=>Da
def Gm:S1 G F (.str i):=iO (λ sg w e h=>h8.mp (F7.mp h).1) (λ δ=>rfl) Lz λ _ _ h=>CZ (i7 (jO (F7.mp h).2) KL)
def Gn:S1 G F (.glb x):=by
 refine .of (λ {c X e δ r} g a h=>?_) Lz (λ c e b a=>?_)
 ·have a:(K4 e==some x&&gloB c x&&x != "__debug__")=true:=a;simp only[f7,h8,W8,ne_eq]at a;obtain⟨p,rfl⟩:=V0 a.1.1;obtain⟨d,k,j⟩:=A6.mp h;cases j;obtain⟨u,v,m,f,i⟩:=g.con x d k;exact(qp (g.glo x a.1.2) m f (x8.mpr a.2)).weak λ σ H Q ⟨O,W,R,p⟩=>p v H Lm (i _)
 ·obtain⟨p,rfl⟩:=V0 (h8.mp (F7.mp (F7.mp a).1).1);exact D7 rfl b
def Go(k:S1 G F a)(j:S1 G F b):S1 G F (.bin op a b):=by
 refine .of (λ {i X e δ r} g c h=>?_) Lz (λ i e f c=>?_)
 ·refine sC c λ ea o eb p c=>?_;simp only[f7,h8]at c;obtain⟨⟨n,m⟩,l⟩:=c;subst n;exact Dh (λ z d=>k.1 g m d) (λ z d=>j.1 g l d) h
 ·exact sC c λ _ _ _ p _=>D7 rfl f
def Gp(k:S1 G F a):S1 G F (.neg a):=by
 refine .of (λ {i X e δ r} g b h=>?_) Lz (λ i e d b=>?_)
 ·refine ig b λ o ea p b=>?_;simp only[f7,h8]at b;obtain⟨c,f⟩:=b;subst c;exact Di (λ z j=>k.1 g f j) h
 ·refine ig b λ _ _ p b=>?_;simp only[f7,h8]at b;obtain⟨c,f⟩:=b;subst c;exact D7 rfl d
def Gq(i:S1 G F a):S1 G F (.not a):=by
 refine .of2 (λ {k X e j r} g b h=>?_) (λ {k X e j r} g b h=>?_) Lz
 ·refine ig b λ o l p b=>?_;simp only[f7,h8]at b;obtain⟨f,d⟩:=b;subst f;exact DA (λ z c=>i.1 g d c) h
 ·refine ig b λ o l p b=>?_;simp only[f7,h8]at b;obtain⟨f,d⟩:=b;subst f;exact DD (λ z c=>i.2.1 g d c) h
def Gr(m:S1 G F a)(l:S1 G F b):S1 G F (.cmp op a b):=by
 refine .of2 (λ {q X e n r} g c h=>?_) (λ {q X e n r} g c h=>?_) Lz
 ·refine iu c λ u o s p c=>?_;simp only[f7,h8,u5]at c;obtain⟨⟨⟨k,j⟩,i⟩,f⟩:=c;subst k;exact Ds g.hu (λ z d=>m.1 g j d) (λ z d=>l.1 g i d) f h
 ·refine iu c λ u o s p c=>?_;simp only[f7,h8,u5]at c;obtain⟨⟨⟨k,j⟩,i⟩,f⟩:=c;subst k;exact Dv g.hu (λ z d=>m.1 g j d) (λ z d=>l.1 g i d) f h
def Gt(v:S1 G F a)(u:S1 G F b)(j:S1 G F c):S1 G F (.chain op k a b c):=by
 refine .of2 (λ {x X e w r} g f h=>?_) (λ {x X e w r} g f h=>?_) Lz
 ·refine sN f λ C o y B A p f=>?_;simp only[f7,h8,u5]at f;obtain⟨⟨⟨⟨⟨s,i⟩,q⟩,n⟩,m⟩,l⟩:=f;subst s i;exact Dw g.hu (λ z d=>v.1 g q d) (λ z d=>u.1 g n d) (λ z d=>j.1 g m d) l h
 ·refine sN f λ C o y B A p f=>?_;simp only[f7,h8,u5]at f;obtain⟨⟨⟨⟨⟨s,i⟩,q⟩,n⟩,m⟩,l⟩:=f;subst s i;exact Dx g.hu (λ z d=>v.1 g q d) (λ z d=>u.1 g n d) (λ z d=>j.1 g m d) l h
def s_ix(k:S1 G F a)(j:S1 G F b):S1 G F (.ix a b):=by
 refine .of (λ {i X e δ r} g c h=>?_) Lz (λ i e f c=>?_)
 ·refine K2 c λ ea eb p c=>?_;simp only[f7,u5]at c;obtain⟨⟨n,m⟩,l⟩:=c;exact Dl (λ z d=>k.1 g n d) (λ z d=>j.1 g m d) l h
 ·exact K2 c λ _ _ p _=>D7 rfl f
def s_sl(m:S1 G F a)(l:S1 G F b)(i:S1 G F c):S1 G F (.sl a b c):=by
 refine .of (λ {k X e δ r} g d h=>?_) Lz (λ k e j d=>?_)
 ·refine K2 d λ ea es p d=>?_;refine CB d λ _ _ p2 d=>?_;simp only[f7]at d;obtain⟨⟨q,o⟩,n⟩:=d;exact Dq (λ z f=>m.1 g q f) (λ z f=>l.1 g o f) (λ z f=>i.1 g n f) h
 ·exact K2 d λ _ _ p _=>D7 rfl j
def Gu(k:S1 G F a)(j:S1 G F b):S1 G F (.slf a b):=by
 refine .of (λ {i X e δ r} g c h=>?_) Lz (λ i e f c=>?_)
 ·refine K2 c λ ea es p c=>?_;refine Cz c λ _ p2 c=>?_;simp only[f7]at c;obtain⟨m,l⟩:=c;exact Do (λ z d=>k.1 g m d) (λ z d=>j.1 g l d) h
 ·exact K2 c λ _ _ p _=>D7 rfl f
def Gv(k:S1 G F a)(j:S1 G F b):S1 G F (.slt a b):=by
 refine .of (λ {i X e δ r} g c h=>?_) Lz (λ i e f c=>?_)
 ·refine K2 c λ ea es p c=>?_;refine CA c λ _ p2 c=>?_;simp only[f7]at c;obtain⟨m,l⟩:=c;exact Dp (λ z d=>k.1 g m d) (λ z d=>j.1 g l d) h
 ·exact K2 c λ _ _ p _=>D7 rfl f
theorem V6:∀{a:Sg} {b:on ME} {es:on Kw},u4 a b es=true->es.any u7=false
 | _,[],[],_=>rfl
 | _,[],_::_,h=>by unfold u4 at h;cases h
 | _,_::_,[],h=>by unfold u4 at h;cases h
 | a,m::b,e::es,h=>by unfold u4 at h;simp[f7,u5]at h;rw[G0,h.1.2,V6 h.2];rfl
def Gw{c:on ME}(i:SEs G F c):S1 G F (.lst c):=by
 refine .of (λ {d X e δ r} g a h=>?_) Lz (λ d e b a=>?_)
 ·refine sF a λ es p a=>?_;exact DI (λ z f=>i g a f) h
 ·exact sF a λ _ p _=>D7 rfl b
def Gx{c:on ME}(i:SEs G F c):S1 G F (.tup c):=by
 refine .of (λ {d X e δ r} g a h=>?_) Lz (λ d e b a=>?_)
 ·refine lK a λ es k p a=>?_;exact DJ (λ z f=>i g a f) h
 ·exact lK a λ _ k p _=>D7 rfl b
def Gy(w:SEs G F i):S1 G F (.call f i):=by
 refine .of (λ {l X e δ r} g a h=>?_) Lz (λ l e d a=>?_)
 ·refine K3 a λ ef B m a=>?_;rw[f7,f7]at a;obtain⟨⟨b,A⟩,j⟩:=a;refine G9 b λ x p b=>?_;simp only[f7,h8,W8,ne_eq]at b;obtain⟨k,fa,fd,ps,o,q,u,v,s,fo⟩:=g.fns f x b.1.1;cases B with
  | nil=>cases A
  | cons y ys=>
   have c:=V6 j;rw[G0,M0]at c;exact DO fo s o (g.glo x b.1.2) q u v (λ z n=>w g j n) (x8.mpr b.2) c.1 c.2 h
 ·exact K3 a λ _ _ _ _=>D7 rfl d
def s_bi(H:SEs G F l):S1 G F (.bi f l):=by
 refine .of (λ {C X e I r} g k h=>?_) Lz (λ C e B k=>?_)
 ·refine K3 k λ ef M K k=>?_;rw[f7,f7]at k;obtain⟨⟨L,v⟩,a⟩:=k;obtain⟨⟨p,rfl⟩,d,c⟩:=cB g L;cases M with
  | nil=>cases v
  | cons y J=>
   have i:u4 C l _=true->(∀q,evEs G F l I=some q->PA X _ _)/\u7 y=false/\J.any u7=false:=λ z=>by have j:=V6 z;rw[G0,M0]at j;exact⟨λ w n=>H g z n,j.1,j.2⟩
   cases f with
   | len=>obtain⟨A,s1,b⟩:=i a;exact eP DR d c boot_len KL KL A s1 b h
   | min=>obtain⟨A,s1,b⟩:=i a;exact eP (DS g.calm (by have:=g.hu;omega)) d c boot_min KL KL A s1 b h
   | max=>obtain⟨A,s1,b⟩:=i a;exact eP (DT g.calm) d c boot_max KL KL A s1 b h
   | sum=>obtain⟨A,s1,b⟩:=i a;exact eP (DU g.calm) d c DW KL KL A s1 b h
   | int=>obtain⟨A,s1,b⟩:=i a;exact mB DZ d c boot_int KL KL A s1 b h
   | tuple=>obtain⟨A,s1,b⟩:=i a;exact mB Ec d c boot_tuple KL KL A s1 b h
   | list=>obtain⟨A,s1,b⟩:=i a;exact mB Ea d c boot_list KL KL A s1 b h
   | sorted=>obtain⟨A,s1,b⟩:=i a;exact eP Eb d c ug KL KL A s1 b h
   | sset=>
    have a:=a
    clear i
    revert v;refine S4 a λ e1 a=>K3 a λ N x E a=>λ v=>?_
    rw[f7,f7]at a;obtain⟨⟨p',rfl⟩,u,o⟩:=cB g a.1.1;cases x with
    | nil=>cases a.1.2
    | cons y' m=>
     have j:=V6 a.2;rw[G0,M0]at j;cases m with
     | nil=>exact DY g.calm d c u o (λ w n=>H g a.2 n) j.1 h
     | cons y2 yr=>
      have z:=h8.mp a.1.2;simp at z
 ·exact K3 k λ _ _ _ _=>D7 rfl B
def Gz(h:Z6.contains x=true):∃t,bZ x=some t:=by
 have a:∀x∈Z6,∃t,bZ x=some t:=by
  intro x b;simp only[Z6,i6,O9,P3]at b;rcases b with rfl | rfl | rfl | rfl | rfl | rfl
  ·exact⟨"int",by decide +kernel⟩
  ·exact⟨"bool",by decide +kernel⟩
  ·exact⟨"str",by decide +kernel⟩
  ·exact⟨"list",by decide +kernel⟩
  ·exact⟨"tuple",by decide +kernel⟩
  ·exact⟨"dict",by decide +kernel⟩
 exact a x (L9.mp h)
def GA:∀x∈Z6,x ≠ "__name__" /\ Lu=false:=by
 intro x a;simp[Z6,i6,O9,P3]at a;rcases a with rfl | rfl | rfl | rfl | rfl | rfl<;>exact⟨by decide +kernel,by decide +kernel⟩
def GB:V->on V->Hp->VK->Prop:=λ x xs H Q=>∃i,x=.int i/\xs=[]/\Q (Li (bO i)) H
def GC(i:Int):((Builtin.Int.intBits i:Nat):Int)=bO i:=by
 unfold Builtin.Int.intBits bO;by_cases h:i=0
 ·subst h;rfl
 ·rw[g9 Mn,g9 h];rfl
def GD:MtR X "int.bit_length" GB:=by
 intro a s σ H x xs v us Q I b c h;obtain⟨i,rfl,rfl,q⟩:=h;obtain⟨t,rfl⟩:=(b);cases c;exact PyProof.Rows.call_int_bit_length ⟨.int _,H,I.tok _,by rw[←GC];exact LY,q⟩
def GE(C:S1 G F a):S1 G F (.meth m a es):=by
 refine .of (λ {z X e w r} g b h=>?_) Lz (λ z e s b=>?_)
 ·refine lV b λ ef A b=>?_;refine eB b λ k n u b=>?_;simp only[f7,h8]at b;obtain⟨⟨⟨⟨K,J⟩,f⟩,I⟩,h5⟩:=b;subst K;have o:attributeBase k (tu m) X.env (Ms k)=eval k X.env:=by
   rw[D8]at f;rcases f with f | f
   ·obtain⟨y,l⟩:=T5.mp f;obtain⟨B,rfl⟩:=V0 l;rfl
   ·obtain⟨⟨a1,o1,b1⟩,l⟩:=T5.mp f;obtain⟨B,rfl⟩:=CM l;rfl
  have h:(if m=.bitLength then Re.thn _ (λ x _=>mtD m x)else none)=some r:=h;cases m with
  | bitLength=>
   rw[f8 rfl]at h;cases c:evE G F a w with
   | none=>rw[c]at h;cases h
   | some q=>
    rw[c]at h;cases q with
    | ok d dc=>
     have j:mtD .bitLength d=some r:=h;unfold mtD at j;split at j
     ·rename_i i _;cases j;exact((λ t (E:PE X k t)=>An PySem.F.plainAttrs_int PySem.F.slot_int_bit_length PySem.F.type_int_bit_length GD E o (by rw[h8];exact I)) _ (C.1 g J c)).weak λ σ H Q ⟨O,W,R,p⟩=>⟨O,W,R,λ v M s1 L=>by
       have hv:=L.int Lh;subst hv;exact⟨rfl,i,rfl,rfl,p _ M s1 B2⟩⟩
     ·cases j
  | index=>rw[g9 KL]at h;cases h
  | get=>rw[g9 KL]at h;cases h
 ·exact lV b λ _ _ _=>D7 rfl s
def GF(o:S1 G F a)(m:S1 G F b):S1 G F (.idx a b):=by
 refine .of (λ {j X e δ r} g c h=>?_) Lz (λ j e f c=>?_)
 ·refine bR c λ ef eb k c=>?_;refine eB c λ ea n i c=>?_;simp only[f7,h8,u5]at c;obtain⟨⟨⟨⟨⟨w,v⟩,u⟩,s⟩,q⟩,p⟩:=c;subst w;obtain⟨y,l⟩:=T5.mp u;obtain⟨np,rfl⟩:=V0 l;exact DN g.hu (λ z d=>o.1 g v d) (λ z d=>m.1 g q d) rfl (by rw[h8];exact s) (w5 p) h
 ·exact bR c λ _ _ _ _=>D7 rfl f
def GG(k:S1 G F a)(j:S1 G F b):S1 G F (.dix a b):=by
 refine .of (λ {i X e δ r} g c h=>?_) Lz (λ i e f c=>?_)
 ·refine K2 c λ ea eb p c=>?_;simp only[f7,u5]at c;obtain⟨⟨n,m⟩,l⟩:=c;exact FK (T7 KE g.hu) (λ z d=>k.1 g n d) (λ z d=>j.1 g m d) l h
 ·exact K2 c λ _ _ p _=>D7 rfl f
def GH(m:S1 G F b):S1 G F (.dgp i b):=by
 refine .of (λ {f X e δ r} g a h=>?_) Lz (λ f e d a=>?_)
 ·refine K2 a λ ob ek p a=>?_;simp only[f7,u5]at a;obtain⟨⟨c,o⟩,n⟩:=a;refine G9 c λ x np c=>?_;obtain⟨s1,s2,k,j⟩:=N2 g c;exact FU (T7 KE g.hu) (O0 s1 s2 k j) (λ z l=>m.1 g o l) n h
 ·exact K2 a λ _ _ p _=>D7 rfl d
theorem uX:∀{a:on (Str×Nat)},a.lookup x=some f->(x,f)∈a
 | [],h=>by cases h
 | (y,g)::a,h=>by
  rw[G4]at h;split at h
  ·rename_i q;cases h;rw[h8.mp q];exact o5 ..
  ·exact o4 _ (uX h)
def GI(J:SEs G F j):S1 G F (.callv i xs j):=by
 refine .of (λ {n X e m r} g a h=>?_) Lz (λ n e d a=>?_)
 ·refine K3 a λ ef M s a=>?_;rw[f7,f7,f7]at a;obtain⟨⟨⟨c,L⟩,K⟩,l⟩:=a;refine G9 c λ x p c=>?_;obtain⟨s1,s2,q,o⟩:=N2 g c;cases M with
  | nil=>cases K
  | cons y ys=>
   have b:=V6 l;rw[G0,M0]at b;have h:gX F xs _ m[i]? = some r:=h;unfold gX at h;split at h
   ·rename_i u E;split at h
    ·rename_i f H;obtain⟨k,fa,fd,ps,w,A,C,I,B,fo⟩:=g.fns f u (h8.mp (J0.mp L _ (uX H)));exact DQ fo B w (O0 s1 s2 q o) A C I E (λ z v=>J g l v) b.1 b.2 h
    ·cases h
   ·cases h
 ·exact K3 a λ _ _ _ _=>D7 rfl d
def GJ{a:KG}(h:eE a ps=true):defaultsOf a env=([],[]):=tz h (λ _ _ _ _=>rfl) λ _ _ _ _=>rfl
def GK{np:Nat}{N:on Str}{lb:ME}{fr:on Nat}(ha:S1 G F a):S1 G F (.mink a N np lb fr):=by
 refine .of (λ {sg X e δ r} g hc h=>?_) Lz (λ sg e env hc=>?_)
 ·obtain⟨ht,hc⟩:=F7.mp hc;refine sY hc λ ef ea kn el kp pos hc=>?_
  simp only[f7,h8,u5]at hc;obtain⟨⟨⟨⟨c1,c2⟩,c4⟩,c5⟩,hc⟩:=hc;refine Cm hc λ pr bd sc lp hc=>?_
  subst c2;obtain⟨⟨px,rfl⟩,hgl,hmg⟩:=cB g c1;rw[f7]at hc;obtain⟨c8,c9⟩:=hc;have hlam:=c8;unfold tA at c8;simp only[f7,h8,u5,J0,W8,ne_eq,B7]at c8;obtain⟨⟨⟨⟨⟨⟨⟨⟨⟨⟨⟨⟨l1,l2⟩,l3⟩,l4⟩,l5⟩,l6⟩,l7⟩,l8⟩,l9⟩,l10⟩,l11⟩,lc⟩,l12⟩:=c8;have h:gW G F (La a) N np lb (capD δ fr)=some r:=h;unfold gW at h;split at h
  ·rename_i cs hcap;split at h
   ·cases h
   ·rename_i hne;have hne':G.fnl.isEmpty=false:=by simpa using hne
    obtain⟨⟨w1,w2,w3⟩,⟨k,hr,lo,_⟩,wt⟩:=g.lms hne';rw[f7,u5]at ht;obtain⟨⟨c,P,k1,k2⟩,k3,_⟩:=g.clo ht.1 ht.2;have cel:∀y∈sc.names,y.2=NameKind.free->X.env.kindOf y.1=some .cell\/X.env.kindOf y.1=some .free:=λ y hy hf=>by have z:=l12 y hy;rw[f8 (by rw[hf])]at z;exact g.cel y.1 (.inr (h8.mp z))
    have T:LamTx N (N.take np) sc:=by
     have ln:(N.take np).length=np:=by rw[F8];omega
     refine⟨l2,l3,l4,cA l5,by rw[ln],l8,l9,λ i y h1 h2=>l10 y ?_⟩;rw[ln]at h1;refine K7 (i:=i - np) ?_;rw[aG,show np+(i - np)=i by omega];exact h2
    have hcor:ag ⟨N,np,lb,G.fnl,G.bll,G.cll⟩ pr bd sc=true:=(by unfold ag;rw[f7];refine⟨l1,?_⟩;show corE ⟨N,sc.names,G.fnl,G.bll,G.cll,false,false,noCo⟩ false lb bd=true;rw[w1,w2,w3];exact c9);have hslot:∀(j i:Nat),fr[j]? = some i->∃y,N[np+j]? = some y/\X.N[i]? = some y/\(X.env.kindOf y=some .cell\/X.env.kindOf y=some .free):=λ j i hj=>by
     have hjl:j<fr.length:=(z7.mp hj).1;have hjn:np+j<N.length:=by omega
     have hy:(N.drop np)[j]? = some N[np+j]:=by rw[aG,m7 hjn]
     have hz:(i,N[np+j])∈fr.zip (N.drop np):=K7 (i:=j) (by rw[fz];exact⟨hj,hy⟩);have q1:=l11 _ hz;have q2:=l10 _ (K7 hy);exact⟨_,m7 hjn,by rw[g.N];exact q1,cel _ (C8 q2) rfl⟩
    cases hra:evE G F a δ with
    | none=>rw[hra]at h;cases h
    | some ra=>
     rw[hra]at h;exact EY (m:=⟨N,np,lb,G.fnl,G.bll,G.cll⟩) (fr:=fr) (P:=P) (c:=c) lo hr w1 w2 w3 hgl hmg c5 ⟨k1,λ I=>(k2 I).1,λ I=>(k2 I).2,cel⟩ (GJ l1) T (λ I c hc=>by
       obtain⟨y,e,_⟩:=iJ I (λ y hy hf=>I.ok.has y.1 (cel y hy hf)) c hc;exact k3 y c e) hcor l7 hslot hcap (ha.1 g c4 hra) h
  ·cases h
 ·obtain⟨_,hc⟩:=F7.mp hc;exact sY hc λ _ _ _ _ _ _ _=>D7 rfl env
def GL{ms:on ME}{np nc:Nat}(ha:SEs G F ms):S1 G F (.self np nc ms):=by
 refine .of (λ {sg X e δ r} g hc h=>?_) Lz (λ sg e env hc=>?_)
 ·obtain⟨ht,hc⟩:=F7.mp hc;refine K3 hc λ ef es pos hc=>?_
  simp only[f7,u5]at hc;obtain⟨⟨h1,h2⟩,h3⟩:=hc;refine G9 h1 λ x p h1=>?_
  rw[h8]at h1;subst h1;rw[f7,u5]at ht;have h:dW G F np nc (evEs G F ms δ) (capD δ (List.range' np nc))=some r:=h;cases es with
  | nil=>cases h2
  | cons e0 er=>
   have ns:=V6 h3;rw[G0,M0]at ns;cases hrs:evEs G F ms δ with
   | none=>
    rw[hrs]at h;unfold dW at h;split at h
    ·split at h
     ·obtain⟨_,_,z⟩:=z9.mp h;cases z
     ·cases h
    ·cases h
   | some rs=>
    rw[hrs]at h;exact(g.clo ht.1 ht.2).2.2 (ha g h3 hrs) ns.1 ns.2 h
 ·obtain⟨_,hc⟩:=F7.mp hc;exact K3 hc λ _ _ _ _=>D7 rfl env
def GM(m:S1 G F a)(l:S1 G F b):S1 G F (.dc2 x y a b):=by
 refine .of (λ {i X e δ r} g c h=>?_) Lz (λ i e f c=>?_)
 ·refine sW c λ ka kb ea eb p c=>?_;simp only[f7,h8,W8,ne_eq]at c;obtain⟨⟨⟨⟨u,s⟩,q⟩,o⟩,n⟩:=c;obtain⟨j1,k,rfl⟩:=iA u;obtain⟨j2,j,rfl⟩:=iA s;exact Ex q (λ z d=>m.1 g o d) (λ z d=>l.1 g n d) h
 ·exact sW c λ _ _ _ _ p _=>D7 rfl f
def GN(I:S1 G F b):S1 G F (.din i b):=by
 refine .of2 (λ {K X e m r} g f h=>?_) (λ {K X e m r} g f h=>?_) Lz
 ·refine iu f λ O o N p f=>?_;simp only[f7,h8]at f;obtain⟨⟨E,k⟩,B⟩:=f;subst E;refine G9 k λ x M k=>?_;obtain⟨s1,y,v,u⟩:=N2 g k;obtain⟨t,C,w⟩:=uJ (T7 KE g.hu) (O0 s1 y v u) (λ z A=>I.1 g B A) h;exact(yG C rfl).weak w
 ·refine iu f λ O o N p f=>?_;simp only[f7,h8]at f;obtain⟨⟨E,k⟩,B⟩:=f;subst E;refine G9 k λ x M k=>?_;obtain⟨s1,y,v,u⟩:=N2 g k;cases j:evE G F _ m with
  | none=>rw[j]at h;cases h
  | some re=>
   rw[j]at h;have a:=j;obtain⟨t,C,w⟩:=uJ (T7 KE g.hu) (O0 s1 y v u) (λ z A=>I.1 g B A) a;refine(qu C rfl).weak λ J H Q z=>w J H _ (mx (λ d c q=>?_) h z)
   subst q;have a:dinE _ m[i]? = some _:=a;unfold dinE at a;split at a
   ·cases l:evE G F b m with
    | none=>rw[l]at a;cases a
    | some L=>
     rw[l]at a;cases L with
     | ok dk ck=>
      rename_i ks _ _;have n:dinD ks dk=some _:=a;unfold dinD at n;split at n
      ·cases n;exact LY
      ·cases n
   ·cases a
def GO(i:S1 G F a):S1 G F (.kys a):=by
 refine⟨λ {d X e c r} g b h=>?_,λ {d X e c r} g b h=>?_,λ {d X e tg c r} g b ht h=>?_⟩
 ·cases(F7.mp (F7.mp b).1).1
 ·cases(F7.mp (F7.mp b).1).1
 ·exact Gd (λ z f=>i.1 g (F7.mp b).2 f) h
def GP(w:S1 G F a):S1 G F (.isi a i):=by
 refine .of (λ {j X e δ r} g b h=>?_) Lz (λ j e d b=>?_)
 ·refine sS b λ ef ea et k b=>?_;simp only[f7,u5]at b;obtain⟨⟨⟨⟨B,A⟩,y⟩,h4⟩,c⟩:=b;obtain⟨⟨p,rfl⟩,v,u⟩:=cB g B;split at c
  ·rename_i t;simp only[f7,h8,L9]at c;obtain⟨⟨⟨q,o⟩,n⟩,f⟩:=c;obtain⟨p',rfl⟩:=V0 q;obtain⟨T,x⟩:=Gz (L9.mpr f);obtain⟨m,l⟩:=GA t f;exact Ei x v u (g.glo t o) (g.blt t n) m l (λ z s=>w.1 g A s) y h
  ·cases c
 ·exact sS b λ _ _ _ _ _=>D7 rfl d
theorem nh:∀{a:on ME} {b:on Sv} {l:on (DV×Cl)},evEs G F a b=some (.ok l)->l.length=a.length
 | [],_,_,h=>by unfold evEs at h;cases h;rfl
 | m::a,b,l,h=>by
  unfold evEs at h;split at h
  ·cases h
  ·split at h
   ·cases h
   ·rename_i l' q;cases h;rw[x9,x9,nh q]
theorem uY:∀{b:Sg} {a:on ME} {es:on Kw},u4 b a es=true->a.length=es.length
 | _,[],[],_=>rfl
 | _,[],_::_,h=>by unfold u4 at h;cases h
 | _,_::_,[],h=>by unfold u4 at h;cases h
 | b,m::a,e::es,h=>by unfold u4 at h;simp[f7]at h;rw[x9,x9,uY h.2]
def GQ(s:SEs G F d):S1 G F (.rng d):=by
 refine⟨λ {n X e m r} g a h=>?_,λ {n X e m r} g a h=>?_,λ {n X e tg m r} g a _ h=>?_⟩
 ·cases(a:false=true)
 ·cases(a:false=true)
 ·refine K3 (F7.mp a).2 λ ef x w a=>?_;rw[f7,B7]at a;obtain⟨a,j⟩:=a;rw[f7]at a;obtain⟨⟨p,rfl⟩,q,o⟩:=cB g a.1;have f:=uY a.2;have c:=V6 a.2;cases x with
  | nil=>
   exfalso;cases d with
   | nil=>cases(h:none=some r)
   | cons _ _=>cases f
  | cons y v=>
   rw[G0,M0]at c;cases v with
   | nil=>exact EA q o (λ z i=>s g a.2 i) c.1 h λ l k=>by rw[nh k,f];rfl
   | cons z u=>
    cases u with
    | nil=>
     have b:=c.2;rw[G0,M0]at b;exact EB q o (λ z i=>s g a.2 i) c.1 b.1 h λ l k=>by rw[nh k,f];rfl
    | cons _ _=>simp at j
def GR(s:S1 G F a):S1 G F (.enu a):=by
 refine⟨λ {d X e c r} g b h=>?_,λ {d X e c r} g b h=>?_,λ {d X e j c r} g b n h=>?_⟩
 ·cases(b:false=true)
 ·cases(b:false=true)
 ·refine bR (F7.mp b).2 λ ef ea l b=>?_;simp only[f7,u5]at b;obtain⟨⟨w,v⟩,u⟩:=b;obtain⟨⟨p,rfl⟩,q,o⟩:=cB g w;have t:=n rfl;cases f:S5 j with
  | none=>rw[f]at t;cases t
  | some i=>
   obtain⟨k,tp,rfl⟩:=lX f;exact ES q o u (λ z m=>s.1 g v m) h
def GS(w:S1 G F a):S1 G F (.itm a):=by
 refine⟨λ {d X e c r} g b h=>?_,λ {d X e c r} g b h=>?_,λ {d X e o c r} g b u h=>?_⟩
 ·cases(b:false=true)
 ·cases(b:false=true)
 ·refine lV (F7.mp b).2 λ ef p b=>?_;refine eB b λ q n m b=>?_;simp only[f7]at b;obtain⟨⟨⟨B,A⟩,y⟩,j⟩:=b;have v:=h8.mp B;subst v;cases i:K4 q with
  | none=>rw[i]at j;cases j
  | some x=>
   obtain⟨np,rfl⟩:=V0 i;have t:=u rfl;cases f:S5 o with
   | none=>rw[f]at t;cases t
   | some l=>
    obtain⟨k,tp,rfl⟩:=lX f;exact Gb rfl y (λ z s=>w.1 g A s) h
def GT{sg:Sg}{X:Cx}{e:Kw}{δ:on Sv}{r:Re}{tg:Tg}{fr:on (Kr Nat)}{cp:CParts}{tn:on Str}(ha:S1 G F a)(hb:S1 G F b)(g:Good sg G F X)(hemp:cp.ifs=[])
  (h2:corE sg true b cp.it=true) (hz:isZp b=true->(S5 cp.tg).isSome=true) (h4:aW sg (K5 sg tn fr) fr cp.sc tg=true) (h5:tgOk LV tg cp.tg=true) (h6:corE LV false a cp.elt=true)
  (h:evE G F (.comp a tg b fr) δ=some r):ao X δ cp.tg cp.it cp.ifs cp.elt cp.sc (K5 sg tn fr) fr tg r:=by
 obtain⟨S,nd,sl⟩:=eW g h4;rw[hemp];exact ED S g.calm nd sl (λ z hz'=>hb.2.2 g h2 hz hz') (λ C cells s₂ H₂ fp=>eX (aZ g h4 C cells s₂ H₂ fp) h5) (λ δ' r' hr C cells s₂ H₂ fp=>ha.1 (aZ g h4 C cells s₂ H₂ fp) h6 hr) h
def GU{sg:Sg}{X:Cx}{e cd:Kw}{δ:on Sv}{r:Re}{tg:Tg}{fr:on (Kr Nat)}{cp:CParts}{tn:on Str}(ha:S1 G F a)(hb:S1 G F b)(hcc:S1 G F c)(g:Good sg G F X)(hemp:cp.ifs=[cd])
  (h2:corE sg true b cp.it=true) (hz:isZp b=true->(S5 cp.tg).isSome=true) (h4:aW sg (K5 sg tn fr) fr cp.sc tg=true) (h5:tgOk LV tg cp.tg=true) (h6:corE LV false a cp.elt=true)
  (h7:corE LV false c cd=true) (h:evE G F (.compi a tg b c fr) δ=some r):ao X δ cp.tg cp.it cp.ifs cp.elt cp.sc (K5 sg tn fr) fr tg r:=by
 obtain⟨S,nd,sl⟩:=eW g h4;rw[hemp];exact EF S g.calm nd sl (λ z hz'=>hb.2.2 g h2 hz hz') (λ C cells s₂ H₂ fp=>eX (aZ g h4 C cells s₂ H₂ fp) h5) (λ δ' r' hr C cells s₂ H₂ fp=>ha.1 (aZ g h4 C cells s₂ H₂ fp) h6 hr)
  (λ δ' r' hr C cells s₂ H₂ fp=>hcc.2.1 (aZ g h4 C cells s₂ H₂ fp) h7 hr) h
def ba(G:Gs)(F:Lo)(m:ME):Prop:=∀{sg:Sg} {X:Cx} {e:Kw} {δ:on Sv} {r:Re},Good sg G F X->corE sg false m e=true->evE G F m δ=some r ->
 ∃(cp:CParts) (N':on Str) (fr:on (Kr Nat)) (tg:Tg) (p:Pos),e=.ListComp cp.elt [⟨cp.tg,cp.it,cp.ifs,0⟩] cp.sc p/\CompScope X.N N' cp.sc X.env.scope fr/\ao X δ cp.tg cp.it cp.ifs cp.elt cp.sc N' fr tg r /\
  (∀C cells s₂ H₂ fp,PG (v6 X cp.sc N' C cells s₂ H₂ fp) cp.tg (gT X.K tg))/\K0 cp.it=false
def ba.s1(h:ba G F m)(hw:∀a e,corE a true m e=corE a false m e)(f:∀a e,corE a false m e=true->uW e=true):S1 G F m:=by
 refine .of (λ {a X e δ r} g b q=>?_) hw (λ a e c b=>?_)
 ·obtain⟨cp,N',fr,tg,p,rfl,S,P,i,d⟩:=h g b q;exact P.pe S g.calm i d
 ·exact D7 (f a e b) c
def uZ(m:S1 G F a)(l:S1 G F b):ba G F (.comp a tg b fr):=by
 intro sg X e δ r g k h;refine iB k λ f p k=>?_
 simp only[f7,u5,D8]at k;obtain⟨⟨⟨s,q,o⟩,n⟩,c⟩:=k;obtain⟨tn,_,c⟩:=B9 c;simp only[f7]at c;refine⟨f,_,fr,tg,p,rfl,(eW g c.1.1).1,GT (e:=.ListComp f.elt [⟨f.tg,f.it,f.ifs,0⟩] f.sc p) m l g (List.isEmpty_iff.mp s) q (λ z=>?_) c.1.1 c.1.2 c.2 h,λ C d i j u=>eX (aZ g c.1.1 C d i j u) c.1.2,n⟩;rcases o with w | w
 ·rw[z]at w;cases w
 ·exact w
def vb(q:S1 G F a)(o:S1 G F b)(m:S1 G F c):ba G F (.compi a tg b c fr):=by
 intro sg X e δ r g l h;refine iB l λ i p l=>?_
 simp only[f7,u5,D8]at l;obtain⟨⟨⟨v,u⟩,s⟩,d⟩:=l;obtain⟨tn,_,d⟩:=B9 d;obtain⟨ec,n,d⟩:=BW d;simp only[f7]at d;refine⟨i,_,fr,tg,p,rfl,(eW g d.1.1.1).1,GU (e:=.ListComp i.elt [⟨i.tg,i.it,i.ifs,0⟩] i.sc p) q o m g n v (λ z=>?_) d.1.1.1 d.1.1.2 d.1.2 d.2 h,λ C f j k x=>eX (aZ g d.1.1.1 C f j k x) d.1.1.2,s⟩;rcases u with w | w
 ·rw[z]at w;cases w
 ·exact w
def GV(g:S1 G F a)(f:S1 G F b):S1 G F (.comp a tg b fr):=ba.s1 (λ {c X e δ r}=>uZ g f) Lz λ c e d=>iB d λ _ _ _=>rfl
def GW(i:S1 G F a)(h:S1 G F b)(d:S1 G F c):S1 G F (.compi a tg b c fr):=ba.s1 (λ {f X e δ r}=>vb i h d) Lz λ f e g=>iB g λ _ _ _=>rfl
def GY:SEs G F []:=λ {sg X b δ r} g a h=>by
 cases b with
 | nil=>unfold evEs at h;cases h;exact DG
 | cons _ _=>unfold u4 at a;cases a
def GZ(j:S1 G F a)(i:SEs G F d):SEs G F (a::d):=λ {sg X f δ r} g b h=>by
 cases f with
 | nil=>unfold u4 at b;cases b
 | cons e f=>
  unfold u4 at b;simp only[f7,u5]at b;unfold evEs at h;exact DH b.1.2 (λ z c=>j.1 g b.1.1 c) (λ z c=>i g b.2 c) h
def Ha:SAnd G F []:=λ {sg X es δ a} g hc=>⟨λ r h=>(by unfold O3 at h;cases h),λ r h=>(by unfold O3 at h;cases h)⟩
def Hb:SOr G F []:=λ {sg X es δ a} g hc=>⟨λ r h=>(by unfold evOr at h;cases h),λ r h=>(by unfold evOr at h;cases h)⟩
def Hc(i:S1 G F a)(n:SAnd G F f):SAnd G F (a::f):=λ {l X d k j} g b=>by
 cases d with
 | nil=>unfold u4 at b;cases b
 | cons e d=>
  unfold u4 at b;simp only[f7,u5]at b;cases f with
  | nil=>
   cases d with
   | nil=>
    refine⟨λ r h=>?_,λ r h=>?_⟩
    ·unfold O3 at h;exact kC (i.1 g b.1.1 h)
    ·unfold O3 at h;exact yH (i.2.1 g b.1.1 h)
   | cons _ _=>have:=b.2;unfold u4 at this;cases this
  | cons m f=>
   cases d with
   | nil=>have:=b.2;unfold u4 at this;cases this
   | cons e' d=>
    have B:=@n l X _ k j g b.2;refine⟨λ r h=>?_,λ r h=>?_⟩
    ·unfold O3 at h;exact DB (λ z c=>i.1 g b.1.1 c) (λ z c=>B.1 z c) h
    ·unfold O3 at h;exact DE (λ z c=>i.2.1 g b.1.1 c) (λ z c=>B.2 z c) h
def Hd(i:S1 G F a)(n:SOr G F f):SOr G F (a::f):=λ {l X d k j} g b=>by
 cases d with
 | nil=>unfold u4 at b;cases b
 | cons e d=>
  unfold u4 at b;simp only[f7,u5]at b;cases f with
  | nil=>
   cases d with
   | nil=>
    refine⟨λ r h=>?_,λ r h=>?_⟩
    ·unfold evOr at h;exact kC (i.1 g b.1.1 h)
    ·unfold evOr at h;exact qw (i.2.1 g b.1.1 h)
   | cons _ _=>have:=b.2;unfold u4 at this;cases this
  | cons m f=>
   cases d with
   | nil=>have:=b.2;unfold u4 at this;cases this
   | cons e' d=>
    have B:=@n l X _ k j g b.2;refine⟨λ r h=>?_,λ r h=>?_⟩
    ·unfold evOr at h;exact DC (λ z c=>i.1 g b.1.1 c) (λ z c=>B.1 z c) h
    ·unfold evOr at h;exact DF (λ z c=>i.2.1 g b.1.1 c) (λ z c=>B.2 z c) h
def He(f:SAnd G F d):S1 G F (.and d):=by
 refine .of2 (λ {j X e i r} g a h=>?_) (λ {j X e i r} g a h=>?_) Lz
 ·refine ik a λ o k p a=>?_;simp only[f7,h8]at a;obtain⟨c,b⟩:=a;subst c;exact(f g b).1 r h
 ·refine ik a λ o k p a=>?_;simp only[f7,h8]at a;obtain⟨c,b⟩:=a;subst c;exact((f g b).2 r h).pt
def s_or(f:SOr G F d):S1 G F (.or d):=by
 refine .of2 (λ {j X e i r} g a h=>?_) (λ {j X e i r} g a h=>?_) Lz
 ·refine ik a λ o k p a=>?_;simp only[f7,h8]at a;obtain⟨c,b⟩:=a;subst c;exact(f g b).1 r h
 ·refine ik a λ o k p a=>?_;simp only[f7,h8]at a;obtain⟨c,b⟩:=a;subst c;exact((f g b).2 r h).pt
end
section
variable {G:Gs} {F:Nat->on DV->Kr Ou}
mutual
theorem snd:∀m:ME,S1 G F m
 | .var _=>Gi
 | .int _=>Gj
 | .bl _=>s_bl
 | .str _=>Gm
 | .non=>Gk
 | .glb _=>Gn
 | .bin _ a b=>Go (snd a) (snd b)
 | .neg a=>Gp (snd a)
 | .not a=>Gq (snd a)
 | .cmp _ a b=>Gr (snd a) (snd b)
 | .chain _ _ a b c=>Gt (snd a) (snd b) (snd c)
 | .and es=>He (vc es)
 | .or es=>s_or (vd es)
 | .lst es=>Gw (sndL es)
 | .tup es=>Gx (sndL es)
 | .ix a b=>s_ix (snd a) (snd b)
 | .sl a b c=>s_sl (snd a) (snd b) (snd c)
 | .slf a b=>Gu (snd a) (snd b)
 | .slt a b=>Gv (snd a) (snd b)
 | .call _ es=>Gy (sndL es)
 | .bi _ es=>s_bi (sndL es)
 | .isi a _=>GP (snd a)
 | .meth _ a _=>GE (snd a)
 | .comp a _ b _=>GV (snd a) (snd b)
 | .compi a _ b c _=>GW (snd a) (snd b) (snd c)
 | .idx a b=>GF (snd a) (snd b)
 | .rng es=>GQ (sndL es)
 | .enu a=>GR (snd a)
 | .itm a=>GS (snd a)
 | .dix a b=>GG (snd a) (snd b)
 | .dgp _ b=>GH (snd b)
 | .callv _ _ es=>GI (sndL es)
 | .mink a _ _ _ _=>GK (snd a)
 | .self _ _ es=>GL (sndL es)
 | .dc2 _ _ a b=>GM (snd a) (snd b)
 | .din _ b=>GN (snd b)
 | .kys a=>GO (snd a)
theorem sndL:∀ms:on ME,SEs G F ms
 | []=>GY
 | a::ms=>GZ (snd a) (sndL ms)
theorem vc:∀ms:on ME,SAnd G F ms
 | []=>Ha
 | a::ms=>Hc (snd a) (vc ms)
theorem vd:∀ms:on ME,SOr G F ms
 | []=>Hb
 | a::ms=>Hd (snd a) (vd ms)
end
end
section
variable (G:Gs) (F:Lo) (fu:Nat)
def SS(m:MS):Prop:=∀{sg:Sg} {X:Cx} {st:KB} {δ:on Sv} {o:Out},Good sg G F X->corS sg m st=true->evS G F fu m δ=some o->PS X st (dS X.D δ o)
def SSs(ms:on MS):Prop:=∀{sg:Sg} {X:Cx} {sts:on KB} {δ:on Sv} {o:Out},Good sg G F X->E6 sg ms sts=true->evSs G F fu ms δ=some o->PSs X sts (dS X.D δ o)
end
def Hf(h:tF e=true):ba G F e:=by
 cases e with
 | comp a _ b _=>exact uZ (snd a) (snd b)
 | compi a _ b c _=>exact vb (snd a) (snd b) (snd c)
 | _=>cases h
def Hg:SS G F fu (.set i own e):=by
 intro sg X st u o g c h;refine iw c λ t v w c=>?_
 refine G9 c λ x pt c=>?_;simp only[f7,h8,D8,u5]at c;obtain⟨⟨⟨E,C⟩,s⟩,d⟩:=c;have l:=g.loc x C;have q:X.N[i]? = some x:=by rw[g.N];exact E
 have h:Re.thnS u _ _=some o:=h;cases hv:aT v with
 | false=>exact uB g.nd q l.1 l.2 (λ z j=>(snd e).1 g s j) (iL hv) h
 | true=>
  rcases d with d | B
  ·rw[hv]at d;cases d
  ·cases m:evE G F e u with
   | none=>rw[m]at h;cases h
   | some r=>
    obtain⟨a,N',fr,tg,p,rfl,S,P,A,y⟩:=Hf B g s m;cases f:(X.env.blockKind == .function&&X.env.kindOf x==some .local&&pt.line==(Expr.ListComp a.elt [⟨a.tg,a.it,a.ifs,0⟩] a.sc p).pos.line && !_)with
    | false=>
     have b:=(by show(pure (X.env.blockKind == .function&&X.env.kindOf x==some .local&&pt.line==(Expr.ListComp a.elt [⟨a.tg,a.it,a.ifs,0⟩] a.sc p).pos.line && !(a.sc.names.any λ (n,k)=>n==x&&(k == .local||k == .cell))):Sem Bool)=pure false;rw[f]);exact uB g.nd q l.1 l.2 (λ z j=>(snd e).1 g s j) b h
    | true=>
     have b:=(by show(pure (X.env.blockKind == .function&&X.env.kindOf x==some .local&&pt.line==(Expr.ListComp a.elt [⟨a.tg,a.it,a.ifs,0⟩] a.sc p).pos.line && !(a.sc.names.any λ (n,k)=>n==x&&(k == .local||k == .cell))):Sem Bool)=pure true;rw[f]);rw[m]at h;have d:X.env.kindOf x=some .local:=by simp only[f7,h8]at f;exact f.1.1.2
     exact Fg S g.calm g.nd q d P A y b h
def Hh:SS G F fu (.app i e):=by
 intro sg X st δ o g a h;refine ir a λ v k a=>?_
 refine bR a λ ef ea c a=>?_;refine eB a λ ob n d a=>?_;simp only[f7,u5]at a;obtain⟨⟨⟨⟨s,b⟩,r⟩,q⟩,p⟩:=a;refine G9 b λ x np b=>?_;obtain⟨s1,s2,j,f⟩:=N2 g b;have m:=h8.mp s;subst m;exact Fh (O0 s1 s2 j f) (λ z l=>(snd e).1 g r l) q p h
def Hi:SS G F fu (.ext i e):=by
 intro sg X st δ o g a h;refine ir a λ v k a=>?_
 refine bR a λ ef ea c a=>?_;refine eB a λ ob n d a=>?_;simp only[f7,u5]at a;obtain⟨⟨⟨⟨s,b⟩,r⟩,q⟩,p⟩:=a;refine G9 b λ x np b=>?_;obtain⟨s1,s2,j,f⟩:=N2 g b;have m:=h8.mp s;subst m;exact Fj (O0 s1 s2 j f) (λ z l=>(snd e).1 g r l) q p h
def Hj:SS G F fu (.retd i):=by
 intro sg X st δ o g a h;refine iz a λ v d a=>?_
 refine G9 a λ x np a=>?_;obtain⟨s1,s2,c,b⟩:=N2 g a;exact FE (O0 s1 s2 c b) h
def Hk:SS G F fu (.sep i):=by
 intro sg X st δ o g a h;refine iw a λ t v b a=>?_
 refine G9 a λ x np a=>?_;refine CC a λ _ a=>?_;rw[f7,h8]at a;obtain⟨d,c⟩:=g.loc x a.2;exact FN g.nd (by rw[g.N];exact a.1) d c h
def Hl:SS G F fu (.dpp i ks e):=by
 intro sg X st δ o g a h;refine iw a λ t v k a=>?_
 refine K2 a λ ob ek sp a=>?_;simp only[f7,u5]at a;obtain⟨⟨⟨d,c⟩,m⟩,l⟩:=a;refine G9 d λ x np d=>?_;obtain⟨s1,s2,j,f⟩:=N2 g d;refine lK c λ es tk tp c=>?_;exact FT (T7 KE g.hu) (O0 s1 s2 j f) (λ z b=>(snd e).1 g m b) (λ z b=>sndL ks g c b) l h
def Hm:SS G F fu (.seti i k e):=by
 intro sg X st δ o g a h;refine iw a λ t v j a=>?_
 refine K2 a λ ob ek sp a=>?_;simp only[f7,u5]at a;obtain⟨⟨⟨c,n⟩,m⟩,l⟩:=a;refine G9 c λ x np c=>?_;obtain⟨s1,s2,f,d⟩:=N2 g c;exact Fi (O0 s1 s2 f d) (λ z b=>(snd e).1 g l b) (λ z b=>(snd k).1 g n b) m h
def Hn:SS G F fu (.exp e):=by
 intro sg X st δ o g a h;refine ir a λ _ _ a=>?_
 simp only[f7,u5]at a;exact Ff (λ z b=>(snd e).1 g a.1 b) a.2 h
def Ho:SS G F fu (.ret e):=by
 intro sg X st δ o g a h;refine iz a λ _ _ a=>?_
 exact Fe (λ z b=>(snd e).1 g a b) h
def Hq:SS G F fu (.rfs b):=by
 intro sg X st δ o g a h;cases a
def Hr:SS G F fu .unk:=by
 intro sg X st δ o g hc h;cases h
def Hs(h:∀δ,evS G F fu m δ=none):SS G F fu m:=by
 intro sg X st δ o g hc q;rw[h]at q;cases q
def Hu:SS G F fu (.dfr i fr es):=by
 intro sg X st δ o g a h;cases a
def Hv(i:SSs G F fu a)(f:SSs G F fu b):SS G F fu (.iff c a b):=by
 intro sg X st δ o g d h;refine sJ d λ _ _ _ _ d=>?_
 simp only[f7]at d;exact Fd (λ z e=>(snd c).2.1 g d.1.1 e) (λ z e=>i g d.1.2 e) (λ z e=>f g d.2 e) h
def t_fo(f:SSs G F fu body):SS G F fu (.fo tg e body):=by
 intro sg X st δ o g a h;refine CH a λ _ _ _ _ a=>?_
 simp only[f7,u5,D8]at a;obtain⟨⟨⟨⟨n,m⟩,l,k⟩,j⟩,i⟩:=a;exact Fk (g.own n) g.calm (λ z c=>(snd e).2.2 g l (λ w=>by
  rcases k with q | q
  ·rw[w]at q;cases q
  ·exact q) c) (eX g m) (λ b o' d=>f g i d) j h
def t_wh(f:SSs G F fu body):SS G F fu (.wh c body):=by
 intro sg X st δ o g a h;refine CL a λ _ _ _ a=>?_
 simp only[f7]at a;exact Fm (g.own a.1.1) (λ b r d=>(snd c).2.1 g a.1.2 d) (λ b o' e=>f g a.2 e) h
def ni:MS->Bool
 | .dfr _ _ _=>true
 | _=>false
def Hw:SSs G F fu []:=by
 intro sg X c δ o g d h;cases c with
 | nil=>unfold evSs at h;cases h;exact EZ
 | cons a b=>unfold E6 at d;cases d
def eY(g:Good b G F X)(z:b.sc.lookup y=some .cell):X.env.kindOf y=some .cell/\X.fn y=true/\Loc X.env.scope y:=by
 have a:=g.loc y (by unfold locB;rw[z];rfl);have nl:X.env.scope.names.lookup y≠some .local:=λ w=>by rcases g.cel y (.inl z)with v | v<;>(rw[w]at v;cases v)
 exact⟨a.1.elim (λ w=>absurd w nl) id,a.2.elim id λ w=>absurd w nl,a.1⟩
def Hx(m:G.clo=some C)(h:dfrS G F fr a g e=some o):C.nc=fr.length/\e=some .no/\G.fnl.isEmpty=false/\∃cs l d,g=some cs/\a=some (.ok l)/\R8 F C.np cs l=some (Lc d)/\o=.rt d false:=by
 unfold dfrS at h;rw[m]at h;dsimp only at h;split at h
 ·rename_i z;obtain⟨k,c,j⟩:=z;obtain⟨cs,n,h⟩:=z9.mp h;obtain⟨r,i,h⟩:=z9.mp h;have f:e=some .no:=by
   unfold noB at c;split at c
   ·rfl
   ·cases c
  cases a with
  | none=>cases i
  | some a=>
   cases a with
   | ok l=>
    have b:=i;obtain⟨d,_,_,_,_,rfl⟩:=uS b;cases h;exact⟨k,f,j,cs,l,d,n,rfl,b,rfl⟩
 ·cases h
def Hy:SSs G F fu (.dfr i fr es::ms):=by
 intro q X a0 w o g b h;have N:(lY q i fr a0 (u4 q es)&&ms.isEmpty)=true:=by unfold E6 at b;exact b
 rw[f7]at N;obtain⟨b,hms⟩:=N;have h:(match dfrS G F fr (evEs G F es w) (capD w fr) w[i]? with | some (.nx δ')=>evSs G F fu ms δ' | o=>o)=some o:=h;unfold lY at b;rw[f7,f7,h8]at b;obtain⟨⟨ht,e⟩,b⟩:=b;refine aa b λ sa sb b=>CF b λ n pr bd S x dp b=>?_
 simp only[f7,h8,J0,B7]at b;obtain⟨⟨⟨⟨⟨⟨rfl,rfl⟩,hi⟩,a6⟩,a3⟩,a2⟩,b⟩:=b;refine iz b λ v rp b=>K3 b λ ef ea cp b=>?_
 simp only[f7,u5]at b;obtain⟨⟨Y,h2⟩,h3⟩:=b;refine G9 Y λ x np Y=>?_
 rw[h8]at Y;subst Y;cases ea with
 | nil=>cases h2
 | cons e0 er=>
  have ns:=V6 h3;rw[G0,M0]at ns;obtain⟨C,hC,r⟩:=g.cos _ _ _ _ a6;obtain⟨a1,tx,M,_⟩:=ng r;cases hd:dfrS G F fr (evEs G F es w) (capD w fr) w[i]? with
  | none=>rw[hd]at h;cases h
  | some o'=>
   obtain⟨z1,z2,z3,cs,l,d,e1,e2,e3,rfl⟩:=Hx hC hd;rw[hd]at h;cases h;obtain⟨_,⟨k,hr,_,a7⟩,wt⟩:=g.lms z3;obtain⟨c,P,k1,k2,k3,k4⟩:=wt ht;rw[show tagN q.sc=o8 from f8 e]at k3;have p:∀y∈S.names,y.2=NameKind.free->q.sc.lookup y.1=some .cell:=λ y m B=>by have z:=a2 y m;rw[f8 (by rw[B])]at z;exact h8.mp z
   obtain⟨Z,c2,c3⟩:=eY g e;have D:=Gh (pos:=dp) (bd:=bd) (⟨k1,k2,k3,λ y m B=>(eY g (p y m B)).1,k4 e⟩) a1 g.nd (by rw[g.N];exact hi) Z c3 (.inl c2);have has:X.Ok->∀y∈S.names,y.2=NameKind.free->∃a,X.env.cells.lookup y.1=some a:=λ ok y m B=>ok.has y.1 (.inl (eY g (p y m B)).1)
   have PC:PE X (.Call (.Name o8 np) (e0::er) [] cp) (λ E H Q=>∃f,(E[i]? = some (Md f)/\L5 H o8 (X.env.qual++o8) pr bd S (q0 X.env.cells S.names []) f)/\dE X.D w (Lc d) E H Q):=by
    refine uU (cs:=cs) (C:=C) (λ {ta} A=>uT (a7 C hC) hr r (λ ok=>Gg tx ok (has ok)) (λ I=>Et I (has I.ok) λ y m B=>(eY g (p y m B)).2.1) (λ {b0 E H H' s f} I sm ha=>⟨ha.2.mono sm,?_⟩) (.inl Z) z1.symm (λ j J hj=>?_) e1 A ns.1 ns.2) ((sndL es) g h3 e2) e3
    ·obtain⟨mm,hn',a4⟩:=I.loc;obtain⟨u,rv,lk⟩:=a4 i o8 _ (by rw[g.N];exact hi) ha.1 (.inr (.inl Z));obtain rfl:u=Value.ref f:=rv;rcases lk with⟨U,_⟩ | ⟨_,cx,q2,q3⟩
     ·have U:X.env.kindOf o8=some .local:=U;rw[Z]at U;cases U
     ·exact⟨cx,eQ (has I.ok) (C8 tx.slf) q2,q3⟩
    ·have hjl:j<fr.length:=(z7.mp hj).1;have L:=a3 J (K7 hj);have m:q.N[J]? = some (q.N.getD J ""):=by rw[m7 L,u8,m7 L];rfl
     have hq:((C.N.drop C.np).take C.nc)[j]? = some (q.N.getD J ""):=(by rw[←M,t5,hj];rfl);have K:C.N[C.np+j]? = some (q.N.getD J ""):=(by rw[Y3 KE,aG]at hq;exact hq);refine⟨_,K,by rw[g.N];exact m,.inl ?_⟩;have a9:=tx.fre (C.np+j) _ KE KE K;exact(eY g (p _ (C8 a9) rfl)).1
   refine(X1 D (X1 (bK (pos:=rp) PC) gI)).weak λ Dn E H ⟨H0,O,W,R,frr,fo,sm,kk⟩ f H' s1 hn df=>?_;have a5:i<E.length:=by rw[R.len];exact(z7.mp z2).1
   refine⟨f,⟨by rw[K6 a5],df⟩,O,W,(MB).anyNo z2 _,λ v H2 s2 g2=>kk v H2 (sm.trans (s1.trans s2)) ?_⟩;have a8:Rep X.D (L2.wo (O++W) H2) d v:=g2;exact(a8.mono (O6 bT):Rep X.D (L2.wo O H2) d v)
def nj(e:ni m=false)(b:E6 c (m::d) a=true):∃st r,a=st::r/\corS c m st=true/\E6 c d r=true:=by
 cases a with
 | nil=>cases m<;>first | (cases e;done) | (unfold E6 at b;cases b)
 | cons st a=>exact⟨st,a,rfl,by cases m<;>first | (cases e;done) | (unfold E6 at b;rw[f7]at b;exact b)⟩
def L6(i:SS G F fu m)(l:SSs G F fu f)(j:ni m=false):SSs G F fu (m::f):=by
 intro sg X c δ o g k h;obtain⟨st,c,rfl,a⟩:=nj j k;unfold evSs at h;split at h
 ·rename_i b q;exact Fa (i g a.1 q) (l g a.2 h)
 ·rename_i e;cases o with
  | nx b=>exact absurd h (e b)
  | rt d fr=>exact Fb (i g a.1 h)
section
variable {G:Gs} {F:Nat->on DV->Kr Ou} {fu:Nat}
mutual
theorem sndS:∀m:MS,SS G F fu m
 | .set _ _ _=>Hg
 | .app _ _=>Hh
 | .ext _ _=>Hi
 | .seti _ _ _=>Hm
 | .exp _=>Hn
 | .ret _=>Ho
 | .iff _ a b=>Hv (E8 a) (E8 b)
 | .fo _ _ body=>t_fo (E8 body)
 | .wh _ body=>t_wh (E8 body)
 | .sep _=>Hk
 | .dpp _ _ _=>Hl
 | .retd _=>Hj
 | .unk=>Hr
 | .rse _ _=>Hs λ _=>rfl
 | .rfs _=>Hq
 | .dfr _ _ _=>Hu
theorem E8:∀ms:on MS,SSs G F fu ms
 | []=>Hw
 | .dfr _ _ _::ms=>Hy
 | .set i o e::ms=>L6 (sndS (.set i o e)) (E8 ms) rfl
 | .app i o::ms=>L6 (sndS (.app i o)) (E8 ms) rfl
 | .ext i o::ms=>L6 (sndS (.ext i o)) (E8 ms) rfl
 | .seti i k o::ms=>L6 (sndS (.seti i k o)) (E8 ms) rfl
 | .exp e::ms=>L6 (sndS (.exp e)) (E8 ms) rfl
 | .ret e::ms=>L6 (sndS (.ret e)) (E8 ms) rfl
 | .iff c a b::ms=>L6 (sndS (.iff c a b)) (E8 ms) rfl
 | .fo t i b::ms=>L6 (sndS (.fo t i b)) (E8 ms) rfl
 | .wh c b::ms=>L6 (sndS (.wh c b)) (E8 ms) rfl
 | .retd i::ms=>L6 (sndS (.retd i)) (E8 ms) rfl
 | .sep i::ms=>L6 (sndS (.sep i)) (E8 ms) rfl
 | .dpp i k e::ms=>L6 (sndS (.dpp i k e)) (E8 ms) rfl
 | .unk::ms=>L6 (sndS .unk) (E8 ms) rfl
 | .rse c e::ms=>L6 (sndS (.rse c e)) (E8 ms) rfl
 | .rfs b::ms=>L6 (sndS (.rfs b)) (E8 ms) rfl
end
end
structure FunD(K:PySem.W.Frag)(x qual:Str)(st:Stmt)(f:Addr)(fd:FuncData):Prop where
 ex:∃(oc:Value) (od:Option Addr) (dV kV doc pm:Value) (an:Option Addr) (cdv ct:Value) (osl:Array (Option Value)),
  fd=PySem.W.fnOf x qual (aO st) (J2 st) (u9 st) dV kV doc pm an cdv ct/\K.lookup f=some ⟨oc,od,.func fd,osl⟩/\PySem.W.codeIn K cdv qual=true
def FunD.okX{P:Kz}{w:Ky}{K:KC}{mg:Str->Kr Ks}{base:Kv}{x qual:Str}{st:KB}{f:Ku}{fd:FuncData}{N ps:on Str}{k:Nat}{sp:Sp}(F:FunD K x qual st f fd)(S:FnScope N ps (u9 st))(len:∀vs H Q E,sp vs H Q E->vs.length=ps.length)
  (hbody:∀(cdv:Ks),fd.code=cdv->∀(A:KA) (outer:on Env) (s:Kt) (H:Hp) (vs:on V) (Q:VK) (E:XK),Room k (A.deeper (envOfC qual (u9 st) s.heap.objs.size f cdv))->sp vs H Q E ->
   ∃t,PSs (cxD P w K mg base N qual (u9 st) f cdv A outer s H) (J2 st) t/\t {nx:=λ _ H'=>Q .non H',rt:=Q} (start N vs) H):FnOk P w K mg base CX0 (k+1) f fd ps sp:=by
 obtain⟨oc,od,dV,kV,doc,pm,an,cdv,ct,osl,rfl,lk,hcd⟩:=F.ex;exact qR lk hcd S len λ A outer s H vs Q E hr hsp=>hbody cdv rfl A outer s H vs Q E hr hsp
def u6.there(x:u6 P w H h a o):∃b,h.get? a=some b:=by
 cases o with
 | lst d=>obtain⟨_,_,_,_,e⟩:=x;exact⟨_,e⟩
 | tup d=>obtain⟨_,_,_,b,e,_⟩:=x;exact⟨_,e⟩
 | dK c=>obtain⟨_,_,_,_,o,_,_,e,_⟩:=x;exact⟨_,e⟩
 | dT c=>obtain⟨_,_,_,_,o,_,_,e,_⟩:=x;exact⟨_,e⟩
 | set S n=>obtain⟨o,_,_,_,e,_⟩:=x;exact⟨_,e⟩
 | ins C dx fs=>obtain⟨_,_,_,e,_⟩:=x;exact⟨_,e⟩
 | own y=>obtain⟨_,e⟩:=x;exact⟨_,e⟩
 | xd fs=>obtain⟨_,⟨_,_,_,e,_⟩,_⟩:=x;exact⟨_,e⟩
 | rng lo hi=>obtain⟨_,_,_,e⟩:=x;exact⟨_,e⟩
 | frz b u=>obtain⟨e,_⟩:=x;exact⟨_,e⟩
 | tbl q=>obtain⟨_,e,_⟩:=x;exact⟨_,e⟩
 | met f y=>exact⟨_,(x)⟩
 | ext φ=>obtain⟨_,⟨_,e⟩,_⟩:=x;exact⟨_,e⟩
structure Fly(P:Program)(w:World)(l:List Env)(ea:Addr)(C:Value)(H:Hp)(B h:Heap):Prop where
 fly:∃a0,Heap.FlyingW B l ea C a0 h
 hok:HOk P w H B
def Fly.stays(F:Fly P w l a C H B h):∀b o,B.get? b=some o->h.get? b=some o:=by
 obtain⟨a0,f⟩:=F.fly;exact f.1
def Fly.newE(F:Fly P w l a C H B h):B.get? a=none:=by
 obtain⟨a0,f⟩:=F.fly;exact f.2.1
def Fly.untr(F:Fly P w l a C H B h):H a=none:=by
 cases q:H a with
 | none=>rfl
 | some o=>
  obtain⟨ob,e⟩:=(F.hok a o q).there;rw[F.newE]at e;cases e
noncomputable def CXx(P:Kz)(w:Ky):CXT:=λ outer H s E e s'=>∃(ea:Ku) (C:Ks) (H':Hp) (B:Kv),e=.ref ea/\s'.os=s.os/\AllBare s'.gens/\Un (frs outer) [] H H' s.heap s'.heap /\
 Fly P w outer ea C H' B s'.heap/\(∀b o,s.heap.get? b=some o->b∉frs outer->∃o',B.get? b=some o')/\E C none H'
def Un.flown{B:Kv}(u:Un fs ex H r g k)(cov:∀b o,g.get? b=some o->b∉fs->b∉ex->∃f,B.get? b=some f)(s1:∀b o,B.get? b=some o->k.get? b=some o)(m:∀b o,B.get? b=some o->h.get? b=some o)
  (w:k.UpToSlots h) (fd:∀b∈fs,b∉ex/\H b=none/\∀o,g.get? b=some o->∀v,o.data ≠ .fields v):Un fs ex H r g h:=by
 have keep:∀b o,g.get? b=some o->H b=none->b∉fs->b∉ex->h.get? b=some o:=λ b o e n a d=>by have l:=u.keep b o e n a d;obtain⟨f,q⟩:=cov b o e a d;have p:=s1 b f q;rw[l]at p;cases p;exact m b o q
 have c:∀b o,g.get? b=some o->H b=none->b∈fs->b∉ex->∃j,h.get? b=some {o with slots:=j}:=λ b o e n a d=>by obtain⟨j,l⟩:=u.slot b o e n a d;obtain⟨i,x⟩:=w b _ l ((fd b a).2.2 o e);exact⟨i,x⟩
 refine⟨keep,c,u.free,λ b o e d=>?_,u.tups,u.frzs,u.tbls⟩;by_cases a:b∈fs
 ·obtain⟨j,q⟩:=c b o e (fd b a).2.1 a d;exact⟨_,q⟩
 ·obtain⟨f,q⟩:=cov b o e a d;exact⟨f,m b f q⟩
def Inv.frameData(I:KR pins):∀b∈X.fs,b∉X.ex/\X.H₀ b=none/\∀o,X.s₀.heap.get? b=some o->∀f,o.data ≠ .fields f:=λ b a=>by
 refine⟨λ z=>I.ok.exfs b z a,I.ok.frf.1 b a,λ o e=>?_⟩;obtain⟨_,o',c,d⟩:=I.ok.funs.mem a
 rw[e]at c;cases c;exact d
def Inv.notStk(I:KR pins)(e:X.s₀.heap.get? b=some o)(a:b∉X.fs):b∉frs X.stack:=λ z=>by
 rcases i6.mp (I.stkSub b z)with q | q
 ·exact absurd (t7 (k9 e) I.ok.above) Mn
 ·exact a q
theorem Inv.flown(I:KR a)(F:Fly X.prog X.w l N C H B s.heap)(h:∀b o,X.s₀.heap.get? b=some o->b∉frs X.stack->b∉X.ex->∃g,B.get? b=some g)
  (y:∀p∈X.pn++a,∃g,B.get? p.1=some g) (st:∀b o,B.get? b=some o->h'.get? b=some o) (up:s.heap.UpToSlots h'):Inv X a σ H {s with heap:=h',toks:=t'}:=by
 have f:∀c v,s.heap.IsCell c v->h'.IsCell c v:=λ c v ⟨o,J,hd⟩=>by obtain⟨sl,q⟩:=up c o J (λ vs z=>by rw[hd]at z;cases z);exact⟨_,q,hd⟩
 refine⟨I.ok,I.os,I.bare,I.base.flown (λ b o e M E=>h b o e (I.notStk e M) E) F.stays st up I.frameData,?_,λ x c e=>?_,I.free,I.freeC,λ p w=>?_,F.hok.kept st,I.len⟩
 ·obtain⟨m,K,L⟩:=I.loc;refine⟨m,up.ns K,λ i x v Q P O=>?_⟩;obtain⟨u,r,l⟩:=L i x v Q P O;refine⟨u,r,?_⟩;rcases l with l | ⟨k,c,e,z⟩
  ·exact .inl l
  ·exact .inr ⟨k,c,e,f c _ z⟩
 ·obtain⟨v,z⟩:=I.cell x c e;exact⟨v,f c v z⟩
 ·obtain⟨e,n,ne,A,d⟩:=I.pin p w;obtain⟨g,q⟩:=y p w;have j:=F.stays _ _ q;rw[e]at j;cases j;exact⟨st _ _ q,n,ne,A,d⟩
section
variable {P:Kz} {w:Ky} {K:KC} {mg:Str->Kr Ks} {base:Kv} {N:on Str} {qual:Str} {scope:KD} {f:Ku} {cd:Ks} {A:KA} {outer:on Env} {s:Kt} {H:Hp} {E:XK}
abbrev cxX(P:Kz)(w:Ky)(K:KC)(mg:Str->Kr Ks)(base:Kv)(N:on Str)(qual:Str)(scope:KD)(f:Ku)(cd:Ks)(A:KA)(outer:on Env)(s:Kt)(H:Hp)(E:XK):Cx:=
 cxOf (CXx P w) P w K mg base N qual scope f cd A outer s H E
def Hz(I:Inv Lg i σ p s1)(x:Heap.MadeExcOf s1.heap h' n C vs)(L:E C none p) :
  (Lg).xe (.ref n) {s1 with heap:=h'}:=by
 have j:=I.stack;have l:∀b o,(PySem.W.hideAll s1.heap (frs (Lg).stack)).get? b=some o->s1.heap.get? b=some o:=λ b o q=>PySem.W.of_hideAll _ q;have k:∀b u,p b≠none->s1.heap.get? b=some u->(PySem.W.hideAll s1.heap (frs (Lg).stack)).get? b=some u:=λ b u d q=>jF _ q λ z=>d (I.stkFree b z);refine B4 (wpAny_leaves_madeW (Q:=λ _ v=>∃g t,v = {s1 with heap:=g} /\ Heap.FlyingW (PySem.W.hideAll s1.heap (frs (Lg).stack)) outer n C (.ref t) g/\h'.UpToSlots g) (E:=λ _ _=>False) (h:=s1.heap) I.ok.frames rfl l (PySem.W.funFrames_hide j (λ r F b d=>br.mpr ⟨r,F,d⟩)) x λ g t m tup nt up=>⟨g,t,rfl,m,up⟩) (λ _ v ⟨g,t,O,m,up⟩=>?_) (λ _ _ q=>q.elim);subst O;have c:∀b o,s.heap.get? b=some o->b∉frs outer->∃B,(PySem.W.hideAll s1.heap (frs (Lg).stack)).get? b=some B:=λ b o e d=>by obtain⟨y,M⟩:=I.base.there b o e (by intro z;exact nomatch z);exact⟨y,jF _ M (I.notStk e d)⟩
 refine⟨n,C,p,_,rfl,I.os,I.bare,I.base.flown (λ b o e d _=>c b o e d) l m.1 ((Heap.UpToSlots.of_keeps x.keeps).trans up) I.frameData,⟨⟨_,m⟩,λ a o q=>?_⟩,c,L⟩
 ·refine(I.hok a o q).stay (λ b u J e=>k b u ?_ e) (λ _ z=>z) (λ _ _ z=>z) (λ _ _ z=>z) λ _ _ _ _ _ z=>z;rcases J with z | z
  ·subst z;rw[q];intro z;cases z
  ·rw[z];intro z;cases z
def HA(I:Inv Lg g σ i s1)(F:Fly P w (Lg).stack h C i B s1.heap)
  (k:∀b o,s.heap.get? b=some o->b∉frs (Lg).stack->∃m,B.get? b=some m) (n:E C none i):(Lg).xe (.ref h) s1:=by
 obtain⟨u,p⟩:=F.fly;refine B4 (wpAny_leaves_onW (Q:=λ _ l=>∃d,l = {s1 with heap:=d} /\ Heap.FlyingW B outer h C u d/\s1.heap.UpToSlots d) (E:=λ _ _=>False) I.ok.frames rfl p λ d a up=>⟨d,rfl,a,up⟩) (λ _ l ⟨d,r,a,up⟩=>?_) (λ _ _ q=>q.elim);subst r;have c:=λ b o e j=>k b o e (I.notStk e j)
 exact⟨h,C,i,B,rfl,I.os,I.bare,I.base.flown (λ b o e j _=>c b o e j) F.stays a.1 up I.frameData,⟨⟨_,a⟩,F.hok⟩,c,n⟩
def HB:bM (CXx P w) Lg E:=by
 intro h σ H0 s0 e s' I c;obtain⟨ea,C,H',B,rfl,i,a,un,F,g,k⟩:=c;refine HA (I.call' i un (F.hok.kept F.stays) a λ b d=>nomatch d) F (λ b o e d=>?_) k;obtain⟨j,l⟩:=I.base.there b o e (by intro z;exact nomatch z);exact g b j l d
end
noncomputable def excO(ea:Ku)(C:Ks):HO:=.ext λ h=>∃oe vs,h.get? ea=some oe/\oe.cls=C/\oe.data=.fields vs
def HD(x:∃a b,h.get? f=some a/\a.cls=C/\a.data=.fields b):u6 P w H h f (excO f C):=by
 refine⟨x,?_,λ h1 h2 p k=>?_⟩
 ·obtain⟨a,_,e,_⟩:=x;exact⟨a,e⟩
 ·obtain⟨a,b,e,c,d⟩:=p;exact⟨a,b,k a e,c,d⟩
def XP(X:Cx)(pins:LF)(E:St->Ks->Hp->Prop)(e:Ks)(s':Kt):Prop:=∃(ea:Ku) (C:Ks) (σ':St) (H':Hp) (B:Kv),e=.ref ea/\Inv X pins σ' H' s'/\Fly X.prog X.w X.stack ea C H' B s'.heap /\
 (∀b o,X.s₀.heap.get? b=some o->b∉frs X.stack->b∉X.ex->∃o',B.get? b=some o')/\(∀p∈X.pn++pins,∃o',B.get? p.1=some o')/\E σ' C H'
abbrev Cx.tryIn(X:Cx)(pins:LF)(E:St->Ks->Hp->Prop):Cx:={X with pn:=X.pn++pins,xe:=XP X pins E}
abbrev Cx.inExc(X:Cx)(ea:Ku):Cx:={X with A:=X.A.mark (Md ea),calm:=false,xe:=λ _ _=>False}
theorem Cx.Ok.tryIn{X:Cx}(k:X.Ok):(X.tryIn pins E).Ok:=⟨k.mod,k.kind,k.glob,k.blt,k.above,k.inj,k.has,k.cab,k.hd,k.frames,k.stk,k.exf,k.bs,k.bsz,k.noex,k.exfs,k.funs,k.frf⟩
def Cx.Ok.untry{X:Cx}(k:(X.tryIn pins E).Ok):X.Ok:=⟨k.mod,k.kind,k.glob,k.blt,k.above,k.inj,k.has,k.cab,k.hd,k.frames,k.stk,k.exf,k.bs,k.bsz,k.noex,k.exfs,k.funs,k.frf⟩
theorem Cx.Ok.inExc{X:Cx}(k:X.Ok):(X.inExc ea).Ok:=⟨k.mod,k.kind,k.glob,k.blt,k.above,k.inj,k.has,k.cab,nofun,k.frames,k.stk,k.exf,k.bs,k.bsz,k.noex,k.exfs,k.funs,k.frf⟩
theorem Inv.tryIn(I:KR (a++pins')):Inv (X.tryIn a E) pins' σ H s:=
 ⟨I.ok.tryIn,I.os,I.bare,I.base,I.loc,I.cell,I.free,I.freeC,λ p b=>I.pin p (by have b:=b;rw[Q9]at b;exact b),I.hok,I.len⟩
theorem Inv.untry(I:Inv (X.tryIn pins E) pins' σ H s):Inv X (pins++pins') σ H s:=
 ⟨I.ok.untry,I.os,I.bare,I.base,I.loc,I.cell,I.free,I.freeC,λ p hp=>I.pin p Mn,I.hok,I.len⟩
theorem Inv.inExc(I:KR a):Inv (X.inExc b) a σ H s:=⟨I.ok.inExc,I.os,I.bare,I.base,I.loc,I.cell,I.free,I.freeC,I.pin,I.hok,I.len⟩
def Inv.unExc(I:Inv (X.inExc b) a σ H s)(k:X.Ok):Inv X a σ H s:=⟨k,I.os,I.bare,I.base,I.loc,I.cell,I.free,I.freeC,I.pin,I.hok,I.len⟩
def iP(I:KR g)(hN:X.N.Nodup)(O:X.N[i]? = some x)(l:X.env.scope.names.lookup x=some .local)
  (h:∀N,Inv X g (σ.set i none) H N->Q () N):wpAny M A (do bindName X.env x .none;unbindBehindTheSuite X.env x pos) Q EE s:=by
 obtain⟨m,hn,hl⟩:=id I.loc;have w:(X.env.scope.kind == .class||(X.env.scope.kind == .module&&X.env.locals != X.env.globals))=false:=by rw[I.ok.kind];rfl
 have u:i<σ.length:=by rw[I.len];exact(z7.mp O).1
 have cne:=I.cne;have a:∀{C:Kv},Heap.SameBut X.env.locals s.heap C->HOk X.prog X.w H C:=λ {C} f b W e=>by
  refine(I.hok b W e).stay (λ c L B q=>(f.2 c ?_).trans q) (λ _ q=>q) (λ _ _ q=>q) (λ _ _ q=>q) λ _ _ _ _ _ q=>q
  rintro rfl
  rcases B with rfl | B
  ·rw[I.free]at e;cases e
  ·rw[I.free]at B;cases B
 refine wpAny_nameGoes_keeps l hn w λ C v F f=>?_;refine h _ ⟨I.ok,I.os,I.bare,⟨λ b o e n K l=>?_,λ b o e n K l=>?_,I.base.free,λ b o e l=>?_,I.base.tups,I.base.frzs,I.base.tbls⟩,⟨_,F,λ j y P r E e3=>?_⟩,λ y c e=>?_,I.free,I.freeC,λ p hp=>?_,a f,by simpa using I.len⟩
 ·exact(MA).trans (I.base.keep b o e n K l)
 ·obtain⟨S,r⟩:=I.base.slot b o e n K l;exact⟨S,(MA).trans r⟩
 ·obtain⟨Y,r⟩:=I.base.there b o e l;exact⟨Y,(MA).trans r⟩
 ·by_cases J:j=i
  ·subst J;rw[K6 u]at E;cases E
  ·rw[A2 (Mq J)]at E;obtain⟨R,U,q⟩:=hl j y P r E e3;refine⟨R,U,?_⟩;rcases q with⟨k,e⟩ | ⟨k,c,e,z⟩
   ·refine .inl ⟨k,?_⟩;have:y≠x:=λ e=>J (gE hN r (e▸O));simp[this,e]
   ·exact .inr ⟨k,c,e,z.sameBut f (cne y c e)⟩
 ·obtain⟨L,z⟩:=I.cell y c e;exact⟨L,z.sameBut f (cne y c e)⟩
 ·obtain⟨e,n,ne,Z,d⟩:=I.pin p hp;exact⟨(f.2 p.1 ne).trans e,n,ne,Z,d⟩
def bc(CX:CXT)(X:Cx)(E:St->XK):Prop:=∀(pins:LF) (σ:St) (H:Hp) (s:Kt) (e:Ks) (s':Kt),Inv X pins σ H s->CX X.stack H s (E σ) e s'->X.xe e s'
theorem bM.s{CX:CXT}{X:Cx}{E:XK}(h:bM CX X E):bc CX X λ _=>E:=λ pins σ H s e s' I q=>h pins σ H s e s' I q
def HE{X:Cx}:bc (CXx X.prog X.w) (X.tryIn a E) (λ g C _ H=>E g C H):=by
 intro h g H0 s0 e s' I j;obtain⟨v,C,y,B,rfl,l,f,un,F,c,u⟩:=j;have x:=I.call' l un (F.hok.kept F.stays) f λ b k=>nomatch k
 have J:=x.untry;refine⟨v,C,g,y,B,rfl,J.pins_of λ p i=>J.pin p (A0 _ (E3 _ i)),F,λ b o e k r=>?_,λ p i=>?_,u⟩
 ·obtain⟨m,w⟩:=I.base.there b o e r;exact c b m w k
 ·obtain⟨e,n,ne,q,d⟩:=I.pin p (E3 _ i);exact c p.1 p.2 e λ z=>(i6.mp (I.stkSub _ z)).elim ne q
section
variable {X:Cx} {CX:CXT} {k:Nat} {f C:Ku} {fd:FuncData} {ps:on Str} {sp:Sp} {dvs:on V} {ds:on Ks} {E:St->XK} {x m:Str} {p pos apos:Pos} {e o:Kw} {es:on Kw} {ta:TE} {t:TA}
def HF(F:FnOk X.prog X.w X.K X.mg X.base CX k f fd ps sp)(j:Room k X.A)(n:O1 X.K fd ps ds)(m:Vals dvs ds)(i:bc CX X E)
  (I:KR a) (r:Vals vs b) (h:sp (vs++dvs) H Q (E σ)):wpAny KO X.A (call (.ref f) b) (EP X a σ Q) X.xe s:=by
 have d:=r.append m;have l:(b++ds).length=ps.length:=by rw[←d.length];exact F.len _ _ _ _ h
 refine dB (U4 (F.run X.A X.stack s H ⟨b,[]⟩ _ _ Q (E σ) j I.env0 (n s b I.kIn l) d h) λ r g c=>?_);cases r with
 | error e=>exact i a σ H s e g I c
 | ok o=>
  cases o with
  | ret u=>exact I.after c
  | next=>exact False.elim c
  | brk=>exact False.elim c
  | cont=>exact False.elim c
noncomputable def HG(sp:Sp)(dvs:on V)(E:St->XK)(t:TA):TE:=λ σ H Q=>t σ H λ vs H1=>sp (vs++dvs) H1 Q (E σ)
def HH(F:FnOk X.prog X.w X.K X.mg X.base CX k f fd ps sp)(j:Room k X.A)(n:Gl X x)(l:X.mg x=some (.ref f))(m:PySem.W.keepIn X.K (.ref f)=true)(v:O1 X.K fd ps ds)(u:Vals dvs ds)(i:bc CX X E)
  (w:PA X (e::es) t) (c:Lu=false:=by decide) (o:starEach (e::es) X.env=(Mu e)::starEach es X.env:=by rfl) (b:(Mf pos es).any (·.1)=false:=by rfl) :
  PE X (LC x) (HG sp dvs E t):=by
 intro a s g H Q I h;refine aF (dH I n l ?_ c);refine jH I.ok.mod.kin m (thn (w pos a s g H _ I h) λ us s1 ⟨vs,H1,d,r,q⟩=>⟨d.kIn,?_⟩) o b;exact HF F j v u i d r q
end
def tTry(K:KC)(cv:Ks)(i:Nat)(tb:(St->Ks->Hp->Prop)->TS)(ts:TS):TS:=λ D σ H=>
 tb (λ σ' C H'=>PySem.W.exmOne K C cv=some true/\∀ea,H' ea=none->ts {nx:=λ σ2 H2=>D.nx (σ2.set i none) H2,rt:=D.rt,bk:=λ σ2 H2=>D.bk (σ2.set i none) H2,ct:=λ σ2 H2=>D.ct (σ2.set i none) H2} (σ'.set i (Md ea)) (upd H' ea (excO ea C))) D σ H
def HI{X:Cx}{body suite:on KB}{b₀:KB}{c n:Str}{np hpos pos:Pos}{i:Nat}{tb:(St->Ks->Hp->Prop)->TS}{ts:TS}{cv:Ks}(hst:X.stack=X.env::X.outer)(hfr:X.env.frame=some X.env.locals)(hex:X.ex=[])(hgl:Gl X c)(hm:X.mg c=some cv)
  (hN:X.N.Nodup) (hi:X.N[i]? = some n) (hl:X.env.scope.names.lookup n=some .local) (hb:∀pins E,PSs (X.tryIn pins E) body (tb E)) (hs:∀ea,PSs (X.inExc ea) (b₀::suite) ts) (hd:(c==("__debug__" : Str))=false:=by decide) :
  PS X (.Try body [.ExceptHandler (some (.Name c np)) (some n) (b₀::suite) hpos] [] [] pos) (tTry X.K cv i tb ts):=by
 intro pins s σ H D I h;refine wpAny_Try_except ?_;have un:∀{σ1:St} {H1:Hp} {s1:Kt} {E:St->Ks->Hp->Prop},Inv (X.tryIn pins E) [] σ1 H1 s1->Inv X pins σ1 H1 s1:=λ {σ1 H1 s1 E} J=>by have q:=J.untry;rw[B3]at q;exact q
 refine B4 (hb pins _ [] s σ H D (Inv.tryIn (pins':=[]) (by rw[B3];exact I)) h) (λ f s1 q=>?_) (λ e s1 q=>?_)
 ·cases f with
  | next=>obtain⟨σ1,H1,I1,q1⟩:=q;exact da ⟨σ1,H1,un I1,q1⟩
  | brk=>obtain⟨σ1,H1,I1,q1⟩:=q;exact⟨σ1,H1,un I1,q1⟩
  | cont=>obtain⟨σ1,H1,I1,q1⟩:=q;exact⟨σ1,H1,un I1,q1⟩
  | ret u=>obtain⟨v,σ1,H1,I1,r1,q1⟩:=q;exact⟨v,σ1,H1,un I1,r1,q1⟩
 ·obtain⟨ea,C,σ1,H1,B,rfl,I1,F,cov,pc,hE,hsuite⟩:=q;obtain⟨a0,fl⟩:=F.fly;have fl':Heap.FlyingW B (X.env::X.outer) ea C a0 s1.heap:=by rw[←hst];exact fl
  refine wpAny_looks_onW (by rw[←hst];exact I1.ok.frames) hfr fl' λ h4 held up4=>?_;refine wpAny_landsW held λ h5 fl5 up5=>?_;have up:=up4.trans up5;have I5:Inv X pins σ1 H1 {s1 with heap:=h5}:=I1.flown (t':=s1.toks) F cov pc fl5.1 up;have J5:Inv (X.inExc ea) pins σ1 H1 {s1 with heap:=h5}:=I5.inExc;obtain⟨oe,ws,hoe,hoec,hoed,hoe0⟩:=fl5.first
  refine wpAny_handleBy_cons (codeAny_handlers_test ?_) (by intro q;cases q);refine dH J5 hgl hm ?_ hd;have LT:PySem.W.Looks KO h5 (typeOf (.ref ea)) C:=hoec▸(PySem.W.Looks.ld hoe).andThen .now;refine(PySem.W.exm_one (M:=model X.prog X.w) (K:=X.K) (h:=h5) J5.kIn LT hE).here ?_;show codeAny _ _ (.handlers (.ref ea) [.ExceptHandler none (some n) (b₀::suite) hpos] X.env) _ _;refine codeAny_handlers_suite_as ?_;refine lands_againW fl5 λ h6 fl6 up6=>?_;have I6:Inv X pins σ1 H1 {s1 with heap:=h6}:=I1.flown (t':=s1.toks) F cov pc fl6.1 (up.trans up6);obtain⟨oe6,ws6,hoe6,hoec6,hoed6,_⟩:=fl6.first
  have hn:H1 ea=none:=F.untr;have h0:X.s₀.heap.get? ea=none:=by
   cases q:X.s₀.heap.get? ea with
   | none=>rfl
   | some o=>
    exfalso;by_cases hf:ea∈frs X.stack
    ·obtain⟨_,o',e',d⟩:=I6.stack.mem hf;have e'':h6.get? ea=some o':=e';rw[hoe6]at e'';cases e'';exact d _ hoed6
    ·obtain⟨o',z⟩:=cov ea o q hf (by rw[hex];intro z;exact nomatch z);rw[F.newE]at z;cases z
  have hL:ea≠X.env.locals:=λ z=>by
   obtain⟨m,⟨o,es,ep,ho,hdd,_⟩,_⟩:=I6.loc;have ho':h6.get? ea=some o:=by rw[z];exact ho
   rw[hoe6]at ho';cases ho';rw[hoed6]at hdd;cases hdd
  have hc:∀x c,X.env.cells.lookup x=some c->c≠ea:=λ x c e z=>by
   obtain⟨v,o,ho,hdd⟩:=I6.cell x c e;have ho':h6.get? ea=some o:=by rw[←z];exact ho
   rw[hoe6]at ho';cases ho';rw[hoed6]at hdd;cases hdd
  have hp:∀p∈X.pn++pins,p.1≠ea:=λ p hp z=>by obtain⟨o',q⟩:=pc p hp;rw[z,F.newE]at q;cases q
  have J6:Inv (X.inExc ea) pins σ1 (upd H1 ea (excO ea C)) {s1 with heap:=h6}:=(I6.track hn h0 hL hc hp (HD ⟨oe6,ws6,hoe6,hoec6,hoed6⟩)).inExc;refine gF (X:=X.inExc ea) (i:=i) (v:=.ref ea) J6 hN hi (Or.inl hl) rfl (λ s7 I7=>?_) (.inr hl);refine B4 (hs ea pins s7 _ _ _ I7 (hsuite ea hn)) (λ f s8 q=>?_) λ _ _ z=>z.elim;cases f with
  | next=>obtain⟨σ8,H8,I8,q8⟩:=q;exact iP (I8.unExc I.ok) hN hi hl λ s9 I9=>⟨_,H8,I9,q8⟩
  | brk=>obtain⟨σ8,H8,I8,q8⟩:=q;exact iP (I8.unExc I.ok) hN hi hl λ s9 I9=>⟨_,H8,I9,q8⟩
  | cont=>obtain⟨σ8,H8,I8,q8⟩:=q;exact iP (I8.unExc I.ok) hN hi hl λ s9 I9=>⟨_,H8,I9,q8⟩
  | ret u=>obtain⟨v,σ8,H8,I8,r8,q8⟩:=q;exact iP (I8.unExc I.ok) hN hi hl λ s9 I9=>⟨v,_,H8,I9,r8,q8⟩
def nk(K:KC)(C:Ku):Prop:=∃B newId initId bmB,ExcBaseFacts B newId initId bmB/\∃bm ns nm qn bs hd sn sub ab col dd k0 k1 k2 k3 k5,K.lookup C=some ⟨.type "type",dd,.cls ⟨nm,bs,.ref C::bm,ns,qn,hd,sn,sub,ab,col,false⟩,#[k0,k1,k2,k3,some (.builtin newId),k5]⟩/\PySem.W.nsOkIn K ns=true/\PySem.W.nsIn K ns "__init__" = some none/\PySem.W.tailIn K bmB bm=true
def nr(X:Cx)(E:St->XK):Prop:=∀(pins:LF) (σ:St) (H:Hp) (s:Kt) (h':Kv) (ea:Ku) (C:Ks) (vs:on Ks),Inv X pins σ H s->Heap.MadeExcOf s.heap h' ea C vs->E σ C none H->X.xe (.ref ea) {s with heap:=h'}
def HJ{K:KC} :
  nr (cxX P w K mg base N a scope f cd A outer s H E) λ _=>E:=λ b σ H1 s1 h' ea C vs I c d=>Hz I c d
noncomputable def HK(C:Ku)(E:St->XK)(t:TA):TS:=λ _ σ H=>t σ H λ vs H1=>vs.length<=sizeLine/\E σ (.ref C) none H1
def HL{rest:on Kw}(R:nk X.K C)(U:Mk)(S:Gl X x)(P:X.mg x=some (.ref C))
  (Y:nr X E) (W:PA X (a::rest) t) (hd:Lu=false:=by decide) (r:starEach (a::rest) X.env=(Mu a)::starEach rest X.env:=by rfl) (l:(Mf b rest).any (·.1)=false:=by rfl) :
  PS X (.Raise (some (.Call (Mo np) (a::rest) [] b)) none pos) (HK C E t):=by
 intro c s o H D I h;obtain⟨B,k,i,bmB,u,tl,N,z,q,bs,g,w,sub,ab,col,dd,L,K,J,F,A,O,f,m,M⟩:=R;have T:=PySem.W.tail_of_in I.mod.kin M;have Z:=Heap.Ns.of_isNs (PySem.W.isNs_of_in I.mod.kin f);refine wpAny_Raise_call_subT (C:=C) (nm:=z) (q:=q) (N:=N) (bs:=bs) (hdct:=g) (sn:=w) (sub:=sub) (ab:=ab) (col:=col) (dd:=dd) (k0:=L) (k1:=K) (k2:=J) (k3:=F) (k5:=A)
  u (T.hasType u.hasBase) (I.ok.hd U) (by rw[r];show(false||(Mf b rest).any (·.1))=false;rw[l];rfl) (PySem.W.nsMap_none_of_in I.mod.kin f m) (dH I S P ⟨rfl,?_⟩ hd)
 have p:=W b c s o H _ I h;rw[r]at p ⊢;exact jz (thn p λ v d ⟨xs,H2,j,y,Q,hE⟩=>⟨rfl,by show v.length<=sizeLine;rw[←y.length];exact Q,j.bk _ _ (I.mod.kin _ _ O),Z.keeps j.bk,T.keeps j.bk,λ h' e n=>Y c o H2 d h' e _ _ j n hE⟩)
def FunD.okXx{K:KC}{st:KB}(F:FunD K x a st f fd)(S:FnScope N ps (u9 st))(len:∀vs H Q E,d vs H Q E->vs.length=ps.length)
  (c:∀(b:Ks),fd.code=b->∀(A:KA) (outer:on Env) (s:Kt) (H:Hp) (vs:on V) (Q:VK) (E:XK),Room k (A.deeper (envOfC a (u9 st) s.heap.objs.size f b))->d vs H Q E ->
   ∃t,PSs (cxX P w K mg base N a (u9 st) f b A outer s H E) (J2 st) t/\t {nx:=λ _ m=>Q .non m,rt:=Q} (start N vs) H):FnOk P w K mg base (CXx P w) (k+1) f fd ps d:=by
 obtain⟨oc,od,dV,kV,l,pm,an,b,ct,h,rfl,i,g⟩:=F.ex;exact qR i g S len λ A outer s H vs Q E j e=>c b rfl A outer s H vs Q E j e
open PySem.W PySem.Builtin PySem.Builtin.ObjectAttr PySem.Builtin.Getset_descriptor
def au(x D:Ku)(h:Kv):Prop:=∃o,h.get? x=some o/\o.cls=.ref D
section
variable {prog:Kz} {w:Ky} {K:Frag} {x D:Ku} {M:Model} {h:Kv}
def au.ty(p:au x D h):Looks M h (typeOf (.ref x)) (.ref D):=by
 obtain⟨o,e,c⟩:=p;exact c▸(Looks.ld e).andThen .now
def HM(X:K.In h)(d:findIn K (.ref D) n=some (some a))(c:specialIn K a "__get__" = some (some g))(b:takesIn K a=some true):Looks M h (find (.ref x) (.ref D) n) (.bind g a):=by
 have T:Looks M h (dataDescriptor? (some a) (some g)) _:=(looks_takesIn X b).andThen .now;exact(looks_findIn X d).andThen ((looks_specialIn X c).andThen (T.andThen (Looks.tag .now)))
structure ClsK(K:Frag)(D:Addr):Prop where
 ga:findIn K (.ref D) "__getattribute__" = some (some (.builtin "BaseException.__getattribute__"))
 gt:findIn K (.ref D) "__getattr__" = some none
 mb:mroIn K D (.type "BaseException")=some true
 hd:hasDictIn K D=true
 fc:findIn K (.ref D) "__class__" = some (some (.builtin "object.__class__"))
 sg:specialIn K (.builtin "object.__class__") "__get__" = some (some (.builtin "getset_descriptor.__get__"))
 tk:takesIn K (.builtin "object.__class__")=some true
 mo:mroIn K D (.type "object")=some true
def HN(X:K.In s.heap)(p:au x D s.heap)(b:mroIn K D (.type "object")=some true)(q:R (.ok (.ret (.ref D))) s) :
  codeAny KN A (.call (.builtin "getset_descriptor.__get__") ⟨[.builtin "object.__class__",.ref x,a],[]⟩) R s:=by
 obtain⟨h0,g0,d0,t0,o0⟩:=s;have T0:=p.ty (M:=model prog w);have T1:=looks_mroIn (M:=model prog w) X b;refine jB KF.slot_gs.plain KF.entry_gs (KF.slot_gs.check _ _ _ _ _ _ _ _ KF.type_class (KF.args_gs _ _ _) ?_);unfold Builtin.«getset_descriptor.__get__»;unfold descrGet;rw[dga_obj];refine f0 (f9 ?_);unfold descrGetter;unfold descrCheckInstance;unfold descrNameAndClass;unfold isInstance;simp only[KF.owner_class]
 repeat lk
 refine⟨Code.quiet_builtin _ LU,U0 KF.entry_class ?_⟩;unfold Builtin.«object.__class__»;unfold shownTypeOf
 repeat lk
 exact q
def HP(C:ClsK K D)(X:K.In s.heap)(p:au x D s.heap)(q:Q () s):wpAny KN A (checkBuiltinCall "BaseException.__getattribute__" ⟨[.ref x,nm],[]⟩) Q E s:=by
 obtain⟨h0,g0,d0,t0,o0⟩:=s;have b:builtinKind "BaseException.__getattribute__" = some .slot:=by decide +kernel
 have a:splitId "BaseException.__getattribute__" = some ("BaseException","__getattribute__"):=by decide +kernel
 have c:=looks_mroIn (M:=model prog w) X C.mb;have ha:=F.args_bexc_ga (.ref x) nm;simp[checkBuiltinCall,b,a];refine f0 (((p.ty).andThen c).at ?_)
 repeat (any_goals (first | assumption | wp_step))
def HQ(C:ClsK K D)(X:K.In s.heap)(p:au x D s.heap)(q:Q (.done (.ret (.ref D))) s):wpAny KN A (Builtin.«object.__getattribute__» ⟨[.ref x,.str "__class__" tk],[]⟩) Q E s:=by
 obtain⟨h0,g0,d0,t0,o0⟩:=s;unfold Builtin.«object.__getattribute__»
 repeat (any_goals (first | assumption | with_reducible refine (p.ty).at ?_ | with_reducible refine (HM X C.fc C.sg C.tk).at ?_ | wp_step))
 refine HN X p C.mo ?_
 repeat (any_goals (first | assumption | wp_step))
def HR(C:ClsK K D)(X:K.In s.heap)(p:au x D s.heap)(q:Q (Md D) {s with toks:=s.toks+1}):wpAny KN A (getAttr? (.ref x) "__class__") Q E s:=by
 obtain⟨h0,g0,d0,t0,o0⟩:=s;have f3:=F.attr_ValueError.ga.bind (.ref x);unfold getAttr?;unfold getAttrBy?;unfold getAttrBy;refine f0 (kr (f0 (U3 (F9 (f0 ((p.ty).at (f0 ((looks_findIn X C.ga).at ?_))))))));dsimp only;have ne:(onTheHeap (Value.ref D)&&Value.builtin "BaseException.__getattribute__" == Value.builtin "object.__getattribute__")=false:=(by rw[show(Value.builtin "BaseException.__getattribute__" == Value.builtin "object.__getattribute__")=false by decide +kernel,fZ]);rw[g9 Mn];unfold getAttrByItsOwn;unfold hookBefore;rw[f8 (show onTheHeap _=true from rfl)];refine f0 ((looks_findIn X C.gt).at ?_);refine f0 (U3 (F9 ?_));unfold callGetattribute;rw[g9 KL]
 repeat (any_goals (first | assumption | wp_step))
 refine jB F.attr_ValueError.ga.plain F.entry_bexc_ga (HP C X p (HQ C X p ?_));exact handed_on rfl (f9 q)
def HU(C:ClsK K D):KitX K (.ref x) (.ref D) (au x D) where
 ty:=λ _ _ _ p=>p.ty
 it:=λ M h X _=>by
  obtain⟨i,e,_⟩:=any_some C.hd;unfold clsIn at e;split at e
  ·rename_i a;intro A1 Q1 E1 s1 c b;unfold isType;unfold loadHead;exact f0 (wpAny_loadPart (c _ _ (X _ _ a)) (f9 b))
  ·cases e
 ne:=λ h tp dd d n sl X f=>by
  obtain⟨i,e,_⟩:=any_some C.hd;rw[Bool.eq_false_iff];intro z;have g:=Value.ref.inj (h8.mp z);subst g;unfold clsIn at e;split at e
  ·rename_i a;cases(X _ _ a).symm.trans f
  ·cases e
 ca:=λ X p k=>HR C X p k
def HV(C:ClsK K D)(X:K.In s.heap)(p:au x D s.heap)(e:kitOne K (.ref D) c=some b)(q:∀a,Q (.bool b) {s with toks:=a}):wpAny KN A (call (.builtin "isinstance") [.ref x,c]) Q E s:=
 kia_one (HU C) X p e nofun q
end
def spX(D:Dm)(C:Ks)(n:Nat)(f:on DV->Kr Ou):Sp:=λ vs H Q E=>∃O ds o,Hdn O H/\ds.length=n/\RepL D (Ll O) ds vs/\f ds=some o/\∀H',Same H H'->E C none H'
def GX(sg:Sg)(F:Lo)(X:Cx)(C:Ks):Prop:=∀f x,sg.fn[f]? = some x->∃k fa fd ps,Room k X.A/\X.mg x=some (.ref fa)/\PySem.W.keepIn X.K (.ref fa)=true/\O1 X.K fd ps []/\(∀ds o,F (rxIx+f) ds=some o->ds.length=ps.length) /\
  FnOk X.prog X.w X.K X.mg X.base (CXx X.prog X.w) k fa fd ps (spX X.D C ps.length (F (rxIx+f)))
def tX(D:Dm)(C:Ks)(E:St->XK)(δ:on Sv)(σ:St)(H:Hp):Prop:=(∃O W,RSt D H σ δ O W)/\∀H',Same H H'->E σ C none H'
def tX.up(h:tX D C E δ σ H)(s:Same H a):tX D C E δ σ a:=⟨let ⟨O,W,R⟩:=h.1;⟨O,W,R.mono s⟩,λ b z=>h.2 b (s.trans z)⟩
section
variable {sg:Sg} {G:Gs} {F:Nat->on DV->Kr Ou} {X:Cx} {C:Ks} {E:St->XK} {δ:on Sv} {e:Kw} {m:ME}
def ve:PA X es λ _ _ _=>False:=λ _ _ _ _ _ _ _ h=>h.elim
def vf:PE X e λ _ _ _=>False:=λ _ _ _ _ _ _ h=>h.elim
def iQ:PSs X l λ _ _ _=>False:=λ _ _ _ _ _ _ h=>h.elim
theorem nu:∀{es:on Kw},es.any u7=false->(Mf pos es).any (·.1)=false
 | [],_=>rfl
 | y::ys,q=>by rw[G0,M0]at q;rw[w5 q.1];show(false||(backTo pos _).any (·.1))=false;rw[nu q.2];rfl
def vg(a:U8 b=false):rg b:=by cases b<;>first | (intro _ _;rfl) | cases a
def iR(g:Good sg G F X)(K:GX sg F X C)(v:bc (CXx X.prog X.w) X E)(b:corE sg false m e=true)(h:rxC G F m δ=true):PE X e λ c H _=>tX X.D C E δ c H:=by
 cases m with
 | call f i=>
  refine K3 b λ ef M u b=>?_;rw[f7,f7]at b;obtain⟨⟨a,J⟩,n⟩:=b;refine G9 a λ x p a=>?_;simp only[f7,h8,W8,ne_eq]at a;obtain⟨k,fa,fd,ps,w,z,B,I,A,fo⟩:=K f x a.1.1;cases M with
  | nil=>cases J
  | cons y ys=>
   have d:=V6 n;rw[G0,M0]at d
   replace h:(match evEs G F i δ with | some (.ok l)=>(F _ _).isSome | none=>false)=true:=h
   cases q:evEs G F i δ with
   | none=>rw[q]at h;cases h
   | some r=>
    rw[q]at h;obtain⟨l⟩:=r;obtain⟨o,j⟩:=T5.mp h;refine(HH fo w (g.glo x a.1.2) z B I .nil v (sndL i g n q) (x8.mpr a.2) (w5 d.1) (nu d.2)).weak λ c H Q ⟨⟨O,W,R⟩,p⟩=>⟨O,W,R,λ vs N s1 L=>?_⟩
    have hd:=R.hid.mono s1;show spX X.D C ps.length _ _ N Q (E c);rw[B3];exact⟨O,_,_,hd.hdO,A _ _ j,L.repL hd,j,λ P s=>p P (s1.trans s)⟩
 | _=>cases h
def HW(g:Good sg G F X)(c:corE sg false (.call f i) e=true)(r:∀es,u4 sg i es=true->PA X es λ b H _=>tX X.D C E δ b H):PE X e λ b H _=>tX X.D C E δ b H:=by
 refine K3 c λ ef es l c=>?_;rw[f7,f7]at c;obtain⟨⟨a,u⟩,j⟩:=c;refine G9 a λ x p a=>?_;simp only[f7,h8,W8,ne_eq]at a;obtain⟨k,fa,fd,ps,m,n,o,q,hl,fo⟩:=g.fns f x a.1.1;cases es with
 | nil=>cases u
 | cons y ys=>
  have d:=V6 j;rw[G0,M0]at d;exact(qL fo m (g.glo x a.1.2) n o q .nil kZ (r _ j) (x8.mpr a.2) (w5 d.1) (nu d.2)).weak λ b H Q h=>h
def x_e(g:Good sg G F X)(r:GX sg F X C)(q:bc (CXx X.prog X.w) X E)(k:corE sg false m e=true)(h:rxE G F m δ=true):PE X e λ n H _=>tX X.D C E δ n H:=by
 cases m with
 | call f o=>
  rcases D8 _ _ |>.mp (h)with h | h
  ·exact iR g r q k h
  refine HW g k λ u i=>?_;cases o with
  | nil=>cases h
  | cons a o=>
   cases u with
   | nil=>unfold u4 at i;cases i
   | cons B u=>
    unfold u4 at i;simp only[f7,u5]at i;cases o with
    | nil=>exact(M5 (iR g r q i.1.1 h) ve (w5 i.1.2)).weak λ n H Q z=>z
    | cons b o=>
     replace h:((La a).isSome&&rxC G F b δ)=true:=h
     rw[f7]at h;obtain⟨⟨d,c⟩,w⟩:=T5.mp h.1;cases u with
     | nil=>have l:=i.2;unfold u4 at l;cases l
     | cons y u=>
      have l:=i.2;unfold u4 at l;simp only[f7,u5]at l;refine(M5 ((snd a).1 g i.1.1 w) (M5 (iR g r q l.1.1 h.2) ve (w5 l.1.2)) (w5 i.1.2)).weak λ n H Q z=>?_;obtain⟨O,W,R⟩:=z.1;exact⟨O,W,R,λ v H' s _=>z.up s⟩
 | ix a b=>
  cases a with
  | ix a _=>
   refine K2 k λ B y p k=>?_;simp only[f7,u5]at k;refine K2 k.1.1 λ A x p' j=>?_;simp only[f7,u5]at j;exact(kU kW (kU kW (iR g r q j.1.1 h) vf (vg j.2)) vf (vg k.2)).weak λ n H Q z=>z
  | _=>cases h
 | _=>cases h
def x_ss(g:Good sg G F X)(B:GX sg F X (.ref c))(A:bc (CXx X.prog X.w) X E)(Q:sg.top=true->nr X E)(M:X.mg "TooGreat" = some (.ref c))(N:nk X.K c):∀{n:Nat} {j:on MS} {l:on KB},E6 sg j l=true->rxS G F n j δ=true->PSs X l λ _ o H=>tX X.D (.ref c) E δ o H:=by
 have i:∀{m:MS} {j:on MS} {l:on KB},E6 sg (m::j) l=true->rxF G F m δ=true->PSs X l λ _ o H=>tX X.D (.ref c) E δ o H:=λ {m j l} f h=>by
  have K:ni m=false:=by cases m<;>first | rfl | cases h
  obtain⟨I,r,rfl,p,_⟩:=nj K f;refine(X1 (t:=λ _ o H=>tX X.D (.ref c) E δ o H) ?_ iQ).weak λ _ _ _ z=>z
  cases m with
  | exp e=>
   refine ir p λ _ _ f=>?_;simp only[f7,u5]at f;exact(gH (x_e g B A f.1 h) (iL f.2)).weak λ _ _ _ z=>z
  | ret e=>exact iz p λ _ _ f=>(bK (x_e g B A f h)).weak λ _ _ _ z=>z
  | rse x e=>
   refine CK p λ v J f=>?_;refine bR f λ ef ea C f=>?_;simp only[f7,u5,h8,W8,ne_eq]at f
   replace h:(x==("TooGreat" : Str)&&(La e).isSome)=true:=h
   rw[f7,h8]at h;obtain⟨rfl,h⟩:=h;obtain⟨⟨d,cl⟩,L⟩:=T5.mp h;obtain⟨np,rfl⟩:=V0 f.1.1.1.1.2;refine(HL N g.calm (g.glo _ f.1.1.1.2) M (Q f.1.1.1.1.1) (M5 ((snd e).1 g f.1.2 L) X2 (w5 f.2)) (x8.mpr f.1.1.2) (w5 f.2) rfl).weak λ _ o H z=>?_
   obtain⟨O,W,R⟩:=z.1;exact⟨O,W,R,λ v w s1 _=>⟨by show 1<=sizeLine;decide,z.2 w s1⟩⟩
  | _=>cases h
 intro n
 induction n with
 | zero=>
  intro j l f h;cases j with
  | nil=>cases h
  | cons m j=>exact i f h
 | succ n y=>
  intro j l f h;cases j with
  | nil=>cases h
  | cons m j=>
   cases m with
   | iff u a b=>
    obtain⟨I,r,rfl,p,_⟩:=nj rfl f;refine(X1 (t:=λ _ o H=>tX X.D (.ref c) E δ o H) ?_ iQ).weak λ _ _ _ z=>z
    refine sJ p λ _ _ _ _ f=>?_;simp only[f7]at f
    replace h:(match tstD (La u)with | some (.ok k)=>rxS G F n _ δ | none=>false)=true:=h
    cases q:tstD (La u)with
    | none=>rw[q]at h;cases h
    | some r=>
     rw[q]at h;obtain⟨k⟩:=r;have P:=(snd u).2.1 g f.1.1 q;cases k with
     | true=>
      refine(dJ P (y f.1.2 h) (iQ)).weak λ _ o H z=>?_;obtain⟨O,W,R⟩:=z.1;exact⟨O,W,R,λ w s1=>z.up s1⟩
     | false=>
      refine(dJ P iQ (y f.2 h)).weak λ _ o H z=>?_;obtain⟨O,W,R⟩:=z.1;exact⟨O,W,R,λ w s1=>z.up s1⟩
   | exp _=>exact i f h
   | ret _=>exact i f h
   | rse _ _=>exact i f h
   | _=>cases h
def rIsx(X:Cx):on V->Hp->VK->Prop:=λ xs H Q=>∃(a C:Ku) (y:V) (c:Ks) (b:Bool),xs=[.ref a,y]/\H a=some (excO a (.ref C))/\ClsK X.K C/\((∃Ct,y=.ref Ct/\c=.ref Ct)\/∃n,y=.ty n/\c=.type n)/\PySem.W.kitOne X.K (.ref C) c=some b/\Q (.bl b) H
def HY:A9 X (.builtin "isinstance") (rIsx X):=by
 intro e s σ H xs us Q I r h;obtain⟨a,C,y,c,b,rfl,v,ck,k,m,q⟩:=h;obtain⟨u,f,rfl,i,d⟩:=dM r;cases(i);obtain⟨⟨j,vs,p,o,_⟩,_⟩:=(I.hok a _ v);have l:f=c:=by
  rcases k with⟨Ct,rfl,rfl⟩ | ⟨n,rfl,rfl⟩
  ·exact d
  ·exact d
 subst l;exact HV ck I.kIn ⟨j,p,o⟩ m λ g=>⟨.bl b,H,I.tok g,rfl,q⟩
def HZ:bootBuiltins "ValueError" = some (.type "ValueError"):=by decide +kernel
structure XF(K:PySem.W.Frag)(mg:Str->Option Value)(c:Addr):Prop where
 mc:mg "TooGreat" = some (.ref c)
 rk:nk K c
 ck:ClsK K c
 tk:∃a,mg "TalkError" = some (.ref a)/\PySem.W.exmOne K (.ref c) (.ref a)=some true
 own:PySem.W.kitOne K (.ref c) (.ref c)=some true
 vl:PySem.W.kitOne K (.ref c) (.type "ValueError")=some true
 nt:∃a,mg "NoTable" = some (.ref a)/\PySem.W.kitOne K (.ref c) (.ref a)=some false
 nc:∃a,mg "NoCard" = some (.ref a)/\PySem.W.kitOne K (.ref c) (.ref a)=some false
abbrev Sg.t(sg:Sg):Sg:=⟨sg.N,sg.sc,sg.fn,sg.bl,sg.cl,false,false,noCo⟩
def rfB(sg:Sg):Bool:=O5 sg 2 "_law_caught" && O5 sg 3 "error" && sg.top&&(["_law_caught","error"]:on Str).all (λ x=>sg.sc.lookup x==some .local)&&(["isinstance","TalkError","TooGreat","ValueError","NoTable","NoCard"]:on Str).all (gloB sg)&&sg.bl.contains "isinstance" && sg.bl.contains "ValueError"
abbrev isiE(x:Str)(p q r s:Pos):Kw:=.Call (.Name "isinstance" p) [.Name "_law_caught" q,.Name x r] [] s
def RfT(sg:Sg)(b:on MS)(l:on KB):Prop:=∃(y:on KB) (k1 k2 k3:Nat) (a1 a2 a3 a4 a5 a6 a7 a8 a9 b1 b2 b3 b4 b5 b6 b7 b8 c1 c2 c3 c4 c5 c6 c7 c8 c9 d1 d2 d3 d4 d5 d6 d7 d8 d9 e1 e2 e3:Pos),E6 sg.t b y=true /\
 l=[.Assign [.Name "_law_caught" a1] (.Constant .none k1 a2) a3,.Try y [.ExceptHandler (some (.Name "TalkError" a4)) (some "error") [.Assign [.Name "_law_caught" a5] (.Name "error" a6) a7] a8] [] [] a9,
  .If (.BoolOp .Or [.Compare (.Name "_law_caught" b1) [.Is] [.Constant .none k2 b2] b3,.UnaryOp .Not (isiE "TooGreat" b4 b5 b6 b7) b8,.UnaryOp .Not (isiE "ValueError" c1 c2 c3 c4) c5] c6) [.Return (some (.Constant (.bool false) k3 c7)) c8] [] c9,
  .Return (some (.BoolOp .And [.UnaryOp .Not (isiE "NoTable" d1 d2 d3 d4) d5,.UnaryOp .Not (isiE "NoCard" d6 d7 d8 d9) e1] e2)) e3]
def vh(g:Good sg G F X)(h:rfB sg=true)(d:XF X.K X.mg c)(T:PE X (Mo r) (tC v))(hv:(∃a,v=.ref a/\cv=.ref a)\/∃n,v=.ty n/\cv=.type n)(j:PySem.W.kitOne X.K (.ref c) cv=some k) :
  PE X (isiE x p q r s) λ b H Q=>∃a,b[2]? = some (Md a)/\H a=some (excO a (.ref c))/\Q (.bl k) H:=by
 simp only[rfB,gn,List.all_nil,f7,h8,L9]at h;obtain⟨s1,i,f,e⟩:=N2 g h.1.1.1.1.1.1;exact(gO HY (g.glo _ h.1.1.2.1) (g.blt _ h.1.2) boot_isinstance (M5 (O0 s1 i f e) (M5 T X2))).weak λ b H Q ⟨a,m,l,z⟩=>⟨.ref a,m,a,c,v,cv,k,rfl,l,d.ck,hv,j,z⟩
def Ia(g:Good sg G F X)(gx:GX sg F X (.ref c))(f:XF X.K X.mg c)(h:rfB sg=true)(hl:RfT sg b l)(hδ:3<δ.length)(m:evSs G F fu [.rfs b] δ=some o):PSs X l (dS X.D δ o):=by
 obtain⟨y,k1,k2,k3,a1,a2,a3,a4,a5,a6,a7,a8,a9,b1,b2,b3,b4,b5,b6,b7,b8,c1,c2,c3,c4,c5,c6,c7,c8,c9,d1,d2,d3,d4,d5,d6,d7,d8,d9,e1,e2,e3,hy,rfl⟩:=hl;have Q:=h;simp only[rfB,gn,List.all_nil,f7,h8,L9]at Q;obtain⟨⟨⟨⟨⟨⟨h2,h3⟩,h4⟩,h5,h6,_⟩,g1,g2,g3,g4,g5,g6,_⟩,m1⟩,m2⟩:=Q;obtain⟨L,i2,i3,i4⟩:=N2 g h2;obtain⟨N,j2,j3,j4⟩:=N2 g h3;obtain⟨t1,t2,t3⟩:=g.st h4;have j:rxS G F 3 b (δ.set 2 (.val .non))=true/\o=.rt (.bl true) false:=by
  replace m:(match(if rxS G F 3 b (δ.set 2 (.val .non))=true then some (Out.rt (.bl true) false)else none)with | some (.nx δ')=>evSs G F fu [] δ' | o=>o)=some o:=m
  split at m
  ·rename_i q;split at q<;>cases q
  ·split at m
   ·cases m;exact⟨by assumption,rfl⟩
   ·cases m
 obtain⟨j,rfl⟩:=j;obtain⟨ct,U,Y⟩:=f.tk;obtain⟨ca,xa,K⟩:=f.nt;obtain⟨cb,Z,J⟩:=f.nc;have gt:∀e n,Good sg.t G F (X.tryIn e n):=λ e n=>⟨g.N,g.nd,g.vis,g.glo,g.loc,g.lcl,g.cel,g.calm,g.hu,g.fns,g.blt,g.con,LI,LI,(λ z=>⟨(g.lms z).1,(g.lms z).2.1,λ w=>nomatch w⟩),(λ _ _ _ _ z=>nomatch z),LI⟩
 have B:=g.loc "_law_caught" (by unfold locB;rw[h5];rfl);have S:=λ p1 p2 p3 p4 p5 p6=>HI (X:=X) (np:=p1) (hpos:=p2) (pos:=p3) (i:=3) (cv:=.ref ct) (tb:=λ n _ u H=>tX X.D (.ref c) (λ u C _ H=>n u C H) (δ.set 2 (.val .non)) u H) t1 t2 t3 (g.glo _ g2) U g.nd N (g.lcl _ h6) (λ e n=>x_ss (gt e n) gx HE LI f.mc f.rk hy j)
   (λ d=>kF (gJ (X:=X.inExc d) (pos:=p4) (pos':=p5) g.nd L B.1 (O0 (X:=X.inExc d) (pos:=p6) N j2 j3 j4) rfl B.2))
 have I:=λ (x:Str) (a:Ku) (k:Bool) (hx:gloB sg x=true) (hm:X.mg x=some (.ref a)) (hd:Lu=false) (hk:PySem.W.kitOne X.K (.ref c) (.ref a)=some k) (p q r s:Pos)=>vh (v:=.ref a) (p:=p) (q:=q) (r:=r) (s:=s) g h f (qp (g.glo _ hx) hm rfl hd) (.inl ⟨a,rfl,rfl⟩) hk;have VV:=λ (p q r s:Pos)=>vh (v:=.ty "ValueError") (p:=p) (q:=q) (r:=r) (s:=s) g h f (qr (g.glo _ g4) (g.blt _ m2) HZ rfl) (.inr ⟨_,rfl,rfl⟩) f.vl;refine(X1 (gJ g.nd L B.1 qo rfl B.2) (X1 (S _ _ _ _ _ _) (X1 (dJ (PW.pt (gG (qu (yF (O0 L i2 i3 i4))) (gG (kA (qv (I _ _ _ g3 f.mc KL f.own _ _ _ _))) (qw (kA (qv (VV _ _ _ _))))))) (kF (bK qm)) qz)
  (kF (bK (yK (qy (I _ _ _ g5 xa KL K _ _ _ _)) (kC (qy (I _ _ _ g6 Z KL J _ _ _ _))))))))).weak λ Dn u H t0=>?_;obtain⟨H0,O,W,R,fr,fo,sm,k⟩:=t0
 have P:=R.len;refine⟨⟨O,W,R.setVal (X5.mpr rfl) 2⟩,λ H' s'=>⟨Y,λ d M=>⟨.ref d,K6 (by rw[E4];omega),?_⟩⟩⟩;have A:((((u.set 2 (some V.non)).set 3 (Md d)).set 2 (Md d)).set 3 none)[2]? = some (some (.ref d)):=by rw[A2 KL,K6 (by simp only[E4];omega)]
 have E:upd H' d (excO d (.ref c)) d=some (excO d (.ref c)):=y9;refine⟨.ref d,A,false,by rw[B8 KP],?_⟩;refine⟨d,A,E,true,rfl,?_⟩;refine⟨d,A,E,true,rfl,?_⟩;refine⟨d,A,E,false,rfl,true,rfl,?_⟩;refine⟨d,A,E,false,rfl,?_⟩;refine k (.bl true) _ (sm.trans (s'.trans (x4 M))) ?_;show Rep _ _ _ _;exact ah.mpr rfl
end
theorem RSt.start(m:n=N.length)(r:RepL D (Ll O) ds vs)(k:Hdn O H):RSt D H (L2.start N vs) (n9 n ds) O []:=by
 subst m;have c:∀(i:Nat) b,(n9 N.length ds)[i]? ≠ some (.own b):=λ i b h=>by
  unfold n9 at h;by_cases e:i<(ds.map Sv.val).length
  ·rw[Q5 e,t5]at h;cases q:ds[i]? with
   | none=>rw[q]at h;cases h
   | some d=>rw[q]at h;cases h
  ·rw[T4 KE,cN]at h;split at h<;>cases h
 have g:∀(i:Nat) b,(n9 N.length ds)[i]? ≠ some (.od b):=λ i b h=>by
  unfold n9 at h;by_cases e:i<(ds.map Sv.val).length
  ·rw[Q5 e,t5]at h;cases q:ds[i]? with
   | none=>rw[q]at h;cases h
   | some d=>rw[q]at h;cases h
  ·rw[T4 KE,cN]at h;split at h<;>cases h
 refine⟨λ i d h=>?_,λ i b h=>absurd h (c i b),λ i j a p d2 h=>absurd h (c i p),λ i d h=>absurd h (g i d),?_,⟨λ a f=>k.ne a (Lq f),Same.refl _,λ a f=>(nomatch f),λ a f=>(nomatch f),k⟩⟩
 ·unfold n9 at h;by_cases e:i<(ds.map Sv.val).length
  ·rw[Q5 e,t5]at h;cases q:ds[i]? with
   | none=>rw[q]at h;cases h
   | some d'=>
    rw[q]at h;cases h;obtain⟨v,l,o⟩:=r.get q;refine⟨v,?_,by rw[B3];exact o⟩;unfold L2.start;rw[Q5 (by rw[g8];exact(z7.mp l).1),t5,l];rfl
  ·rw[T4 KE,cN]at h;split at h<;>cases h
 ·unfold L2.start n9;rw[t9,t9,g8,g8,cP,cP,r.length]
noncomputable def cloB(o:Kr CloD)(fn bl cl:on Str):KG->on KB->KD->on Str->Bool:=match o with
 | some C=>af C fn bl cl
 | none=>noCo
def dqB(x:Str)(sc:on (Str×KI)):Bool:=N9 (x ++ ".<locals>." ++ o8)==(sc.lookup o8==some .cell)
def Ib(h:dqB x sc=true):tagQ x=(x ++ ".<locals>.")++tagN sc/\(sc.lookup o8=some .cell->N9 ((x ++ ".<locals>.")++o8)=true):=by
 unfold dqB at h;rw[h8]at h;unfold tagQ tagN;by_cases z:sc.lookup o8=some .cell
 ·have e:N9 (x ++ ".<locals>." ++ o8)=true:=by rw[h,z];rfl
  have a:N9 (x ++ ".<locals>." ++ "plan_of")=true:=e;rw[f8 z,f8 a];exact⟨rfl,λ _=>e⟩
 ·have e:N9 (x ++ ".<locals>." ++ o8)=false:=by rw[h];exact x8.mpr z
  rw[g9 z,g9 ((by have:N9 (x ++ ".<locals>." ++ "plan_of")=false:=e;rw[this];decide))];exact⟨rfl,λ w=>absurd w z⟩
structure Stands(K:PySem.W.Frag)(mg:Str->Option Value)(fn bl cl:List Str)(d:FD)(x:Str)(fa:Addr)(fd:FuncData)(ps:List Str):Prop where
 mg:mg x=some (.ref fa)
 kp:PySem.W.keepIn K (.ref fa)=true
 bi:O1 K fd ps []
 np:d.np=ps.length
 ex:∃qual st N,qual=x/\FunD K x qual st fa fd/\FnScope N ps (u9 st)/\d.n=N.length/\(E6 Lk d.body (J2 st)=true\/∃b,d.body=[.rfs b]/\rfB Lk=true/\RfT Lk b (J2 st))/\dqB x (u9 st).names=true
def HS(K:KC)(mg:Str->Kr Ks)(fn bl cl:on Str)(T:on FD)(fs:on Str):Prop:=∀(i:Nat) d x,T[i]? = some d->fs[i]? = some x->∃fa fd ps,Stands K mg fn bl cl d x fa fd ps
def HC(K:KC)(mg:Str->Kr Ks)(c:on (Str×DV)):Prop:=∀x d,c.lookup x=some d->∃u v,mg x=some u/\RelV v u/\∀H,Rep ⟨K,mg⟩ H d v
def IH1(P:Kz)(w:Ky)(K:KC)(mg:Str->Kr Ks)(base:Kv)(G:Gs)(T:on FD)(fu:Nat)(fn bl cl:on Str)(k:Nat):Prop:=∀(i:Nat) d x fa fd ps,T[i]? = some d->fn[i]? = some x->Stands K mg fn bl cl d x fa fd ps->FnOk P w K mg base CX0 k fa fd ps (spF ⟨K,mg⟩ ps.length (run G T fu k i))
def HLM(K:KC)(G:Gs)(T:on FD)(fn bl cl:on Str):Prop:=G.fnl.isEmpty=false->(G.fnl=fn/\G.bll=bl/\G.cll=cl)/\T.length<=aR/\∀(i:Nat) (d:FD) (x qual:Str) (st:KB) (fa:Ku) (fd:FuncData),T[i]? = some d->fn[i]? = some x->qual=x->FunD K x qual st fa fd->∃c P,fd.code=.ref c/\(∀h:Kv,K.In h->PySem.W.CodeHd h c P)/\(P,tagQ qual)∈A8 K
def Ic(hd:T[f]? = some d)(a:d.np=n)(q:run G T fu k f ds=some o):ds.length=n:=by
 cases k with
 | zero=>cases q
 | succ k=>
  rw[lv hd]at q;split at q
  ·rename_i z;rw[z,a]
  ·cases q
def nv{K:KC}(u:T.length=fn.length)(n:HS K mg fn bl cl T fn)
  (i:IH1 P w K mg base G T fu fn bl cl k) (p:Room k A) (f:Nat) (y:Str) (j:fn[f]? = some y) :
  ∃m l fd ps,Room m A/\mg y=some (.ref l)/\PySem.W.keepIn K (.ref l)=true/\O1 K fd ps []/\(∀ds o,run G T fu k f ds=some o->ds.length=ps.length)/\FnOk P w K mg base CX0 m l fd ps (spF ⟨K,mg⟩ ps.length (run G T fu k f)):=by
 have r:f<T.length:=by rw[u];exact(z7.mp j).1
 obtain⟨h,b⟩:∃h,T[f]? = some h:=⟨_,m7 r⟩;obtain⟨e,d,c,g⟩:=n f h y b j;exact⟨k,e,d,c,p,g.mg,g.kp,g.bi,λ ds o q=>Ic b g.np q,i f h y e d c b j g⟩
def vi(a:T.length<=aR)(hd:T[f]? = some d)(q:run G T fu (k+1) (rxIx+f) ds=some o):ds.length=d.np/\rxS G (KY k) 3 d.body (n9 d.n ds)=true:=by
 rw[gY (W4 (i7 a (i7 KL (R5 _ _)))),g9 (N7 (t7 KL (R5 rxIx f))),g9 (N7 (t7 KL (R5 rxIx f)))]at q;unfold rxR at q;rw[pW,hd]at q
 replace q:(if rxIx<=rxIx+f/\ds.length=d.np/\rxS G _ 3 d.body _=true then some (Ou.v .non false)else none)=some o:=q
 split at q
 ·rename_i z;exact z.2
 ·cases q
def vj(p:T.length<=aR)(z:T.length=e.fn.length)(v:HS X.K X.mg e.fn bl cl T e.fn)
  (u:∀(i:Nat) d x r fd ps,T[i]? = some d->e.fn[i]? = some x->Stands X.K X.mg e.fn bl cl d x r fd ps->FnOk X.prog X.w X.K X.mg X.base (CXx X.prog X.w) k r fd ps (spX X.D (.ref c) ps.length (run G T fu k (rxIx+i)))) (w:Room k X.A):GX e (KY k) X (.ref c):=λ f y n=>by
 obtain⟨m,b⟩:∃m,T[f]? = some m:=⟨_,m7 (by rw[z];exact(z7.mp n).1)⟩;obtain⟨j,h,g,l⟩:=v f m y b n;refine⟨k,j,h,g,w,l.mg,l.kp,l.bi,λ ds o q=>?_,u f m y j h g b n l⟩;cases k with
 | zero=>cases q
 | succ k=>rw[(vi p b q).1,l.np]
def Ie{G:Gs}(h:o=none\/o=G.clo)(z:cloB o fn bl cl b bd sc a=true):∃C,G.clo=some C/\af C fn bl cl b bd sc a=true:=by
 cases o with
 | none=>cases z
 | some C=>exact⟨C,(h.elim (λ w=>nomatch w) id).symm,z⟩
def Ig{K:KC}(hT:T.length=fn.length)(hs:HS K mg fn bl cl T fn)(b4:∀x∈bl,mg x=none)
  (Z:HC K mg G.con) (Y:G.fnl=fn/\G.bll=bl/\G.cll=cl) (b5:T.length<=aR)
  (b1:IH1 P w K mg base G T fu fn bl cl k) (b0:am P w K mg base fn bl cl k (run G T fu k G6)) (a9:∀C,G.clo=some C->aq P w K mg base C fn bl cl k (run G T fu k F2)):am P w K mg base fn bl cl (k+1) (run G T fu (k+1) G6):=by
 intro A F s H us W Q E O f m cs ds d hr e0 r hO m1 m2 m3 rp rl hF hq;have j:=hF;rw[gY (W4 (i7 b5 KL)),f8 rfl]at j;unfold lamR at j;dsimp only at j;split at j
 ·rename_i a2;obtain⟨n1,n2,n3,n4⟩:=a2;split at j
  ·rename_i d' b3;split at j
   ·rename_i nl;cases j;obtain⟨f',pr,bd,sc,q,a3,l,U,e1,lf,p,S,rc,a8,a7,a6⟩:=lZ.mp rp;cases e1;have a5:=lf.mono x5;have a4:∀c∈l,∃o v,H c=some MM/\s.heap.get? c=some o/\o.data=.cell v:=λ c hc=>by obtain⟨o,v,M,L⟩:=a7 c hc;have g:=(C7 M).2;exact⟨o,v,g,(e0.hok c _ g).1,L⟩
    unfold ag at p;rw[f7]at p;have X:=rl.length;have B:(m.N.take m.np).length=m.np:=by rw[F8];omega
    have b2:us.length=(m.N.take m.np).length:=by rw[←r.length,X,B];exact n1
    have hlw:=rc.length;have J:∀c∈l,∃o,H c=some (.frz o (.own c)):=λ c hc=>by obtain⟨o,_,g,_⟩:=a4 c hc;exact⟨o,g⟩
    have b6:Hdn O (L2.wo l H):=λ a ha=>by obtain⟨o,M,L⟩:=hO a ha;refine⟨o,?_,L⟩;rw[k8 λ z=>by obtain⟨o',g⟩:=J a z;rw[M]at g;cases g;cases L];exact M
    refine Em (ws:=U) (vs:=W) S (⟨a4⟩) hr.ok e0 a5 (λ pm c' ctv=>CQ p.1 b2) (by rw[X,B];exact n1) r (by rw[B];exact a8) (λ i x v h1 h2=>?_) λ c'=>?_
    ·rw[B]at h1;obtain⟨c,o,u,M,L,g3,g4⟩:=a6 i x v h1 h2;have g:=(C7 L).2;exact⟨c,u,M,⟨o,(e0.hok c _ g).1,g3⟩,g4⟩
    ·have I:Room k (A.deeper (PySem.W.envX q sc s.heap.objs.size f (.ref c') a3)):=hr.deeper _;have g4:Good ⟨m.N,sc.names,fn,bl,cl,false,false,noCo⟩ G (KY k) (V3 P w K mg base m.N q sc f (.ref c') a3 A F s (Ll l)):=by
      refine⟨rfl,S.nd,λ y h=>?_,λ y h=>?_,λ y h=>?_,λ y h=>h,λ y h=>h,rfl,I.units,nv hT hs b1 I,b4,Z,LI,LI,(λ z=>⟨Y,⟨k,I,b0,a9⟩,λ w=>nomatch w⟩),(λ _ _ _ _ z=>nomatch z),LI⟩
      ·unfold visB at h;simp only[D8,h8]at h;rcases h with(h | h) | h
       ·exact .inl h
       ·exact .inr (.inl h)
       ·exact .inr (.inr h)
      ·unfold gloB at h;rw[h8]at h;exact h
      ·unfold locB at h;simp only[D8,h8]at h;rcases h with h | h
       ·exact⟨.inl h,.inr h⟩
       ·exact absurd rfl (S.nocell _ (C8 h))
     have pe:=(snd m.body).1 g4 ((by have:=p.2;rw[m1,m2,m3]at this;exact this)) b3;refine⟨_,pe,O,[],?_,λ v H' sm gt=>λ a1=>?_⟩
     ·have R:=RSt.start (D:=⟨K,mg⟩) (N:=m.N) (ds:=ds++cs) (vs:=W++U) (n:=m.N.length) rfl ((X8 J n3 rl).append (X8 J n4 rc)) b6;have e1:n9 m.N.length (ds++cs)=(ds++cs).map Sv.val:=(by unfold n9;rw[t9,show m.N.length - (ds.length+cs.length)=0 by omega];exact B3 _);have e2:L2.start m.N (W++U)=(W++U).map some:=(by unfold L2.start;rw[t9,show m.N.length - (W.length+U.length)=0 by omega];exact B3 _);rw[e1,e2]at R;exact R
     ·have a0:Rep ⟨K,mg⟩ (L2.wo (O++[]) H') d v:=gt;rw[B3]at a0;refine hq v _ (λ b o e=>?_) (a0.mono λ b o e=>?_)
      ·by_cases hb:b∈l
       ·rw[iI hb];exact e
       ·rw[V2 hb];exact sm _ _ (by rw[k8 hb];exact e)
      ·obtain⟨hb,e⟩:=C7 e;rw[k8 hb,V2 λ z=>by rw[a1 b z]at e;cases e];exact e
   ·cases j
  ·cases j
 ·cases j
def Ih{K:KC}(hT:T.length=fn.length)(hs:HS K mg fn bl cl T fn)(d2:∀x∈bl,mg x=none)
  (b0:HC K mg G.con) (a9:G.fnl=fn/\G.bll=bl/\G.cll=cl) (d4:T.length<=aR)
  (c3:IH1 P w K mg base G T fu fn bl cl k) (c2:am P w K mg base fn bl cl k (run G T fu k G6)) (a7:∀C,G.clo=some C->aq P w K mg base C fn bl cl k (run G T fu k F2)) (hC:G.clo=some C):aq P w K mg base C fn bl cl (k+1) (run G T fu (k+1) F2):=by
 intro A B s H us vs Q E O f cs ds d hr e0 r hO ca a5 rl hF hq;have d3:T[F2]? = none:=W4 (i7 d4 KL);have Z:=hF;rw[gY d3,g9 KL,f8 rfl]at Z;unfold cloR at Z;rw[hC]at Z;have F:(if(ds++cs).length=C.np+C.nc/\DV.nolams (ds++cs)=true then(match evSs G (KY k) fu C.body (n9 C.N.length (ds++cs))with
  | some (.rt d false)=>if d.nolam then some (Ou.v d false)else none
  | _=>none)else none)=some (.v d false):=Z
 split at F
 ·rename_i b5;split at F
  ·rename_i d' d0;split at F
   ·rename_i nl;cases F;obtain⟨q,pr,bd,sc,cap,cc,l,ws,c0,o0,df,a1,S,rc,a2,b9,b8,c8,⟨s1,s2,s3⟩,J⟩:=ca;obtain⟨c7,tx,d1,a6⟩:=ng a1;have a0:∀c∈l,∃o v,H c=some MM/\s.heap.get? c=some o/\o.data=.cell v:=λ c Y=>by obtain⟨o,v,g,g2⟩:=b9 c Y;exact⟨o,v,g,(e0.hok c _ g).1,g2⟩
    have Ct:CellsT l s.heap H:=⟨a0⟩;have a3:vs.length=ds.length:=rl.length;have U:(C.N.take C.np).length=C.np:=by rw[F8];have:=tx.len;omega
    have c4:us.length=(C.N.take C.np).length:=by rw[←r.length,a3,U];exact a5
    have W:∀c∈l,∃o,H c=some (.frz o (.own c)):=λ c Y=>by obtain⟨o,_,g,_⟩:=a0 c Y;exact⟨o,g⟩
    have b1:Hdn O (L2.wo l H):=λ a ha=>by obtain⟨o,g1,g2⟩:=hO a ha;refine⟨o,?_,g2⟩;rw[k8 λ z=>by obtain⟨o',g⟩:=W a z;rw[g1]at g;cases g;cases g2];exact g1
    have L:∀{a b:on DV},DV.nolams (a++b)=true->DV.nolams a=true/\DV.nolams b=true:=λ {a b} h=>by
     induction a with
     | nil=>exact⟨rfl,h⟩
     | cons x a ih=>
      have h':(x.nolam&&DV.nolams (a++b))=true:=h;rw[f7]at h';obtain⟨i1,i2⟩:=ih h'.2;refine⟨?_,i2⟩;show(x.nolam&&DV.nolams a)=true;rw[h'.1,i1];rfl
    obtain⟨n3,n4⟩:=L b5.2;have nt:∀{b:Ku} {o:Obj} {u:HO},H b=some (.frz o u)->(∀v,o.data ≠ .cell v)->b∉l:=λ e hd z=>by obtain⟨o',v,g,_,d'⟩:=a0 _ z;rw[e]at g;cases g;exact hd v d'
    refine Er (N:=C.N) (ps:=C.N.take C.np) (ws:=ws) (vs:=vs) (n:=C.N.length - C.np - C.nc) (by rw[a2];exact S) Ct hr.ok e0 df (λ b3 pm c' b4=>Ge c7 c4) (by rw[a3,U];exact a5) r (by rw[U,a2];have:=tx.len;omega) (λ i x v h1 h2=>?_) λ c' oc u T' h1 h2 h3=>?_
    ·rw[U]at h1;obtain⟨c,o,u,g1,g2,g3,g4⟩:=b8 i x v h1 h2;exact⟨c,u,g1,⟨o,(e0.hok c _ g2).1,g3⟩,g4⟩
    ·have M:Room k (A.deeper (PySem.W.envX q sc s.heap.objs.size f (.ref c') cc)):=hr.deeper _;have a8:∀v,oc.data ≠ .cell v:=λ v z=>by obtain⟨o,vv,_,_,_,_,_,_,_,q1,_,q2,_⟩:=h3 s.heap (e0.hok c' _ h1).1;rw[(e0.hok c' _ h1).1]at q1;cases q1;rw[q2]at z;cases z
     have d6:L5 (Ll l) o8 q pr bd sc cc f:=by
      obtain⟨c1,b7,u1,b6,t1,b3,pm,b4,T1,y1,y2,y3,y4,y5,y6⟩:=df;refine⟨c1,b7,u1,b6,t1,b3,pm,b4,T1,?_,?_,y3,y4,?_,y6⟩
      ·rw[k8 (nt y1 λ v z=>by cases z)];exact y1
      ·rw[k8 (nt y2 λ v z=>by rw[y3]at z;cases z)];exact y2
      ·rw[k8 λ z=>by obtain⟨o',g⟩:=W _ z;rw[y5]at g;cases g];exact y5
     have new:∀c∈l,base.get? c=none/\c∉frs (PySem.W.envX q sc s.heap.objs.size f (.ref c') cc::B):=λ c Y=>by
      refine⟨(J c Y).1,λ z=>?_⟩;obtain⟨o,v,_,g,_⟩:=a0 c Y;rcases i6.mp z with w | w
      ·exact absurd (k9 g) (by rw[w];exact P2 _)
      ·exact(J c Y).2 w
     have LA:=Es (P:=P) (w:=w) (K:=K) (mg:=mg) (base:=base) (N:=C.N) (scope:=sc) (f:=f) (cl:=cc) (A:=A) (outer:=B) (sc:={sc with names:=[]}) Ct h1 a8 h2 h3 (λ y m=>absurd (show y∈([]:on (Str×KI))from m) KS);have g4:Good ⟨C.N,sc.names,fn,bl,cl,false,true,noCo⟩ G (KY k) (V3 P w K mg base C.N q sc f (.ref c') cc A B s (Ll l)):=by
      refine⟨rfl,tx.nd,λ y m=>?_,λ y m=>?_,λ y m=>?_,λ y m=>m,λ y m=>m,rfl,M.units,nv hT hs c3 M,d2,b0,(λ _=>PassesOwn.never),LI,(λ z=>⟨a9,⟨k,M,c2,a7⟩,λ w=>nomatch w⟩),(λ _ _ _ _ z=>nomatch z),λ _ _=>⟨⟨c',T',rfl,λ I=>⟨LA.hd I,LA.tab I⟩⟩,λ x a e=>new a (S.mem x a e),?_⟩⟩
      ·unfold visB at m;simp only[D8,h8]at m;rcases m with(m | m) | m
       ·exact .inl m
       ·exact .inr (.inl m)
       ·exact .inr (.inr m)
      ·unfold gloB at m;rw[h8]at m;exact m
      ·unfold locB at m;simp only[D8,h8]at m;rcases m with m | m
       ·exact⟨.inl m,.inr m⟩
       ·exact absurd rfl (tx.nocell _ (C8 m))
      ·intro δ e es pos p rs re np nc d8 c6 c5 h;unfold dW at h;rw[hC]at h;dsimp only at h;split at h
       ·rename_i z;obtain⟨rfl,rfl⟩:=z;obtain⟨d7,e1,h⟩:=z9.mp h;refine(uU (cs:=d7) (C:=C) (at_:=λ _ _ f'=>f'=f) (λ {ta} A=>uT (q:=q) (X:=V3 P w K mg base C.N q sc f (.ref c') cc _ B s (Ll l)) (a7 C hC) M a1 (λ _=>⟨S,λ _ _ e=>e,c8⟩) (λ _ c Y=>new c Y) (λ {d9 σ H1 H2 s' f'} I sm ha=>?_) (.inr tx.slf) (by rw[List.length_range']) (λ j i' hj=>?_) e1 A c6 c5) d8 h).weak λ σ H Q z=>⟨f,rfl,z⟩
        ·subst ha;refine⟨d6.un I.base,c0,s1,o0,I.base.keep c0 o0 (e0.hok c0 _ s2).1 (ai (S.mem _ _ s1)) (J c0 (S.mem _ _ s1)).2 (λ z=>absurd (show c0∈([]:on Ku)from z) KS),s3⟩
        ·have c9:j<C.nc:=by have:=(z7.mp hj).1;rw[List.length_range']at this;exact this
         rw[List.getElem?_range' c9]at hj;cases hj;have a4:C.np+j<C.N.length:=by have:=tx.len;omega
         refine⟨C.N[C.np+j],m7 a4,?_,.inr (tx.fre _ _ KE KE (m7 a4))⟩;show C.N[C.np+1*j]? = _;rw[dw];exact m7 a4
       ·cases h
     refine⟨_,E8 C.body g4 a6 d0,L2.wo l H,O,[],?_,(λ a ha=>(nomatch ha)),b1.ne,Same.refl _,λ v H' sm gt=>λ b2=>?_⟩
     ·have R:=RSt.start (D:=⟨K,mg⟩) (N:=C.N) (ds:=ds++cs) (vs:=vs++ws) (n:=C.N.length) rfl ((X8 W n3 rl).append (X8 W n4 rc)) b1;have e2:L2.start C.N (vs++ws)=(vs++ws).map some++List.replicate (C.N.length - C.np - C.nc) none:=(by unfold L2.start;rw[t9,a3,a5,a2,Nat.sub_sub]);rw[e2]at R;exact R
     ·have d5:Rep ⟨K,mg⟩ (L2.wo O H') d v:=gt;refine hq v _ (λ b o e=>?_) (d5.mono λ b o e=>?_)
      ·by_cases hb:b∈l
       ·rw[iI hb];exact e
       ·rw[V2 hb];exact sm _ _ (by rw[k8 hb];exact e)
      ·obtain⟨hb,e⟩:=C7 e;rw[k8 hb,V2 λ z=>by rw[b2 b z]at e;cases e];exact e
   ·cases F
  ·cases F
 ·cases F
def vk{K:KC}{i:Nat}{st:KB}(O:T.length=fn.length)(M:HS K mg fn bl cl T fn)(r:∀x∈bl,mg x=none)
  (j:HC K mg G.con)
  (h:HLM K G T fn bl cl) (p:∀d∈T,d.clo=none\/d.clo=G.clo)
  (m:IH1 P w K mg base G T fu fn bl cl k) (f:G.fnl.isEmpty=false->am P w K mg base fn bl cl k (run G T fu k G6)/\∀C,G.clo=some C->aq P w K mg base C fn bl cl k (run G T fu k F2))
  (v:T[i]? = some d) (Q:fn[i]? = some x) (g:b=x) (F:FunD K x b st l fd) (S:FnScope N ps (u9 st)) (o:dqB x (u9 st).names=true) (q:fd.code=e) (n:Room k (A.deeper (envOfC b (u9 st) s.heap.objs.size l e))) :
  Good Lk G (KY k) (cxOf CX P w K mg base N b (u9 st) l e A outer s H E):=by
 refine⟨rfl,S.nd,λ y a=>?_,λ y a=>?_,λ y a=>⟨?_,.inl rfl⟩,λ y a=>a,λ y a=>a,rfl,n.units,nv O M m n,r,j,λ _=>PassesOwn.leaving,λ _=>⟨rfl,rfl,rfl⟩,λ z=>⟨(h z).1,⟨k,n,(f z).1,(f z).2⟩,λ _=>by
   obtain⟨c,P,L,J,u⟩:=(h z).2.2 i d x b st l fd v Q g F;subst g;obtain⟨I,B⟩:=Ib o;rw[I]at u;exact⟨c,P,q.symm.trans L,J,u,B⟩⟩,(λ pr bd sc R z=>Ie (p d (K7 v)) z),λ _ z=>nomatch z⟩
 ·unfold visB at a;simp only[D8,h8]at a;rcases a with(a | a) | a
  ·exact .inl a
  ·exact .inr (.inl a)
  ·exact .inr (.inr a)
 ·unfold gloB at a;rw[h8]at a;exact a
 ·unfold locB at a;simp only[D8,h8]at a;exact a
theorem vm{K:KC}(U:T.length=fn.length)(J:HS K mg fn bl cl T fn)(r:∀x∈bl,mg x=none)
  (j:HC K mg G.con)
  (l:HLM K G T fn bl cl) (L:∀d∈T,d.clo=none\/d.clo=G.clo)  (xf:XF K mg c) (y:T.length<=aR) :
  ∀k,(IH1 P w K mg base G T fu fn bl cl k)/\(G.fnl.isEmpty=false->am P w K mg base fn bl cl k (run G T fu k G6)/\∀C,G.clo=some C->aq P w K mg base C fn bl cl k (run G T fu k F2))/\∀(i:Nat) d x Y fd ps,T[i]? = some d->fn[i]? = some x->Stands K mg fn bl cl d x Y fd ps->FnOk P w K mg base (CXx P w) k Y fd ps (spX ⟨K,mg⟩ (.ref c) ps.length (run G T fu k (rxIx+i)))
 | 0=>by
  refine⟨λ i d x Y fd ps X h2 S=>?_,λ _=>⟨(λ A e s H us I Q E O f m cs ds d _ _ _ _ _ _ _ _ _ hF _=>by cases hF),λ C _ A e s H us I Q E O f cs ds d _ _ _ _ _ _ _ hF _=>by cases hF⟩,λ i d x Y fd ps X h2 S=>?_⟩ <;>
  refine⟨λ I H Q E h=>?_,λ A e s H a5 us I Q E hr he hb hv h=>?_⟩ <;>
  ·obtain⟨_,_,_,_,_,_,q,_⟩:=h;cases q
 | k+1=>by
  obtain⟨u,n,a1⟩:=vm U J r j l L xf y k;refine⟨λ i d x Y fd ps X h2 S=>?_,λ z=>⟨Ig U J r j (l z).1 (l z).2.1 u (n z).1 (n z).2,λ C hC=>Ih U J r j (l z).1 (l z).2.1 u (n z).1 (n z).2 hC⟩,λ i d x Y fd ps X h2 S=>?_⟩ <;>
  obtain⟨a0,st,N,a2,F,FS,hn,hc,a3⟩:=S.ex
  ·refine F.okX FS (λ I H Q E h=>?_) (λ a4 M A e s H I Q E hr h=>?_)
   ·obtain⟨O,ds,o,_,e1,Z,_⟩:=h;rw[Z.length,e1]
   ·obtain⟨O,ds,o,ho,e1,Z,B,e4⟩:=h;rw[lv X,f8 (e1.trans S.np.symm)]at B;have g:=vk (CX:=CX0) (E:=E0) (w:=w) (outer:=e) (H:=H) U J r j l L u n X h2 a2 F FS a3 M hr;cases p:evSs G _ fu d.body (n9 d.n ds)with
    | none=>rw[p]at B;cases B
    | some oo=>
     rw[p]at B;have PP:PSs (cxD P w K mg base N a0 (u9 st) Y a4 A e s H) (J2 st) (dS ⟨K,mg⟩ (n9 d.n ds) oo):=by
      rcases hc with hc | ⟨b,eb,hb,ht⟩
      ·exact E8 d.body g hc p
      ·rw[eb]at p;refine Ia g (vj (bl:=bl) (cl:=cl) y U J a1 hr) xf hb ht ?_ p;have h3:=(N2 g (by simp only[rfB,f7]at hb;exact hb.1.1.1.1.1.2)).1;have:=(z7.mp h3).1;unfold n9;rw[t9,g8,cP,hn];exact t7 this (by show N.length<=_;omega)
     refine⟨_,PP,H,O,[],RSt.start hn Z ho,(λ a ha=>(nomatch ha)),ho.ne,Same.refl H,?_⟩;cases oo with
     | nx δ=>cases B;exact λ σ' H' W R fr sm=>e4 .non H' sm (show Rep ⟨K,mg⟩ (L2.wo O H') .non .non by unfold Rep;rfl)
     | rt d fr=>cases B;exact λ v H' sm gt=>e4 v H' sm gt
  ·refine F.okXx FS (λ I H Q E h=>?_) (λ a4 M A e s H I Q E hr h=>?_)
   ·obtain⟨O,ds,o,_,e1,Z,_⟩:=h;rw[Z.length,e1]
   ·obtain⟨O,ds,o,ho,e1,Z,B,e4⟩:=h;have z:=(vi y X B).2;rcases hc with hc | ⟨b,eb,_⟩
    ·exact⟨_,x_ss (vk U J r j l L u n X h2 a2 F FS a3 M hr) (vj (bl:=bl) (cl:=cl) y U J a1 hr) HB.s (λ _=>HJ) xf.mc xf.rk hc z,⟨O,[],RSt.start hn Z ho⟩,e4⟩
    ·rw[eb]at z;cases z
noncomputable def okH(d:FD)(N ps:on Str)(st:KB):Bool:=
 (u9 st).kind == .function && !(u9 st).isCoroutine && !(u9 st).isGenerator&&Q0 N&&(N.take ps.length==ps) &&
 ps.all (λ x=>(u9 st).names.lookup x==some .local||(u9 st).names.lookup x==some .cell)&&(u9 st).names.all (λ y=>!(y.2 == .free)) &&
 d.n==N.length&&d.np==ps.length
noncomputable def okD(fn bl cl:on Str)(d:FD)(N ps:on Str)(st:KB):Bool:=okH d N ps st&&E6 Lk d.body (J2 st)
section
variable {P:Kz} {w:Ky} {K:KC} {mg:Str->Kr Ks} {base h:Kv} {G:Gs} {T:on FD} {fu:Nat} {fn bl cl:on Str}
def iS{st:KB}{kV i:Ks}(X:K.In h)(H:h.Ns mainGlobals mg)(ok:okH d N ps st=true)
  (q:E6 Lk d.body (J2 st)=true\/∃b,d.body=[.rfs b]/\rfB Lk=true/\RfT Lk b (J2 st))
  (a:PySem.W.nsIn K mainGlobals x=some (Md f)) (l:K.lookup f=some ⟨p,o,.func (PySem.W.fnOf x x (aO st) (J2 st) (u9 st) .none kV g pm j e i),m⟩)
  (c:PySem.W.codeIn K e x=true) (k:PySem.W.keepIn K (.ref f)=true)
  (r:∀(kV g pm:Ks) (j:Kr Ku) (e i:Ks) (n:on Ks),n.length=ps.length->bindArgs (PySem.W.fnOf x x (aO st) (J2 st) (u9 st) .none kV g pm j e i) ⟨n,[]⟩=pure (ps.zip n)) (F:dqB x (u9 st).names=true:=by decide +kernel) :
  Stands K mg fn bl cl d x f (PySem.W.fnOf x x (aO st) (J2 st) (u9 st) .none kV g pm j e i) ps:=by
 unfold okH at ok;simp only[f7,h8,u5,J0,D8,x8]at ok;obtain⟨⟨⟨⟨⟨⟨⟨⟨E,C⟩,B⟩,A⟩,z⟩,y⟩,w⟩,v⟩,u⟩:=ok;exact⟨PySem.W.mg_of X H a,k,.all (r kV g pm j e i),u,x,st,N,rfl,⟨p,o,.none,kV,g,pm,j,e,i,m,rfl,l,c⟩,⟨E,C,B,cA A,z,y,w⟩,v,q,F⟩
def cC{st:KB}(h:okD fn bl cl d N ps st=true):okH d N ps st=true/\E6 Lk d.body (J2 st)=true:=by
 unfold okD at h;rw[f7]at h;exact h
def Ii:HS K mg fn bl cl [] fs:=λ i d x h=>by cases h
def t8(h:Stands K mg fn bl cl d x e fd ps)(t:HS K mg fn bl cl T fs):HS K mg fn bl cl (d::T) (x::fs):=λ i f c b a=>by
 cases i with
 | zero=>cases b;cases a;exact⟨_,_,_,h⟩
 | succ i=>exact t i f c b a
def Ij:L2.wo [] H=H:=by
 funext b
 unfold L2.wo;simp
def Ik:HC K mg []:=λ x d h=>by cases h
def vn(h:∃u v,mg y=some u/\RelV v u/\∀H,Rep ⟨K,mg⟩ H d v)(t:HC K mg c):HC K mg ((y,d)::c):=λ x a q=>by
 rw[G4]at q;split at q
 ·rename_i e;cases q
  rwa [bI e]
 ·exact t x a q
noncomputable def spS(K:KC):Sp:=λ vs H Q _=>∃(a:Ku) (ns:on Int),vs=[.ref a]/\ns.length<=63/\SqS K H a (ns.map V.int)/\∀H',Q (.bl true) H'
def Il(X:T.length=fn.length)(L:HS K mg fn bl cl T fn)(u:∀x∈bl,mg x=none)
    (j:HC K mg G.con) (h1:T[i]? = some d) (Z:fn[i]? = some x) (S:Stands K mg fn bl cl d x z fd [p])
    (n:HLM K G T fn bl cl) (o:∀d∈T,d.clo=none\/d.clo=G.clo)
     (F:XF K mg c) (y:T.length<=aR) (m:∀f:on Int,f.length<=63->run G T fu k i [.scr f]=some (.v (.bl true) false)):FnOk P w K mg base CX0 k z fd [p] (spS K):=by
  refine⟨λ I H Q E h=>?_,λ A b s H l J I Q E M R U hv h=>?_⟩
  · obtain⟨a,f,rfl,_⟩:=h
    rfl
  · obtain⟨a,f,rfl,O,Y,N⟩:=h
    refine U4 (((vm X L u j n o F y k).1 i d x z fd [p] h1 Z S).run A b s H l J _ Q E0 M R U hv ⟨[],[.scr f],_,(λ a W=>(nomatch W)),rfl,?_,m f O,λ v C _ g=>?_⟩) λ r s' q=>?_
    · refine RepL.one (X6.mpr ⟨a,rfl,?_⟩)
      rw[Ij];exact Y
    · have B:Rep ⟨K,mg⟩ (L2.wo [] C) _ v:=g
      rw[ah]at B;subst B;exact N C
    · cases r with
      | error e=>exact(q:False).elim
      | ok fl=>cases fl<;>first | exact False.elim q | exact q
end
def walkE{l:PySem.W.OpenLaw}{XP:(Str->Kr Ks)->Kv->Prop}{K:Params->KC}(r:l.most=some 63)(g:d.params.defaults=[])(o:Room k callerA)
  (x:∀(w:Ky) (h:Kv),YP w h->(K w.params).In h) (e:∀(w:Ky) (h:Kv),YP w h->(∀p∈A8 (K w.params),(K w.params).lookup p.1=none/\h.get? p.1=some {cls:=.none,data:=.fields #[]} /\ isCodeTable h p.1)/\((A8 (K w.params)).map (·.1)).Nodup)
  (F:∀(w:Ky) (c:Str->Kr Ks) (j:Ku) (h:Kv),(K w.params).In h->h.Ns mainGlobals c->c d.name=some (.ref j) ->
   ∃i:FuncData,(∀(s:Kt) (u:Ks),BindsTo s i ⟨[u],[]⟩ [(p,u)])/\∀b:Kv,(K w.params).In b->b.Ns mainGlobals c->FnOk l.prog w (K w.params) c b CX0 k j i [p] (spS (K w.params))) :
  PySem.W.WalkO q loose XP YP l.row.toRowW d [] (λ f m=>PySem.call f m):=
 L2.walk_of r KL g o x e F (λ _ _ a n v A y=>⟨a,n,rfl,v,SqS.of A y,λ _=>rfl⟩) λ _ _ _ _ _ z=>z
noncomputable def vo(K:KC)(o:Obj)(c:Ku):Kr Ku:=match o.cls,o.data with
 | .type "code",.fields vs=>(match(vs[11]?:Kr Ks),(vs[18]?:Kr Ks),(vs[7]?:Kr Ks),(vs[9]?:Kr Ks),(vs[10]?:Kr Ks)with
  | some (.ref P),some (.str _ _),some (.int _ _),some (.bool _),some (.int _ _)=>if(c==P)=false/\(K.lookup P).isNone=true then some P else none
  | _,_,_,_,_=>none)
 | _,_=>none
def Im(K:KC):Bool:=K.all λ p=>match p.2.data with
 | .func fd=>(match fd.code with
  | .ref c=>(match K.lookup c with | some o=>(vo K o c).isSome | none=>true)
  | _=>true)
 | _=>true
def eZ{vs:Kx Ks}(h:vs[i]? = some v):vs.getD i .none=v:=by
 rw[bn,h];rfl
def Io{K:KC}{st:KB}(R:Im K=true)(F:FunD K x f st W fd):∃c P,fd.code=.ref c/\(∀h:Kv,K.In h->PySem.W.CodeHd h c P)/\(P,tagQ f)∈A8 K:=by
 obtain⟨oc,od,dV,kV,Y,pm,an,w,ct,H,e,I,g⟩:=F.ex;have j:fd.code=w:=by rw[e]
 have q:=J0.mp R _ (dN I);dsimp only at q;unfold PySem.W.codeIn at g;split at g
 ·rename_i c;rw[j]at q;dsimp only at q;split at g
  ·rename_i cls Z y sl p;rw[p]at q;dsimp only at q;obtain⟨P,i⟩:=T5.mp q;unfold vo at i;split at i
   ·rename_i B A S;have u:=(by have:=S;injection this);subst u;split at i
    ·rename_i P' k E U m b C l o O N M L;split at i
     ·rename_i d;cases i;split at g
      ·rename_i a n t r hv;have Q:=h8.mp g;subst Q;have J:y[1]? = some (.str n t):=by rw[←L8,hv];rfl
       refine⟨c,P,j,λ h X=>⟨_,y,k,E,U,m,b,C,l,X _ _ p,A,rfl,o,eZ o,eZ O,eZ N,eZ M,eZ L,λ z=>?_⟩,?_⟩
       ·rw[z]at d;have:=d.1;simp at this
       ·unfold A8;refine br.mpr ⟨_,dN p,?_⟩;have v:=A;subst v;simp only[o,J,d.2,if_true]
      ·cases g
     ·cases i
    ·cases i
   ·cases i
  ·cases g
 ·cases g
def Iq{K:KC}(h:p∈A8 K):∃(c:Ku) (a:Obj) (vs:Kx Ks),(c,a)∈K/\a.cls=.type "code" /\ a.data=.fields vs/\vs[11]? = some (.ref p.1)/\K.lookup p.1=none:=by
 unfold A8 at h;obtain⟨⟨c,a⟩,d,e⟩:=br.mp h;dsimp only at e;split at e
 ·rename_i vs g f;split at e
  ·rename_i P q t b k2;split at e
   ·rename_i z;cases e;exact⟨c,a,vs,d,g,f,b,pJ.mp z⟩
   ·cases e
  ·cases e
 ·cases e
def Ir{K:KC}(f:(K.map (·.1)).Nodup)(h:(c,o)∈K):K.lookup c=some o:=by
 induction K with
 | nil=>cases h
 | cons y l g=>
  rw[A3]at f;have d:=P0.mp f;obtain⟨a,b⟩:=y;rw[G4];rcases i6.mp h with z | z
  ·cases z;rw[R4]
  ·have:c≠a:=λ e=>d.1 (by rw[←e];exact i8.mpr ⟨_,z,rfl⟩);rw[x8.mpr this];exact g d.2 z
def htb_of{K T:KC}(i:K.In h)(f:T.In h)(e:(K.map (·.1)).Nodup)(j:(A8 K).map (λ p=>T.lookup p.1)=(A8 K).map λ _=>some {cls:=.none,data:=.fields #[]}) :
  ∀p∈A8 K,K.lookup p.1=none/\h.get? p.1=some {cls:=.none,data:=.fields #[]} /\ isCodeTable h p.1:=λ p a=>by
 obtain⟨c,d,b,g,n,m,l,k⟩:=Iq a;exact⟨k,f _ _ (fQ.mp j p a),c,d,b,i _ _ (Ir e g),n,m,l⟩
def in_app{K:KC}(X:PySem.W.Frag.In (T++K) h)(f:(K.map (·.1)).all (λ a=>(T.lookup a).isNone)=true):K.In h/\T.In h:=by
 have c:∀(T K:KC) a,(T++K).lookup a=(T.lookup a).or (K.lookup a):=λ T K a=>by
  induction T with
  | nil=>simp
  | cons y l d=>
   obtain⟨b,v⟩:=y;rw[List.cons_append,G4,G4];cases hb:a==b with
   | true=>rfl
   | false=>
    exact d
 refine⟨λ a o e=>X a o ?_,λ a o e=>X a o ?_⟩
 ·rw[c,pJ.mp (J0.mp f a (i8.mpr ⟨_,dN e,rfl⟩)),e];rfl
 ·rw[c,e];rfl
end L2
end
noncomputable section
namespace k24
open PySem L2
noncomputable def vp:FD:=⟨3,3,none,[.ret (.and [.isi (.var 0) ["int"],.not (.isi (.var 0) ["bool"]),.chain .LtE .LtE (.var 1) (.var 0) (.var 2)])]⟩
noncomputable def vq:FD:=⟨1,1,none,[.ret (.bi .tuple [.comp (.bi .tuple [.comp (KW 0 (.var 1)) (.one 0) (.var 1) [none,some 0]]) (.one 0) (MD (.var 0)) [none,some 0]])]⟩
noncomputable def vt:FD:=⟨3,3,none,[.exp (.call 3 [.var 1,.bi .len [.var 0]]),.exp (.call 3 [.var 2,.bi .len [.ix (.var 0) (.int 0)]]),.ret (.call 5 [.var 0,.call 4 [.var 1],.call 4 [.var 2]])]⟩
noncomputable def vw:FD:=⟨2,2,none,[.iff (.not (.call 0 [.var 0,.int 1,.bin .Sub (.bin .LShift (.int 1) (.var 1)) (.int 1)])) [.unk] []]⟩
noncomputable def nw:FD:=⟨1,1,none,[.ret (.compi (.var 0) (.one 0) (.rng [.meth .bitLength (.var 0) []]) (Lx 0 (.var 1)) [none,some 0])]⟩
noncomputable def vy:FD:=⟨3,3,none,[.ret (.bi .tuple [.comp (.bi .tuple [.comp (.ix (KW 1 (.var 2)) (.var 0)) (.one 0) (.var 1) [none,some 2,some 0]]) (.one 0) (.var 1) [none,some 2,some 0]])]⟩
noncomputable def vz:FD:=⟨1,1,none,[.ret (.comp (.idx (.var 1) (.var 0)) (.one 0) (.var 0) [none,some 0])]⟩
noncomputable def vA:FD:=⟨1,1,none,[.ret (.call 6 [.call 1 [.var 0]])]⟩
noncomputable def vB:FD:=⟨1,1,none,[.ret (.call 5 [.var 0,.bi .sset [.call 6 [.var 0]],.bi .sset [.call 7 [.var 0]]])]⟩
noncomputable def vC:FD:=⟨2,1,none,[.set 1 false (LH 8 0),.ret (.and [.cmp .LtE (Lv 1) (.glb "SMALL_LINES"),.cmp .LtE (Lr 1) (.glb "SMALL_LINES")])]⟩
def vD:FD:=⟨1,1,none,[.iff (.not (LH 9 0)) [.rse "TooGreat" (.str "the table has more than five kinds of rows or of columns")] []]⟩
def ny:FD:=⟨3,1,none,[.set 1 true (.lst []),.fo (.one 2) (.var 0) [.ext 1 (.var 2)],.ret (.bi .sset [.var 1])]⟩
noncomputable def nz:FD:=⟨1,1,none,[.ret (.call 13 [.call 14 [.var 0]])]⟩
noncomputable def vE:FD:=⟨1,1,none,[.ret (.comp (.tup [.ix (.var 0) (.int 0),.ix (.var 0) (.int 1),.var 1]) (.many [0,1]) (.itm (.var 0)) [none,none])]⟩
noncomputable def nA:FD:=⟨1,1,none,[.ret (.call 16 [.var 0,.int 1,.glb "joined_ends"])]⟩
noncomputable def vF:FD:=⟨2,2,none,[.ret (.bin .Add (.var 0) (.var 1))]⟩
def vG:FD:=⟨8,3,none,[.exp (LH 10 0),.set 3 false (LH 8 0),.sep 4,.fo (.one 5) (.rng [.int 1,.bin .LShift (.int 1) (Lv 3)]) [.fo (.one 6) (.rng [.int 1,.bin .LShift (.int 1) (Lr 3)]) [.iff (.cmp .Eq (.bi .len [.call 11 [.call 2 [.var 3,.var 5,.var 6]]]) (.int 1)) [.dpp 4 [.var 5,.var 6] (.var 1)] [.set 7 false (.call 17 [.var 5,.var 6]),.dpp 4 [.var 5,.var 6] (.bi .min [.comp (.callv 4 [("joined_ends",15)] [.dgp 5 (.var 2),.dgp 5 (.var 3)]) (.many [0,1,2,3]) (.var 7) [none,none,none,none,some 2,some 4]])]]],.retd 4]⟩
noncomputable def nB:FD:=⟨4,2,none,[.set 2 false (.comp (.tup [.str "row",.var 0,.tup [.bin .Sub (.var 1) (.var 0),.var 2],.tup [.var 0,.var 2]]) (.one 0) (LH 18 0) [none,some 0,some 1]),.set 3 false (.comp (.tup [.str "column",.var 0,.tup [.var 1,.bin .Sub (.var 2) (.var 0)],.tup [.var 1,.var 0]]) (.one 0) (LH 18 1) [none,some 0,some 1]),.ret (.bin .Add (.var 2) (.var 3))]⟩
noncomputable def nC:FD:=⟨1,1,none,[.ret (.compi (.var 0) (.one 0) (.rng [.int 1,.var 0]) (.and [.cmp .Eq (.bin .BitAnd (.var 0) (.var 1)) (.var 0),.cmp .Lt (.var 0) (.bin .Sub (.var 1) (.var 0))]) [none,some 0])]⟩
noncomputable def vH:FD:=⟨1,1,none,[.ret (.ix (.ix (LH 12 0) (.neg (.int 1))) (.int 2))]⟩
noncomputable def vI:FD:=⟨1,1,none,[.ret (.call 21 [.var 0,.call 14 [.var 0],.glb "joined_ends"])]⟩
def clo:Kr CloD:=some ⟨["rows","columns","numbers","joined","rest","own","words","split","no","yes"],2,4,[.set 6 false (.call 11 [.call 2 [.var 4,.var 0,.var 1]]),.iff (.cmp .Eq (Lv 6) (.int 1)) [.ret (.tup [.str "end",.ix (.var 6) (.int 0)])] [],.set 7 false (.mink (.call 17 [.var 0,.var 1]) ["way","joined","numbers"] 1 (.callv 1 [("joined_ends",15)] [.dix (.var 2) (KW 0 (.int 2)),.dix (.var 2) (KW 0 (.int 3))]) [3,2]),.set 8 false (KW 7 (.int 2)),.set 9 false (KW 7 (.int 3)),.ret (.tup [.str "ask",.ix (.var 7) (.int 0),.call 23 [.ix (.var 7) (.int 1),.dix (.var 5) (KW 7 (.int 0))],.self 2 4 [.ix (.var 8) (.int 0),.ix (.var 8) (.int 1)],.self 2 4 [.ix (.var 9) (.int 0),.ix (.var 9) (.int 1)]])]⟩
def nE:FD:=⟨6,3,clo,[.set 3 false (LH 8 0),.set 4 false (.dc2 "row" "column" (.call 22 [.call 6 [.var 0]]) (.call 22 [.call 7 [.var 0]])),.dfr 5 [1,2,3,4] [.bin .Sub (.bin .LShift (.int 1) (Lv 3)) (.int 1),.bin .Sub (.bin .LShift (.int 1) (Lr 3)) (.int 1)]]⟩
noncomputable def nF:FD:=⟨1,1,none,[.ret (.comp (.bi .sum [.compi (.bin .LShift (.int 1) (.var 0)) (.many [0,1]) (.enu (.var 1)) (.cmp .Eq (.var 1) (.var 2)) [none,none,some 0]]) (.one 0) (.bi .sset [.var 0]) [none,some 0])]⟩
noncomputable def vJ:FD:=⟨2,2,none,[.ret (.bi .sum [.comp (KW 1 (.var 0)) (.one 0) (LH 4 0) [none,some 1]])]⟩
noncomputable def Iu:FD:=⟨1,1,none,[.ret (.and [.isi (.var 0) ["int"],.not (.isi (.var 0) ["bool"])])]⟩
noncomputable def vK:FD:=⟨2,2,none,[.iff (.cmp .Lt (.var 1) (Lv 0)) [.ret (KW 0 (.var 1))] [],.ret (.int 0)]⟩
def vL:FD:=⟨5,2,none,[.set 2 true (.lst []),.set 3 false (.bin .Add (.bin .Mod (.var 0) (Li 2147483647)) (Li 48271)),.fo (.one 4) (.rng [.var 1]) [.set 3 false (.bin .Mod (.bin .Add (.bin .Add (.bin .Mult (.var 3) (Li 48271)) (.bin .Mult (.var 4) (.var 4))) (Li 11)) (Li 2147483647)),.app 2 (.bin .FloorDiv (.var 3) (.int 7))],.ret (.var 2)]⟩
def fb:FD:=⟨10,3,none,[.set 3 false (.ix (.lst [.int 4,.int 4,.int 4,.int 4,.int 4,.int 4,.int 4,.int 5]) (.bin .Mod (KW 2 (.int 0)) (.int 8))),.set 4 false (.bin .Add (.int 1) (.bin .Mod (KW 2 (.int 1)) (.var 3))),.set 5 false (.bin .Add (.int 1) (.bin .Mod (.ix (.var 2) (.int 2)) (.var 3))),.set 6 false (.ix (.lst [.int 2,.int 3,.int 10,.int 2]) (.bin .Mod (KW 2 (.int 3)) (.int 4))),.set 7 true (.comp (.bin .Mod (.var 0) (.var 1)) (.one 0) (.call 26 [.call 25 [.var 0,.int 1],.bin .Mult (.var 4) (.var 5)]) [none,some 6]),.fo (.one 8) (.rng [.bi .min [.bin .Mult (.var 4) (.var 5),.bin .Sub (Lv 0) (.var 1)]]) [.seti 7 (.var 8) (.bin .Mod (KW 0 (.bin .Add (.var 1) (.var 8))) (.var 6))],.set 9 false (.comp (.sl (.var 1) (.bin .Mult (.var 0) (.var 2)) (.bin .Add (.bin .Mult (.var 0) (.var 2)) (.var 2))) (.one 0) (.rng [.var 4]) [none,some 7,some 5]),.iff (.cmp .Eq (.bin .Mod (KW 2 (.int 4)) (.int 8)) (.int 1)) [.set 9 false (LR (.bi .int [.cmp .Eq (.var 1) (.var 0)]))] [],.iff (.cmp .Eq (.bin .Mod (KW 2 (.int 4)) (.int 8)) (.int 2)) [.set 9 false (LR (.bi .int [.cmp .Lt (.var 1) (.var 0)]))] [],.iff (.cmp .Eq (.bin .Mod (KW 2 (.int 4)) (.int 8)) (.int 3)) [.set 9 false (.comp (.comp (.bin .Mod (KW 1 (.int 5)) (Li 10)) (.one 0) (.rng [.var 1]) [none,some 2]) (.one 0) (.rng [.var 4]) [none,some 5,some 2])] [],.ret (.var 9)]⟩
def vM:FD:=⟨7,2,none,[.set 2 false (.call 26 [.call 25 [.var 0,.int 0],.int 24]),.set 3 false (.call 27 [.var 0,.var 1,.var 2]),.fo (.one 4) (.rng [.bin .Mod (KW 2 (.int 6)) (.int 5)]) [.iff (.and [.cmp .Lt (Lv 3) (.int 8),.cmp .Eq (.bin .Mod (KW 2 (.bin .Add (.int 7) (.var 4))) (.int 2)) (.int 0)]) [.set 5 false (.bin .Mod (KW 2 (.bin .Add (.int 12) (.var 4))) (.bin .Add (Lv 3) (.int 1))),.set 3 false (.bin .Add (.bin .Add (.slt (.var 3) (.var 5)) (.lst [.ix (.var 3) (.bin .Mod (KW 2 (.bin .Add (.int 17) (.var 4))) (Lv 3))])) (.slf (.var 3) (.var 5)))] [.iff (.cmp .Lt (Lr 3) (.int 8)) [.set 5 false (.bin .Mod (KW 2 (.bin .Add (.int 12) (.var 4))) (.bin .Add (Lr 3) (.int 1))),.set 6 false (.bin .Mod (KW 2 (.bin .Add (.int 17) (.var 4))) (Lr 3)),.set 3 false LJ] []]],.ret (.bi .tuple [.comp (.bi .tuple [.var 0]) (.one 0) (.var 3) [none]])]⟩
noncomputable def nG:FD:=⟨4,1,none,[.set 1 false (.compi (.bi .list [.ix (.var 1) (.var 0)]) (.one 0) (.rng [.bi .len [.var 0]]) (.cmp .NotIn (KW 1 (.var 0)) (.slt (.var 1) (.var 0))) [none,some 0]),.set 2 false (.comp (.comp (KW 0 (.var 1)) (.one 0) (.var 1) [none,some 0]) (.one 0) (MD (.var 1)) [none,some 1]),.set 3 false (.compi (.var 0) (.one 0) (.rng [.bi .len [.var 2]]) (.cmp .NotIn (KW 1 (.var 0)) (.slt (.var 1) (.var 0))) [none,some 2]),.ret (.comp (.comp (KW 1 (.var 0)) (.one 0) (.var 1) [none,some 0]) (.one 0) (.var 1) [none,some 3])]⟩
def vN:FD:=⟨3,1,none,[.set 1 false (.int 1),.fo (.one 2) (.rng [.var 0]) [.set 1 false (.bin .Mult (.var 1) (.int 2))],.ret (.var 1)]⟩
noncomputable def vO:FD:=⟨1,1,none,[.ret (.compi (.var 0) (.one 0) (.rng [.int 1,.var 0]) (.cmp .Eq (.bin .BitAnd (.var 0) (.var 1)) (.var 0)) [none,some 0])]⟩
noncomputable def nH:FD:=⟨3,2,none,[.set 2 false (.comp (.tup [.tup [.var 0,.var 1],.tup [.bin .Sub (.var 2) (.var 0),.var 1]]) (.one 0) (LH 31 0) [none,some 1,some 0]),.ret (.bin .Add (.var 2) (.comp (.tup [.tup [.var 1,.var 0],.tup [.var 1,.bin .Sub (.var 2) (.var 0)]]) (.one 0) (LH 31 1) [none,some 0,some 1]))]⟩
def nK:FD:=⟨6,3,none,[.set 3 true (.lst []),.fo (.one 4) (.rng [.bi .len [.var 0]]) [.fo (.one 5) (MD (.var 0)) [.iff (.and [.cmp .Eq (Lx 4 (.var 1)) (.int 1),.cmp .Eq (Lx 5 (.var 2)) (.int 1)]) [.app 3 (.ix (KW 0 (.var 4)) (.var 5))] []]],.ret (.cmp .Eq (.bi .min [.var 3]) (.bi .max [.var 3]))]⟩
def vP:FD:=⟨7,2,none,[.iff (.or [.not (.isi (.var 0) ["list"]),.cmp .NotEq (.var 0) (.bi .sorted [.var 0])]) [.ret (.non)] [],.sep 2,.fo (.one 3) (.var 0) [.iff (.or [.not (.isi (.var 3) ["tuple"]),.cmp .NotEq (Lv 3) (.int 3),.cmp .NotEq (.bi .len [.compi (.var 0) (.one 0) (.var 3) (LH 24 0) [none]]) (.int 3)]) [.ret (.non)] [],.dpp 2 [.ix (.var 3) (.int 0),.ix (.var 3) (.int 1)] (KW 3 (.int 2))],.set 4 false (.int 0),.fo (.one 5) (.rng [.int 1,.call 30 [.bi .len [.var 1]]]) [.fo (.one 6) (.rng [.int 1,.call 30 [.bi .len [.ix (.var 1) (.int 0)]]]) [.set 4 false (.bin .Add (.var 4) (.bi .int [.din 2 (.tup [.var 5,.var 6])]))]],.iff (.or [.cmp .NotEq (.var 4) (Lv 0),.cmp .NotEq (.var 4) (.bin .Mult (.bin .Sub (.call 30 [.bi .len [.var 1]]) (.int 1)) (.bin .Sub (.call 30 [.bi .len [.ix (.var 1) (.int 0)]]) (.int 1)))]) [.ret (.non)] [],.retd 2]⟩
noncomputable def av:FD:=⟨3,1,none,[.set 1 false (.bin .Add (.int 6) (.bin .Mod (.var 0) (.int 3))),.set 2 false (.comp (.comp (.bin .Mod (.bin .RShift (.var 1) (.var 0)) (.int 2)) (.one 0) (.rng [.int 3]) [none,some 0]) (.one 0) (.rng [.var 1]) [none]),.iff (.cmp .Eq (.bin .Mod (.bin .FloorDiv (.var 0) (.int 3)) (.int 2)) (.int 0)) [.set 2 false (.comp (.comp (.bi .int [.cmp .Eq (.var 1) (.var 0)]) (.one 0) (.rng [.var 1]) [none,some 0]) (.one 0) (.rng [.var 1]) [none,some 1])] [],.iff (.cmp .Eq (.bin .Mod (.bin .FloorDiv (.var 0) (.int 6)) (.int 2)) (.int 1)) [.set 2 false (.comp (.comp (KW 0 (.var 1)) (.one 0) (.var 1) [none,some 0]) (.one 0) (MD (.var 2)) [none,some 2])] [],.ret (.bi .tuple [.comp (.bi .tuple [.var 0]) (.one 0) (.var 2) [none]])]⟩
noncomputable def Iv:FD:=⟨4,3,none,[.wh (.cmp .Eq (.ix (.var 0) (.int 0)) (.str "ask")) [.set 3 false (.var 1),.iff (.cmp .Eq (KW 0 (.int 1)) (.str "column")) [.set 3 false (.var 2)] [],.set 0 false (.ix (.var 0) (.bin .Add (.int 3) (.bin .BitAnd (.bin .RShift (KW 0 (.int 2)) (.var 3)) (.int 1))))],.ret (KW 0 (.int 1))]⟩
noncomputable def fe:FD:=⟨4,3,none,[.iff (.or [.not (.isi (.var 0) ["tuple"]),.cmp .Lt (.var 1) (.int 0)]) [.ret LL] [],.iff (.cmp .Eq (Lv 0) (.int 2)) [.ret (.and [.cmp .Eq (.ix (.var 0) (.int 0)) (.str "end"),.call 24 [.ix (.var 0) (.int 1)],.chain .LtE .LtE (.int 0) (KW 0 (.int 1)) (.int 9)])] [],.iff (.or [.cmp .NotEq (Lv 0) (.int 5),.cmp .NotEq (.ix (.var 0) (.int 0)) (.str "ask"),.cmp .NotIn (KW 0 (.int 1)) (.tup [.str "row",.str "column"]),.not (.call 24 [.ix (.var 0) (.int 2)])]) [.ret LL] [],.set 3 false (Lv 2),.iff (.cmp .Eq (KW 0 (.int 1)) (.str "column")) [.set 3 false (Lr 2)] [],.iff (.or [.cmp .Lt (KW 0 (.int 2)) (.int 1),.cmp .GtE (KW 0 (.int 2)) (.bin .LShift (.int 1) (.var 3))]) [.ret LL] [],.ret (.and [.call 37 [.ix (.var 0) (.int 3),.bin .Sub (.var 1) (.int 1),.var 2],.call 37 [.ix (.var 0) (.int 4),.bin .Sub (.var 1) (.int 1),.var 2]])]⟩
noncomputable def Iw:FD:=⟨1,1,none,[.iff (.cmp .Eq (.ix (.var 0) (.int 0)) (.str "end")) [.ret (.int 1)] [],.ret (.bin .Add (.call 39 [.ix (.var 0) (.int 3)]) (.call 39 [.ix (.var 0) (.int 4)]))]⟩
def vQ:FD:=⟨4,2,none,[.fo (.one 2) (.rng [.bi .len [.var 1]]) [.fo (.one 3) (MD (.var 1)) [.iff (.cmp .NotEq (.call 36 [.var 0,.var 2,.var 3]) (.ix (KW 1 (.var 2)) (.var 3))) [.ret LL] []]],.ret (.bl true)]⟩
noncomputable def vR:FD:=⟨4,2,none,[.rfs [.iff (.cmp .Eq (.var 1) (.int 0)) [.exp (LH 12 0)] [.iff (.cmp .Eq (.var 1) (.int 1)) [.exp (LH 19 0)] [.exp (LH 20 0)]]]]⟩
def Ix:FD:=⟨5,2,none,[.fo (.many [2,3]) (.kys (.var 0)) [.set 4 false (.int 1),.iff (.not (.call 33 [.var 1,.var 2,.var 3])) [.set 4 false (.bi .min [.comp (.bin .Add (.dix (.var 2) (.var 0)) (.dix (.var 2) (.var 1))) (.many [0,1]) (.call 32 [.var 2,.var 3]) [none,none,some 0]])] [],.iff (.cmp .NotEq (.dix (.var 0) (.tup [.var 2,.var 3])) (.var 4)) [.ret LL] []],.ret (.bl true)]⟩
noncomputable def iT:FD:=⟨10,1,none,[.set 1 false (.call 28 [.var 0,.int 2]),.set 2 false (LH 29 1),.set 3 true (LH 12 1),.set 4 false (.call 34 [.var 3,.var 2]),.iff (.or [.cmp .Is (.var 4) (.non),.not (.call 42 [.var 4,.var 2])]) [.ret LL] [],.set 5 false (.dix (.var 4) (.tup [.bin .Sub (.call 30 [.bi .len [.var 2]]) (.int 1),.bin .Sub (.call 30 [.bi .len [.ix (.var 2) (.int 0)]]) (.int 1)])),.set 6 false (LH 19 1),.set 7 false (LH 20 1),.iff (.or [.not (LH 24 6),.cmp .NotEq (.var 6) (.var 5),.not (.call 37 [.var 7,.int 12,.var 1]),.not (.call 40 [.var 7,.var 1])]) [.ret LL] [],.set 8 false (.call 35 [.call 25 [.var 0,.int 1]]),.iff (.or [.cmp .NotEq (LH 39 7) (.var 5),.not (.call 41 [.var 8,.int 0])]) [.ret LL] [],.iff (.or [.not (.call 41 [.var 8,.int 1]),.not (.call 41 [.var 8,.int 2])]) [.ret LL] [],.set 9 false (.bi .list [.var 3]),.app 3 (.int 0),.ret (.and [.cmp .Eq (LH 12 1) (.var 9),.cmp .Eq (LH 20 1) (.var 7)])]⟩
def T:on FD:=[vp,vq,vt,vw,nw,vy,vz,vA,vB,vC,vD,ny,nz,vE,nA,vF,vG,nB,nC,vH,vI,nE,nF,vJ,Iu,vK,vL,fb,vM,nG,vN,vO,nH,nK,vP,av,Iv,fe,vp,Iw,vQ,vR,Ix,iT]
noncomputable def fnl:on Str:="is_int" :: "flipped" :: "cut" :: "check_cards" :: "cards_in" :: "crossing" :: "row_kinds" :: "column_kinds" :: "trimmed" :: "is_small" :: "check_small" :: "words_in" :: "ends_paper" :: "paper" :: "ends_numbers" :: "joined_ends" :: "least_numbers" :: "splits" :: "halves" :: "fewest_ends" :: "fewest_plan" :: "plan_by" :: "sets_of_kinds" :: "widened" :: "_law_int" :: "_law_cell_at" :: "_law_stream" :: "_law_core" :: "_law_table" :: "_law_trimmed" :: "_law_power" :: "_law_halves" :: "_law_splits" :: "_law_one_word" :: "_law_known" :: "_law_great" :: "_law_reached" :: "_law_is_plan" :: "is_int" :: "_law_ends" :: "_law_settles" :: "_law_refused" :: "_law_obeys" :: "law" :: []
noncomputable def bll:on Str:="isinstance" :: "int" :: "bool" :: "tuple" :: "range" :: "len" :: "sorted" :: "set" :: "min" :: "sum" :: "enumerate" :: "list" :: "max" :: "ValueError" :: []
noncomputable def cll:on Str:="TalkError" :: "NoTable" :: "NoCard" :: "TooGreat" :: []
def G:Gs:={con:=[("SMALL_LINES",.int 5),("joined_ends",.fn "joined_ends")],clo:=clo,fnl:=fnl,bll:=bll,cll:=cll}
end k24
namespace k24
open PySem L2
def iU:run G T fu (k+1) 24 [.int x]=some (.v (.bl true) false):=by
 rw[r6 rfl rfl];rfl
def nL(a:on Int)(j:Nat):∃v:Int,run G T fu (k+1) 25 [.scr a,.int j]=some (.v (.int v) false):=by
 rw[r6 rfl rfl];unfold vK;have c:∀F,evE G F (.cmp .Lt (.var 1) (Lv 0)) _=some _:=λ F=>b_lt (f6 rfl) (rfl:evE G F (Lv 0) [.val (.scr a),.val (.int j)]=some _)
 by_cases h:j<a.length
 ·refine⟨a[j],t6 (hU (o6 ((c _).trans (by rw[C5 KE]))) (p8 (v4 (p9 (f6 rfl) (f6 rfl) ?_))))⟩;show((E5 a.length (j:Int)).bind λ j=>a[j]?).map DV.int=_;unfold E5;rw[f8 (G2 j),f8 KE,B6];show(a[j]?).map DV.int=_;rw[m7 h];rfl
 ·exact⟨0,t6 (v9 (o6 ((c _).trans (by rw[B8 KE]))) (p8 rfl))⟩
def Iy(xs:on Int)(v:Int):xs.map DV.int++[.int v]=(xs++[v]).map DV.int:=by rw[C4];rfl
def V7{n:Nat}(h:KM e cl (.int n))(hn:n<=1000):r3 (La (.rng [e]))=some (.ok (upTo 0 n) .fresh):=by
 show r3 (Rs.thn _ _)=_;rw[g7 h k6,dY];have hs:(J7 (n:Int)&&decide ((n:Int)<=(p7:Int)))=true:=by rw[f7,M3];refine⟨?_,bE (show(n:Int)<=1000 by omega) KL⟩;unfold J7;rw[f7,M3,M3];exact⟨bE KL (G2 n),jJ (show(n:Int)<=1000 by omega) KL⟩
 show r3 ((if J7 (n:Int)&&decide ((n:Int)<=(p7:Int))then some (upTo 0 (n:Int).toNat)else none).map λ a=>.ok _ .fresh)=_;rw[f8 hs,B6];rfl
def Iz{j:Nat}(hj:j<1000):M7 (j:Int) (j:Int)=true:=by unfold M7;simp;omega
def m48(x:Int):M7 x 48271=true:=by unfold M7;simp
def ff(h:KM e c (.lst ds)):evE G F (.bi .tuple [e]) δ=some (.ok (.tup ds) c.item):=by
 show Rs.thn _ _=_;rw[g7 h k6];rfl
def N3(h:KM e c (.lst ds)):evE G F (.bi .len [e]) δ=some (.ok (Li ds.length) .strong):=by
 show Rs.thn _ _=_;rw[g7 h k6];rfl
def V8(h:KM e c (.tup ds)):evE G F (.bi .len [e]) δ=some (.ok (Li ds.length) .strong):=by
 show Rs.thn _ _=_;rw[g7 h k6];rfl
def iD(r:on Int):on DV:=r.map DV.int
noncomputable def rL(rows:Le):DV:=.lst (rows.map λ r=>.lst (iD r))
noncomputable def tT(rows:Le):DV:=.tup (rows.map λ r=>.tup (iD r))
def Rect(n m:Nat)(rows:Le):Prop:=rows.length=n/\∀r∈rows,r.length=m
noncomputable def col(rows:Le)(j:Nat):on Int:=rows.map λ r=>r.getD j 0
def flip(m:Nat)(rows:Le):on (on Int):=(Lb m).map (col rows)
def nM{j:Nat}(h:j<r.length):ixD (.tup (iD r)) (.int j)=some (.int (r.getD j 0)):=by
 have a:(j:Int)<((r.map DV.int).length:Int):=by rw[g8];exact_mod_cast h
 unfold iD;simp only[ixD,atD,E5,f8 (G2 j),f8 a,O8,B6,t5,m7 h,P1,u8,cY]
def iV{j:Nat}(h:j<r.length):ixD (Lw (iD r)) (.int j)=some (.int (r.getD j 0)):=by
 have a:(j:Int)<((r.map DV.int).length:Int):=by rw[g8];exact_mod_cast h
 unfold iD;simp only[ixD,atD,E5,f8 (G2 j),f8 a,O8,B6,t5,m7 h,P1,u8,cY]
noncomputable def sub(rows:Le)(I J:on Nat):on (on Int):=I.map λ i=>J.map λ j=>(rows.getD i []).getD j 0
def aw{i:Nat}(h:i<rows.length):ixD Mc (.int i)=some (.tup (iD (rows.getD i []))):=by
 have a:(i:Int)<((rows.map λ r=>DV.tup (iD r)).length:Int):=by rw[g8];exact_mod_cast h
 simp only[tT,ixD,atD,E5,f8 (G2 i),f8 a,O8,B6,t5,m7 h,P1,u8,cY]
def E9{rows:on (on Int)}(h:i<rows.length):rows.getD i []∈rows:=by
 rw[u8,m7 h];exact Y8 h
theorem nN(n:Nat):∀r:on Int,DV.plains n (iD r)=true
 | []=>by unfold iD;simp[DV.plains]
 | a::r=>by have q:=nN n r;unfold iD at q ⊢;rw[A3];unfold DV.plains;rw[q];cases n<;>rfl
def IA(hw:r3 (La it)=some (.ok ds cl))(b:cl ≠ .weak)(hl:ds.length<=p7)
  (h:∀d∈ds,∃a c,tg.bind d (A4 fr δ)=some a/\evE G F elt a=some (.ok (f d) c)/\stro (f d) c=true):evE G F (.comp elt tg it fr) δ=some (.ok (Lw (ds.map f)) .fresh):=by
 show Ri.thn _ _=_;rw[hw,dZ,g9 (by rintro(z | z);exact b z;omega),ly (λ d hd=>?_)]
 ·rfl
 ·obtain⟨a,c,i,g,e⟩:=h d hd;rw[i,O8,g];show(if stro (f d) c then some (Rc.item (f d))else none)=_;rw[f8 e]
def IB(h:KM e cl (.int i))(a:i<=1000)(b : -1000<=i):r3 (La (.rng [e]))=some (.ok (upTo 0 i.toNat) .fresh):=by
 show r3 (Rs.thn _ _)=_;rw[g7 h k6,dY];have hs:(J7 i&&decide (i<=(p7:Int)))=true:=by rw[f7,M3];refine⟨?_,bE a KL⟩;unfold J7;rw[f7,M3,M3];exact⟨bE KL b,jJ a KL⟩
 show r3 ((if J7 i&&decide _ then some _ else none).map λ ds=>.ok _ .fresh)=_;rw[f8 hs];rfl
noncomputable def X9(n m:Nat)(ws:on Int):on (on Int):=(Lb n).map λ j=>(ws.drop (j*m)).take m
def IC(h:ws.length=n*m):Rect n m (X9 n m ws):=by
 unfold X9;refine⟨by rw[g8,C3],λ r a=>?_⟩;obtain⟨j,b,rfl⟩:=i8.mp a;rw[F8,aI,h];have:(j+1)*m<=n*m:=Nat.mul_le_mul_right m (u0.mp b);rw[gC,dw]at this;omega
def ID(g:KM a c (.lst ds))(e:KM b c1 (.int l))(f:KM d i (.int h)):evE G F (.sl a b d) δ=some (.ok (Lw (cutD ds (some l) (some h))) (Cl.anew c c)):=by
 show Re.thn _ _=_;rw[g,B1];show Re.thn _ _=_;rw[e,B1];show Re.thn _ _=_;rw[f];rfl
def IE{m:Nat}(h:ws.length=n*m)(b:j<n):cutD (iD ws) (some ((j:Int)*m)) (some ((j:Int)*m+m))=iD ((ws.drop (j*m)).take m):=by
 have d:((j:Int)*m)=((j*m:Nat):Int):=by push_cast;rfl
 have c:((j:Int)*m+m)=((j*m+m:Nat):Int):=by push_cast;rfl
 have a:=(by have:(j+1)*m<=n*m:=Nat.mul_le_mul_right m b;rw[gC,dw]at this;exact this);have len:(iD ws).length=n*m:=by unfold iD;rw[g8,h]
 unfold cutD slIx;rw[c,d];simp only[len];rw[g9 KE,g9 KE,B6,B6,dh a,dh KE,show j*m+m - j*m=m by omega];unfold iD;rw[←gp,←Z1]
def nO(h:j<n):E5 n (j:Int)=some j:=by
 unfold E5;rw[f8 (G2 j),f8 KE,B6]
def nP{es:on ME}(h:Me):evE G F (.bi .min es) δ=minD l:=by
 have e:evE G F (.bi .min es) δ=Rs.thn _ _:=rfl;rw[e,h];rfl
def be(R:LG):Rect m n (flip m rows):=by
 unfold flip;refine⟨by rw[g8,C3],λ r a=>?_⟩;obtain⟨j,hj,rfl⟩:=i8.mp a;unfold col;rw[g8,R.1]
def ax{i:Nat}(h:i<rows.length):ixD (rL rows) (.int i)=some (.lst (iD (rows.getD i []))):=by
 have a:(i:Int)<((rows.map λ r=>DV.lst (iD r)).length:Int):=by rw[g8];exact_mod_cast h
 simp only[rL,ixD,atD,E5,f8 (G2 i),f8 a,O8,B6,t5,m7 h,P1,u8,cY]
def IF{es:on ME}(h:Me)(a:l.length<=p7)(hs:stros l=true):evE G F (Lw es) δ=some (.ok (.lst (l.map (·.1))) .fresh):=by
 have e:evE G F (Lw es) δ=Rs.thn _ _:=rfl;rw[e,h,dY,f8 a,hs];rfl
noncomputable def nD(l:on Nat):on DV:=l.map λ (j:Nat)=>DV.int (j:Int)
theorem vS{c:Type}[BEq c][LawfulBEq c]{f:c->DV}(d:∀a b,deq (f a) (f b)=(a==b))(r:c):∀{l:on c},r∈l->X4 (f r) (l.map f)=some (l.idxOf r)
 | a::l,g=>by
  rw[A3];unfold X4;rw[d,List.idxOf_cons];cases h:(a==r)with
  | true=>rfl
  | false=>
   have i:r∈l:=by
    rcases i6.mp g with e | e
    ·subst e;simp at h
    ·exact e
   rw[vS d r i];rfl
theorem nQ:∀a b:on Int,deqs (iD a) (iD b)=(a==b)
 | [],[]=>rfl
 | [],_::_=>rfl
 | _::_,[]=>rfl
 | x::a,y::b=>by have c:=nQ a b;unfold iD at c ⊢;rw[A3,A3];unfold deqs;rw[c];unfold deq;rfl
def IG(a b:on Int):deq (Lw (iD a)) (Lw (iD b))=(a==b):=nQ a b
def vT(a b:on Int):deq (.tup (iD a)) (.tup (iD b))=(a==b):=nQ a b
theorem iW:∀{l:on DV},(∀d∈l,d.plain n=true)->DV.plains n l=true
 | [],_=>by unfold DV.plains;rfl
 | d::r,h=>by unfold DV.plains;rw[h d (o5 ..),iW λ x a=>h x (o4 _ a)];rfl
def vU(n:Nat)(a:on Int):DV.plain (n+1) (Lw (iD a))=true:=nN n a
def nR(n:Nat)(a:on Int):DV.plain (n+1) (.tup (iD a))=true:=nN n a
def vV(n:Nat)(a:Int):DV.plain n (.int a)=true:=by cases n<;>(unfold DV.plain;rfl)
def IH(n:Nat)(rows:Le):DV.plains (n+1) (rows.map λ r=>.lst (iD r))=true:=iW λ d hd=>by
 obtain⟨r,_,rfl⟩:=i8.mp hd;exact vU n r
def vW(n:Nat)(rows:Le):DV.plains (n+1) (rows.map λ r=>.tup (iD r))=true:=iW λ d a=>by
 obtain⟨r,_,rfl⟩:=i8.mp a;exact nR n r
def II{rows:on (on Int)}(h:r∈rows)(a:rows.length<=1000):idxD (.tup (rows.map λ r=>.tup (iD r))) (.tup (iD r))=some (.int (rows.idxOf r:Nat)):=by
 unfold idxD;dsimp;rw[nR 59,vW 59,C5 (by rw[g8];exact i7 a KL),vS vT r h];rfl
def IJ(e:Ly a (.ok x cx))(hs:seqB x=true)(c:Ly b (.ok y cy))(h:idxD x y=some d):evE G F (.idx a b) δ=some (.ok d .strong):=by
 show Re.thn _ _=_;rw[e,B1,f8 hs,c,B1,h];rfl
theorem vX{b:Type}{h f:b->DV}:∀{l:on b},(∀a∈l,g (h a)=some (.item (f a)))->A5 g (l.map h)=some (l.map f)
 | [],_=>rfl
 | a::r,q=>by rw[A3,A3];unfold A5;rw[q a (o5 ..)];show(match A5 g _ with | none=>none | some xs=>some _)=_;rw[vX λ x c=>q x (o4 _ c)]
def F0{e:Type}{l:on e}{h f:e->DV}(hw:r3 (La it)=some (.ok (l.map h) cl))(g:cl ≠ .weak)(hl:l.length<=p7)
  (q:∀a∈l,∃d c,tg.bind (h a) (A4 fr δ)=some d/\evE G F elt d=some (.ok (f a) c)/\stro (f a) c=true):evE G F (.comp elt tg it fr) δ=some (.ok (Lw (l.map f)) .fresh):=by
 show Ri.thn _ _=_;rw[hw,dZ,g9 (by rintro(z | z);exact g z;rw[g8]at z;omega),vX (λ a i=>?_)]
 ·rfl
 ·obtain⟨d,c,m,k,j⟩:=q a i;rw[m,O8,k];show(if stro (f a) c then some (Rc.item (f a))else none)=_;rw[f8 j]
def vY{j:Nat}(b:rows.length<=1000)(w:r3 (evE G F (.var 1) [.val (Li (j:Int)),.val d])=some (Lc (rows.map h)))(c:∀r∈rows,ixD (h r) (.int j)=some (Li (r.getD j 0))):evE G F (.comp (KW 0 (.var 1)) (.one 0) (.var 1) [none,some 0]) [.val (.int j),.val d]=some (.ok (Lw (iD (col rows j))) .fresh):=by
 rw[F0 w KL (i7 b KL) λ r a=>⟨[.val (h r),.val _],.strong,rfl,p9 (f6 rfl) (f6 rfl) (c r a),rfl⟩];unfold iD col;rw[o9];rfl
def IK(rows:Le)(m j:Nat)(b:∀r∈rows,r.length=m)(d:j<m)(c:rows.length<=1000):evE G F (.comp (KW 0 (.var 1)) (.one 0) (.var 1) [none,some 0]) [.val (.int j),.val Mc]=some (.ok (Lw (iD (col rows j))) .fresh):=vY c rfl λ r a=>nM (by rw[b r a];exact d)
def IL(rows:Le)(m j:Nat)(hm:∀r∈rows,r.length=m)(hj:j<m)(a:rows.length<=1000):evE G F (.comp (KW 0 (.var 1)) (.one 0) (.var 1) [none,some 0]) [.val (.int j),.val (rL rows)]=some (.ok (Lw (iD (col rows j))) .fresh):=vY a rfl λ r hr=>iV Mn
def IM{n:Nat}(h:KM e c (.int (n:Int)))(a:n<=1000):r3 (La (.rng [e]))=some (.ok ((Lb n).map λ (j:Nat)=>DV.int (j:Int)) .fresh):=by
 rw[V7 h a];unfold L2.upTo
 congr 2
 apply M1;intro j _
 congr 1
 omega
def IN(rows:Le)(n m:Nat)(R:LG)(g:0<n)(d:n<=1000)(c:m<=1000):run G T fu (k+1) 1 [tT rows]=some (.v (tT KQ) false):=by
 rw[r6 rfl rfl];have e:0<rows.length:=by rw[R.1];exact g
 have f:=V8 (F:=run G T fu k) (δ:=n9 1 [tT rows]) (p9 (a:=.var 0) (b:=.int 0) (cx:=.strong) (f6 rfl) (i5 (i:=((0:Nat):Int))) (aw e));rw[show(iD (rows.getD 0 [])).length=m by unfold iD;rw[g8];exact R.2 _ (E9 e)]at f;have l:=F0 (tg:=.one 0) (fr:=[none,some 0]) (IM f c) KL (by rw[C3];exact i7 c KL) λ j h=>
  ⟨[.val _,.val _],.strong,rfl,ff (IK rows m j R.2 (u0.mp h) (by rw[R.1];exact d)),rfl⟩
 unfold vq;refine t6 (p8 (v4 (cl:=.strong) ((ff l).trans ?_)));unfold tT flip;rw[o9];rfl
def vZ(rows:Le)(n m:Nat)(R:LG)(I J:on Nat)(o:∀i∈I,i<n)(h:∀j∈J,j<m)(d:I.length<=1000)(b:J.length<=1000):run G T fu (k+1) 5 [tT rows,.lst (nD I),.lst (nD J)]=some (.v (tT (sub rows I J)) false):=by
 rw[r6 rfl rfl];have p:=F0 (F:=run G T fu k) (δ:=n9 3 [tT rows,.lst (nD I),.lst (nD J)]) (l:=I) (f:=λ i=>.tup (iD (J.map λ j=>(rows.getD i []).getD j 0))) (elt:=.bi .tuple [.comp (.ix (KW 1 (.var 2)) (.var 0)) (.one 0) (.var 1) [none,some 2,some 0]]) (tg:=.one 0) (it:=.var 1) (fr:=[none,some 2,some 0]) rfl KL (i7 d KL) λ i g=>by
  refine⟨[.val (Li (i:Int)),.val (Lw (nD J)),.val Mc],.strong,rfl,ff (c:=.fresh) ?_,rfl⟩;have a:i<rows.length:=by rw[R.1];exact o i g
  rw[F0 (l:=J) rfl KL (i7 b KL) λ j e=>⟨[.val (Li (j:Int)),.val Mc,.val (Li (i:Int))],.strong,rfl,p9 (p9 (cx:=.strong) (f6 rfl) (f6 rfl) (aw a)) (f6 rfl) (nM (by rw[R.2 _ (E9 a)];exact h j e)),rfl⟩];unfold iD;rw[o9];rfl
 unfold vy;refine t6 (p8 (v4 (cl:=.strong) ((ff p).trans ?_)));unfold tT sub;rw[o9];rfl
noncomputable def kI(rows:Le):on Int:=rows.map λ r=>((rows.idxOf r:Nat):Int)
def nT(rows:Le)(a:rows.length<=1000):run G T fu (k+1) 6 [tT rows]=some (.v (Lw (iD (kI rows))) true):=by
 rw[r6 rfl rfl];unfold vz;have e:=F0 (F:=run G T fu k) (δ:=n9 1 [tT rows]) (elt:=.idx (.var 1) (.var 0)) (tg:=.one 0) (it:=.var 0) (fr:=[none,some 0]) rfl KL (i7 a KL) (λ r b=>⟨[.val (.tup (iD r)),.val Mc],.strong,rfl,IJ (f6 rfl) rfl (f6 rfl) (II b a),rfl⟩);have c:(rows.map λ r=>DV.int ((rows.idxOf r:Nat):Int))=iD (kI rows):=by unfold iD kI;rw[o9];rfl
 rw[c]at e;exact t6 (p8 (v4 e))
def wa(n:Nat):upTo 0 n=nD (List.range n):=by
 unfold L2.upTo nD;apply M1;intro j _;rw[Int.zero_add]
theorem nU:∀{l:on Int},y∈insI x l↔y=x\/y∈l
 | []=>by simp[insI]
 | z::l=>by
  unfold insI;split
  ·simp
  ·rw[i6,nU,i6];constructor<;>(rintro(h | h | h)<;>simp[h])
theorem nV:∀{l:on Int},y∈J4 l↔y∈l
 | []=>P4
 | z::l=>by unfold J4;rw[nU,nV,i6]
theorem wb{y:Int}:∀{l σ:on Int},y∈l.foldl dk σ↔y∈σ\/y∈l
 | [],σ=>by simp
 | z::l,σ=>by
  rw[fV,wb,i6];unfold dk;split
  ·rename_i h;constructor
   ·rintro(q | q)
    ·exact .inl q
    ·exact .inr (.inr q)
   ·rintro(q | q | q)
    ·exact .inl q
    ·rw[q];exact .inl h
    ·exact .inr q
  ·rw[F1,w4,or_assoc]
theorem hY:∀{l σ:on Int},(l.foldl dk σ).length<=σ.length+l.length
 | [],σ=>by simp
 | z::l,σ=>by
  rw[fV,x9];have:=hY (l:=l) (σ:=dk σ z);have h2:(dk σ z).length<=σ.length+1:=by unfold dk;split<;>simp
  omega
theorem cD:∀r:on Int,ints? (iD r)=some r
 | []=>rfl
 | x::r=>by show(ints? (iD r)).map _=_;rw[cD r];rfl
def nW(h:evE G F e δ=some (.ok (Lw (iD r)) c))(hl:r.length<=60):evE G F (.bi .sset [e]) δ=some (.ok (Lw (iD (J4 (r.foldl dk [])))) .fresh):=by
 show Rs.thn _ _=_;rw[g7 h k6];show(match ints? (iD r)with
  | some a=>if a.length<4000/\(a.foldl dk []).length<64 then some _ else none
  | none=>none)=_
 rw[cD];have:=hY (l:=r) (σ:=[]);rw[jW]at this;exact f8 ⟨by omega,by omega⟩
def S9{F:Nat->on DV->Kr Ou}{δ:on Sv}{G:Gs}{a b:ME}{r:on ME}{cx:Cl}{o:Kr Re}(ha:KM a cx (.bl true))(hb:evE G F (.and (b::r)) δ=o):evE G F (.and (a::b::r)) δ=o:=by
 have e:evE G F (.and (a::b::r)) δ=Re.thn (La a) (λ x c=>andD x c (O3 G F (b::r) δ)):=rfl;have e2:evE G F (.and (b::r)) δ=O3 G F (b::r) δ:=rfl;rw[e,ha,B1,←e2,hb];rfl
def iX{F:Nat->on DV->Kr Ou}{δ:on Sv}{G:Gs}{a b:ME}{r:on ME}{cx:Cl}(ha:KM a cx (.bl false)):evE G F (.and (a::b::r)) δ=some (.ok LL cx):=by
 have e:evE G F (.and (a::b::r)) δ=Re.thn (La a) (λ x c=>andD x c (O3 G F (b::r) δ)):=rfl;rw[e,ha,B1];rfl
def Y0{F:Nat->on DV->Kr Ou}{δ:on Sv}{G:Gs}{a:ME}{o:Kr Re}(ha:evE G F a δ=o):evE G F (.and [a]) δ=o:=by
 have e:evE G F (.and [a]) δ=evE G F a δ:=rfl;rw[e,ha]
def nX(c:tg.bind d δ=some δ1)(b:body δ1=some (.nx a)):C6 tg body (d::r) δ=C6 tg body r a:=by
 show(match tg.bind d δ with | none=>none | some δ1=>match body δ1 with | some (.nx a)=>C6 tg body r a | o=>o)=_;rw[c];show(match body δ1 with | some (.nx a)=>C6 tg body r a | o=>o)=_;rw[b]
theorem wc:∀{a b:on Int},a.Pairwise (· < ·)->b.Pairwise (· < ·)->(∀x,x∈a↔x∈b)->a=b
 | [],[],_,_,_=>rfl
 | [],y::b,_,_,h=>absurd ((h y).mpr (o5 ..)) KS
 | x::a,[],_,_,h=>absurd ((h x).mp (o5 ..)) KS
 | x::a,y::b,d,c,h=>by
  rw[M2]at d c;have e:x=y:=by
   rcases i6.mp ((h x).mp (o5 ..))with z | z
   ·exact z
   ·rcases i6.mp ((h y).mpr (o5 ..))with w | w
    ·exact w.symm
    ·have h1:=d.1 y w;have h2:=c.1 x z;omega
  subst e;rw[wc d.2 c.2 λ z=>?_];constructor
  ·intro q;rcases i6.mp ((h z).mp (o4 _ q))with w | w
   · exact absurd (d.1 _ q) KE
   ·exact w
  ·intro q;rcases i6.mp ((h z).mpr (o4 _ q))with w | w
   · exact absurd (c.1 _ q) KE
   ·exact w
theorem we:∀{l:on Int},l.Pairwise (· < ·)->x∉l->(insI x l).Pairwise (· < ·)
 | [],_,_=>by simp[insI]
 | y::l,h,b=>by
  rw[M2]at h;unfold insI;split
  ·rename_i q;rw[M2];refine⟨λ z a=>?_,M2.mpr h⟩;rcases i6.mp a with w | w
   ·rwa [w]
   ·have:=h.1 z w;omega
  ·rename_i q;rw[M2];refine⟨λ z a=>?_,we h.2 λ w=>b (o4 _ w)⟩;rcases nU.mp a with w | w
   ·subst w;have:z≠y:=λ e=>b Mn
    omega
   ·exact h.1 z w
theorem wf:∀{l:on Int},l.Nodup->(J4 l).Pairwise (· < ·)
 | [],_=>List.Pairwise.nil
 | x::l,h=>by
  rw[P0]at h;exact we (wf h.2) λ z=>h.1 (nV.mp z)
theorem wg:∀{l c:on Int},c.Nodup->(l.foldl dk c).Nodup
 | [],_,h=>h
 | x::l,c,h=>by
  rw[fV];refine wg ?_;unfold dk;split
  ·exact h
  ·rename_i q;rw[List.nodup_append];refine⟨h,by simp,λ a f b d e=>?_⟩;rw[w4]at d;subst d e;exact q f
def wj{l:on Int}(a:t.Pairwise (· < ·))(h:∀x,x∈l↔x∈t):J4 (l.foldl dk [])=t:=
 wc (wf (wg gb)) a λ x=>by rw[nV,wb,←h];simp
def nI(l:on Nat):on Int:=l.map λ (j:Nat)=>(j:Int)
def nY(l:on Nat):iD (nI l)=nD l:=by unfold iD nI nD;rw[o9];rfl
def wk(p:Nat->Bool)(n:Nat):(nI ((Lb n).filter p)).Pairwise (· < ·):=by
 unfold nI;rw[List.pairwise_map];refine List.Pairwise.filter _ (jP ?_ jt);intro a b h;omega
def wm:x∈nI l↔∃j∈l,(j:Int)=x:=by unfold nI;rw[i8]
noncomputable def FI(rows:Le):on Nat:=(Lb rows.length).filter λ r=>rows.idxOf (rows.getD r [])==r
def fg{rows:on (on Int)}(h:r∈rows):rows.idxOf r<rows.length:=fx h
def cE{rows:on (on Int)}(h:r∈rows):rows.getD (rows.idxOf r) []=r:=by
 have a:=fg h;rw[u8,m7 a,cY];exact cW a
def wq(rows:Le):J4 ((kI rows).foldl dk [])=nI (FI rows):=by
 refine wj (wk _ _) λ x=>?_;rw[wm];unfold kI FI;rw[i8];constructor
 ·rintro⟨r,a,rfl⟩
  refine⟨rows.idxOf r,D6.mpr ⟨u0.mpr (fg a),?_⟩,rfl⟩;rw[cE a,h8]
 ·rintro⟨j,b,rfl⟩
  obtain⟨d,c⟩:=D6.mp b;exact⟨rows.getD j [],E9 (u0.mp d),by rw[h8.mp c]⟩
def Y1(h:i∈FI rows):i<rows.length:=u0.mp (D6.mp h).1
def fh(rows:Le):(Lf).length<=rows.length:=by
 unfold FI;have:=cR (λ r=>rows.idxOf (rows.getD r [])==r) (Lb rows.length)
 rwa [C3]at this
def Q3(h:0<rows.length):0<(Lf).length:=by
 refine fE (D6.mpr ⟨u0.mpr h,?_⟩);cases rows with
 | nil=>cases h
 | cons r rs=>simp
def nZ(rows:Le):(kI rows).length=rows.length:=by unfold kI;rw[g8]
def ww(rows:Le)(n m:Nat)(R:LG)(c:0<n)(b:n<=1000)(a:m<=1000):run G T fu (k+2) 7 [tT rows]=some (.v (.lst (iD (kI KQ))) true):=by
 rw[r6 rfl rfl];unfold vA;exact t6 (p8 (v4 (k7 (g7 (k7 rfl rfl (IN rows n m R c b a)) k6) rfl (nT _ (by rw[(be R).1];exact a)))))
def og(rows:Le)(n m:Nat)(R:LG)(g:0<n)(a:n<=60)(b:m<=60):run G T fu (k+3) 8 [tT rows]=some (.v (tT (sub rows Lf (FI KQ))) false):=by
 rw[r6 rfl rfl];unfold vB;have c:=be R;have f:=nW (F:=run G T fu (k+2)) (δ:=[.val Mc]) (e:=.call 6 [.var 0]) (k7 rfl rfl (nT rows (by rw[R.1];omega))) (by rw[nZ,R.1];exact a);have d:=nW (F:=run G T fu (k+2)) (δ:=[.val Mc]) (e:=.call 7 [.var 0]) (k7 rfl rfl (ww rows n m R g KE KE)) (by rw[nZ,c.1];exact b);rw[wq,nY]at f d;have p:=vZ (fu:=fu) (k:=k+1) rows n m R Lf (FI KQ) (λ i o=>by have:=Y1 o;rw[R.1]at this;exact this) (λ j h=>by have:=Y1 h;rw[c.1]at this;exact this) (by have:=fh rows;rw[R.1]at this;omega) (by have:=fh KQ;rw[c.1]at this;omega);exact t6 (p8 (v4 (k7 (l:=[(tT rows,.strong),(.lst (nD Lf),.fresh),(.lst (nD (FI KQ)),.fresh)]) (LM (g7 f (g7 d k6))) rfl p)))
def b_le(d:KM a cx (.int i))(c:KM b cy (.int j)):evE G F (.cmp .LtE a b) δ=some (.ok (.bl (decide (i<=j))) .strong):=F3 d c rfl
def sm(a b:Nat):Bool:=decide (a<6)&&decide (b<6)
def IP(h:0<I.length):∃r a,sub rows I J=r::a/\r.length=J.length:=by
 cases I with
 | nil=>cases h
 | cons i I=>exact⟨_,_,rfl,by simp⟩
def wy(rows:Le)(n m:Nat)(R:LG)(o:0<n)(f:n<=60)(g:m<=60):run G T fu (k+4) 9 [tT rows]=some (.v (.bl (sm (Lf).length (FI KQ).length)) false):=by
 rw[r6 rfl rfl];unfold vC;have v:=og (fu:=fu) (k:=k) rows n m R o f g;obtain⟨r,a,y,z⟩:=IP (Q3 (by rw[R.1];exact o));have p:(sub rows Lf (FI KQ)).length=(Lf).length:=by unfold sub;rw[g8]
 rw[y]at v p;have x:evE G (KY (k+3)) (Lv 1) [.val Mc,.val (tT (r::a))]=some (.ok (.int (Lf).length) .strong):=by have t:=V8 (F:=run G T fu (k+3)) (δ:=[.val Mc,.val (tT (r::a))]) (e:=.var 1) (ds:=(r::a).map λ r=>.tup (iD r)) (c:=.strong) rfl;rw[g8,p]at t;exact t
 have w:evE G (KY (k+3)) (Lr 1) [.val Mc,.val (tT (r::a))]=some (.ok (.int (FI KQ).length) .strong):=(by have t:=V8 (F:=run G T fu (k+3)) (δ:=[.val Mc,.val (tT (r::a))]) (p9 (f6 (n:=1) (d:=tT (r::a)) rfl) (i5 (i:=0)) (aw (rows:=r::a) (i:=0) KS));rw[show(iD ((r::a).getD 0 [])).length=(FI KQ).length by unfold iD;rw[g8];exact z]at t;exact t);have u:∀h:on Sv,evE G (KY (k+3)) (.glb "SMALL_LINES") h=some (.ok (.int 5) .strong):=λ h=>rfl;refine t6 (j9 (o7 (d:=tT (r::a)) (cl:=.strong) (k7 (l:=[(tT rows,.strong)]) rfl rfl v) rfl) (p8 (v4 (cl:=.strong) ?_)));have b:=b_le x (u _);have j:=b_le w (u _);have B:decide (((Lf).length:Int)<=5)=decide ((Lf).length<6):=by rw[jT];omega
 have A:decide (((FI KQ).length:Int)<=5)=decide ((FI KQ).length<6):=by rw[jT];omega
 rw[B]at b;rw[A]at j;unfold sm;cases q:decide ((Lf).length<6)with
 | true=>rw[q]at b;exact S9 b (Y0 j)
 | false=>rw[q]at b;exact iX b
theorem wz{i:Type}{h f:i->DV}{p:i->Bool}:∀{l:on i},(∀a∈l,g (h a)=some (if p a then .item (f a)else .skip))->A5 g (l.map h)=some ((l.filter p).map f)
 | [],_=>rfl
 | a::l,q=>by
  have d:=q a (o5 ..);have j:=wz (g:=g) (h:=h) (f:=f) (p:=p) (l:=l) λ b k=>q b (o4 _ k);cases e:p a with
  | true=>
   rw[e]at d;show(match g (h a)with | none=>none | some .skip=>A5 g _ | some (.item x)=>match A5 g (l.map h)with | none=>none | some c=>some (x::c))=_;rw[d,cO e,A3];show(match A5 g (l.map h)with | none=>none | some c=>some (f a::c))=_;rw[j]
  | false=>
   rw[e]at d;show(match g (h a)with | none=>none | some .skip=>A5 g (l.map h) | some (.item x)=>match A5 g (l.map h)with | none=>none | some c=>some (x::c))=_;rw[d,fA (by rw[e];simp)];exact j
def cF{d:Type}{l:on d}{h f:d->DV}{p:d->Bool}(e:r3 (La it)=some (.ok (l.map h) cl))(hc:cl ≠ .weak)(hl:l.length<=p7)
  (q:∀a∈l,∃b,tg.bind (h a) (A4 fr δ)=some b/\tstD (evE G F cd b)=some (.ok (p a))/\∃c,evE G F elt b=some (.ok (f a) c)/\stro (f a) c=true):evE G F (.compi elt tg it cd fr) δ=some (.ok (Lw ((l.filter p).map f)) .fresh):=by
 show Ri.thn _ _=_;rw[e,dZ,g9 Mn,wz (λ a g=>?_)]
 ·rfl
 ·obtain⟨b,m,k,c,j,i⟩:=q a g;rw[m,O8,k,j];cases p a with
  | false=>rfl
  | true=>
   show(if stro (f a) c then some _ else none)=_;rw[f8 i];rfl
noncomputable def WI(rows:Le):on Nat:=(Lb 10).filter λ w=>rows.any λ r=>r.any λ x=>x==(w:Int)
def wA(rows:Le)(e:∀r∈rows,∀x∈r,0<=x/\x<=9):J4 (rows.flatten.foldl dk [])=nI (WI rows):=by
 refine wj (wk _ _) λ x=>?_;rw[wm,List.mem_flatten];unfold WI;constructor
 ·rintro⟨r,b,a⟩
  have:=e r b x a;refine⟨x.toNat,D6.mpr ⟨u0.mpr KE,T9.mpr ⟨r,b,T9.mpr ⟨x,a,?_⟩⟩⟩,by omega⟩;rw[h8];omega
 ·rintro⟨j,d,rfl⟩
  obtain⟨_,g⟩:=D6.mp d;obtain⟨r,b,f⟩:=T9.mp g;obtain⟨x,a,c⟩:=T9.mp f;rw[h8]at c;exact⟨r,b,by rw[←c];exact a⟩
def IQ(c:δ[i]? = some (.own (Lw ds)))(h:evE G F e δ=some (Lc (.tup a)))(b:ds.length+a.length<=p7):evS G F fu (.ext i e) δ=some (.nx (δ.set i (.own (Lw (ds++a))))):=by
 show(match δ[i]? with | some (.own (.lst ds))=>Re.thnS δ _ _ | _=>none)=_;rw[c];show Re.thnS δ _ _=_;rw[h];show(if Cl.strong=.strong\/Cl.strong=.fresh then(if ds.length+a.length<=p7 then some (Out.nx _)else none)else none)=_;rw[f8 Mv,f8 b]
theorem wB(t:Sv)(j:m<=8):∀(rows:Le) (a:on Int) (c:Sv),(∀r∈rows,r.length=m)->a.length+rows.length*m<=1000->∃e,C6 (.one 2) (λ b=>evSs G F fu [.ext 1 (.var 2)] b) (rows.map λ r=>.tup (iD r)) [t,.own (Lw (iD a)),c]=some (.nx [t,.own (Lw (iD (a++rows.flatten))),e])
 | [],a,c,_,_=>⟨c,by rw[List.flatten_nil,B3];rfl⟩
 | r::rows,a,c,h,k=>by
  have i:=h r (o5 ..);rw[x9,gC,dw]at k;obtain⟨e,g⟩:=wB t j rows (a++r) _ (λ f d=>h f (o4 _ d)) (by rw[t9,i];omega);refine⟨e,?_⟩;rw[aH,←Q9,←g];refine nX rfl (j9 (IQ rfl (f6 rfl) ?_) ?_)
  ·unfold iD;rw[g8,g8];exact i7 (show a.length+r.length<=1000 by omega) KL
  ·unfold iD;rw[C4];rfl
theorem wC(m:Nat):∀n,(List.replicate n m).sum=n*m
 | 0=>by simp
 | n+1=>by rw[Y5,gq,wC m n,gC,dw,ki]
theorem wE:∀{l:on Int},(insI x l).length=l.length+1
 | []=>rfl
 | z::l=>by unfold insI;split<;>simp[wE]
theorem wF:∀{l:on Int},(J4 l).length=l.length
 | []=>rfl
 | z::l=>by unfold J4;rw[wE,wF,x9]
def wG(rows:Le)(n m:Nat)(R:LG)(i:n<=8)(c:m<=8)(j:∀r∈rows,∀x∈r,0<=x/\x<=9):run G T fu (k+1) 11 [tT rows]=some (.v (Lw (nD (WI rows))) true):=by
 rw[r6 (fd:=ny) rfl rfl];unfold ny;have nm:n*m<=8*8:=gc i c;obtain⟨p,e⟩:=wB (fu:=fu) (.val Mc) c rows [] .no R.2 (by rw[R.1];simp;omega);rw[fW]at e;have o:∀x∈rows.flatten,0<=x/\x<=9:=λ x g=>by obtain⟨r,h,g⟩:=List.mem_flatten.mp g;exact j r h x g
 have a:(rows.flatten.foldl dk []).length<64/\rows.flatten.length<4000:=by
  have u:=wA rows j;have q:=wF (l:=rows.flatten.foldl dk []);rw[u]at q;have l2:(nI (WI rows)).length<=10:=(by unfold nI WI;rw[g8];exact i7 (cR _ _) KS);have l3:rows.flatten.length=n*m:=by
   rw[List.length_flatten];have:rows.map List.length=List.replicate n m:=by rw[List.eq_replicate_iff];refine⟨by rw[g8];exact R.1,λ b o=>?_⟩;obtain⟨r,h,rfl⟩:=i8.mp o;exact R.2 r h
   rw[this,wC]
  omega
 have s1:evE G (KY k) (.bi .sset [.var 1]) [.val Mc,.own (Lw (iD rows.flatten)),p]=some (.ok (Lw (nD (WI rows))) .fresh):=by
  show Rs.thn (evEs G (KY k) [.var 1] [.val Mc,.own (Lw (iD rows.flatten)),p]) (λ l=>gR l)=_;rw[g7 (eg (d:=.lst (iD rows.flatten)) rfl) k6];show(match ints? (iD rows.flatten)with
   | some f=>if f.length<4000/\(f.foldl dk []).length<64 then some (Re.ok (Lw ((J4 (f.foldl dk [])).map DV.int)) .fresh)else none
   | none=>none)=_
  rw[cD];show(if rows.flatten.length<4000/\(rows.flatten.foldl dk []).length<64 then some (Re.ok (Lw (iD (J4 (rows.flatten.foldl dk [])))) .fresh)else none)=_;rw[f8 ⟨a.2,a.1⟩,wA rows j,nY]
 exact t6 (j9 (ee rfl) (K9 (ds:=rows.map λ r=>.tup (iD r)) (cl:=.strong) rfl Mv e (p8 (v4 s1))))
def wH:run G T fu (k+1) 0 [.int x,.int a,.int b]=some (.v (.bl (decide (a<=x)&&decide (x<=b))) false):=by
 rw[r6 rfl rfl];have e:evE G (KY k) (.chain .LtE .LtE (.var 1) (.var 0) (.var 2)) [.val (.int x),.val (.int a),.val (.int b)]=some (.ok (.bl (decide (a<=x)&&decide (x<=b))) .strong):=by show(match some (decide (a<=x))with | none=>none | some false=>some (Re.ok _ .strong) | some true=>(some _).map λ k=>.ok _ .strong)=_;cases decide (a<=x)<;>rfl
 exact t6 (p8 (v4 (S9 rfl (S9 rfl (Y0 e)))))
def wI(r o:Nat):Builtin.bitAnd r o=((r &&& o:Nat):Int):=by
 unfold Builtin.bitAnd;rw[C5 (G2 r),C5 (G2 o)];rfl
def oh(o i:Nat):Builtin.bitAnd ((o:Int)/2^((i:Int).toNat)) 1=if o.testBit i then 1 else 0:=by
 have e:(o:Int)/2^((i:Int).toNat)=((o/2^i:Nat):Int):=(by rfl);rw[e,show(1:Int)=((1:Nat):Int)from rfl,wI,Nat.and_one_is_mod,Nat.testBit_eq_decide_div_mod_eq];have:o/2^i%2=0\/o/2^i%2=1:=by omega
 rcases this with h | h<;>rw[h]<;>rfl
noncomputable def cs(c:Nat):on Nat:=(Lb (c.log2+1)).filter c.testBit
def oj(c:Nat)(h0:0<c)(h:c<2^64):run G T fu (k+1) 4 [.int c]=some (.v (Lw (nD (cs c))) true):=by
 rw[r6 (fd:=nw) rfl rfl];have f:bO (c:Int)=((c.log2+1:Nat):Int):=by unfold bO;rw[g9 KE,Int.natAbs_natCast];push_cast;rfl
 have hl:c.log2<64:=(gA KE).mpr h;have a:=AW (G:=G) (F:=run G T fu k) (δ:=n9 1 [.int c]) (elt:=.var 0) (tg:=.one 0) (it:=.rng [.meth .bitLength (.var 0) []]) (fr:=[none,some 0]) (p:=λ d=>match d with | .int i=>c.testBit i.toNat | _=>false) (cl:=.fresh)
  (V7 ((by rw[←f];rfl)) KE) KL (by unfold L2.upTo;rw[g8,C3];exact i7 (show c.log2+1<=64 by omega) KL) (λ d hd=>by
   obtain⟨j,hj,rfl⟩:=rF hd;rw[show(0:Int)+(j:Int)=j by omega];refine⟨[.val (.int j),.val (.int c)],rfl,?_,rfl⟩;have l:evE G (KY k) (.bin .RShift (.var 1) (.var 0)) [.val (.int j),.val (.int c)]=some (.ok (Li ((c:Int)/2^((j:Int).toNat))) .strong):=J8 (f6 rfl) (f6 rfl) (show(if 0<=(j:Int)then some (Re.ok (Li ((c:Int)/2^((j:Int).toNat))) Cl.strong)else none)=_ from f8 (G2 j));have g:evE G (KY k) (Lx 0 (.var 1)) [.val (.int j),.val (.int c)]=some (.ok (Li (if c.testBit j then 1 else 0)) .strong):=J8 l i5 (by rw[←oh];rfl);have b:∀t:Bool,tstD (some (Re.ok (DV.int (if t=true then 1 else 0)) Cl.strong))=some (Rt.ok t):=λ t=>by cases t<;>rfl
   rw[g];refine(b _).trans ?_;show _=some (Rt.ok (c.testBit (j:Int).toNat));rw[B6])
 have e:(upTo 0 (c.log2+1)).filter (λ d=>match d with | .int i=>c.testBit i.toNat | _=>false)=nD (cs c):=by
  unfold L2.upTo nD cs;rw[List.filter_map];have:((λ d=>match d with | DV.int i=>c.testBit i.toNat | _=>false) ∘ λ (i:Nat)=>DV.int (0+(i:Int)))=c.testBit:=by
   funext j
   show c.testBit ((0:Int)+(j:Int)).toNat=_;rw[show((0:Int)+(j:Int)).toNat=j by omega]
  rw[this];apply M1;intro j _;show DV.int _=DV.int _
  congr 1
  omega
 rw[e]at a;unfold nw;exact t6 (p8 (v4 a))
def ol{n:Nat}(hn:n<=1000)(h:KM e cl (.int n)):evE G F (.bin .Sub (.bin .LShift (.int 1) e) (.int 1)) δ=some (.ok (Li (((2^n:Nat):Int) - 1)) .strong):=by
 refine P7 (cx:=.strong) (J8 i5 h ?_) i5;show(if 0<=_/\_<=1000000/\(1:Int).natAbs<2^64 then some (Re.ok _ Cl.strong)else none)=_;rw[f8 ⟨G2 n,by omega,by decide⟩,B6,Int.one_mul]
 push_cast
 rfl
def wJ{n:Nat}(a:n<=1000)(h:run G T fu (k+1) 0 [d,.int 1,.int (((2^n:Nat):Int) - 1)]=some (.v (.bl t) false)):run G T fu (k+2) 3 [d,.int n]=if t then some (.v .non false)else none:=by
 rw[r6 rfl rfl];unfold vw;have q:=U7 (k7 (δ:=n9 2 [d,.int n]) (es:=[.var 0,.int 1,.bin .Sub (.bin .LShift (.int 1) (.var 1)) _]) (LM (g7 i5 (g7 (ol a (f6 rfl)) k6))) rfl h);cases t with
 | true=>exact rG (v9 (o6 q) rfl)
 | false=>
  show Ou.of _=_;unfold evSs;rw[(gZ (o6 q))];rfl
def wK(h:c<2^n)(a:j∈cs c):j<n:=by
 unfold cs at a;rw[D6]at a;by_cases q:j<n
 ·exact q
 ·have z:=qd (t7 h (Q7 KL (show n<=j by omega)));rw[z]at a;cases a.2
def wL(h0:0<c)(h:c<2^64):(cs c).length<=1000:=by
 have hl:=(gA KE).mpr h;unfold cs;exact i7 (cR _ _) (by rw[C3];omega)
def wM(rows:Le)(n m a b:Nat)(R:LG)(hn:0<n)(f:n<=64)(h:m<=64)(v:0<a)(u:a<2^n)(p:0<b)(o:b<2^m):run G T fu (k+3) 2 [tT rows,.int a,.int b]=some (.v (tT (sub rows (cs a) (cs b))) false):=by
 rw[r6 rfl rfl];obtain⟨c,rest,rfl⟩:∃c rest,rows=c::rest:=by
  cases rows with
  | nil=>have:=R.1;simp at this;omega
  | cons a b=>exact⟨a,b,rfl⟩
 have r:a<2^64:=t7 u (Q7 KL f);have l:b<2^64:=t7 o (Q7 KL h);have z:=(by have q:=V8 (F:=run G T fu (k+2)) (δ:=n9 3 [tT (c::rest),.int a,.int b]) (e:=.var 0) rfl;rw[g8,R.1]at q;exact q);have w:=(by have e:evE G (KY (k+2)) (.ix (.var 0) (.int 0)) (n9 3 [tT (c::rest),.int a,.int b])=some (.ok (.tup (iD c)) .strong):=p9 (x:=tT (c::rest)) (y:=.int 0) (f6 rfl) i5 (aw (rows:=c::rest) (i:=0) KS);have q:=V8 e;rw[show(iD c).length=m by unfold iD;rw[g8,(R.2 c (o5 ..))]]at q;exact q);have E:=wJ (fu:=fu) (k:=k) (d:=.int a) (n:=n) (t:=true) KE (by rw[wH,C5 KE,C5 KE];rfl);have C:=wJ (fu:=fu) (k:=k) (d:=.int b) (n:=m) (t:=true) KE (by rw[wH,C5 KE,C5 KE];rfl);have g:=vZ (fu:=fu) (k:=k+1) (c::rest) n m R (cs a) (cs b) (λ i B=>wK u B) (λ j A=>wK o A) (wL v r) (wL p l);unfold vt;exact t6 (j9 (lz (k7 (LM (g7 z k6)) rfl E)) (j9 (lz (k7 (LM (g7 w k6)) rfl C)) (p8 (v4 (k7 (g7 (f6 rfl) (g7 (k7 (LM k6) rfl (oj a v r)) (g7 (k7 (LM k6) rfl (oj b p l)) k6))) rfl g)))))
noncomputable def cd(n:Nat):Nat->on Int
 | 0=>[]
 | l+1=>((n/2^l%2:Nat):Int)::cd n l
def IR(h:KM e cl (.int i)):evE G F (.neg e) δ=some (.ok (Li (-i)) .strong):=by
 show Re.thn _ _=_;rw[h];rfl
def sd(s:Bool):DV:=if s then .str "row" else .str "column"
noncomputable def hd(l:on Nat):DV:=match l with | []=>.non | c::_=>.int c
theorem iY{c:Type}{p q:c->Bool}:∀{l:on c},(∀x∈l,p x=true->q x=true)->(l.filter p).length<=(l.filter q).length
 | [],_=>i9 _
 | a::l,h=>by
  have e:=iY λ x f=>h x (o4 _ f);cases b:p a with
  | false=>
   rw[fA (by rw[b];decide)];cases d:q a with
   | false=>rw[fA (by rw[d];decide)];exact e
   | true=>rw[cO d,x9];omega
  | true=>
   rw[cO b,cO (h a (o5 ..) b),x9,x9];omega
theorem wN{b:Type}{p q r:b->Bool}:∀{l:on b},(∀x∈l,p x=true->q x=true\/r x=true)->(l.filter p).length<=(l.filter q).length+(l.filter r).length
 | [],_=>i9 _
 | a::l,h=>by
  have ih:=wN λ x c=>h x (o4 _ c);rw[bz,bz,bz];cases f:p a<;>cases e:q a<;>cases d:r a<;>simp only[if_true,if_false,x9,Q8]<;>first | omega | exact absurd ((h a (o5 ..)) f) (by rw[e,d];simp)
theorem wO{b:Type}{p q:b->Bool}:∀{l:on b},(l.filter p).length=(l.filter λ x=>p x&&q x).length+(l.filter λ x=>p x && !q x).length
 | []=>rfl
 | a::l=>by have ih:=wO (p:=p) (q:=q) (l:=l);rw[bz,bz,bz];cases ep:p a<;>cases eq:q a<;>simp<;>omega
theorem wP{g:Nat->Nat}(c:g 0=0)(a:∀t,t<10->g (t+1)<=g t+1):∀N n,N<=10->n<=g N->∃t,t<=N/\g t=n
 | 0,n,_,h=>⟨0,i9 _,by omega⟩
 | N+1,n,hN,h=>by
  by_cases q:n<=g N
  ·obtain⟨t,h1,b⟩:=wP c a N n KE q;exact⟨t,by omega,b⟩
  ·have:=a N KE;exact⟨N+1,i9 _,by omega⟩
def wQ:∀t,t<10->((Lb 10).filter λ w=>w==t).length<=1:=by decide
def Q4(h:j∈cs c):c.testBit j=true:=(D6.mp h).2
def V9(h:c.testBit j=true):j∈cs c:=by
 refine D6.mpr ⟨u0.mpr ?_,h⟩;have a:c≠0:=by intro z;rw[z,fU]at h;cases h
 have:=(Nat.le_log2 a).mpr (jq h);omega
def tb5(hc:c<32)(h:c.testBit j=true):j<5:=by
 have h1:=jq h;rcases W7 j 5 with z | z
 ·exact z
 ·have:2^5<=2^j:=Q7 KL z;omega
def Sb(h C:Nat):Prop:=0<h/\h<C/\h &&& C=h
def ow:∀C,C<32->∀h,h<32->h &&& C=h->∀j,j<5->(C - h).testBit j=(C.testBit j && !h.testBit j)/\(h.testBit j=true->C.testBit j=true):=by decide +kernel
def Sb.lt(s:Sb h C)(a:C<32):h<32:=dv s.2.1 a
def IS(s:Sb h C)(b:C<32)(c:j∈cs (C - h)):j∈cs C/\j∉cs h:=by
 have a:=Q4 c;have d:=tb5 KE a;rw[(ow C b h (s.lt b) s.2.2 j d).1,f7]at a;refine⟨V9 a.1,λ z=>?_⟩;rw[Q4 z]at a;exact absurd a.2 KL
def IT:∀R,R<32->2<=(cs R).length->∃h∈List.range 32,(0<h/\h<R/\h &&& R=h)/\2*(cs h).length<=(cs R).length+1/\2*(cs (R - h)).length<=(cs R).length+1:=by decide +kernel
def IU:∀e d c b a:Bool,∃h∈List.range 32,h.testBit 0=e/\h.testBit 1=d/\h.testBit 2=c/\h.testBit 3=b/\h.testBit 4=a:=by decide +kernel
def IV(q:Nat->Bool):∃h,h<32/\∀j,j<5->h.testBit j=q j:=by
 obtain⟨h,b,g,f,e,d,c⟩:=IU (q 0) (q 1) (q 2) (q 3) (q 4);refine⟨h,u0.mp b,λ j a=>?_⟩
 match j,a with
 | 0,_=>exact g
 | 1,_=>exact f
 | 2,_=>exact e
 | 3,_=>exact d
 | 4,_=>exact c
def IW:∀C,C<32->∀h,h<32->(∀j,j<5->h.testBit j=true->C.testBit j=true)->h &&& C=h/\h<=C:=by decide +kernel
def tb0(e:h.testBit j=true):0<h:=by
 rcases jI h with z | z
 ·rw[z,fU]at e;cases e
 ·exact z
def O7:∀c,c<32->0<c->0<(cs c).length:=by decide +kernel
abbrev Mx:=Nat->Nat->Int
def wp(f:Mx)(R C:Nat)(w:Nat):Bool:=(cs R).any λ i=>(cs C).any λ j=>f i j==(w:Int)
def wn(f:Mx)(R C:Nat):Nat:=((Lb 10).filter (wp f R C)).length
def Y2:wp f R C w=true↔∃i j,i∈cs R/\j∈cs C/\f i j=(w:Int):=by
 unfold wp;rw[T9];constructor
 ·rintro⟨i,b,h⟩
  obtain⟨j,a,h⟩:=T9.mp h;exact⟨i,j,b,a,h8.mp h⟩
 ·rintro⟨i,j,b,a,h⟩
  exact⟨i,b,T9.mpr ⟨j,a,h8.mpr h⟩⟩
def IX(x:C<32)(K:(cs R).length=1)(h2:2<=wn f R C):∃h,Sb h C/\2*wn f R h<=wn f R C+1/\2*wn f R (C - h)<=wn f R C+1:=by
 obtain⟨i,hi⟩:∃i,cs R=[i]:=by
  match e:cs R,K with
  | [i],_=>exact⟨i,rfl⟩
 let g:Nat->Nat:=λ t=>((Lb 10).filter λ w=>wp f R C w&&decide (w<t)).length
 have M:g 0=0:=(by show((Lb 10).filter λ w=>wp f R C w&&decide (w<0)).length=0;rw[show(λ w=>wp f R C w&&decide (w<0))=λ _=>false from funext λ w=>by simp];simp);have L:∀t,t<10->g (t+1)<=g t+1:=λ t E=>by
  refine i7 (wN λ w _ h=>?_) (Nat.add_le_add_left (wQ t E) _);rw[f7,B7]at h;by_cases z:w=t
  ·exact .inr (h8.mpr z)
  ·exact .inl (by rw[f7,B7];exact⟨h.1,by omega⟩)
 have gN:wn f R C<=g 10:=iY λ w k h=>by rw[f7,B7];exact⟨h,u0.mp k⟩
 obtain⟨t,_,E⟩:=wP M L 10 ((wn f R C+1)/2) (i9 _) KE;have sm:wn f R C=g t+((Lb 10).filter λ w=>wp f R C w && !decide (w<t)).length:=wO;obtain⟨h,F,v⟩:=IV λ j=>C.testBit j&&decide (f i j<(t:Int))
 obtain⟨s1,H⟩:=IW C x h F λ j J e=>by rw[v j J,f7]at e;exact e.1
 have d:∀j,j∈cs h↔j∈cs C/\f i j<(t:Int):=λ j=>by
  constructor
  ·intro e;have l:=Q4 e;rw[v j (tb5 F l),f7,B7]at l;exact⟨V9 l.1,l.2⟩
  ·rintro⟨n,m⟩
   have l:=Q4 n;exact V9 (by rw[v j (tb5 x l),l,bD,B7];exact m)
 have ex:∀{p:Nat->Bool},0<((Lb 10).filter λ w=>wp f R C w&&p w).length->∃w j,p w=true/\j∈cs C/\f i j=(w:Int):=λ {p} I=>by obtain⟨w,k⟩:=bj I;have k:=(D6.mp k).2;rw[f7]at k;obtain⟨B,j,a,b,c⟩:=Y2.mp k.1;rw[hi,w4]at a;subst a;exact⟨w,j,k.2,b,c⟩
 have u:h<C:=by
  rcases W7 h C with z | z
  ·exact z
  ·exfalso;have e:h=C:=Nat.le_antisymm H z;obtain⟨w,j,n,m,y⟩:=ex (p:=λ w=>!decide (w<t)) KE;have:=((d j).mp (by rw[e];exact m)).2;rw[y]at this;rw[u5,js]at n;omega
 have s:Sb h C:=⟨((by obtain⟨w,j,n,m,y⟩:=ex (by show 0<g t;omega);have:j∈cs h:=(d j).mpr ⟨m,by rw[y];have:=jO n;omega⟩;exact tb0 (Q4 this))),u,s1⟩;refine⟨h,s,?_,?_⟩
 ·have:wn f R h<=g t:=iY λ w _ q=>by
   obtain⟨B,j,a,b,c⟩:=Y2.mp q;have o:=a;rw[hi,w4]at o;subst o;obtain⟨r,A⟩:=(d j).mp b;rw[f7,B7];exact⟨Y2.mpr ⟨_,j,a,r,c⟩,by rw[c]at A;omega⟩
  omega
 ·have:wn f R (C - h)<=((Lb 10).filter λ w=>wp f R C w && !decide (w<t)).length:=iY λ w _ q=>by
   obtain⟨B,j,a,b,c⟩:=Y2.mp q;have o:=a;rw[hi,w4]at o;subst o;obtain⟨r,A⟩:=IS s x b;rw[f7,u5,js];refine⟨Y2.mpr ⟨_,j,a,r,c⟩,λ z=>A ((d j).mpr ⟨r,?_⟩)⟩;rw[c];omega
  omega
noncomputable def hv(R:Nat):on Nat:=((Lb (R - 1)).map (· + 1)).filter λ h=>h &&& R==h&&decide (h<R - h)
def IY:∀R,R<32->∀h,h<32->0<h->h<R->h &&& R=h->((hv R).contains h||((hv R).contains (R - h)&&decide (R - (R - h)=h)))=true:=by decide +kernel
def ox(R:Nat)(b:R<32)(h:Nat)(a:h<32)(s:Sb h R):h∈hv R\/(R - h∈hv R/\R - (R - h)=h):=by
 have:=IY R b h a s.1 s.2.1 s.2.2;rw[D8,f7,B7]at this;rcases this with z | z
 ·exact .inl (L9.mp z)
 ·exact .inr ⟨L9.mp z.1,z.2⟩
def ay(q:h∈hv R):Sb h R/\h<R - h:=by
 obtain⟨c,a⟩:=D6.mp q;obtain⟨i,b,rfl⟩:=i8.mp c;rw[f7,h8,B7]at a;have:=u0.mp b;exact⟨⟨by omega,by omega,a.1⟩,a.2⟩
def IZ(a:R<32)(c:C<32)(i:0<R)(C0:0<C)(g:2<=wn f R C):hv R≠[]\/hv C≠[]:=by
 have b:∀R,R<32->(∃h,Sb h R)->hv R≠[]:=λ R a ⟨h,s⟩ e=>by
  rcases ox R a h (s.lt a) s with z | z
  ·rw[e]at z;cases z
  ·rw[e]at z;cases z.1
 have rp:=O7 R a i;by_cases d:2<=(cs R).length
 ·obtain⟨h,_,s,_⟩:=IT R a d;exact .inl (b R a ⟨h,s⟩)
 ·obtain⟨h,s,_⟩:=IX c KE g;exact .inr (b C c ⟨h,s⟩)
end k24
end
noncomputable section
namespace k24
open PySem L2
variable {fu k:Nat} {F:Nat->on DV->Kr Ou} {δ:on Sv} {ds:on DV} {cl:Cl} {N M:Nat} {R C:Nat}
def cG{n:Nat}(c:KM b cx (.int n))(hn:n<=1000):r3 (La (.rng [.int 1,b]))=some (.ok (upTo 1 (n - 1)) .fresh):=by
 show r3 (Rs.thn (evEs G F [.int 1,b] δ) (λ l=>(rngD l).map λ a=>.ok (.lst a) .fresh))=_;rw[g7 i5 (g7 c k6),dY];have hs:(J7 1&&J7 (n:Int)&&decide ((n:Int) - 1<=(p7:Int)))=true:=by rw[f7,f7,M3];refine⟨⟨by decide,?_⟩,bE (show(n:Int) - 1<=1000 by omega) KL⟩;unfold J7;rw[f7,M3,M3];exact⟨bE KL (G2 n),jJ (show(n:Int)<=1000 by omega) KL⟩
 show r3 ((if J7 1&&J7 (n:Int)&&decide ((n:Int) - 1<=(p7:Int))then some (upTo 1 ((n:Int) - 1).toNat)else none).map λ a=>.ok (.lst a) .fresh)=_;rw[f8 hs,show((n:Int) - 1).toNat=n - 1 by omega];rfl
def wR(n:Nat):upTo 1 n=((Lb n).map (· + 1)).map λ (h:Nat)=>DV.int (h:Int):=by
 unfold L2.upTo;rw[o9];apply M1;intro j _;show DV.int _=DV.int _
 congr 1
 simp only[Function.comp];omega
def wS{i j:Nat}(d:KM a cx (.int i))(c:KM b cy (.int j)):evE G F (.bin .BitAnd a b) δ=some (.ok (Li ((i &&& j:Nat):Int)) .strong):=J8 d c (by show some _=_;rw[wI])
def oy{i j:Nat}(d:KM a cx (.int i))(c:KM b cy (.int j)):evE G F (.cmp .Eq a b) δ=some (.ok (.bl (i==j)) .strong):=by
 rw[b_eq d c]
 congr 3
 rw[U1,h8,h8];omega
def wT(hR:R<32):run G T fu (k+1) 18 [.int R]=some (.v (Lw (nD (hv R))) true):=by
 rw[r6 (fd:=nC) rfl rfl];unfold nC;have w:=cG (F:=run G T fu k) (δ:=n9 1 [.int R]) (b:=.var 0) (n:=R) (f6 rfl) KE;rw[wR]at w;refine t6 (p8 (v4 (cl:=.fresh) (cF w KL (by rw[g8,C3];exact i7 (show R - 1<=1000 by omega) KL) λ h f=>?_)));refine⟨[.val (.int h),.val (.int R)],rfl,?_,.strong,f6 rfl,rfl⟩;obtain⟨i,e,rfl⟩:=i8.mp f;have:=u0.mp e;have c:=oy (F:=run G T fu k) (δ:=[.val (Li ((i+1:Nat):Int)),.val (.int R)]) (wS (a:=.var 0) (b:=.var 1) (f6 rfl) (f6 rfl)) (f6 (n:=0) rfl);have d:=b_lt (G:=G) (F:=run G T fu k) (δ:=[.val (Li ((i+1:Nat):Int)),.val (.int R)]) (f6 (n:=0) rfl) (P7 (a:=.var 1) (b:=.var 0) (f6 rfl) (f6 rfl));have g:decide (((i+1:Nat):Int)<(R:Int) - ((i+1:Nat):Int))=decide (i+1<R - (i+1)):=by rw[jT];omega
 rw[g]at d;cases q:((i+1) &&& R==i+1)with
 | true=>
  rw[q]at c;rw[S9 c (Y0 d)];rfl
 | false=>
  rw[q]at c;rw[iX c];rfl
def ln4{l:on a}(h:l.length<=4):l.length<=p7:=i7 h KL
abbrev Wy:=DV×Nat×(Nat×Nat)×(Nat×Nat)
noncomputable def wD(a:Wy):DV:=.tup [a.1,.int a.2.1,.tup [.int a.2.2.1.1,.int a.2.2.1.2],.tup [.int a.2.2.2.1,.int a.2.2.2.2]]
def wl(R C:Nat):on Wy:=(hv R).map (λ h=>(.str "row",h,(R - h,C),(h,C)))++(hv C).map (λ h=>(.str "column",h,(R,C - h),(R,h)))
def cH(h:R<32):(hv R).length<=31:=by
 unfold hv;refine i7 (cR ..) ?_;rw[g8,C3];omega
def iZ{b:Nat}(h:b<a):(a:Int) - (b:Int)=((a - b:Nat):Int):=by omega
def wU(d:R<32)(e:C<32):run G T fu (k+2) 17 [.int R,.int C]=some (.v (Lw ((wl R C).map wD)) true):=by
 rw[r6 (fd:=nB) rfl rfl];unfold nB;have q:=k7 (G:=G) (F:=run G T fu (k+1)) (δ:=n9 4 [.int R,.int C]) (f:=18) (es:=[.var 0]) (l:=[(Mi R)]) rfl rfl (wT (k:=k) (fu:=fu) d);have p:=k7 (G:=G) (F:=run G T fu (k+1)) (δ:=[.val (.int R),.val (.int C),.val (Lw ((hv R).map λ h=>wD (.str "row",h,(R - h,C),(h,C)))),.no]) (f:=18) (es:=[.var 1]) (l:=[(Mi C)]) rfl rfl (wT (k:=k) (fu:=fu) e);have m:r3 (evE G (KY (k+1)) (LH 18 0) (n9 4 [.int R,.int C]))=some (.ok ((hv R).map λ (h:Nat)=>DV.int (h:Int)) .fresh):=by rw[q];rfl
 have g:r3 (evE G (KY (k+1)) (LH 18 1) [.val (.int R),.val (.int C),.val (Lw ((hv R).map λ h=>wD (.str "row",h,(R - h,C),(h,C)))),.no])=some (.ok ((hv C).map λ (h:Nat)=>DV.int (h:Int)) .fresh):=by rw[p];rfl
 have o:=F0 (elt:=.tup [.str "row",.var 0,.tup [.bin .Sub (.var 1) (.var 0),.var 2],.tup [.var 0,.var 2]]) (tg:=.one 0) (fr:=[none,some 0,some 1]) m KL (i7 (cH d) KL) λ h c=>
  ⟨[.val (.int h),.val (.int R),.val (.int C)],.strong,rfl,by
   have s:=P7 (G:=G) (F:=run G T fu (k+1)) (δ:=[.val (.int h),.val (.int R),.val (.int C)]) (a:=.var 1) (b:=.var 0) (i:=R) (j:=h) (f6 rfl) (f6 rfl);rw[iZ (ay c).1.2.1]at s;exact G7 (g7 P8 (g7 (f6 rfl) (g7 (G7 (g7 s (LM k6)) (ln4 KS) rfl) (g7 (G7 (g7 (f6 rfl) (LM k6)) (ln4 KS) rfl) k6)))) (ln4 KS) rfl,rfl⟩
 have n:=F0 (elt:=.tup [.str "column",.var 0,.tup [.var 1,.bin .Sub (.var 2) (.var 0)],.tup [.var 1,.var 0]]) (tg:=.one 0) (fr:=[none,some 0,some 1]) g KL (i7 (cH e) KL) λ h c=>
  ⟨[.val (.int h),.val (.int R),.val (.int C)],.strong,rfl,by
   have s:=P7 (G:=G) (F:=run G T fu (k+1)) (δ:=[.val (.int h),.val (.int R),.val (.int C)]) (a:=.var 2) (b:=.var 0) (i:=C) (j:=h) (f6 rfl) (f6 rfl);rw[iZ (ay c).1.2.1]at s;exact G7 (g7 P8 (g7 (f6 rfl) (g7 (G7 (LM (g7 s k6)) (ln4 KS) rfl) (g7 (G7 (g7 (f6 rfl) (LM k6)) (ln4 KS) rfl) k6)))) (ln4 KS) rfl,rfl⟩
 refine t6 (j9 (o7 o rfl) (j9 (o7 n rfl) (p8 (v4 (cl:=.fresh) ?_))));refine(J8 (f6 rfl) (f6 rfl) (show binD .Add _ _ .strong .strong=some (.ok (Lw ((wl R C).map wD)) .fresh)from ?_));show(if((hv R).map λ h=>wD (.str "row",h,(R - h,C),(h,C))).length+((hv C).map λ h=>wD (.str "column",h,(R,C - h),(R,h))).length<=p7 then _ else none)=_;rw[f8]
 ·unfold wl;rw[C4,o9,o9];rfl
 ·rw[g8,g8];exact i7 (gf (cH d) (cH e)) KL
abbrev Tb:=on ((Nat×Nat)×Nat)
def kk(p:Nat×Nat):DKey:=.t [.inl (p.1:Int),.inl (p.2:Int)]
noncomputable def dC(L:Tb):DV:=.dct (L.map λ p=>kk p.1) (MC (p.2:Int))
def dD(L:Tb):DV:=.tup [dC L]
def wV(h:kk p=kk q):p=q:=by
 unfold kk at h;obtain⟨a,b⟩:=p;obtain⟨c,d⟩:=q;simp at h;obtain⟨f,e⟩:=h;rw[Int.ofNat.inj f,Int.ofNat.inj e]
theorem oz(q:Nat×Nat):∀L:Tb,J3 (kk q) (L.map λ p=>kk p.1) (MC (p.2:Int))=(L.lookup q).map λ z=>DV.int ((z:Nat):Int)
 | []=>rfl
 | (p,z)::L=>by
  show(if kk p=kk q then some (DV.int _)else J3 (kk q) _ _)=_;rw[G4];by_cases h:p=q
  ·rw[f8 (by rw[h]),h,R4];rfl
  ·rw[g9 (λ e=>h (wV e)),oz q L,show(q==p)=false from x8.mpr (Mq h)]
theorem wW:∀{L:Tb},L.lookup q=none->kk q∉L.map λ p=>kk p.1
 | [],_,h=>by cases h
 | (p,z)::L,e,h=>by
  rw[G4]at e;split at e
  ·cases e
  ·rename_i a;rcases i6.mp h with w | w
   ·rw[wV w,R4]at a;cases a
   ·exact wW e w
def wX{r c z:Nat}(b:δ[i]? = some (.od (dD L)))(h:evE G F e δ=some (.ok (.tup [.int r,.int c]) cx))(a:L.lookup (r,c)=some z):evE G F (.dgp i e) δ=some (.ok (.int z) .strong):=by
 have d:evE G F (.dgp i e) δ=(match δ[i]? with
  | some (.od (.tup [.dct ks vs]))=>Re.thn _ λ y _=>dgpD ks vs y
  | _=>none):=rfl
 rw[d,b];show Re.thn _ _=_;rw[h,B1];show(match J3 (kk (r,c)) _ (MC _)with | some (.int v)=>some _ | _=>none)=_;rw[oz,a];rfl
def oA{r c z:Nat}(m:δ[i]? = some (.od (dD L)))(h:KM e o (.int z))(k:KM a cx (.int r))(j:KM b cy (.int c))(f:L.lookup (r,c)=none)(g:L.length<100000):evS G F fu (.dpp i [a,b] e) δ=some (.nx (δ.set i (.od (dD (L++[((r,c),z)]))))):=by
 have n:evS G F fu (.dpp i [a,b] e) δ=(match δ[i]? with
  | some (.od (.tup [.dct kk vs]))=>Re.thnS δ _ λ d _=>Rs.thnS δ _ λ l=>(dppD i δ kk vs l d).map Out.nx
  | _=>none):=rfl
 rw[n,m];show Re.thnS δ _ _=_;rw[h];show Rs.thnS δ _ _=_;rw[g7 k (g7 j k6)];show((if(L.map λ p=>kk p.1).length<p7 then some (δ.set i (.od (.tup [.dct (putD (kk (r,c)) (.int z) (L.map λ p=>kk p.1) (MC (p.2:Int))).1 (putD (kk (r,c)) (.int z) (L.map λ p=>kk p.1) (MC (p.2:Int))).2])))else none).map Out.nx)=_;rw[f8 (by rw[g8];exact dv g KL)];unfold putD;rw[g9 (wW f)];unfold dD dC;rw[C4,C4];rfl
def Ja(c:δ[i]? = some (.val (.fn x)))(a:xs.lookup x=some f)(b:Me)(hs:LD=true)(h:F f (l.map (·.1))=some (.v d false)):evE G F (.callv i xs es) δ=some (.ok d .strong):=by
 show gX F xs _ δ[i]? = _;rw[c,b];show(match xs.lookup x with
   | some f=>M8 F f l
   | none=>none)=_
 rw[a];show M8 F f l=_;unfold M8;rw[h,hs];rfl
theorem ja:∀(r:on Int) (m:Int),(minI m r=m\/minI m r∈r)/\minI m r<=m/\∀x∈r,minI m r<=x
 | [],m=>⟨.inl rfl,gB _,λ x a=>nomatch a⟩
 | y::r,m=>by
  show(minI _ r=m\/minI _ r∈y::r)/\minI _ r<=m/\∀x∈y::r,minI _ r<=x;obtain⟨d,c,b⟩:=ja r (if y<m then y else m);by_cases q:y<m
  ·rw[f8 q]at d c b ⊢;refine⟨.inr ?_,by omega,λ x a=>?_⟩
   ·rcases d with z | z
    ·rw[z];exact o5 ..
    ·exact o4 _ z
   ·rcases i6.mp a with z | z
    ·rw[z];exact c
    ·exact b x z
  ·rw[g9 q]at d c b ⊢;refine⟨?_,c,λ x a=>?_⟩
   ·rcases d with z | z
    ·exact .inl z
    ·exact .inr (o4 _ z)
   ·rcases i6.mp a with z | z
    ·rw[z];omega
    ·exact b x z
theorem wY:∀l:on Nat,ints? (nD l)=some (l.map λ (j:Nat)=>(j:Int))
 | []=>rfl
 | a::l=>by show(ints? (nD l)).map _=_;rw[wY l];rfl
def wZ(h:evE G F e δ=some (.ok (Lw (nD l)) cl))(f:l≠[]):∃z∈l,(∀x∈l,z<=x)/\evE G F (.bi .min [e]) δ=some (.ok (Li (z:Nat)) .strong):=by
 cases l with
 | nil=>exact absurd rfl f
 | cons a l=>
  obtain⟨i,g,c⟩:=ja _ a;have k:evE G F (.bi .min [e]) δ=some (.ok (Li (minI a (l.map λ (j:Nat)=>(j:Int)))) .strong):=by rw[nP (g7 h k6)];show(match ints? (nD (a::l))with | some (n::r)=>some _ | _=>_)=_;rw[wY];rfl
  obtain⟨z,b,ez⟩:∃z∈a::l,minI a _=((z:Nat):Int):=by
   rcases i with q | q
   ·exact⟨a,o5 ..,q⟩
   ·obtain⟨z,b,q⟩:=i8.mp q;exact⟨z,o4 _ b,q.symm⟩
  refine⟨z,b,λ x d=>?_,by rw[k,ez]⟩;rw[ez]at g c;rcases i6.mp d with q | q
  ·rw[q];omega
  ·have:=c _ (i8.mpr ⟨x,q,rfl⟩);omega
end k24
end
noncomputable section
namespace k24
open PySem L2
variable {fu k:Nat} {F:Nat->on DV->Kr Ou} {δ:on Sv} {ds:on DV} {cl:Cl} {R C a b:Nat} {rest:on (on Int)} {L:Tb}
def mf(rest:Le):Mx:=λ i j=>(rest.getD i []).getD j 0
def xb(rest:Le)(R C:Nat):WI (sub rest (cs R) (cs C))=(Lb 10).filter (wp Lj R C):=by
 unfold WI sub wp mf
 congr 1
 funext w
 rw[Z2]
 congr 1
 funext i
 show((cs C).map λ j=>(rest.getD i []).getD j 0).any _=_;rw[Z2];rfl
def W9(rest:Le):Prop:=∀r∈rest,∀x∈r,0<=x/\x<=9
def xc{r:on Int}(h:j<r.length):r.getD j 0∈r:=by
 rw[u8,m7 h];exact Y8 h
def cI(c:Rect a b rest)(e:W9 rest)(g:i<a)(f:j<b):0<=mf rest i j/\mf rest i j<=9:=by
 have d:=E9 (by rw[c.1];exact g);exact e _ d _ (xc (by rw[c.2 _ d];exact f))
def T3(a:c<2^n)(h:i∈cs c):i<n:=by
 exact(Nat.pow_lt_pow_iff_right (by decide:1<2)).mp (T7 (jq (Q4 h)) a)
def p32(h:n<=5):2^n<=32:=Q7 KL h
def cs5:∀c,c<32->(cs c).length<=5:=by decide +kernel
def oC(f:Rect a b rest)(e:W9 rest)(h:a<=5)(g:b<=5)(l:0<R)(k:R<2^a)(n:0<C)(m:C<2^b):0<wn Lj R C:=by
 have pa:=p32 h;have pb:=p32 g;obtain⟨i,d⟩:=bj (O7 R KE l);obtain⟨j,c⟩:=bj (O7 C KE n);have q:=cI f e (T3 k d) (T3 m c);unfold wn;refine fE (a:=(mf rest i j).toNat) (D6.mpr ⟨u0.mpr KE,Y2.mpr ⟨i,j,d,c,by omega⟩⟩)
def Jb(e:Rect a b rest)(h:W9 rest)(A:0<a)(u:a<=5)(q:b<=5)(B:0<R)(f:R<2^a)(E:0<C)(g:C<2^b)(y:δ[3]? = some (.val (tT rest)))(w:δ[5]? = some (KU R))(v:δ[6]? = some (KU C)) :
  evE G (KY (k+3)) (.bi .len [.call 11 [.call 2 [.var 3,.var 5,.var 6]]]) δ=some (.ok (Li (wn (mf rest) R C:Nat)) .strong):=by
 have pa:=p32 u;have pb:=p32 q;have m:Rect (cs R).length (cs C).length (sub rest (cs R) (cs C)):=(by refine⟨by unfold sub;rw[g8],λ r d=>?_⟩;obtain⟨i,_,rfl⟩:=i8.mp d;rw[g8]);have c:W9 (sub rest (cs R) (cs C)):=λ r d x n=>by obtain⟨i,p,rfl⟩:=i8.mp d;obtain⟨j,o,rfl⟩:=i8.mp n;exact cI e h (T3 f p) (T3 g o)
 have z:=k7 (G:=G) (g7 (f6 y) (g7 (f6 w) (g7 (f6 v) k6))) rfl (wM (fu:=fu) (k:=k) rest a b R C e A KE KE B f E g);have l:=N3 (k7 (g7 z k6) rfl (wG _ _ _ m (i7 (cs5 R KE) KL) (i7 (cs5 C KE) KL) c));rw[xb]at l;unfold nD at l;rw[g8]at l;exact l
noncomputable def lnB:on MS:=[.iff (.cmp .Eq (.bi .len [.call 11 [.call 2 [.var 3,.var 5,.var 6]]]) (.int 1)) [.dpp 4 [.var 5,.var 6] (.var 1)] [.set 7 false (.call 17 [.var 5,.var 6]),.dpp 4 [.var 5,.var 6] (.bi .min [.comp (.callv 4 [("joined_ends",15)] [.dgp 5 (.var 2),.dgp 5 (.var 3)]) (.many [0,1,2,3]) (.var 7) [none,none,none,none,some 2,some 4]])]]
structure Jt where
 g:Nat
 j:Nat->Nat->Nat
 nm:Str
abbrev jE:Jt:=⟨1,λ a b=>a+b,"joined_ends"⟩
abbrev JOk(J:Jt):Prop:=J=jE
def JOk.comm(h:JOk J)(a b:Nat):J.j a b=J.j b a:=by subst h;exact ki ..
def xg(h:JOk J)(e:δ[i]? = some (.val (.fn J.nm)))(c:evEs G (KY (k+1)) es δ=some (.ok [(Mi a),(Mi b)])):evE G (KY (k+1)) (.callv i [("joined_ends",15)] es) δ=some (.ok (Li ((J.j a b:Nat):Int)) .strong):=by
 subst h;refine Ja e rfl c rfl ?_;rw[r6 rfl rfl];exact t6 (p8 (v4 (L3 (f6 (d:=.int a) rfl) (f6 (d:=.int b) rfl))))
def lnD(J:Jt)(t:DV)(rest:Le)(L:Tb)(x y w:Sv):on Sv:=[.val t,.val (Li J.g),.val (.fn J.nm),.val (tT rest),.od (dD L),x,y,w]
end k24
end
noncomputable section
namespace k24
open PySem L2
def jb{n:Nat}(h:KM e cx (.int n))(hn:n<=1000):evE G F (.bin .LShift (.int 1) e) δ=some (.ok (Li ((2^n:Nat):Int)) .strong):=J8 i5 h (by
 show(if 0<=_/\_<=1000000/\(1:Int).natAbs<2^64 then some (Re.ok _ .strong)else none)=_;rw[f8 ⟨by omega,by omega,by decide⟩,B6,Int.one_mul]
 congr 3)
def lnF:MS:=.fo (.one 6) (.rng [.int 1,.bin .LShift (.int 1) (Lr 3)]) lnB
def xh(h:noOt i δ=true):evS G F fu (.sep i) δ=some (.nx (δ.set i (.od (dD [])))):=by
 have a:evS G F fu (.sep i) δ=if noOt i δ then some (.nx _)else none:=rfl
 rw[a,f8 h];rfl
def xi(h:δ[i]? = some (.od (dD L))):evS G F fu (.retd i) δ=some (.rt (dC L) false):=by
 have a:evS G F fu (.retd i) δ=(match δ[i]? with
  | some (.od d)=>if isDc d then some (.rt _ false)else none
  | _=>none):=rfl
 rw[a,h];rfl
def Jc(rows:Le)(n m:Nat)(d:LG)(e:0<n)(a:n<=60)(b:m<=60)(h1:(Lf).length<=5)(h2:(FI KQ).length<=5):run G T fu (k+5) 10 [tT rows]=some (.v .non false):=by
 rw[r6 rfl rfl];unfold vD;have c:=k7 (G:=G) (δ:=n9 1 [tT rows]) (es:=[.var 0]) rfl rfl (wy (fu:=fu) (k:=k) rows n m d e a b);have s:sm (Lf).length (FI KQ).length=true:=by unfold sm;rw[f7,B7,B7];omega
 rw[s]at c;have q:=U7 c;exact rG (v9 (o6 q) rfl)
def rst(m:Nat)(rows:Le):on (on Int):=sub rows Lf (FI KQ)
theorem oE:∀L:Tb,kvp? (L.map λ p=>kk p.1) (MC (p.2:Int))=some (L.map λ p=>(((p.1.1:Int),(p.1.2:Int)),(p.2:Int)))
 | []=>rfl
 | p::L=>by show(kvp? _ _).map _=_;rw[oE L];rfl
noncomputable def tD(p:(Nat×Nat)×Nat):DV:=.tup [.int p.1.1,.int p.1.2,.int p.2]
def Jd(L:Tb)(h:L≠[])(a:L.length<=100000):run G T fu (k+1) 13 [dC L]=some (.v (Lw (L.map tD)) true):=by
 rw[r6 rfl rfl];unfold vE;have w:r3 (evE G (KY k) (.itm (.var 0)) (n9 1 [dC L]))=some (.ok (L.map λ p=>.tup [.tup [.int p.1.1,.int p.1.2],.int p.2]) .strong):=by have b:evE G (KY k) (.itm (.var 0)) (n9 1 [dC L])=Re.thn (evE G (KY k) (.var 0) (n9 1 [dC L])) (λ x c=>itmD x c):=rfl;rw[b,f6 rfl,B1];show r3 (if Cl.strong=.strong/\(L.map λ p=>kk p.1).isEmpty=false then(kvp? (L.map λ p=>kk p.1) (MC (p.2:Int))).map (λ l=>.ok _ .strong)else none)=_;rw[f8 ⟨rfl,by cases L with | nil=>exact absurd rfl h | cons _ _=>rfl⟩,oE];show some _=_;rw[o9];rfl
 refine t6 (p8 (v4 (F0 w KL (i7 a KL) λ p hp=>?_)));refine⟨[.val _,.val _],.strong,rfl,?_,rfl⟩;exact G7 (g7 (p9 (cx:=.strong) (f6 rfl) (i5 (i:=0)) rfl) (g7 (p9 (cx:=.strong) (f6 rfl) (i5 (i:=1)) rfl) (LM k6))) (ln4 KS) rfl
def Je(xs:on DV)(x:DV):ixD (Lw (xs++[x])) (Li (-1))=some x:=by
 show(E5 (xs++[x]).length (-1)).bind _=_;have e:E5 (xs++[x]).length (-1)=some xs.length:=by
  unfold E5;rw[g9 KL,f8 (by rw[t9];simp;omega)];rw[t9]
  congr 1
  simp;omega
 rw[e,O8,T4 (i9 _),kt];rfl
def xj(c:Int)(n:Nat)(h:n<=1000):∃xs:on Int,xs.length=n/\run G T fu (k+1) 26 [.int c,.int n]=some (.v (Lw (xs.map DV.int)) true):=by
 rw[r6 rfl rfl];obtain⟨l,q,xs,b,z,e,rfl⟩:=S0 (i:=4) (I:=λ j g=>∃(xs:on Int) (b:Int) (z:Sv),xs.length=j/\g=[.val (.int c),.val (.int n),.own (Lw (xs.map DV.int)),.val (.int b),z])
  (body:=λ f=>evSs G (KY k) fu [.set 3 false (.bin .Mod (.bin .Add (.bin .Add (.bin .Mult (.var 3) (Li 48271)) (.bin .Mult (.var 4) (.var 4))) (Li 11)) (Li 2147483647)),.app 2 (.bin .FloorDiv (.var 3) (.int 7))] f) n 0
  (λ j m g I=>by
   obtain⟨xs,b,z,e,rfl⟩:=I;rw[show(0:Int)+(j:Int)=j by omega];obtain⟨N,o⟩:∃N:Int,(b*48271+(j:Int)*j+11)%2147483647=N:=LY;obtain⟨D,p⟩:∃D:Int,N/7=D:=LY;refine⟨_,j9 (o7 (d:=.int N) (cl:=.strong) ?_ rfl) (j9 (lA (d:=.int D) (cl:=.strong) rfl ?_ rfl (by rw[g8,e];exact t7 (t7 m h) KL)) rfl),xs++[D],N,.val (.int j),by rw[t9,e];rfl,?_⟩
   ·rw[←o];exact F4 (L3 (L3 (Z8 (f6 rfl) i5 (m48 _)) (Z8 (f6 rfl) (f6 rfl) (Iz KE))) i5) i5 KL
   ·rw[←p];exact lB (f6 rfl) i5 KL
   ·rw[←Iy];rfl) ⟨[],_,.no,rfl,rfl⟩
 refine⟨xs,e,?_⟩;unfold vL;exact t6 (j9 (ee rfl) (j9 (o7 (L3 (F4 (f6 rfl) i5 KL) i5) rfl) (K9 (V7 (n:=n) (f6 rfl) h) (.inr rfl) q (p8 rfl))))
variable {fu k:Nat} {F:Nat->on DV->Kr Ou} {δ:on Sv} {ds:on DV} {cl:Cl} {n m:Nat} {f:Nat->Nat->Int} {d:DV}
def Look(d:DV)(n m:Nat)(f:Nat->Nat->Int):Prop:=∀i,i<n->∃x,ixD d (Li (i:Int))=some x/\∀j,j<m->ixD x (Li (j:Int))=some (Li (f i j))
noncomputable def at2(rows:Le)(i j:Nat):Int:=(rows.getD i []).getD j 0
def Jf(R:LG)(h:i<n):(rows.getD i []).length=m:=R.2 _ (E9 (by rw[R.1];exact h))
def Jg(R:LG):Look Mc n m (at2 rows):=λ i a=>⟨_,aw (by rw[R.1];exact a),λ j b=>nM (by rw[Jf R a];exact b)⟩
def Jh{i j:Nat}(L:Look d n m f)(l:evE G F a δ=some (Lc d))(k:KM b r (.int (i:Int)))(h:KM e q (.int (j:Int)))(g:i<n)(c:j<m):evE G F (.ix (.ix a b) e) δ=some (.ok (Li (f i j)) .strong):=by
 obtain⟨x,p,o⟩:=L i g;exact p9 (p9 l k p) h (o j c)
def b_ne(d:KM a cx (.int i))(c:KM b cy (.int j)):evE G F (.cmp .NotEq a b) δ=some (.ok (.bl (i != j)) .strong):=F3 d c rfl
def Ji(ds:on DV)(h:Nat):cutD ds (some (h:Int)) none=ds.drop h:=by
 unfold cutD slIx;dsimp only;rw[g9 KE,B6];by_cases q:h<=ds.length
 ·rw[dh q,ju Mn]
 ·rw[jU KE,jS,List.take_nil,List.drop_of_length_le KE]
def xk(ds:on DV)(h:Nat):cutD ds none (some (h:Int))=ds.take h:=by
 unfold cutD slIx;dsimp only;rw[g9 KE,B6,dr,Nat.sub_zero];by_cases q:h<=ds.length
 ·rw[dh q]
 ·rw[jU KE,List.take_length,ju KE]
def xl{h:Nat}(e:KM a c (.lst ds))(d:KM b c1 (.int (h:Int))):evE G F (.slf a b) δ=some (.ok (Lw (ds.drop h)) (Cl.anew c c)):=by
 show Re.thn _ _=_;rw[e,B1];show Re.thn _ _=_;rw[d,B1,←Ji];rfl
def oF{h:Nat}(e:KM a c (.lst ds))(d:KM b c1 (.int (h:Int))):evE G F (.slt a b) δ=some (.ok (Lw (ds.take h)) (Cl.anew c c)):=by
 show Re.thn _ _=_;rw[e,B1];show Re.thn _ _=_;rw[d,B1,←xk];rfl
def jc(d:KM a cx (.lst x))(c:KM b cy (.lst y))(h:x.length+y.length<=1000):evE G F (.bin .Add a b) δ=some (.ok (Lw (x++y)) (Cl.anew cx cy)):=
 J8 d c (f8 (i7 h KL))
def b_ge(d:KM a cx (.int i))(c:KM b cy (.int j)):evE G F (.cmp .GtE a b) δ=some (.ok (.bl (decide (j<=i))) .strong):=F3 d c rfl
variable {fu k:Nat} {F:Nat->on DV->Kr Ou} {δ:on Sv} {ds:on DV} {cl:Cl} {n m:Nat} {f:Nat->Nat->Int} {d:DV}
variable {rows:on (on Int)}
def Jj(rows:Le):(Lf).Pairwise (· < ·):=by
 unfold FI;exact(jt).sublist jG
variable {fu k:Nat} {F:Nat->on DV->Kr Ou} {δ:on Sv} {ds:on DV} {cl:Cl} {n m:Nat} {f:Nat->Nat->Int} {d:DV} {rows:on (on Int)}
def xm(i:Nat)(rows:Le)(n m:Nat)(R:LG)(g:0<n)(f:n<=8)(a:m<=8)(d:δ[i]? = some (.val (rL rows))):evE G F (.comp (.comp (KW 0 (.var 1)) (.one 0) (.var 1) [none,some 0]) (.one 0) (MD (.var i)) [none,some i]) δ=some (.ok (rL KQ) .fresh):=by
 have c:0<rows.length:=by rw[R.1];exact g
 have b:δ.getD i .no=.val (rL rows):=by rw[u8,d];rfl
 have e:=F0 (tg:=.one 0) (fr:=[none,some i]) ((by have t:=N3 (p9 (f6 d) (i5 (F:=F) (i:=0)) (show ixD _ _=some (.lst _)from ax c));rw[show(iD _).length=m by unfold iD;rw[g8];exact R.2 _ (E9 c)]at t;rw[V7 t KE,wa];rfl)) KL (by rw[C3];exact i7 a KL) λ j h=>by refine⟨[.val _,.val _],.fresh,?_,IL rows m j R.2 (u0.mp h) (by rw[R.1];omega),rfl⟩;show some _=_;unfold A4;simp only[A3,kj,b];rfl
 rw[e];unfold rL flip;rw[o9];rfl
theorem oG:∀{l:on (on Int)} {j:Nat},l[j]? = some a->l.idxOf a<=j
 | [],j,h=>by simp at h
 | x::l,0,h=>by
  have:x=a:=by simpa using h
  subst this;rw[List.idxOf_cons_self];exact i9 _
 | x::l,j+1,h=>by
  rw[pT]at h;have q:=oG h;rw[List.idxOf_cons];cases x==a with
  | true=>exact D9 _
  | false=>show l.idxOf a+1<=j+1;omega
def jd(h:r<rows.length):(!((rows.take r).any λ x=>x==rows.getD r []))=(rows.idxOf (rows.getD r [])==r):=by
 have i:rows.getD r []=rows[r]:=by rw[u8,m7 h];rfl
 rw[i];have g:=oG (m7 h);rw[U1,u5,h8];constructor
 ·intro q;rcases W7 _ r with z | z
  ·exfalso;have e:rows.idxOf rows[r]<rows.length:=by omega
   have:((rows.take r).any λ x=>x==rows[r])=true:=by
    rw[T9];refine⟨rows[rows.idxOf rows[r]],?_,?_⟩
    ·rw[bo];exact⟨rows.idxOf rows[r],by rw[Y3 z,m7 e]⟩
    ·rw[cW e];exact R4 _
   rw[this]at q;cases q
  ·omega
 ·intro q;rw[List.any_eq_false];intro x f a;obtain⟨j,d⟩:=bo.mp f;have b:j<r:=by have:=(z7.mp d).1;rw[F8]at this;omega
  rw[Y3 b,m7 KE]at d;have c:rows[j]=x:=by simpa using d
  have:rows.idxOf rows[r]<=j:=oG (by rw[m7 KE,c,(bI a)]);omega
def Jk(a:on Int):cmpD .NotIn (.tup (iD a)) (.tup ((rows.take r).map λ r=>.tup (iD r)))=some (!((rows.take r).any λ x=>x==a)):=by
 show(if(DV.plain 60 _&&DV.plains 60 _)=true then some (!_)else none)=_;rw[nR 59 a,vW 59,Z2];show some _=_
 congr 3
 funext x
 exact vT x a
def Jl(a:on Int):cmpD .NotIn (Lw (iD a)) (Lw ((rows.take r).map λ r=>.lst (iD r)))=some (!((rows.take r).any λ x=>x==a)):=by
 show(if(DV.plain 60 _&&DV.plains 60 _)=true then some (!_)else none)=_;rw[vU 59 a,IH 59,Z2];show some _=_
 congr 3
 funext x
 exact IG x a
def Jm(hl:h<rows.length)(e:evE G F a δ=some (Lc (tT rows)))(c:KM b c1 (.int (h:Int))):evE G F (.slt a b) δ=some (.ok (.tup ((rows.take h).map λ r=>.tup (iD r))) .strong):=by
 show Re.thn _ _=_;rw[e,B1];show Re.thn _ _=_;rw[c,B1];show((if slIx (rows.map λ r=>DV.tup (iD r)).length 0 none=0/\slIx (rows.map λ r=>DV.tup (iD r)).length (rows.map λ r=>DV.tup (iD r)).length _=(rows.map λ r=>DV.tup (iD r)).length then none else some _).map λ d=>Re.ok d _)=_;rw[g9,xk,←Z1]
 ·rfl
 ·rintro⟨_,q⟩
  unfold slIx at q;dsimp only at q;rw[g9 KE,B6,g8]at q;omega
def cJ{n:Nat}(h:KM e c (.int (n:Int)))(a:n<=1000):r3 (La (.rng [e]))=some (.ok ((Lb n).map λ (j:Nat)=>DV.int (j:Int)) .fresh):=by
 rw[V7 h a,wa];rfl
def Jn{F:Nat->on DV->Kr Ou}{δ:on Sv}{e:ME}{r:on Int}{c:Cl}(h:evE G F e δ=some (Lc (.tup (iD r)))):evE G F (.bi .list [e]) δ=some (.ok (Lw (iD r)) .fresh):=by
 show Rs.thn (evEs G F [e] δ) (λ l=>dU l)=_;rw[g7 h k6];rfl
def fsts(rows:Le):on (on Int):=(Lf).map λ r=>rows.getD r []
def Jo(R:LG):Rect (Lf).length m (fsts rows):=by
 unfold fsts;refine⟨g8 ..,λ r a=>?_⟩;obtain⟨i,b,rfl⟩:=i8.mp a;exact R.2 _ (E9 (Y1 b))
def je(h:j<m):(KQ).getD j []=col rows j:=by
 unfold flip;rw[u8,t5,fH h];rfl
def H9:(KQ).length=m:=by unfold flip;rw[g8,C3]
def Jp(R:LG)(i j:Nat):(col (fsts rows) i==col (fsts rows) j)=(col rows i==col rows j):=by
 rw[U1,h8,h8];unfold col fsts;rw[o9,o9];constructor
 ·intro h;apply M1;intro r c;have b:=fQ.mp h _ (by
   unfold FI;refine D6.mpr ⟨u0.mpr (fg c),?_⟩;rw[cE c,h8])
  have a:(rows.getD _ []).getD i 0=(rows.getD _ []).getD j 0:=b;rw[cE c]at a;exact a
 ·intro h;apply M1;intro i' d;exact fQ.mp h _ (E9 (Y1 d))
def Jq(R:LG):FI Mp=FI (flip m rows):=by
 unfold FI;rw[H9,H9];apply List.filter_congr;intro c b;have a:=u0.mp b;rw[←jd (by rw[H9];exact a),←jd (by rw[H9];exact a),je a,je a]
 congr 1
 unfold flip;rw[←Z1,←Z1,Z2,Z2]
 congr 1
 funext x
 exact Jp R x c
variable {fu k:Nat} {F:Nat->on DV->Kr Ou} {δ:on Sv} {ds:on DV} {cl:Cl} {n m:Nat} {f:Nat->Nat->Int} {d:DV} {rows:on (on Int)}
def xn{i j:Nat}(d:KM a cx (.int (i:Int)))(c:KM b cy (.int (j:Int))):evE G F (.cmp .Eq a b) δ=some (.ok (.bl (i==j)) .strong):=by
 have q:=b_eq d c;rw[show(_==_)=(i==j) by rw[U1,h8,h8];omega]at q;exact q
def add1{i:Nat}(h:KM e c (.int (i:Int))):evE G F (.bin .Add e (.int 1)) δ=some (.ok (Li ((i+1:Nat):Int)) .strong):=by
 rw[show(((i+1:Nat)):Int)=_+1 by push_cast;rfl];exact L3 h i5
variable {fu k:Nat} {F:Nat->on DV->Kr Ou} {δ:on Sv} {ds:on DV} {cl:Cl} {n m:Nat} {f:Nat->Nat->Int} {d:DV} {rows:on (on Int)}
def or_f{F:Nat->on DV->Kr Ou}{δ:on Sv}{G:Gs}{a b:ME}{r:on ME}{cx:Cl}{o:Kr Re}(ha:KM a cx (.bl false))(hb:evE G F (.or (b::r)) δ=o):evE G F (.or (a::b::r)) δ=o:=by
 show Re.thn (La a) (λ x c=>orD x c (La (.or (b::r))))=o;rw[ha];exact hb
def or_1{F:Nat->on DV->Kr Ou}{δ:on Sv}{G:Gs}{a:ME}{o:Kr Re}(ha:evE G F a δ=o):evE G F (.or [a]) δ=o:=by
 exact ha
variable {fu k:Nat} {F:Nat->on DV->Kr Ou} {δ:on Sv} {ds:on DV} {cl:Cl} {n m:Nat} {f:Nat->Nat->Int} {d:DV} {rows:on (on Int)}
def Few(L:Le):Prop:=∃S:on (on Int),S.length<=5/\∀r∈L,r∈S
theorem xo{b:Type}[BEq b][LawfulBEq b]:∀{l S:on b},l.Nodup->(∀x∈l,x∈S)->l.length<=S.length
 | [],_,_,_=>D9 _
 | a::l,S,h,hs=>by
  obtain⟨g,f⟩:=P0.mp h;have c:=hs a (o5 ..);have q:=xo (S:=S.erase a) f λ x d=>(List.mem_erase_of_ne (λ e=>g Mn)).mpr (hs x (o4 _ d))
  rw[List.length_erase_of_mem c]at q;have:=fE c;rw[x9];omega
def xp(h:Few rows):(Lf).length<=5:=by
 obtain⟨S,h1,k⟩:=h;have q:((Lf).map λ r=>rows.getD r []).length<=S.length:=by
  refine xo ?_ λ x c=>?_
  ·rw[List.nodup_iff_pairwise_ne,List.pairwise_map];refine List.Pairwise.imp_of_mem (λ {a b} j g d=>?_) (Jj rows);intro e;have l:=bI (D6.mp j).2;have e2:=bI (D6.mp g).2;rw[e]at l;omega
  ·obtain⟨i,f,rfl⟩:=i8.mp c;exact k _ (E9 (Y1 f))
 rw[g8]at q;omega
def xq(h:rows.length<=5):Few rows:=⟨rows,h,λ _ a=>a⟩
noncomputable def ins(a s:Nat)(l:on Int):on Int:=l.take a++[l.getD s 0]++l.drop a
def Jr:(ins a s l).length=l.length+1:=by
 unfold ins;rw[t9,t9,F8,aI,W3];omega
noncomputable def src(a s j:Nat):Nat:=if j<a then j else if j=a then s else j - 1
def qH(ha:a<=l.length):(ins a s l).getD j 0=l.getD (src a s j) 0:=by
 unfold ins src;simp only[u8];have lt:(l.take a).length=a:=by rw[F8];omega
 by_cases b:j<a
 ·rw[f8 b,Q5 (by rw[t9,lt,W3];omega),Q5 (by rw[lt];exact b),Y3 b]
 ·rw[g9 b];by_cases c:j=a
  ·rw[f8 c,Q5 (by rw[t9,lt,W3];omega),T4 (by rw[lt];omega),lt,c,kt];rfl
  ·rw[g9 c,T4 (by rw[t9,lt,W3];omega),t9,lt,W3,aG]
   congr 2
   omega
noncomputable def insR(a s:Nat)(rows:Le):on (on Int):=rows.take a++[rows.getD s []]++rows.drop a
structure Tk(n m:Nat)(rows:List (List Int)):Prop where
 n0:0<n
 n8:n<=8
 m0:0<m
 m8:m<=8
 R:Rect n m rows
 fr:Few rows
 fc:Few KQ
 w9:W9 rows
def Tk.row(t:Tk n m rows)(hn:n<8)(ha:a<=n)(d:s<n):Tk (n+1) m (insR a s rows):=by
 have c:∀r∈insR a s rows,r∈rows:=λ r b=>by
  unfold insR at b;rcases F1.mp b with q | q
  ·rcases F1.mp q with q | q
   ·exact jC q
   ·rw[w4.mp q];exact E9 (by rw[t.R.1];exact d)
  ·exact jD q
 refine⟨by omega,by omega,t.m0,t.m8,⟨?_,λ r b=>t.R.2 r (c r b)⟩,?_,?_,λ r b=>t.w9 r (c r b)⟩
 ·unfold insR;rw[t9,t9,F8,aI,W3,t.R.1];omega
 ·obtain⟨S,f,e⟩:=t.fr;exact⟨S,f,λ r b=>e r (c r b)⟩
 ·obtain⟨S,f,e⟩:=t.fc;refine⟨S.map (ins a s),by rw[g8];exact f,λ r b=>?_⟩;obtain⟨j,g,rfl⟩:=i8.mp b;refine i8.mpr ⟨col rows j,e _ (i8.mpr ⟨j,g,rfl⟩),?_⟩;unfold col ins insR;rw[C4,C4,Z1,gp]
  congr 2
  rw[u8,t5,m7 (by rw[t.R.1];exact d),List.map_singleton,u8 (l:=rows),m7 (by rw[t.R.1];exact d)];rfl
def Tk.colm(t:Tk n m rows)(hm:m<8)(o:a<=m)(i:s<m):Tk n (m+1) (rows.map (ins a s)):=by
 refine⟨t.n0,t.n8,by omega,by omega,⟨by rw[g8,t.R.1],λ r c=>?_⟩,?_,?_,λ r c x h=>by
  obtain⟨d,b,rfl⟩:=i8.mp c;refine t.w9 d b x ?_;unfold ins at h;rcases F1.mp h with q | q
  ·rcases F1.mp q with q | q
   ·exact jC q
   ·rw[w4.mp q];exact xc (by rw[t.R.2 d b];exact i)
  ·exact jD q⟩
 ·obtain⟨d,b,rfl⟩:=i8.mp c;rw[Jr,t.R.2 d b]
 ·obtain⟨S,g,f⟩:=t.fr;refine⟨S.map (ins a s),by rw[g8];exact g,λ r c=>?_⟩;obtain⟨d,b,rfl⟩:=i8.mp c;exact i8.mpr ⟨d,f d b,rfl⟩
 ·obtain⟨S,g,f⟩:=t.fc;refine⟨S,g,λ r c=>?_⟩;obtain⟨j,l,rfl⟩:=i8.mp c;have k:=u0.mp l;have e:col (rows.map (ins a s)) j=col rows (src a s j):=by unfold col;rw[o9];apply M1;intro r c;exact qH (by rw[t.R.2 r c];exact o)
  rw[e];refine f _ (i8.mpr ⟨src a s j,u0.mpr ?_,rfl⟩);unfold src;split
  ·omega
  ·split<;>omega
def fj{F:Nat->on DV->Kr Ou}{δ:on Sv}{elt eo ei:ME}{fi fo:on (Kr Nat)}{g:Nat->Nat->Int}(hn:evE G F eo δ=some (Lc (.int (n:Int))))(n5:n<=8)(m5:m<=8)(ho:∀r,r<n->∃δ1,(Tg.one 0).bind (Li (r:Int)) (A4 fo δ)=some δ1/\evE G F ei δ1=some (Lc (.int (m:Int)))/\∀c,c<m->∃δ2,(Tg.one 0).bind (Li (c:Int)) (A4 fi δ1)=some δ2/\evE G F elt δ2=some (Lc (.int (g r c)))) :
  evE G F (.comp (.comp elt (.one 0) (.rng [ei]) fi) (.one 0) (.rng [eo]) fo) δ=some (.ok (rL ((Lb n).map λ r=>(Lb m).map (g r))) .fresh):=by
 have e:=F0 (l:=List.range n) (h:=λ (j:Nat)=>DV.int (j:Int)) (f:=λ r=>.lst (iD ((Lb m).map (g r)))) (elt:=.comp elt (.one 0) (.rng [ei]) fi) (tg:=.one 0) (fr:=fo) (cJ hn KE) KL (by rw[C3];exact i7 n5 KL) λ r hr=>by
  obtain⟨δ1,h1,h2,h3⟩:=ho r (u0.mp hr);refine⟨δ1,.fresh,h1,?_,rfl⟩;have q:=F0 (F:=F) (δ:=δ1) (l:=List.range m) (h:=λ (j:Nat)=>DV.int (j:Int)) (f:=λ c=>.int (g r c)) (elt:=elt) (tg:=.one 0) (fr:=fi) (cJ h2 KE) KL (by rw[C3];exact i7 m5 KL) λ c hc=>by obtain⟨δ2,h4,h5⟩:=h3 c (u0.mp hc);exact⟨δ2,.strong,h4,h5,rfl⟩
  rw[q];unfold iD;rw[o9];rfl
 rw[e];unfold rL;rw[o9];rfl
def fk(g:Nat->Nat->Int):Rect n m ((Lb n).map λ r=>(Lb m).map (g r)):=by
 refine⟨by rw[g8,C3],λ r a=>?_⟩;obtain⟨i,_,rfl⟩:=i8.mp a;rw[g8,C3]
def jf(h:KM e c (.bl b)):evE G F (.bi .int [e]) δ=some (.ok (Li (if b then 1 else 0)) .strong):=by
 show Rs.thn _ _=_;rw[g7 h k6];rfl
def top4(x:Int):∃a:Int,0<a/\a<=10/\ixD (.lst [.int 2,.int 3,.int 10,.int 2]) (Li (x%4))=some (.int a):=by
 have:x%4=0\/x%4=1\/x%4=2\/x%4=3:=by omega
 rcases this with h | h | h | h<;>rw[h]
 ·exact⟨2,by decide,by decide,rfl⟩
 ·exact⟨3,by decide,by decide,rfl⟩
 ·exact⟨10,by decide,by decide,rfl⟩
 ·exact⟨2,by decide,by decide,rfl⟩
def Js(x:Int):∃a:Int,0<a/\a<=5/\ixD (.lst [.int 4,.int 4,.int 4,.int 4,.int 4,.int 4,.int 4,.int 5]) (Li (x%8))=some (.int a):=by
 have:x%8=0\/x%8=1\/x%8=2\/x%8=3\/x%8=4\/x%8=5\/x%8=6\/x%8=7:=by omega
 rcases this with h | h | h | h | h | h | h | h<;>rw[h]
 ·exact Mw
 ·exact Mw
 ·exact Mw
 ·exact Mw
 ·exact Mw
 ·exact Mw
 ·exact Mw
 ·exact⟨5,by decide,by decide,rfl⟩
variable {fu k:Nat} {F:Nat->on DV->Kr Ou} {δ:on Sv} {ds:on DV} {cl:Cl} {n m:Nat} {f:Nat->Nat->Int} {d:DV} {rows:on (on Int)}
def bf{xs:on Int}{i:Int}(c:0<=i)(h:i<xs.length):∃v,∀{F:Nat->on DV->Kr Ou} {δ:on Sv} {e:ME},evE G F e δ=some (Lc (.lst (xs.map DV.int)))->evE G F (.ix e (.int i)) δ=some (.ok (.int v) .strong):=by
 obtain⟨v,a⟩:=rH c h;exact⟨v,λ b=>p9 b i5 a⟩
abbrev Sc(ns xs:on Int)(mo:Int)(n m:Nat)(tp:Int)(x y z:Sv):on Sv:=[.val (.scr ns),.val (.int 2),.val (Lw (xs.map DV.int)),.val (Li mo),.val (.int n),.val (.int m),.val (Li tp),x,y,z]
def oH{g:Nat->Nat->Int}(h:∀r c,0<=g r c/\g r c<=9):W9 ((Lb n).map λ r=>(Lb m).map (g r)):=λ r b x a=>by
 obtain⟨i,_,rfl⟩:=i8.mp b;obtain⟨j,_,rfl⟩:=i8.mp a;exact h i j
def Ju(h:∀x∈ws,0<=x/\x<=9):W9 (X9 n m ws):=λ r b x a=>by
 obtain⟨i,_,rfl⟩:=i8.mp b;exact h x (jD (jC a))
def Jv(l:on Int)(hns:l.length<=63)(xs:on Int)(w:xs.length=24):∃(n m:Nat) (rows:Le),0<n/\n<=5/\0<m/\m<=5/\Rect n m rows/\W9 rows/\run G T fu (k+2) 27 [.scr l,.int 2,.lst (xs.map DV.int)]=some (.v (rL rows) false):=by
 obtain⟨v1,c1⟩:=nL (fu:=fu) (k:=k) l 1;obtain⟨a0,h0⟩:=bf (xs:=xs) (i:=0) KE (by rw[w];omega);obtain⟨R,h1⟩:=bf (xs:=xs) (i:=1) KE (by rw[w];omega);obtain⟨Q,h2⟩:=bf (xs:=xs) (i:=2) KE (by rw[w];omega);obtain⟨a3,P⟩:=bf (xs:=xs) (i:=3) KE (by rw[w];omega);obtain⟨H,h4⟩:=bf (xs:=xs) (i:=4) KE (by rw[w];omega);obtain⟨a5,h5⟩:=bf (xs:=xs) (i:=5) KE (by rw[w];omega);obtain⟨u,B,mo5,Z⟩:=Js a0;obtain⟨o,E,a7,N⟩:=top4 a3;have m9:∀x:Int,0<=x%o/\x%o<=9:=λ x=>⟨fY x KE,by have:=fM x E;omega⟩
 have b1:=fY R (b:=u) KE;have b2:=fM R (b:=u) B;have b3:=fY Q (b:=u) KE;have b4:=fM Q (b:=u) B;obtain⟨n,hn⟩:∃n:Nat,1+R%u=(n:Int):=⟨(1+R%u).toNat,by omega⟩;obtain⟨m,hm⟩:∃m:Nat,1+Q%u=(m:Int):=⟨(1+Q%u).toNat,by omega⟩;have X:n<=5:=by omega
 have m5:m<=5:=by omega
 have nm:n*m<=25:=gc X m5;obtain⟨A,L,U⟩:=xj (fu:=fu) (k:=k) v1 (n*m) KE;have K:M7 (n:Int) (m:Int)=true:=by unfold M7;simp;omega
 have cm:=AX (G:=G) (F:=run G T fu (k+1)) (δ:=(Sc l xs u n m o .no .no .no)) (elt:=.bin .Mod (.var 0) (.var 1)) (tg:=.one 0) (it:=.call 26 [.call 25 [.var 0,.int 1],.bin .Mult (.var 4) (.var 5)]) (fr:=[none,some 6]) (f:=λ d=>match d with | .int x=>.int (x%o) | d=>d) (ds:=A.map DV.int) (cl:=.fresh)
  (by
   have q:=k7 (G:=G) (F:=run G T fu (k+1)) (δ:=(Sc l xs u n m o .no .no .no)) (f:=26) (g7 (k7 (f:=25) (g7 (f6 (n:=0) (d:=.scr l) rfl) (g7 (i5 (i:=1)) k6)) rfl c1) (g7 (Z8 (f6 (n:=4) (d:=.int n) rfl) (f6 (n:=5) (d:=.int m) rfl) K) k6)) rfl (by rw[show((n:Int)*(m:Int))=((n*m:Nat):Int) by push_cast;rfl];exact U);rw[q];rfl) KL (by rw[g8,L];exact i7 nm KL) (λ d hd=>by
   obtain⟨x,w,rfl⟩:=i8.mp hd;exact⟨[.val (.int x),.val (.int o)],rfl,F4 (f6 rfl) (f6 rfl) E⟩)
 rw[o9,show((λ d=>match d with | DV.int x=>DV.int (x%o) | d=>d) ∘ DV.int)=DV.int ∘ (λ x:Int=>x%o)from rfl,←o9]at cm;obtain⟨b,hb,hb1,hb2⟩:∃b:Int,(if(l.length:Int) - 2<(n:Int)*m then(l.length:Int) - 2 else(n:Int)*m)=b/\b<=((n*m:Nat):Int)/\b<=(l.length:Int) - 2:=by refine⟨_,rfl,?_,?_⟩<;>split<;>push_cast<;>omega
 have a6 : -1000<=b:=(by rw[←hb];have:(0:Int)<=(n:Int)*m:=Int.mul_nonneg (G2 n) (G2 m);split<;>omega);obtain⟨δ1,l1,p,z,M,C,rfl⟩:=S0 (i:=8) (I:=λ _ δ=>∃(p:on Int) (z:Sv),p.length=n*m/\(∀x∈p,0<=x/\x<=9)/\δ=(Sc l xs u n m o (.own (Lw (p.map DV.int))) z .no))
  (body:=λ S=>evSs G (KY (k+1)) fu [.seti 7 (.var 8) (.bin .Mod (KW 0 (.bin .Add (.var 1) (.var 8))) (.var 6))] S) b.toNat 0
  (λ j hj δ I=>by
   obtain⟨p,z,M,C,rfl⟩:=I;rw[show(0:Int)+(j:Int)=j by omega];have P:2+j<l.length:=by omega
   have hv:ixD (.scr l) (Li (2+(j:Int)))=some (.int l[2+j]):=(by rw[show(2:Int)+(j:Int)=((2+j:Nat):Int) by push_cast;rfl];show((E5 l.length ((2+j:Nat):Int)).bind λ j=>l[j]?).map DV.int=_;rw[nO P,O8,m7 P];rfl);refine⟨_,j9 (AS (d:=.int (l[2+j]%o)) (cl:=.strong) (n:=j) (cx:=.strong) (j:=j) rfl (F4 (p9 (f6 rfl) (L3 (f6 rfl) (f6 rfl)) hv) (f6 rfl) E) (f6 rfl) rfl (nO (by rw[g8,M];omega))) rfl,p.set j (l[2+j]%o),.val (.int j),by rw[E4];exact M,λ x w=>(List.mem_or_eq_of_mem_set w).elim (C x) (λ e=>e▸m9 _),?_⟩;rw[List.map_set];rfl) ⟨A.map λ x=>x%o,.no,by rw[g8];exact L,λ x w=>by obtain⟨y,_,rfl⟩:=i8.mp w;exact m9 y,rfl⟩
 have em:evE G (KY (k+1)) (.bi .min [.bin .Mult (.var 4) (.var 5),.bin .Sub (Lv 0) (.var 1)]) (Sc l xs u n m o (.own (Lw ((A.map λ x=>x%o).map DV.int))) .no .no)=some (.ok (.int b) .strong):=(by have e1:evE G (KY (k+1)) (Lv 0) (Sc l xs u n m o (.own (Lw ((A.map λ x=>x%o).map DV.int))) .no .no)=some (.ok (Li l.length) .strong):=rfl;rw[nP (g7 (Z8 (f6 (n:=4) (d:=.int n) rfl) (f6 (n:=5) (d:=.int m) rfl) K) (g7 (P7 e1 (f6 (n:=1) (d:=.int 2) rfl)) k6)),←hb];rfl);have rt:=IA (F:=run G T fu (k+1)) (δ:=(Sc l xs u n m o (.own (Lw (p.map DV.int))) z .no)) (elt:=.sl (.var 1) (.bin .Mult (.var 0) (.var 2)) (.bin .Add (.bin .Mult (.var 0) (.var 2)) (.var 2))) (tg:=.one 0) (it:=.rng [.var 4]) (fr:=[none,some 7,some 5]) (f:=λ d=>match d with | .int j=>.lst (iD ((p.drop (j.toNat*m)).take m)) | d=>d) (ds:=upTo 0 n) (cl:=.fresh)
  (V7 (f6 rfl) KE) KL (by unfold L2.upTo;rw[g8,C3];exact i7 X KL) (λ d hd=>by
   obtain⟨j,hj,rfl⟩:=rF hd;rw[show(0:Int)+(j:Int)=j by omega];have J:M7 (j:Int) (m:Int)=true:=by unfold M7;simp;omega
   refine⟨[.val (.int j),.own (Lw (iD p)),.val (.int m)],.fresh,rfl,?_,rfl⟩;show _=some (Re.ok (Lw (iD ((p.drop ((j:Int).toNat*m)).take m))) .fresh);rw[B6,←IE M hj];exact ID (eg rfl) (Z8 (f6 rfl) (f6 rfl) J) (L3 (Z8 (f6 rfl) (f6 rfl) J) (f6 rfl)))
 have hf:(upTo 0 n).map (λ d=>match d with | .int j=>DV.lst (iD ((p.drop (j.toNat*m)).take m)) | d=>d)=(X9 n m p).map λ r=>.lst (iD r):=by unfold L2.upTo X9;rw[o9,o9];apply M1;intro j _;show DV.lst (iD ((p.drop (((0:Int)+(j:Int)).toNat*m)).take m))=_;rw[show((0:Int)+(j:Int)).toNat=j by omega];rfl
 rw[hf]at rt
 let D:DV->on Sv:=λ r=>(Sc l xs u n m o (.own (Lw (p.map DV.int))) z (.val r))
 have g1:∀r,evE G (KY (k+1)) (LR (.bi .int [.cmp .Eq (.var 1) (.var 0)])) (D r)=some (.ok (rL ((Lb n).map λ (r:Nat)=>(Lb m).map λ (c:Nat)=>if((r:Int)==(c:Int))then(1:Int)else 0)) .fresh):=λ r=>
  fj (n:=n) (m:=m) (g:=λ (r c:Nat)=>if((r:Int)==(c:Int))then 1 else 0) (f6 rfl) KE KE λ r hr=>⟨[.val (Li (r:Int)),.val (Li (m:Int))],rfl,f6 rfl,λ c hc=>⟨[.val (Li (c:Int)),.val (Li (r:Int))],rfl,jf (b_eq (f6 rfl) (f6 rfl))⟩⟩
 have g2:∀r,evE G (KY (k+1)) (LR (.bi .int [.cmp .Lt (.var 1) (.var 0)])) (D r)=some (.ok (rL ((Lb n).map λ (r:Nat)=>(Lb m).map λ (c:Nat)=>if decide ((r:Int)<(c:Int))then(1:Int)else 0)) .fresh):=λ r=>
  fj (n:=n) (m:=m) (g:=λ (r c:Nat)=>if decide ((r:Int)<(c:Int))then 1 else 0) (f6 rfl) KE KE λ r hr=>⟨[.val (Li (r:Int)),.val (Li (m:Int))],rfl,f6 rfl,λ c hc=>⟨[.val (Li (c:Int)),.val (Li (r:Int))],rfl,jf (b_lt (f6 rfl) (f6 rfl))⟩⟩
 have g3:∀r,evE G (KY (k+1)) (.comp (.comp (.bin .Mod (KW 1 (.int 5)) (Li 10)) (.one 0) (.rng [.var 1]) [none,some 2]) (.one 0) (.rng [.var 4]) [none,some 5,some 2]) (D r)=some (.ok (rL ((Lb n).map λ (_:Nat)=>(Lb m).map λ (_:Nat)=>a5%10)) .fresh):=λ r=>
  fj (n:=n) (m:=m) (g:=λ (r c:Nat)=>a5%10) (f6 rfl) KE KE λ r hr=>⟨[.val (Li (r:Int)),.val (Li (m:Int)),.val (Lw (xs.map DV.int))],rfl,f6 rfl,λ c hc=>⟨[.val (Li (c:Int)),.val (Lw (xs.map DV.int))],rfl,F4 (h5 (f6 rfl)) i5 KL⟩⟩
 have v:∀(r:DV) (j:Int),evE G (KY (k+1)) (.cmp .Eq (.bin .Mod (KW 2 (.int 4)) (.int 8)) (.int j)) (D r)=some (.ok (.bl (H%8==j)) .strong):=λ r j=>b_eq (F4 (h4 (f6 rfl)) i5 KL) i5;obtain⟨rows,Rr,R9,tail⟩:∃rows,Rect n m rows/\W9 rows/\evSs G (run G T fu (k+1)) fu (fb.body.drop 7) (D (rL (X9 n m p)))=some (.rt (rL rows) false):=by
  unfold fb;simp only[fK,dr];by_cases O:H%8=1
  ·refine⟨_,fk (λ (r c:Nat)=>if((r:Int)==(c:Int))then 1 else 0),oH λ r c=>by(split<;>decide),P6 (o6 (by rw[v,O];rfl)) (j9 (o7 (g1 _) rfl) rfl) (v9 (o6 (show _=some (Re.ok LL .strong)from by rw[show((D (rL (X9 n m p))).set 9 _)=D _ from rfl,v,O];rfl)) (v9 (o6 (show _=some (Re.ok LL .strong)from by rw[show((D (rL (X9 n m p))).set 9 _)=D _ from rfl,v,O];rfl)) (p8 rfl)))⟩
  ·have Y:(H%8==1)=false:=x8.mpr O;by_cases W:H%8=2
   ·refine⟨_,fk (λ (r c:Nat)=>if decide ((r:Int)<(c:Int))then 1 else 0),oH λ r c=>by(split<;>decide),v9 (o6 (by rw[v,Y])) (P6 (o6 (by rw[v,W];rfl)) (j9 (o7 (g2 _) rfl) rfl) (v9 (o6 (show _=some (Re.ok LL .strong)from by rw[show((D (rL (X9 n m p))).set 9 _)=D _ from rfl,v,W];rfl)) (p8 rfl)))⟩
   ·have n2:(H%8==2)=false:=x8.mpr W;by_cases q3:H%8=3
    ·refine⟨_,fk (λ (r c:Nat)=>a5%10),oH λ r c=>by omega,v9 (o6 (by rw[v,Y])) (v9 (o6 (by rw[v,n2])) (P6 (o6 (by rw[v,q3];rfl)) (j9 (o7 (g3 _) rfl) rfl) (p8 rfl)))⟩
    ·have n3:(H%8==3)=false:=x8.mpr q3;exact⟨_,IC M,Ju C,v9 (o6 (by rw[v,Y])) (v9 (o6 (by rw[v,n2])) (v9 (o6 (by rw[v,n3])) (p8 rfl)))⟩
 refine⟨n,m,rows,by omega,X,by omega,m5,Rr,R9,?_⟩;rw[r6 (fd:=fb) rfl rfl];unfold fb at tail ⊢;simp only[fK,dr]at tail;exact t6 (j9 (o7 (d:=.int u) (cl:=.strong) (p9 (cx:=.fresh) (x:=.lst [.int 4,.int 4,.int 4,.int 4,.int 4,.int 4,.int 4,.int 5]) rfl (F4 (h0 (f6 rfl)) i5 KL) Z) rfl)
  (j9 (o7 (d:=.int n) (cl:=.strong) (by rw[←hn];exact L3 i5 (F4 (h1 (f6 rfl)) (f6 rfl) B)) rfl) (j9 (o7 (d:=.int m) (cl:=.strong) (by rw[←hm];exact L3 i5 (F4 (h2 (f6 rfl)) (f6 rfl) B)) rfl)
  (j9 (o7 (d:=.int o) (cl:=.strong) (p9 (cx:=.fresh) (x:=.lst [.int 2,.int 3,.int 10,.int 2]) rfl (F4 (P (f6 rfl)) i5 KL) N) rfl)
  (j9 (ee cm) (K9 (IB em KE a6) (.inr rfl) l1 (j9 (o7 rt rfl) tail)))))))
variable {fu k:Nat} {F:Nat->on DV->Kr Ou} {δ:on Sv} {ds:on DV} {cl:Cl} {n m:Nat} {f:Nat->Nat->Int} {d:DV} {rows:on (on Int)}
def oI{xs:on Int}{i:Int}(d:0<=i+j)(h:i+j<xs.length):∃v,∀{F:Nat->on DV->Kr Ou} {δ:on Sv},evE G F (.var 2) δ=some (Lc (.lst (xs.map DV.int)))->evE G F (.var 4) δ=some (Lc (.int (j:Int)))->evE G F (KW 2 (.bin .Add (.int i) (.var 4))) δ=some (.ok (.int v) .strong):=by
 obtain⟨v,a⟩:=rH d h;exact⟨v,λ c b=>p9 c (L3 i5 b) a⟩
def fq(x:Int)(hn:0<n):∃a:Nat,x%(n:Int)=(a:Int)/\a<n:=by
 have q1:=fY x (b:=(n:Int)) KE;have q2:=fM x (b:=(n:Int)) KE;exact⟨(x%(n:Int)).toNat,by omega,by omega⟩
def Jw(R:LG)(b:0<n)(h:evE G F (.var 3) δ=some (Lc (rL rows))):evE G F (Lr 3) δ=some (.ok (Li (m:Int)) .strong):=by
 have a:0<rows.length:=by rw[R.1];exact b
 have t:=N3 (p9 h (i5) (ax a));rw[show(iD _).length=m by unfold iD;rw[g8];exact R.2 _ (E9 a)]at t;exact t
def Jx(R:LG)(h:evE G F (.var 3) δ=some (Lc (rL rows))):evE G F (Lv 3) δ=some (.ok (Li (n:Int)) .strong):=by
 have q:=N3 h;rw[g8,R.1]at q;exact q
abbrev S7(s p:DV)(xs:on Int)(rows:Le)(j:Nat)(y z:Sv):on Sv:=[.val s,.val p,.val (Lw (xs.map DV.int)),.val (rL rows),.val (Li (j:Int)),y,z]
noncomputable def xr:on MS:=[.iff (.and [.cmp .Lt (Lv 3) (.int 8),.cmp .Eq (.bin .Mod (KW 2 (.bin .Add (.int 7) (.var 4))) (.int 2)) (.int 0)]) [.set 5 false (.bin .Mod (KW 2 (.bin .Add (.int 12) (.var 4))) (.bin .Add (Lv 3) (.int 1))),.set 3 false (.bin .Add (.bin .Add (.slt (.var 3) (.var 5)) (.lst [.ix (.var 3) (.bin .Mod (KW 2 (.bin .Add (.int 17) (.var 4))) (Lv 3))])) (.slf (.var 3) (.var 5)))] [.iff (.cmp .Lt (Lr 3) (.int 8)) [.set 5 false (.bin .Mod (KW 2 (.bin .Add (.int 12) (.var 4))) (.bin .Add (Lr 3) (.int 1))),.set 6 false (.bin .Mod (KW 2 (.bin .Add (.int 17) (.var 4))) (Lr 3)),.set 3 false LJ] []]]
def lst1(h:Ly e (.ok d c))(hs:stro d c=true):evE G F (.lst [e]) δ=some (.ok (.lst [d]) .fresh):=IF (g7 h k6) (show 1<=p7 by decide) (by unfold stros;simp[hs])
def Jy(K:xs.length=24)(hj:j<5){d:Sv}(t:Tk n m rows):∃W X g H E,Tk W X g/\evSs G F fu xr (S7 s p xs rows j e d)=some (.nx [.val s,.val p,.val (Lw (xs.map DV.int)),.val (rL g),.val (Li (j:Int)),H,E]):=by
 obtain⟨S,Z⟩:=oI (xs:=xs) (i:=7) (j:=j) KE (by rw[K];omega);obtain⟨u,A⟩:=oI (xs:=xs) (i:=12) (j:=j) KE (by rw[K];omega);obtain⟨o,z⟩:=oI (xs:=xs) (i:=17) (j:=j) KE (by rw[K];omega);have I:∀e d,evE G F (Lv 3) (S7 s p xs rows j e d)=some (.ok (Li (n:Int)) .strong):=λ e d=>Jx t.R (f6 rfl)
 have J:∀e d,evE G F (Lr 3) (S7 s p xs rows j e d)=some (.ok (Li (m:Int)) .strong):=λ e d=>Jw t.R t.n0 (f6 rfl);have C:=b_lt (I e d) (i5 (i:=8));have U:=b_eq (F4 (Z (F:=F) (δ:=(S7 s p xs rows j e d)) (f6 rfl) (f6 rfl)) (i5 (i:=2)) KL) (i5 (i:=0));have B:=b_lt (J e d) (i5 (i:=8));unfold xr;have v:tstD (evE G F (.and [.cmp .Lt (Lv 3) (.int 8),.cmp .Eq (.bin .Mod (KW 2 (.bin .Add (.int 7) (.var 4))) (.int 2)) (.int 0)]) (S7 s p xs rows j e d))=some (.ok (decide ((n:Int)<8)&&(S%2==0))):=by
  cases hd:decide ((n:Int)<8)with
  | false=>rw[hd]at C;exact o6 (iX C)
  | true=>rw[hd]at C;exact o6 (S9 C (Y0 U))
 cases P:decide ((n:Int)<8)&&(S%2==0)with
 | true=>
  rw[P]at v;rw[f7,M3]at P;obtain⟨a,N,M⟩:=fq u (n:=n+1) KE;obtain⟨b,L,k⟩:=fq o t.n0;have Q:evE G F (.bin .Mod (KW 2 (.bin .Add (.int 12) (.var 4))) (.bin .Add (Lv 3) (.int 1))) (S7 s p xs rows j e d)=some (.ok (Li (a:Int)) .strong):=by rw[←N];exact F4 (A (f6 rfl) (f6 rfl)) (add1 (I e d)) KE
  have R:evE G F (.bin .Add (.bin .Add (.slt (.var 3) (.var 5)) (.lst [.ix (.var 3) (.bin .Mod (KW 2 (.bin .Add (.int 17) (.var 4))) (Lv 3))])) (.slf (.var 3) (.var 5))) (S7 s p xs rows j (KU (a:Int)) d)=some (.ok (rL (insR a b rows)) .fresh):=(by have ei:evE G F (.ix (.var 3) (.bin .Mod (KW 2 (.bin .Add (.int 17) (.var 4))) (Lv 3))) (S7 s p xs rows j (KU (a:Int)) d)=some (.ok (Lw (iD (rows.getD b []))) .strong):=(by refine p9 (cx:=.strong) (y:=.int (b:Int)) (cy:=.strong) (f6 rfl) ?_ (ax (by rw[t.R.1];exact k));rw[←L];exact F4 (z (f6 rfl) (f6 rfl)) (I _ d) KE);have q:=jc (jc (oF (F:=F) (δ:=(S7 s p xs rows j (KU (a:Int)) d)) (a:=.var 3) (b:=.var 5) (c:=.strong) (c1:=.strong) (ds:=rows.map λ r=>.lst (iD r)) (h:=a) (f6 rfl) (f6 rfl)) (lst1 ei rfl) (by rw[F8,g8,t.R.1];simp;have:=t.n8;omega)) (xl (F:=F) (δ:=(S7 s p xs rows j (KU (a:Int)) d)) (a:=.var 3) (b:=.var 5) (c:=.strong) (c1:=.strong) (ds:=rows.map λ r=>.lst (iD r)) (h:=a) (f6 rfl) (f6 rfl)) (by rw[t9,F8,aI,g8,t.R.1];simp;have:=t.n8;omega);rw[q];unfold rL insR;rw[C4,C4,Z1,gp];rfl);exact⟨_,_,_,_,_,t.row (a:=a) (s:=b) KE KE k,P6 v (j9 (o7 Q rfl) (j9 (o7 R rfl) rfl)) rfl⟩
 | false=>
  rw[P]at v;cases O:decide ((m:Int)<8)with
  | false=>
   rw[O]at B;exact⟨n,m,rows,e,d,t,hH v (v9 (o6 B) rfl) rfl⟩
  | true=>
   rw[O]at B;rw[M3]at O;obtain⟨a,N,M⟩:=fq u (n:=m+1) KE;obtain⟨b,L,k⟩:=fq o t.m0;have Q:evE G F (.bin .Mod (KW 2 (.bin .Add (.int 12) (.var 4))) (.bin .Add (Lr 3) (.int 1))) (S7 s p xs rows j e d)=some (.ok (Li (a:Int)) .strong):=by rw[←N];exact F4 (A (f6 rfl) (f6 rfl)) (add1 (J e d)) KE
   have R:evE G F LJ (S7 s p xs rows j (KU (a:Int)) (KU (b:Int)))=some (.ok (rL (rows.map (ins a b))) .fresh):=by
    have q:=F0 (F:=F) (δ:=(S7 s p xs rows j (KU (a:Int)) (KU (b:Int)))) (l:=rows) (h:=λ r=>.lst (iD r)) (f:=λ r=>.lst (iD (ins a b r))) (tg:=.one 0) (it:=.var 3) (fr:=[none,some 5,some 6]) (cl:=.strong) rfl KL (by rw[t.R.1];exact i7 t.n8 KL) λ r Y=>by
     refine⟨[.val (Lw (iD r)),.val (Li (a:Int)),.val (Li (b:Int))],.fresh,rfl,?_,rfl⟩;have x:=t.R.2 r Y;have w:(iD r).length=m:=by unfold iD;rw[g8,x]
     have q:=jc (jc (oF (F:=F) (δ:=[.val (Lw (iD r)),.val (Li (a:Int)),.val (Li (b:Int))]) (a:=.var 0) (b:=.var 1) (c:=.strong) (c1:=.strong) (ds:=iD r) (h:=a) (f6 rfl) (f6 rfl)) (lst1 (p9 (a:=.var 0) (b:=.var 2) (cx:=.strong) (f6 rfl) (f6 rfl) (iV (r:=r) (j:=b) (by rw[x];exact k))) rfl) (by rw[F8,w];simp;omega)) (xl (F:=F) (δ:=[.val (Lw (iD r)),.val (Li (a:Int)),.val (Li (b:Int))]) (a:=.var 0) (b:=.var 1) (c:=.strong) (c1:=.strong) (ds:=iD r) (h:=a) (f6 rfl) (f6 rfl)) (by rw[t9,F8,aI,w];simp;omega);rw[q];unfold ins iD;rw[C4,C4,Z1,gp];rfl
    rw[q];unfold rL;rw[o9];rfl
   exact⟨_,_,_,_,_,t.colm (a:=a) (s:=b) KE KE k,hH v (P6 (o6 B) (j9 (o7 Q rfl) (j9 (o7 ((by rw[←L];exact F4 (z (f6 rfl) (f6 rfl)) (J _ d) KE)) rfl) (j9 (o7 R rfl) rfl))) rfl) rfl⟩
def oK(a:rows.length<=8)(h:r3 (La e)=some (Lc (rows.map λ r=>.lst (iD r)))):evE G F (.bi .tuple [.comp (.bi .tuple [.var 0]) (.one 0) e [none]]) δ=some (.ok Mc .strong):=
 ff (F0 h KL (i7 a KL) λ r hr=>⟨[.val _],.strong,rfl,rfl,rfl⟩)
def Jz(b:on Int)(v:b.length<=63):∃(n m:Nat) (rows:Le),Tk n m rows/\run G T fu (k+3) 28 [.scr b,.int 2]=some (.v Mc false):=by
 obtain⟨A,M⟩:=nL b 0;obtain⟨o,r,st⟩:=xj A 24 KL;obtain⟨n,m,rows,C,B,H,E,R,O,co⟩:=Jv (k:=k) b v o r;obtain⟨N,L⟩:=bf (i:=6) KE (by rw[r];omega);obtain⟨y,u,K⟩:=fq N (n:=5) KL;obtain⟨z,J,p,q,a,l,h,f,c,rfl⟩:=S0 (i:=4) (I:=λ _ x=>∃n m rows l h f,Tk n m rows/\x=[.val (.scr b),.val (.int 2),.val (Lw (o.map DV.int)),.val (rL rows),l,h,f])
  y 0
  (λ j hj x I=>by
   obtain⟨n,m,rows,l,h,f,t,rfl⟩:=I;rw[show(0:Int)+(j:Int)=j by omega];obtain⟨p,q,a,g,d,c,e⟩:=Jy (F:=run G T fu (k+2)) (fu:=fu) r (j:=j) KE t;exact⟨_,e,p,q,a,_,g,d,c,rfl⟩) ⟨n,m,rows,.no,.no,.no,(⟨C,by omega,H,by omega,R,xq (by rw[R.1];exact B),xq (by rw[H9];exact E),O⟩),rfl⟩
 refine⟨p,q,a,c,?_⟩;rw[r6 rfl rfl];unfold vM;have w:evE G (KY (k+2)) (.bin .Mod (KW 2 (.int 6)) (.int 5)) [.val (.scr b),.val (.int 2),.val (Lw (o.map DV.int)),.val (rL rows),.no,.no,.no]=some (.ok (Li (y:Int)) .strong):=by rw[←u];exact F4 (L (f6 rfl)) i5 KL
 exact t6 (j9 (o7 (k7 (fr:=true) (g7 (k7 (fr:=false) (LM (g7 i5 k6)) rfl M) (g7 i5 k6)) rfl st) rfl)
  (j9 (o7 (k7 (fr:=false) (g7 (f6 rfl) (g7 (f6 rfl) (LM k6))) rfl co) rfl) (K9 (V7 w KE) (.inr rfl) J (p8 (v4 (oK (by rw[c.R.1];exact c.n8) rfl))))))
variable {fu k:Nat} {F:Nat->on DV->Kr Ou} {δ:on Sv} {ds:on DV} {cl:Cl} {n m:Nat} {f:Nat->Nat->Int} {d:DV} {rows:on (on Int)}
def oM(e:KM a cx (.int i))(d:KM b cy (.int j))(c:0<=j):evE G F (.bin .RShift a b) δ=some (.ok (Li (i/2^j.toNat)) .strong):=
 J8 e d (f8 c)
noncomputable def shl(n:Nat):on (on Int):=(Lb n).map λ (r:Nat)=>(Lb 3).map λ (c:Nat)=>(r:Int)/2^(c:Int).toNat%2
noncomputable def idn(n:Nat):on (on Int):=(Lb n).map λ (r:Nat)=>(Lb n).map λ (c:Nat)=>if((r:Int)==(c:Int))then(1:Int)else 0
def JA:∀N∈[6,7,8],(sm (FI (shl N)).length (FI (flip 3 (shl N))).length=false/\sm (FI (idn N)).length (FI (flip N (idn N))).length=false)/\(sm (FI (flip 3 (shl N))).length (FI (flip N (flip 3 (shl N)))).length=false/\sm (FI (flip N (idn N))).length (FI (flip N (flip N (idn N)))).length=false):=by decide +kernel
def JB(c:Int):∃(n m:Nat) (rows:Le),3<=n/\n<=8/\3<=m/\m<=8/\Rect n m rows/\sm (Lf).length (FI KQ).length=false/\run G T fu (k+1) 35 [.int c]=some (.v Mc false):=by
 obtain⟨N,J,I,g⟩:∃N:Nat,6+c%3=(N:Int)/\6<=N/\N<=8:=⟨(6+c%3).toNat,by omega,by omega,by omega⟩;have w:=JA N (by
  have:N=6\/N=7\/N=8:=by omega
  rcases this with h | h | h<;>rw[h]<;>decide)
 have y:evE G (KY k) (.comp (.comp (.bin .Mod (.bin .RShift (.var 1) (.var 0)) (.int 2)) (.one 0) (.rng [.int 3]) [none,some 0]) (.one 0) (.rng [.var 1]) [none]) [.val (.int c),.val (Li (N:Int)),.no]=some (.ok (rL (shl N)) .fresh):=
  fj (n:=N) (m:=3) (f6 rfl) g KL λ r F=>⟨[.val (Li (r:Int))],rfl,rfl,λ c H=>⟨[.val (Li (c:Int)),.val (Li (r:Int))],rfl,F4 (oM (f6 rfl) (f6 rfl) (G2 c)) i5 KL⟩⟩
 have E:∀v,evE G (KY k) (.comp (.comp (.bi .int [.cmp .Eq (.var 1) (.var 0)]) (.one 0) (.rng [.var 1]) [none,some 0]) (.one 0) (.rng [.var 1]) [none,some 1]) [.val (.int c),.val (Li (N:Int)),.val v]=some (.ok (rL (idn N)) .fresh):=λ v=>
  fj (n:=N) (m:=N) (f6 rfl) g g λ r F=>⟨[.val (Li (r:Int)),.val (Li (N:Int))],rfl,f6 rfl,λ c H=>⟨[.val (Li (c:Int)),.val (Li (r:Int))],rfl,jf (b_eq (f6 rfl) (f6 rfl))⟩⟩
 have C:∀v,evE G (KY k) (.cmp .Eq (.bin .Mod (.bin .FloorDiv (.var 0) (.int 3)) (.int 2)) (.int 0)) [.val (.int c),.val (Li (N:Int)),.val v]=some (.ok (.bl (c/3%2==0)) .strong):=λ v=>b_eq (F4 (lB (f6 rfl) i5 KL) i5 KL) i5;have B:∀v,evE G (KY k) (.cmp .Eq (.bin .Mod (.bin .FloorDiv (.var 0) (.int 6)) (.int 2)) (.int 1)) [.val (.int c),.val (Li (N:Int)),.val v]=some (.ok (.bl (c/6%2==1)) .strong):=λ v=>b_eq (F4 (lB (f6 rfl) i5 KL) i5 KL) i5;have z:evE G (KY k) (.bin .Add (.int 6) (.bin .Mod (.var 0) (.int 3))) (n9 3 [.int c])=some (.ok (Li (N:Int)) .strong):=by rw[←J];exact L3 i5 (F4 (f6 rfl) i5 KL)
 have f:∀(n m:Nat) (rows:Le),3<=n->n<=8->3<=m->m<=8->Rect n m rows->sm (Lf).length (FI KQ).length=false->sm (FI KQ).length (FI (flip n KQ)).length=false ->
   ∃(x u:Nat) (d:Le),3<=x/\x<=8/\3<=u/\u<=8/\Rect x u d/\sm (FI d).length (FI (flip u d)).length=false/\evSs G (KY k) fu (av.body.drop 3) _=some (.rt (tT d) false):=λ n m rows p l o j R L K=>by
  unfold av;simp only[fK,dr];have q:=B (rL rows);cases h:c/6%2==1 with
  | true=>
   rw[h]at q;have A:=be R;exact⟨m,n,flip m rows,o,j,p,l,A,K,P6 (o6 q) (j9 (o7 (xm 2 rows n m R KE l j rfl) rfl) rfl) (p8 (v4 (cl:=.strong) (oK (by rw[A.1];exact j) rfl)))⟩
  | false=>
   rw[h]at q;exact⟨n,m,rows,p,l,o,j,R,L,v9 (o6 q) (p8 (v4 (cl:=.strong) (oK (by rw[R.1];exact l) rfl)))⟩
 unfold av at f;simp only[fK,dr]at f;have q:=C (rL (shl N));cases h:c/3%2==0 with
 | true=>
  rw[h]at q;obtain⟨n,m,rows,p,l,o,j,R,b,e⟩:=f N N (idn N) KE g KE g (fk _) w.1.2 w.2.2;refine⟨n,m,rows,p,l,o,j,R,b,?_⟩;rw[r6 (fd:=av) rfl rfl];unfold av;exact t6 (j9 (o7 z rfl) (j9 (o7 y rfl) (P6 (o6 q) (j9 (o7 (E _) rfl) rfl) e)))
 | false=>
  rw[h]at q;obtain⟨n,m,rows,p,l,o,j,R,b,e⟩:=f N 3 (shl N) KE g KE KE (fk _) w.1.1 w.2.1;refine⟨n,m,rows,p,l,o,j,R,b,?_⟩;rw[r6 (fd:=av) rfl rfl];unfold av;exact t6 (j9 (o7 z rfl) (j9 (o7 y rfl) (v9 (o6 q) e)))
def lenT(R:LG)(h:evE G F e δ=some (Lc (tT rows))):evE G F (.bi .len [e]) δ=some (.ok (Li (n:Int)) .strong):=by
 have q:=V8 h;rw[g8,R.1]at q;exact q
def oN(R:LG)(b:0<n)(h:evE G F e δ=some (Lc (tT rows))):evE G F (.bi .len [.ix e (.int 0)]) δ=some (.ok (Li (m:Int)) .strong):=by
 have a:0<rows.length:=by rw[R.1];exact b
 have t:=V8 (p9 h (i5) (aw a));rw[show(iD _).length=m by unfold iD;rw[g8];exact R.2 _ (E9 a)]at t;exact t
def JC(R:LG)(K:0<n)(y:n<=8)(z:m<=8):run G T fu (k+1) 29 [tT rows]=some (.v (rL (sub rows Lf (FI KQ))) true):=by
 have i:rows.length=n:=R.1;have w:=Jo R;have M:0<(Lf).length:=Q3 (by rw[i];exact K);have o:(Lf).length<=8:=i7 (fh rows) (by rw[i];exact y);have C:r3 (evE G (KY k) (.rng [.bi .len [.var 0]]) (n9 4 [tT rows]))=some (.ok ((Lb n).map λ (j:Nat)=>DV.int (j:Int)) .fresh):=(by have t:=V8 (F:=run G T fu k) (δ:=n9 4 [tT rows]) (e:=.var 0) (ds:=rows.map λ r=>.tup (iD r)) (c:=.strong) rfl;rw[g8,i]at t;exact cJ t KE);have s1:=cF (F:=run G T fu k) (δ:=n9 4 [tT rows]) (l:=List.range n) (h:=λ (j:Nat)=>DV.int (j:Int)) (f:=λ j=>.lst (iD (rows.getD j []))) (p:=λ r=>rows.idxOf (rows.getD r [])==r) (cd:=.cmp .NotIn (KW 1 (.var 0)) (.slt (.var 1) (.var 0))) (tg:=.one 0) (fr:=[none,some 0]) C KL (by rw[C3];exact i7 y KL) λ j g=>by
   have d:j<rows.length:=by rw[i];exact u0.mp g
   have A:evE G (KY k) (KW 1 (.var 0)) [.val (Li (j:Int)),.val Mc]=some (.ok (.tup (iD (rows.getD j []))) .strong):=p9 (cx:=.strong) (f6 rfl) (f6 rfl) (aw d);refine⟨[.val (Li (j:Int)),.val Mc],rfl,o6 (cl:=.strong) ?_,.fresh,Jn (c:=.strong) A,rfl⟩;rw[←jd d];exact F3 A (Jm d (f6 rfl) (f6 rfl)) (Jk _)
 have B:r3 (evE G (KY k) (.rng [.bi .len [.var 2]]) [.val Mc,.val (rL (fsts rows)),.val (rL Mp),.no])=some (.ok ((Lb m).map λ (j:Nat)=>DV.int (j:Int)) .fresh):=(by have t:=N3 (F:=run G T fu k) (δ:=[.val Mc,.val (rL (fsts rows)),.val (rL Mp),.no]) (e:=.var 2) (ds:=(Mp).map λ r=>.lst (iD r)) (c:=.strong) rfl;rw[g8,H9]at t;exact cJ t KE);have H:=cF (F:=run G T fu k) (l:=List.range m) (h:=λ (j:Nat)=>DV.int (j:Int)) (f:=λ (j:Nat)=>DV.int (j:Int)) (p:=λ r=>(Mp).idxOf ((Mp).getD r [])==r) (elt:=.var 0) (cd:=.cmp .NotIn (KW 1 (.var 0)) (.slt (.var 1) (.var 0))) (tg:=.one 0) (fr:=[none,some 2]) B KL (by rw[C3];exact i7 z KL) λ j g=>by
   have d:j<(Mp).length:=by rw[H9];exact u0.mp g
   refine⟨[.val (Li (j:Int)),.val (rL Mp)],rfl,o6 (cl:=.strong) ?_,.strong,f6 rfl,rfl⟩;rw[←jd d];have x:=oF (F:=run G T fu k) (δ:=[.val (Li (j:Int)),.val (rL Mp)]) (a:=.var 1) (b:=.var 0) (c:=.strong) (c1:=.strong) (h:=j) (f6 rfl) (f6 rfl);rw[←Z1]at x;exact F3 (p9 (f6 rfl) (f6 rfl) (ax d)) x (Jl _)
 have v:evE G (KY k) (.compi (.var 0) (.one 0) (.rng [.bi .len [.var 2]]) (.cmp .NotIn (KW 1 (.var 0)) (.slt (.var 1) (.var 0))) [none,some 2]) [.val Mc,.val (rL (fsts rows)),.val (rL Mp),.no]=some (.ok (.lst (nD (FI KQ))) .fresh):=(by rw[H,←Jq R];unfold nD FI;rw[H9]);have L:∀j∈FI (flip m rows),j<m:=λ j g=>by have:=Y1 g;rw[H9]at this;exact this
 have I:(FI KQ).length<=8:=by have:=fh KQ;rw[H9]at this;omega
 have E:=F0 (F:=run G T fu k) (δ:=[.val Mc,.val (rL (fsts rows)),.val (rL Mp),.val (.lst (nD (FI KQ)))]) (l:=fsts rows) (h:=λ r=>.lst (iD r)) (f:=λ r=>.lst (iD ((FI KQ).map λ j=>r.getD j 0))) (tg:=.one 0) (it:=.var 1) (fr:=[none,some 3]) (cl:=.strong) rfl KL (by rw[w.1];exact i7 o KL) λ r J=>by
   refine⟨[.val (Lw (iD r)),.val (.lst (nD (FI KQ)))],.fresh,rfl,?_,rfl⟩;have q:=F0 (F:=run G T fu k) (δ:=[.val (Lw (iD r)),.val (.lst (nD (FI KQ)))]) (l:=FI KQ) (h:=λ (j:Nat)=>DV.int (j:Int)) (f:=λ j=>.int (r.getD j 0)) (elt:=.ix (.var 1) (.var 0)) (tg:=.one 0) (it:=.var 1) (fr:=[none,some 0]) (cl:=.strong) rfl KL (i7 I KL) λ j g=>
    ⟨[.val (Li (j:Int)),.val (Lw (iD r))],.strong,rfl,p9 (cx:=.strong) (f6 rfl) (f6 rfl) (iV (by rw[w.2 r J];exact L j g)),rfl⟩
   rw[q];unfold iD;rw[o9];rfl
 rw[r6 (fd:=nG) rfl rfl];unfold nG;have u:evE G (KY k) (.comp (.comp (KW 1 (.var 0)) (.one 0) (.var 1) [none,some 0]) (.one 0) (.var 1) [none,some 3]) [.val Mc,.val (rL (fsts rows)),.val (rL Mp),.val (.lst (nD (FI KQ)))]=some (.ok (rL (sub rows Lf (FI KQ))) .fresh):=by rw[E];unfold rL sub fsts;rw[o9,o9];rfl
 exact t6 (j9 (o7 ((by rw[s1];unfold rL fsts FI;rw[o9,i];rfl)) rfl) (j9 (o7 (xm 1 (fsts rows) _ m w M o z rfl) rfl) (j9 (o7 v rfl) (p8 (v4 u)))))
noncomputable def minN:on Nat->Nat
 | []=>0
 | x::r=>if r.isEmpty then x else min x (minN r)
theorem oO:∀{l:on Nat},l≠[]->minN l∈l/\∀x∈l,minN l<=x
 | [],h=>absurd rfl h
 | [x],_=>⟨by simp[minN],by simp[minN]⟩
 | x::y::r,_=>by
  obtain⟨c,b⟩:=oO (l:=y::r) KS;have e:minN (x::y::r)=min x _:=rfl;rw[e];refine⟨?_,λ z a=>?_⟩
  ·by_cases q:x<=minN (y::r)
   ·rw[dh q];exact o5
   ·rw[jU KE];exact o4 _ c
  ·rcases i6.mp a with q | q
   ·rw[q];exact Nat.min_le_left ..
   ·exact i7 (Nat.min_le_right ..) (b z q)
def jg(c:z∈l)(d:∀x∈l,z<=x):z=minN l:=by
 obtain⟨a,b⟩:=oO (l:=l) (by rintro rfl;cases c);exact Nat.le_antisymm (d _ a) (b _ c)
def stp(J:Jt)(f:Mx)(V:Nat->Nat->Nat)(R C:Nat):Nat:=if wn f R C=1 then J.g else minN ((wl R C).map λ w=>J.j (V w.2.2.1.1 w.2.2.1.2) (V w.2.2.2.1 w.2.2.2.2))
def zZ(J:Jt)(f:Mx):Nat->Nat->Nat->Nat
 | 0,_,_=>0
 | n+1,R,C=>stp J f (zZ J f n) R C
def oP(h:w∈wl R C):(∃g,Sb g R/\g<R - g/\w.2.2=((R - g,C),(g,C)))\/∃g,Sb g C/\g<C - g/\w.2.2=((R,C - g),(R,g)):=by
 unfold wl at h;rcases F1.mp h with q | q
 ·obtain⟨g,a,rfl⟩:=i8.mp q;exact .inl ⟨g,(ay a).1,(ay a).2,rfl⟩
 ·obtain⟨g,a,rfl⟩:=i8.mp q;exact .inr ⟨g,(ay a).1,(ay a).2,rfl⟩
def JD(h:w∈wl R C):w.2.2.1.1+w.2.2.1.2<R+C/\w.2.2.2.1+w.2.2.2.2<R+C:=by
 rcases oP h with⟨g,s,_,e⟩ | ⟨g,s,_,e⟩
 ·rw[e];have:=s.1;have:=s.2.1;dsimp only;omega
 ·rw[e];have:=s.1;have:=s.2.1;dsimp only;omega
def xt{V:Nat->Nat->Nat}(h:∀r c,r+c<R+C->V r c=W r c):stp J f V R C=stp J f W R C:=by
 unfold stp;split
 ·rfl
 ·congr 1
  apply M1;intro w d;obtain⟨a,b⟩:=JD d;rw[h _ _ a,h _ _ b]
theorem oQ(f:Mx):∀(N n R C:Nat),n<=N->R+C<=n->zZ J f n R C=zZ J f (R+C) R C
 | 0,n,R,C,b,a=>by rw[show R+C=n by omega]
 | N+1,n,R,C,b,a=>by
  by_cases e:R+C=n
  ·rw[e]
  ·obtain⟨m,rfl⟩:∃m,n=m+1:=⟨n - 1,by omega⟩;cases hk:R+C with
   | zero=>
    obtain rfl:R=0:=by omega
    obtain rfl:C=0:=by omega
    show stp J f _ 0 0=0;unfold stp;split
    ·rename_i h;have:wn f 0 0=0:=rfl;omega
    ·rfl
   | succ k=>
    show stp J f _ R C=stp J f _ R C;exact xt λ r c h=>by rw[oQ f N m r c KE KE,oQ f N k r c KE KE]
def V(J:Jt)(f:Mx)(R C:Nat):Nat:=zZ J f (R+C) R C
def V_eq(f:Mx)(h:0<R+C):V J f R C=stp J f (V J f) R C:=by
 unfold V;cases hk:R+C with
 | zero=>omega
 | succ k=>
  show stp J f _ R C=_;exact xt λ r c h=>oQ f k k r c (i9 _) KE
def r1(n:Nat):on Nat:=(Lb (n - 1)).map (· + 1)
def bg:j∈r1 n↔0<j/\j<n:=by
 unfold r1;rw[i8];constructor
 ·rintro⟨i,h,rfl⟩;have:=u0.mp h;omega
 ·rintro⟨h1,h2⟩;exact⟨j - 1,u0.mpr KE,by omega⟩
def xu(h:0<c):r1 (c+1)=r1 c++[c]:=by
 unfold r1;obtain⟨d,rfl⟩:∃d,c=d+1:=⟨c - 1,by omega⟩;rw[show d+1+1 - 1=d+1 by omega,show d+1 - 1=d by omega,aK,C4];rfl
noncomputable def ps(b r c:Nat):on (Nat×Nat):=(r1 r).flatMap (λ i=>(r1 (2^b)).map λ j=>(i,j))++(r1 c).map λ j=>(r,j)
def L7:q∈ps b r c↔(0<q.1/\q.1<r/\0<q.2/\q.2<2^b)\/(q.1=r/\0<q.2/\q.2<c):=by
 unfold ps;rw[F1,List.mem_flatMap,i8];constructor
 ·rintro(⟨i,h1,h2⟩ | ⟨j,h,rfl⟩)
  ·obtain⟨j,a,rfl⟩:=i8.mp h2;have:=bg.mp h1;have:=bg.mp a;exact .inl ⟨by omega,by omega,by omega,by omega⟩
  ·exact .inr ⟨rfl,bg.mp h⟩
 ·rintro(⟨h1,h2,a,h4⟩ | ⟨h1,h2,a⟩)
  ·exact .inl ⟨q.1,bg.mpr ⟨h1,h2⟩,i8.mpr ⟨q.2,bg.mpr ⟨a,h4⟩,rfl⟩⟩
  ·exact .inr ⟨q.2,bg.mpr ⟨h2,a⟩,by rw[←h1]⟩
def xv(h:0<c):ps b r (c+1)=ps b r c++[(r,c)]:=by
 unfold ps;rw[xu h,C4,Q9];rfl
def jh(h:0<r):ps b (r+1) 1=ps b r (2^b):=by
 unfold ps;rw[xu h,cV];show _++[]=_;rw[B3]
 congr 1
 simp
def xw(b:Nat):ps b 1 1=[]:=rfl
def lx(p q:Nat×Nat):Prop:=p.1<q.1\/(p.1=q.1/\p.2<q.2)
theorem xx(h:(ps b r 1).Pairwise lx):∀d,(ps b r (d+1)).Pairwise lx
 | 0=>h
 | d+1=>by
  rw[xv KE];refine jA.mpr ⟨xx h d,pR _ _,λ p c q a=>?_⟩;rw[w4.mp a];rcases L7.mp c with z | z
  ·exact .inl z.2.1
  ·exact .inr ⟨z.1,z.2.2⟩
theorem xy(b:Nat):∀d,(ps b (d+1) 1).Pairwise lx
 | 0=>by rw[xw];exact .nil
 | d+1=>by
  rw[jh KE];have:=xx (xy b d) (2^b - 1)
  rwa [show 2^b - 1+1=2^b by have:=U2 b;omega]at this
def ji(n:Nat):(r1 n).length=n - 1:=by unfold r1;rw[g8,C3]
theorem oR(b:Nat):∀d,(ps b (d+1) 1).length=d*(2^b - 1)
 | 0=>by rw[xw];simp
 | d+1=>by
  have e:ps b (d+1) (2^b)=ps b (d+1) 1++(r1 (2^b)).map λ j=>(d+1,j):=by unfold ps;rw[Q9];rfl
  rw[jh KE,e,t9,g8,ji,oR b d,gu]
def tbl(J:Jt)(f:Mx)(b r c:Nat):Tb:=(ps b r c).map λ p=>(p,V J f p.1 p.2)
theorem xz{V:Nat×Nat->Nat}:∀l:on (Nat×Nat),(l.map λ p=>(p,V p)).lookup q=if q∈l then some (V q)else none
 | []=>rfl
 | p::l=>by
  rw[A3,G4];by_cases e:q=p
  ·subst e;simp
  ·rw[show(q==p)=false from x8.mpr e];show(l.map λ p=>_).lookup q=_;rw[xz l];simp[e]
def az(q:Nat×Nat):(tbl J f b r c).lookup q=if q∈ps b r c then some (V J f q.1 q.2)else none:=xz _
def xA(f:Mx)(b r c:Nat):(tbl J f b r c).length=(ps b r c).length:=g8 ..
def xB(a:b<=5)(R0:0<R)(hR:R<=32)(hC:C<=32):(ps b R C).length<=1000:=by
 have e:ps b R C=ps b R 1++(r1 C).map λ j=>(R,j):=by unfold ps;rw[Q9];rfl
 obtain⟨d,rfl⟩:∃d,R=d+1:=⟨R - 1,by omega⟩;rw[e,t9,g8,ji,oR];have pb:=p32 a;have:d*(2^b - 1)<=31*31:=gc KE KE;omega
def JE(c:0<C)(a:C<2^b)(R0:0<R)(h:w∈wl R C):w.2.2.1∈ps b R C/\w.2.2.2∈ps b R C:=by
 rcases oP h with⟨g,s,_,e⟩ | ⟨g,s,_,e⟩
 ·have:=s.1;have:=s.2.1;rw[e];exact(LQ (.inl ⟨by dsimp only;omega,by dsimp only;omega,c,a⟩))
 ·have:=s.1;have:=s.2.1;rw[e];exact(LQ (.inr ⟨rfl,by dsimp only;omega,by dsimp only;omega⟩))
def wv(J:Jt)(f:Mx)(w:Wy):Nat:=J.j (V J f w.2.2.1.1 w.2.2.1.2) (V J f w.2.2.2.1 w.2.2.2.2)
def xC(h:0<C):tbl J f b R (C+1)=tbl J f b R C++[((R,C),V J f R C)]:=by
 unfold tbl;rw[xv h,C4];rfl
def oT(d:R<32)(e:C<32)(h:0<R)(i:0<C)(g:2<=wn f R C):wl R C≠[]:=by
 intro a;unfold wl at a;obtain⟨c,b⟩:=List.append_eq_nil_iff.mp a;rcases IZ d e h i g with q | q
 ·exact q (bp.mp c)
 ·exact q (bp.mp b)
def JF{rest:on (on Int)}(P:JOk J)(t:DV)(x:Rect a b rest)(v:W9 rest)(U:0<a)(n:a<=5)(j:b<=5)(f:0<R)(B:R<2^a)(g:0<C)(u:C<2^b)(w:Sv) :
  ∃H,evSs G (KY (k+3)) fu lnB (lnD J t rest (tbl J Lj b R C) (KU R) (KU C) w)=some (.nx (lnD J t rest (tbl J Lj b R (C+1)) (KU R) (KU C) H)):=by
 have pa:=p32 n;have pb:=p32 j;have o:R<32:=by omega
 have p:C<32:=by omega
 have e:(tbl J Lj b R C).length<100000:=by rw[xA];have:=xB (b:=b) (R:=R) (C:=C) j f KE KE;omega
 have y:(tbl J Lj b R C).lookup (R,C)=none:=by
  rw[az,g9 λ z=>?_];rcases L7.mp z with q | q
  ·have:=q.2.1;dsimp only at this;omega
  ·have:=q.2.2;dsimp only at this;omega
 have r:=Jb (fu:=fu) (k:=k) (δ:=lnD J t rest (tbl J Lj b R C) (KU R) (KU C) w) x v U n j f B g u rfl rfl rfl;have c:=oy r (i5 (i:=((1:Nat):Int)));have E:=oC x v n j f B g u;have d:=V_eq (J:=J) Lj (R:=R) (C:=C) KE;unfold stp at d;rw[xC g];by_cases m:wn Lj R C=1
 ·rw[m]at c;rw[f8 m]at d;rw[d];exact⟨w,P6 (o6 c) (j9 (oA (z:=J.g) rfl (f6 rfl) (f6 rfl) (f6 rfl) y e) rfl) rfl⟩
 ·have I:=x8.mpr m;rw[I]at c;rw[g9 m]at d;have Q:2<=wn Lj R C:=by omega
  have S:=F0 (F:=run G T fu (k+3)) (δ:=lnD J t rest (tbl J Lj b R C) (KU R) (KU C) (.val (Lw ((wl R C).map wD)))) (l:=wl R C) (h:=wD) (elt:=.callv 4 [("joined_ends",15)] [.dgp 5 (.var 2),.dgp 5 (.var 3)]) (tg:=.many [0,1,2,3]) (it:=.var 7) (fr:=[none,none,none,none,some 2,some 4]) (cl:=.strong) rfl KL
   (by unfold wl;rw[t9,g8,g8];exact i7 (gf (cH o) (cH p)) KL) λ w N=>by obtain⟨L,K⟩:=JE g u f N;refine⟨[.val w.1,.val (Li w.2.1),.val _,.val _,.val (.fn J.nm),.od _],.strong,rfl,?_,rfl⟩;exact xg (k:=k+2) P rfl (g7 (wX rfl (f6 rfl) (by rw[az,f8 L])) (g7 (wX rfl (f6 rfl) (by rw[az,f8 K])) k6))
  have ne:(wl R C).map (wv J Lj)≠[]:=λ z=>oT o p f g Q (bp.mp z);obtain⟨z,M,O,A⟩:=wZ ((by rw[S];unfold nD;rw[o9];rfl)) ne;rw[jg M O,show minN ((wl R C).map (wv J Lj))=V J Lj R C from d.symm]at A;exact⟨_,hH (o6 c) (j9 (o7 (k7 rfl rfl (wU o p)) rfl) (j9 (oA (z:=V J Lj R C) rfl A (f6 rfl) (f6 rfl) y e) rfl)) rfl⟩
def JG{rest:on (on Int)}(m:JOk J)(t:DV)(g:Rect a b rest)(f:W9 rest)(o:0<a)(l:a<=5)(i:b<=5)(q:0<R)(p:R<2^a)(y w:Sv) :
  ∃δ',C6 (.one 6) (λ δ'=>evSs G (KY (k+3)) fu lnB δ') (upTo 1 (2^b - 1)) (lnD J t rest (tbl J Lj b R 1) (KU R) y w)=some (.nx δ')/\∃d c,δ'=lnD J t rest (tbl J Lj b R (2^b - 1+1)) (KU R) d c:=by
 refine S0 (I:=λ j δ'=>∃d c,δ'=lnD J t rest (tbl J Lj b R (j+1)) (KU R) d c) _ 1 (λ j hj δ h=>?_) ⟨y,w,rfl⟩;obtain⟨d,c,rfl⟩:=h;obtain⟨w2,e⟩:=JF m t g f o l i q p (C:=j+1) KE KE c;have n:(lnD J t rest (tbl J Lj b R (j+1)) (KU R) d c).set 6 (KU (1+(j:Int)))=lnD J t rest (tbl J Lj b R (j+1)) (KU R) (KU ((j+1:Nat):Int)) c:=by show lnD J t rest _ (KU R) (KU (1+(j:Int))) c=_;rw[show(1:Int)+_=((j+1:Nat):Int) by omega]
 exact⟨_,by rw[n];exact e,_,_,rfl⟩
def JH{rest:on (on Int)}(s:JOk J)(t:DV)(g:Rect a b rest)(q:W9 rest)(o:0<a)(r:a<=5)(n:b<=5)(x y w:Sv) :
  ∃δ',C6 (.one 5) (λ δ'=>evSs G (KY (k+3)) fu [lnF] δ') (upTo 1 (2^a - 1)) (lnD J t rest [] x y w)=some (.nx δ')/\∃f c d,δ'=lnD J t rest (tbl J Lj b (2^a - 1+1) 1) f c d:=by
 have pb:=p32 n;have b1:=U2 b;refine S0 (I:=λ j δ'=>∃f c d,δ'=lnD J t rest (tbl J Lj b (j+1) 1) f c d) _ 1 (λ j hj δ h=>?_) ⟨x,y,w,rfl⟩;obtain⟨f,c,d,rfl⟩:=h;obtain⟨p,e,y2,w2,rfl⟩:=JG s t g q o r n (R:=j+1) KE KE c d;rw[show 2^b - 1+1=2^b by omega]at e;have v:(lnD J t rest (tbl J Lj b (j+1) 1) f c d).set 5 (KU (1+(j:Int)))=lnD J t rest (tbl J Lj b (j+1) 1) (KU ((j+1:Nat):Int)) c d:=(by show lnD J t rest (tbl J Lj b (j+1) 1) (KU (1+(j:Int))) c d=_;rw[show(1:Int)+(j:Int)=((j+1:Nat):Int) by omega]);have u:tbl J Lj b (j+1) (2^b)=tbl J Lj b (j+1+1) 1:=by unfold tbl;rw[jh KE]
 rw[u]at e;have l:0<rest.length:=by rw[g.1];exact o
 have m:=V8 (F:=run G T fu (k+3)) (δ:=lnD J t rest (tbl J Lj b (j+1) 1) (KU ((j+1:Nat):Int)) c d) (p9 (a:=.var 3) (b:=.int 0) (cx:=.strong) (f6 rfl) (i5 (i:=((0:Nat):Int))) (aw l));rw[show(iD (rest.getD 0 [])).length=b by unfold iD;rw[g8];exact g.2 _ (E9 l)]at m;exact⟨_,by rw[v];exact K9 (cG (jb m KE) KE) (.inr rfl) e rfl,_,_,_,rfl⟩
def ft(J:Jt)(m:Nat)(rows:Le):Tb:=tbl J (mf Mm) (FI KQ).length (2^(Lf).length) 1
def jj:Rect (Lf).length (FI KQ).length (rst m rows):=by
 refine⟨by unfold rst sub;rw[g8],λ r a=>?_⟩;obtain⟨i,_,rfl⟩:=i8.mp a;rw[g8]
def oU(a:LG)(b:W9 rows):W9 (rst m rows):=λ r d x c=>by
 obtain⟨i,f,rfl⟩:=i8.mp d;obtain⟨j,e,rfl⟩:=i8.mp c;have:=Y1 f;have:=Y1 e;rw[(be a).1]at this;exact cI a b (by rw[←a.1];omega) this
def xD(o:JOk J)(rows:Le)(n m:Nat)(d:LG)(l:W9 rows)(f:0<n)(b:n<=60)(c:m<=60)(g:(Lf).length<=5)(i:(FI KQ).length<=5) :
  run G T fu (k+6) 16 [tT rows,.int J.g,.fn J.nm]=some (.v (dC (ft J m rows)) false):=by
 have a:=jj (m:=m) (rows:=rows);obtain⟨j,e,x',y',w',rfl⟩:=JH o _ a (oU d l) (Q3 (by rw[d.1];exact f)) g i .no .no .no;have a1:=U2 (Lf).length;rw[show 2^(Lf).length - 1+1=2^(Lf).length by omega]at e;have pa:=p32 g;rw[r6 rfl rfl];have h:=V8 (F:=run G T fu (k+5)) (δ:=lnD J Mc Mm [] .no .no .no) (e:=.var 3) rfl;rw[g8,a.1]at h;show Ou.of _=_;exact t6 (j9 (lz (k7 rfl rfl (Jc rows n m d f b c g i))) (j9 (o7 (k7 rfl rfl (og rows n m d f b c)) rfl) (j9 (xh rfl) (K9 (cG (jb h KE) KE) (.inr rfl) e (p8 (xi rfl))))))
def oV(d:0<(Lf).length)(c:0<(FI KQ).length):∃L,ft J m rows=L++[((2^(Lf).length - 1,2^(FI KQ).length - 1),V J (mf Mm) (2^(Lf).length - 1) (2^(FI KQ).length - 1))]:=by
 unfold ft;generalize (Lf).length=A at *;generalize (FI _).length=B at *;have a1:=i7 (by decide:2<=2^1) (Q7 KL d);have b1:=i7 (by decide:2<=2^1) (Q7 KL c);have e:=xC (J:=J) (f:=mf Mm) (b:=B) (R:=2^A - 1) (C:=2^B - 1) KE;rw[show 2^B - 1+1=2^B by omega]at e;have a:tbl J (mf Mm) B (2^A) 1=tbl J (mf Mm) B (2^A - 1) (2^B):=by have:=jh (b:=B) (r:=2^A - 1) KE;rw[show 2^A - 1+1=2^A by omega]at this;unfold tbl;rw[this]
 exact⟨_,a.trans e⟩
def xE(b:(Lf).length<=5)(a:(FI KQ).length<=5):(ft J m rows).length=(2^(Lf).length - 1)*(2^(FI KQ).length - 1)/\(ft J m rows).length<=1000:=by
 unfold ft;rw[xA];have c:=U2 (Lf).length;refine⟨?_,xB a c (p32 b) KE⟩;have:=oR (FI KQ).length (2^(Lf).length - 1)
 rwa [show 2^(Lf).length - 1+1=2^(Lf).length by omega]at this
def xF(rows:Le)(n m:Nat)(a:LG)(j:W9 rows)(g:0<n)(b:n<=60)(l:0<m)(d:m<=60)(i:(Lf).length<=5)(h:(FI KQ).length<=5) :
  run G T fu (k+8) 12 [tT rows]=some (.v (Lw ((ft jE m rows).map tD)) true):=by
 have e:=xD (fu:=fu) (k:=k) rfl rows n m a j g b d i h;rw[r6 rfl rfl];unfold nz;have c:=k7 (G:=G) (F:=run G T fu (k+7)) (δ:=n9 1 [tT rows]) (f:=14) (es:=[.var 0]) rfl rfl ((by rw[r6 rfl rfl];unfold nA;exact t6 (p8 (v4 (k7 rfl rfl e)))));obtain⟨L,o⟩:=oV (Q3 (by rw[a.1];exact g)) (Q3 (by rw[(be a).1];exact l));exact t6 (p8 (v4 (k7 (g7 c k6) rfl (Jd _ (by rw[o];simp) (by have:=(xE (J:=jE) i h).2;omega)))))
def JI(rows:Le)(n m:Nat)(a:LG)(h:W9 rows)(e:0<n)(b:n<=60)(f:0<m)(d:m<=60)(l:(Lf).length<=5)(j:(FI KQ).length<=5) :
  run G T fu (k+9) 19 [tT rows]=some (.v (.int (V jE (mf Mm) (2^(Lf).length - 1) (2^(FI KQ).length - 1):Nat)) false):=by
 have g:=xF (fu:=fu) (k:=k) rows n m a h e b f d l j;obtain⟨L,o⟩:=oV (Q3 (by rw[a.1];exact e)) (Q3 (by rw[(be a).1];exact f));rw[o]at g;rw[r6 rfl rfl];unfold vH;generalize 2^(Lf).length - 1=A at *;generalize 2^(FI _).length - 1=B at *;have c:=k7 (G:=G) (δ:=n9 1 [tT rows]) (es:=[.var 0]) rfl rfl g;rw[C4]at c;exact t6 (p8 (v4 (p9 (cx:=.strong) (p9 c (IR (i5 (i:=1))) (Je _ _)) (i5 (i:=2)) rfl)))
end k24
end
noncomputable section
namespace k24
open PySem L2
variable {fu k:Nat} {F:Nat->on DV->Kr Ou} {δ:on Sv} {ds:on DV} {cl:Cl} {a b R C:Nat} {rest:on (on Int)}
def jk(n:Nat)(hn:n<=8):run G T fu (k+1) 30 [.int n]=some (.v (Li ((2^n:Nat):Int)) false):=by
 rw[r6 rfl rfl];unfold vN;obtain⟨b,e,z,rfl⟩:=S0 (i:=2) (I:=λ j c=>∃z,c=[.val (.int n),.val (Li ((2^j:Nat):Int)),z]) (body:=λ b=>evSs G (KY k) fu [.set 1 false (.bin .Mult (.var 1) (.int 2))] b) n 0 (λ j hj c h=>by
  obtain⟨z,rfl⟩:=h;have d:M7 ((2^j:Nat):Int) 2=true:=by unfold M7;simp
  have q:=Z8 (G:=G) (F:=run G T fu k) (δ:=[.val (.int n),.val (Li ((2^j:Nat):Int)),.val (Li (0+(j:Int)))]) (a:=.var 1) (f6 rfl) i5 d;rw[show((2^j:Nat):Int)*2=((2^(j+1):Nat):Int) by rw[ky];push_cast;rfl]at q;exact⟨_,j9 (o7 q rfl) rfl,_,rfl⟩) ⟨.no,rfl⟩
 exact t6 (j9 (o7 (i5 (i:=1)) rfl) (K9 (V7 (f6 rfl) KE) (.inr rfl) e (p8 (v4 (cl:=.strong) (f6 rfl)))))
def lh(R:Nat):on Nat:=(r1 R).filter λ h=>h &&& R==h
def aA:h∈lh R↔Sb h R:=by
 unfold lh Sb;rw[D6,bg,h8,and_assoc]
def cK(h:R<32):(lh R).length<=31:=i7 (cR _ _) (by rw[ji];omega)
def xG(hR:R<32):run G T fu (k+1) 31 [.int R]=some (.v (Lw (nD (lh R))) true):=by
 rw[r6 rfl rfl];unfold vO;have w:=cG (F:=run G T fu k) (δ:=n9 1 [.int R]) (b:=.var 0) (f6 rfl) KE;rw[wR]at w;refine t6 (p8 (v4 (cF w KL (l:=r1 R) (by rw[ji];exact i7 (show R - 1<=1000 by omega) KL) λ h hh=>?_)));refine⟨[.val _,.val _],rfl,?_,.strong,f6 rfl,rfl⟩;rw[(oy (wS (f6 rfl) (f6 rfl)) (f6 rfl))];rfl
abbrev Sp:=(Nat×Nat)×(Nat×Nat)
noncomputable def sD(w:Sp):DV:=.tup [.tup [.int w.1.1,.int w.1.2],.tup [.int w.2.1,.int w.2.2]]
noncomputable def ls(R C:Nat):on Sp:=(lh R).map (λ h=>((h,C),(R - h,C)))++(lh C).map (λ h=>((R,h),(R,C - h)))
def JJ(d:R<32)(e:C<32):run G T fu (k+2) 32 [.int R,.int C]=some (.v (Lw ((ls R C).map sD)) true):=by
 rw[r6 (fd:=nH) rfl rfl];unfold nH;have q:=k7 (G:=G) (F:=run G T fu (k+1)) (δ:=n9 3 [.int R,.int C]) (f:=31) (es:=[.var 0]) (l:=[(Mi R)]) rfl rfl (xG (k:=k) (fu:=fu) d);have p:=k7 (G:=G) (F:=run G T fu (k+1)) (δ:=[.val (.int R),.val (.int C),.val (Lw ((lh R).map λ h=>sD ((h,C),(R - h,C))))]) (f:=31) (es:=[.var 1]) (l:=[(Mi C)]) rfl rfl (xG (k:=k) (fu:=fu) e);have m:r3 (evE G (KY (k+1)) (LH 31 0) (n9 3 [.int R,.int C]))=some (.ok ((lh R).map λ (h:Nat)=>DV.int (h:Int)) .fresh):=by rw[q];rfl
 have g:r3 (evE G (KY (k+1)) (LH 31 1) [.val (.int R),.val (.int C),.val (Lw ((lh R).map λ h=>sD ((h,C),(R - h,C))))])=some (.ok ((lh C).map λ (h:Nat)=>DV.int (h:Int)) .fresh):=by rw[p];rfl
 have o:=F0 (elt:=.tup [.tup [.var 0,.var 1],.tup [.bin .Sub (.var 2) (.var 0),.var 1]]) (tg:=.one 0) (fr:=[none,some 1,some 0]) m KL (i7 (cK d) KL) λ h c=>
  ⟨[.val (.int h),.val (.int C),.val (.int R)],.strong,rfl,by
   have s:=P7 (G:=G) (F:=run G T fu (k+1)) (δ:=[.val (.int h),.val (.int C),.val (.int R)]) (a:=.var 2) (b:=.var 0) (i:=R) (j:=h) (f6 rfl) (f6 rfl);rw[iZ (aA.mp c).2.1]at s;exact G7 (g7 (G7 (g7 (f6 rfl) (LM k6)) (ln4 KS) rfl) (g7 (G7 (g7 s (LM k6)) (ln4 KS) rfl) k6)) (ln4 KS) rfl,rfl⟩
 have n:=F0 (elt:=.tup [.tup [.var 1,.var 0],.tup [.var 1,.bin .Sub (.var 2) (.var 0)]]) (tg:=.one 0) (fr:=[none,some 0,some 1]) g KL (i7 (cK e) KL) λ h c=>
  ⟨[.val (.int h),.val (.int R),.val (.int C)],.strong,rfl,by
   have s:=P7 (G:=G) (F:=run G T fu (k+1)) (δ:=[.val (.int h),.val (.int R),.val (.int C)]) (a:=.var 2) (b:=.var 0) (i:=C) (j:=h) (f6 rfl) (f6 rfl);rw[iZ (aA.mp c).2.1]at s;exact G7 (g7 (G7 (g7 (f6 rfl) (LM k6)) (ln4 KS) rfl) (g7 (G7 (LM (g7 s k6)) (ln4 KS) rfl) k6)) (ln4 KS) rfl,rfl⟩
 refine t6 (j9 (o7 o rfl) (p8 (v4 (cl:=.fresh) ?_)));refine(J8 (f6 rfl) n (show binD .Add _ _ .strong .fresh=some (.ok (Lw ((ls R C).map sD)) .fresh)from ?_));show(if((lh R).map λ h=>sD ((h,C),(R - h,C))).length+((lh C).map λ h=>sD ((R,h),(R,C - h))).length<=p7 then _ else none)=_;rw[f8]
 ·unfold ls;rw[C4,o9,o9];rfl
 ·rw[g8,g8];exact i7 (gf (cK d) (cK e)) KL
def JK(l:JOk J)(j:R<32)(k:C<32)(v:0<R)(x:0<C)(r:wn f R C≠1)(hp:0<wn f R C):ls R C≠[]/\V J f R C=minN ((ls R C).map λ w=>J.j (V J f w.1.1 w.1.2) (V J f w.2.1 w.2.2)):=by
 have p:2<=wn f R C:=by omega
 have toL:∀w∈wl R C,∃s∈ls R C,s=(w.2.2.2,w.2.2.1):=λ w b=>by
  rcases oP b with⟨g,s,_,e⟩ | ⟨g,s,_,e⟩
  ·exact⟨_,E3 _ (i8.mpr ⟨g,aA.mpr s,rfl⟩),by rw[e]⟩
  ·exact⟨_,A0 _ (i8.mpr ⟨g,aA.mpr s,rfl⟩),by rw[e]⟩
 have h:∀s∈ls R C,∃w∈wl R C,w.2.2=(s.1,s.2)\/w.2.2=(s.2,s.1):=λ s a=>by
  unfold ls at a;unfold wl;rcases F1.mp a with q | q
  ·obtain⟨g,i,rfl⟩:=i8.mp q;have c:=aA.mp i;rcases ox R j g (c.lt j) c with q | ⟨q,e⟩
   ·exact⟨_,E3 _ (i8.mpr ⟨g,q,rfl⟩),.inr rfl⟩
   ·exact⟨_,E3 _ (i8.mpr ⟨R - g,q,rfl⟩),.inl (by show(_,(R - g,C))=_;rw[e])⟩
  ·obtain⟨g,i,rfl⟩:=i8.mp q;have c:=aA.mp i;rcases ox C k g (c.lt k) c with q | ⟨q,e⟩
   ·exact⟨_,A0 _ (i8.mpr ⟨g,q,rfl⟩),.inr rfl⟩
   ·exact⟨_,A0 _ (i8.mpr ⟨C - g,q,rfl⟩),.inl (by show(_,(R,C - g))=_;rw[e])⟩
 have d:ls R C≠[]:=(by obtain⟨w,b⟩:=List.exists_mem_of_ne_nil _ (oT j k v x p);obtain⟨s,a,_⟩:=toL w b;intro z;rw[z]at a;cases a);refine⟨d,?_⟩;rw[V_eq f KE];unfold stp;rw[g9 r]
 symm
 obtain⟨n,m⟩:=oO (λ z=>d (bp.mp z));refine jg ?_ λ y o=>?_
 ·obtain⟨s,a,u⟩:=i8.mp n;rw[←u];obtain⟨w,b,e | e⟩:=h s a
  ·exact i8.mpr ⟨w,b,by rw[e]⟩
  ·exact i8.mpr ⟨w,b,by rw[e];exact l.comm _ _⟩
 ·obtain⟨w,b,rfl⟩:=i8.mp o;obtain⟨s,a,e⟩:=toL w b;exact m _ (i8.mpr ⟨s,a,by rw[e];exact l.comm _ _⟩)
noncomputable def eN(f:Mx)(R C i j:Nat):on Int:=if R.testBit i&&C.testBit j then[f i j]else[]
def rowS(f:Mx)(R C b i:Nat):on Int:=(Lb b).flatMap (eN f R C i)
def snS(f:Mx)(R C a b:Nat):on Int:=(Lb a).flatMap (rowS f R C b)
theorem oW(f:Mx)(R C i:Nat):∀b,(rowS f R C b i).length<=b
 | 0=>i9 _
 | b+1=>by have:=oW f R C i b;unfold rowS at this ⊢;rw[aK,cV,t9];have e:([b].flatMap (eN f R C i)).length<=1:=(by rw[fR,cZ,B3];unfold eN;split<;>simp);omega
theorem xH(f:Mx)(R C b:Nat):∀a,(snS f R C a b).length<=a*b
 | 0=>by simp[snS]
 | a+1=>by have:=xH f R C b a;unfold snS at this ⊢;rw[aK,cV,t9,fR,cZ,B3,gu];have:=oW f R C a b;omega
def jl:x∈snS f R C a b↔∃i j,i<a/\j<b/\R.testBit i=true/\C.testBit j=true/\x=f i j:=by
 unfold snS rowS eN;simp only[List.mem_flatMap,u0];constructor
 ·rintro⟨i,d,j,c,h⟩
  split at h
  ·rename_i q;rw[f7]at q;exact⟨i,j,d,c,q.1,q.2,w4.mp h⟩
  ·cases h
 ·rintro⟨i,j,d,c,g,e,rfl⟩
  exact⟨i,d,j,c,by rw[g,e];exact w4.mpr rfl⟩
theorem xI:∀(r:on Int) (m:Int),(maxI m r=m\/maxI m r∈r)/\m<=maxI m r/\∀x∈r,x<=maxI m r
 | [],m=>⟨.inl rfl,gB _,λ _ h=>nomatch h⟩
 | x::r,m=>by
  show(maxI _ r=m\/_)/\_;obtain⟨c,b,a⟩:=xI r (if m<x then x else m);by_cases q:m<x
  ·rw[f8 q]at c b a ⊢;refine⟨.inr ?_,by show m<=maxI _ r;rw[f8 q];omega,λ y d=>?_⟩
   ·show maxI _ r∈_;rw[f8 q];rcases c with h | h
    ·rw[h];exact o5
    ·exact o4 _ h
   ·show y<=maxI _ r;rw[f8 q];rcases i6.mp d with e | e
    ·rw[e];exact b
    ·exact a y e
  ·rw[g9 q]at c b a ⊢;refine⟨?_,by show m<=maxI _ r;rw[g9 q];exact b,λ y d=>?_⟩
   ·rcases c with h | h
    ·exact .inl h
    ·right;show maxI _ r∈_;rw[g9 q];exact o4 _ h
   ·show y<=maxI _ r;rw[g9 q];rcases i6.mp d with e | e
    ·rw[e];omega
    ·exact a y e
def JL(m:Int)(r:on Int):minI m r=maxI m r↔∀x∈m::r,∀y∈m::r,x=y:=by
 obtain⟨i,g,f⟩:=ja r m;obtain⟨l,k,j⟩:=xI r m;have b:∀x∈m::r,minI m r<=x:=λ x a=>by rcases i6.mp a with e | e;rw[e];exact g;exact f x e
 have d:∀x∈m::r,x<=maxI m r:=λ x a=>by rcases i6.mp a with e | e;rw[e];exact k;exact j x e
 constructor
 ·intro e x a y c;have:=b x a;have:=d x a;have:=b y c;have:=d y c;omega
 ·intro h;refine h _ ?_ _ ?_
  ·rcases i with e | e
   ·rw[e];exact o5
   ·exact o4 _ e
  ·rcases l with e | e
   ·rw[e];exact o5
   ·exact o4 _ e
def JM{R C:Nat}{f:Mx}(h9:∀i∈cs R,∀j∈cs C,0<=f i j/\f i j<=9){i0 j0:Nat}(hi0:i0∈cs R)(hj0:j0∈cs C):wn f R C=1↔∀i∈cs R,∀j∈cs C,f i j=f i0 j0:=by
 unfold wn;have inF:∀i∈cs R,∀j∈cs C,(f i j).toNat∈(Lb 10).filter (wp f R C):=λ i hi j hj=>by have:=h9 i hi j hj;exact D6.mpr ⟨u0.mpr KE,Y2.mpr ⟨i,j,hi,hj,by omega⟩⟩
 constructor
 ·intro h i hi j hj;obtain⟨w,hw⟩:=qe.mp h;have q1:=inF i hi j hj;have q2:=inF i0 hi0 j0 hj0;rw[hw]at q1 q2;have:=w4.mp q1;have:=w4.mp q2;have:=h9 i hi j hj;have:=h9 i0 hi0 j0 hj0;omega
 ·intro h;have b0:=h9 i0 hi0 j0 hj0;have e:(Lb 10).filter (wp f R C)=(Lb 10).filter λ w=>w==(f i0 j0).toNat:=by
   apply List.filter_congr;intro w _;rw[U1,Y2,h8];constructor
   ·rintro⟨i,j,hi,hj,q⟩;have:=h i hi j hj;omega
   ·rintro rfl;exact⟨i0,j0,hi0,hj0,by omega⟩
  have q:=inF i0 hi0 j0 hj0;rw[e]at q ⊢;have:=wQ (f i0 j0).toNat KE;have:=fE q;omega
abbrev oS(rest:Le)(R C:Nat)(l:on Int)(x y:Sv):on Sv:=[.val (rL rest),.val (.int R),.val (.int C),.own (Lw (iD l)),x,y]
noncomputable def oB:on MS:=[.iff (.and [.cmp .Eq (Lx 4 (.var 1)) (.int 1),.cmp .Eq (Lx 5 (.var 2)) (.int 1)]) [.app 3 (.ix (KW 0 (.var 4)) (.var 5))] []]
def xJ{i j:Nat}(a:evE G F u δ=some (Lc (.int (i:Int))))(hv:evE G F v δ=some (Lc (.int (j:Int)))):evE G F (.cmp .Eq (.bin .BitAnd (.bin .RShift u v) (.int 1)) (.int 1)) δ=some (.ok (.bl (i.testBit j)) .strong):=by
 have e:=J8 (oM a hv KE) i5 (show binD .BitAnd _ _ .strong .strong=some _ by
  show some _=_;rw[oh])
 have:=b_eq e (i5 (i:=1));rw[this];cases i.testBit j<;>rfl
def o_in(g:Rect a b rest)(h:i<a)(o:j<b)(n:l.length<=900):evSs G F fu oB (oS rest R C l (KU i) (KU j))=some (.nx (oS rest R C (l++eN Lj R C i j) (KU i) (KU j))):=by
 have c:=xJ (F:=F) (δ:=oS rest R C l (KU i) (KU j)) (u:=.var 1) (v:=.var 4) (i:=R) (j:=i) (f6 rfl) (f6 rfl);have f:=xJ (F:=F) (δ:=oS rest R C l (KU i) (KU j)) (u:=.var 2) (v:=.var 5) (i:=C) (j:=j) (f6 rfl) (f6 rfl);unfold oB eN;cases m:R.testBit i with
 | false=>
  rw[m]at c;rw[di,g9 B5,B3];exact v9 (o6 (iX c)) rfl
 | true=>
  rw[m]at c;cases k:C.testBit j with
  | false=>
   rw[k]at f;rw[fZ,g9 B5,B3];exact v9 (o6 (S9 c (Y0 f))) rfl
  | true=>
   rw[k]at f;rw[Bool.and_self,f8 rfl];have e:=lA (G:=G) (F:=F) (fu:=fu) (i:=3) (e:=.ix (KW 0 (.var 4)) (.var 5)) (δ:=oS rest R C l (KU i) (KU j)) (ds:=iD l) (d:=.int (mf rest i j)) rfl
    (p9 (p9 (f6 rfl) (f6 rfl) (ax (by rw[g.1];exact h))) (f6 rfl) (iV (by rw[g.2 _ (E9 (by rw[g.1];exact h))];exact o))) rfl (by unfold iD;rw[g8];exact T7 n KL)
   have p:iD l++[DV.int (mf rest i j)]=iD (l++[mf rest i j]):=by unfold iD;rw[C4];rfl
   rw[p]at e;exact P6 (o6 (S9 c (Y0 f))) (j9 e rfl) rfl
def JN(q:Rect a b rest)(X:W9 rest)(S:0<a)(ha:a<=5)(Q:b<=5)(R0:0<R)(R1:R<2^a)(C0:0<C)(C1:C<2^b):run G T fu (k+1) 33 [rL rest,.int R,.int C]=some (.v (.bl (wn Lj R C==1)) false):=by
 have pa:=p32 ha;have pb:=p32 Q;rw[r6 (fd:=nK) rfl rfl];unfold nK;have A:=λ l x y=>by
  have e:=N3 (F:=run G T fu k) (δ:=oS rest R C l x y) (p9 (a:=.var 0) (b:=.int 0) (cx:=.strong) (f6 rfl) (i5 (i:=((0:Nat):Int))) (ax (rows:=rest) (by rw[q.1];exact S)))
  rwa [show(iD (rest.getD 0 [])).length=b by unfold iD;rw[g8];exact q.2 _ (E9 (by rw[q.1];exact S))]at e
 obtain⟨w,lp,H,E,rfl⟩:=S0 (i:=4) (I:=λ r z=>∃x y,z=oS rest R C (snS Lj R C r b) x y) (body:=λ w=>evSs G (KY k) fu [.fo (.one 5) (MD (.var 0)) oB] w) a 0 (λ r hr z h=>by
  obtain⟨x,y,rfl⟩:=h;rw[show(0:Int)+(r:Int)=r by omega];have sl:=xH Lj R C b r;have Y:r*b<=5*5:=gc KE Q;obtain⟨U,l2,W,rfl⟩:=S0 (i:=5) (I:=λ c z=>∃y,z=oS rest R C (snS Lj R C r b++rowS Lj R C c r) (KU (r:Int)) y) b 0 (λ c hc z h=>by
   obtain⟨y,rfl⟩:=h;rw[show(0:Int)+(c:Int)=c by omega];have rl:=oW Lj R C r c;have e:=o_in (F:=run G T fu k) (fu:=fu) (R:=R) (C:=C) q hr hc (l:=snS Lj R C r b++rowS Lj R C c r) (by rw[t9];omega);refine⟨_,e,.val (Li (c:Int)),?_⟩;have L:rowS Lj R C (c+1) r=rowS Lj R C c r++eN Lj R C r c:=by unfold rowS;rw[aK,cV,fR,cZ,B3]
   rw[L,Q9]) ⟨y,by unfold rowS;rw[List.range_zero,cZ,B3]⟩
  refine⟨_,K9 (V7 (A _ _ _) KE) (.inr rfl) l2 rfl,.val (Li (r:Int)),W,?_⟩;have L:snS Lj R C (r+1) b=snS Lj R C r b++rowS Lj R C b r:=by unfold snS;rw[aK,cV,fR,cZ,B3]
  rw[L]) ⟨.no,.no,rfl⟩
 have N:=N3 (F:=run G T fu k) (δ:=oS rest R C [] .no .no) (e:=.var 0) (c:=.strong) (f6 rfl);rw[g8,q.1]at N;have g:∀i,i∈cs R->i<a:=λ i v=>T3 R1 v;have f:∀j,j∈cs C->j<b:=λ j u=>T3 C1 u;obtain⟨P,p⟩:=bj (O7 R KE R0);obtain⟨O,o⟩:=bj (O7 C KE C0);have J:mf rest P O∈snS Lj R C a b:=jl.mpr ⟨P,O,g _ p,f _ o,Q4 p,Q4 o,rfl⟩;obtain⟨m,r,es⟩:∃m r,snS (mf rest) R C a b=m::r:=by
  cases h:snS Lj R C a b with
  | nil=>rw[h]at J;cases J
  | cons m r=>exact⟨m,r,rfl⟩
 have K:(minI m r==maxI m r)=(wn Lj R C==1):=by
  rw[U1,h8,h8,JL,←es,JM (λ i v j u=>cI q X (g i v) (f j u)) p o];constructor
  ·intro h i v j u;exact h _ (jl.mpr ⟨i,j,g _ v,f _ u,Q4 v,Q4 u,rfl⟩) _ J
  ·intro h x hx y hy;obtain⟨i,j,_,_,h1,h2,rfl⟩:=jl.mp hx;obtain⟨i',j',_,_,h3,h4,rfl⟩:=jl.mp hy;rw[h i (V9 h1) j (V9 h2),h i' (V9 h3) j' (V9 h4)]
 have M:evE G (KY k) (.var 3) (oS rest R C (snS Lj R C a b) H E)=some (.ok (Lw (iD (m::r))) .top):=by rw[es];exact eg rfl
 have Z:evE G (KY k) (.bi .max [.var 3]) (oS rest R C (snS Lj R C a b) H E)=some (.ok (Li (maxI m r)) .strong):=(by show Rs.thn (evEs G (KY k) [.var 3] (oS rest R C (snS Lj R C a b) H E)) (λ l=>maxD l)=_;rw[g7 M k6];show(match ints? (iD (m::r))with | some (n::r)=>some (Re.ok (Li (maxI n r)) .strong) | _=>_)=_;rw[cD]);have B:=b_eq ((by rw[nP (g7 M k6)];show(match ints? (iD (m::r))with | some (n::r)=>some (Re.ok (Li (minI n r)) .strong) | _=>_)=_;rw[cD])) Z;rw[K]at B;exact t6 (j9 (ee (G:=G) (F:=run G T fu k) (fu:=fu) (δ:=n9 6 [rL rest,.int R,.int C]) (i:=3) (e:=.lst []) (d:=.lst []) rfl) (K9 (V7 N KE) (.inr rfl) lp (p8 (v4 (cl:=.strong) B))))
noncomputable def tI(p:(Nat×Nat)×Nat):Int×Int×Int:=((p.1.1:Int),(p.1.2:Int),(p.2:Int))
theorem xK:∀L:Tb,trips? (L.map tD)=some (L.map tI)
 | []=>rfl
 | p::L=>by show(trips? _).map _=_;rw[xK L];rfl
def JO:∀{L:Tb},L≠[]->pairs? (L.map tD)=none
 | [],h=>absurd rfl h
 | _::_,_=>rfl
theorem xL:∀{L:Tb},(L.map (·.1)).Pairwise lx->X3 (L.map tI)=true
 | [],_=>rfl
 | [_],_=>rfl
 | p::q::L,h=>by
  show(ltT (tI p) (tI q)&&X3 _)=true;rw[f7];have a:=M2.mp h;refine⟨?_,xL a.2⟩;have:p.1.1<q.1.1\/(p.1.1=q.1.1/\p.1.2<q.1.2):=a.1 q.1 o5;unfold ltT tI;simp only[D8,M3,f7,h8];rcases this with z | ⟨z1,z2⟩
  ·left;omega
  ·right;exact⟨by omega,.inl KE⟩
def JP(p:(Nat×Nat)×Nat):deq (tD p) (tD p)=true:=by
 show((_==_)&&((_==_)&&((_==_)&&true)))=true;simp
theorem oX:∀L:Tb,deqs (L.map tD) (L.map tD)=true
 | []=>rfl
 | p::L=>by show(deq (tD p) (tD p)&&deqs _ _)=true;rw[JP,oX L];rfl
def pl_T(L:Tb):DV.plain 60 (Lw (L.map tD))=true:=iW λ d hd=>by
 obtain⟨p,_,rfl⟩:=i8.mp hd;rfl
def ne_T(L:Tb):cmpD .NotEq (Lw (L.map tD)) (Lw (L.map tD))=some false:=by
 show(if DV.plain 60 _&&DV.plain 60 (.lst _)then some (!deqs _ _)else none)=_;rw[pl_T,oX];rfl
def eq_T(L:Tb):cmpD .Eq (Lw (L.map tD)) (Lw (L.map tD))=some true:=by
 show(if DV.plain 60 _&&DV.plain 60 (.lst _)then some (deqs _ _)else none)=_;rw[pl_T,oX];rfl
def JQ(h:evE G F e δ=some (.ok (Lw (L.map tD)) c))(d:L≠[])(b:(L.map (·.1)).Pairwise lx)(a:L.length<=1000):evE G F (.bi .sorted [e]) δ=some (.ok (Lw (L.map tD)) (Cl.anew c c)):=by
 show Rs.thn _ _=_;rw[g7 h k6];show dR [(.lst _,c)]=_;simp only[dR,JO d,xK];rw[f8 ⟨xL b,by rw[g8];exact a⟩]
abbrev kS(P:Tb)(rest:Le)(L:Tb)(x y z w:Sv):on Sv:=[.val (Lw (P.map tD)),.val (rL rest),.od (dD L),x,y,z,w]
noncomputable def kB:on MS:=[.iff (.or [.not (.isi (.var 3) ["tuple"]),.cmp .NotEq (Lv 3) (.int 3),.cmp .NotEq (.bi .len [.compi (.var 0) (.one 0) (.var 3) (LH 24 0) [none]]) (.int 3)]) [.ret (.non)] [],.dpp 2 [.ix (.var 3) (.int 0),.ix (.var 3) (.int 1)] (KW 3 (.int 2))]
def k_in(p:(Nat×Nat)×Nat)(a:L.lookup p.1=none)(hl:L.length<=1000)(y z w:Sv):evSs G (KY (k+1)) fu kB (kS P rest L (.val (tD p)) y z w)=some (.nx (kS P rest (L++[p]) (.val (tD p)) y z w)):=by
 have b:=cF (δ:=kS P rest L (.val (tD p)) y z w) (elt:=.var 0) (tg:=.one 0) (it:=.var 3) (fr:=[none]) (l:=[_,_,(p.2:Int)]) rfl KL (show 3<=p7 by decide) λ i hi=>
  ⟨[.val _],rfl,by rw[k7 (es:=[.var 0]) rfl rfl (iU (fu:=fu) (k:=k) (x:=i))];rfl,.strong,f6 rfl,rfl⟩
 exact v9 (o6 (or_f rfl (or_f rfl (or_1 ((by have:=N3 b;exact F3 this (i5) rfl)))))) (j9 (oA rfl (p9 (f6 rfl) (i5) rfl) (p9 (f6 rfl) (i5) rfl) (p9 (f6 rfl) (i5) rfl) a KE) rfl)
theorem xM(y z w:Sv):∀(b a:Tb) (x:Sv),(a++b).length<=1000->((a++b).map (·.1)).Pairwise lx->∃i,C6 (.one 3) (λ h=>evSs G (KY (k+1)) fu kB h) (b.map tD) (kS P rest a x y z w)=some (.nx (kS P rest (a++b) i y z w))
 | [],a,x,_,_=>⟨x,by rw[B3];rfl⟩
 | p::b,a,x,g,d=>by
  have l:a.lookup p.1=none:=by
   rw[C4]at d;have c:=(jA.mp d).2.2;cases f:a.lookup p.1 with
   | none=>rfl
   | some v=>
    have m:p.1∈a.map (·.1):=by
     clear d c g
     induction a with
     | nil=>cases f
     | cons u r j=>
      rw[G4]at f;by_cases e:p.1=u.1
      ·rw[A3,e];exact o5
      ·rw[show(p.1==u.1)=false from x8.mpr e]at f;exact o4 _ (j f)
    rcases c _ m p.1 (by rw[A3];exact o5)with q | q
    ·omega
    ·omega
  have e:=k_in (fu:=fu) (k:=k) (rest:=rest) (P:=P) p l (by rw[t9]at g;omega) y z w;have o:a++p::b=(a++[p])++b:=by rw[Q9];rfl
  rw[o]at g d ⊢;obtain⟨i,n⟩:=xM y z w b _ _ g d;refine⟨i,?_⟩;rw[A3,nX rfl e];exact n
def JR{r c:Nat}(d:δ[i]? = some (.od (dD L)))(h:evE G F e δ=some (.ok (.tup [.int r,.int c]) cx))(b:(r,c)∈L.map (·.1)):evE G F (.din i e) δ=some (.ok (.bl true) .strong):=by
 have f:evE G F (.din i e) δ=(match δ[i]? with
  | some (.od (.tup [.dct ks _]))=>Re.thn _ λ y _=>dinD ks y
  | _=>none):=rfl
 rw[f,d];show Re.thn _ _=_;rw[h,B1];show some (Re.ok (.bl (decide (kk (r,c)∈L.map λ p=>kk p.1))) .strong)=_;rw[C5];obtain⟨p,a,e⟩:=i8.mp b;exact i8.mpr ⟨p,a,by rw[e]⟩
def JS(L:Tb)(q:Rect a b rest)(Q:0<a)(Z:a<=5)(Y:b<=5)(h0:L≠[])(X:L.length=(2^a - 1)*(2^b - 1))(J:L.length<=1000)(H:(L.map (·.1)).Pairwise lx)(u:∀r c,0<r->r<2^a->0<c->c<2^b->(r,c)∈L.map (·.1)) :
  run G T fu (k+2) 34 [.lst (L.map tD),rL rest]=some (.v (dC L) false):=by
 have pa:=p32 Z;have pb:=p32 Y;rw[r6 (fd:=vP) rfl rfl];have s1:evE G (KY (k+1)) (.or [.not (.isi (.var 0) ["list"]),.cmp .NotEq (.var 0) (.bi .sorted [.var 0])]) (n9 7 [.lst (L.map tD),rL rest])=some (.ok LL .strong):=
  or_f (cx:=.strong) rfl (or_1 (F3 (f6 (d:=.lst (L.map tD)) rfl) (JQ (L:=L) (c:=.strong) (f6 rfl) h0 H J) (ne_T L)))
 obtain⟨g,K⟩:=xM (fu:=fu) (k:=k) (rest:=rest) (P:=L) .no .no .no L [] .no J H;rw[fW]at K;have j:=λ x y z w=>by have C:=N3 (F:=run G T fu (k+1)) (δ:=kS L rest L x y z w) (e:=.var 1) (c:=.strong) (f6 rfl);rw[g8,q.1]at C;exact k7 (fr:=false) (g7 C k6) rfl (jk (fu:=fu) (k:=k) a KE)
 have l:=λ x y z w=>by have e:=N3 (F:=run G T fu (k+1)) (δ:=kS L rest L x y z w) (p9 (a:=.var 1) (b:=.int 0) (cx:=.strong) (f6 rfl) (i5 (i:=((0:Nat):Int))) (ax (rows:=rest) (by rw[q.1];exact Q)));rw[show(iD (rest.getD 0 [])).length=b by unfold iD;rw[g8];exact q.2 _ (E9 (by rw[q.1];exact Q))]at e;exact k7 (fr:=false) (g7 e k6) rfl (jk (fu:=fu) (k:=k) b KE)
 obtain⟨f,U,p,o,rfl⟩:=S0 (i:=5) (I:=λ r m=>∃z w,m=kS L rest L g (KU ((r*(2^b - 1):Nat):Int)) z w) (body:=λ f=>evSs G (KY (k+1)) fu [.fo (.one 6) (.rng [.int 1,.call 30 [.bi .len [.ix (.var 1) (.int 0)]]]) [.set 4 false (.bin .Add (.var 4) (.bi .int [.din 2 (.tup [.var 5,.var 6])]))]] f) (2^a - 1) 1 (δ:=kS L rest L g (KU 0) .no .no) (λ r hr m h=>by
  obtain⟨z,w,rfl⟩:=h;obtain⟨R,W,S,rfl⟩:=S0 (i:=6) (I:=λ c m=>∃w,m=kS L rest L g (KU ((r*(2^b - 1)+c:Nat):Int)) (KU ((r+1:Nat):Int)) w) (body:=λ f=>evSs G (KY (k+1)) fu [.set 4 false (.bin .Add (.var 4) (.bi .int [.din 2 (.tup [.var 5,.var 6])]))] f) (2^b - 1) 1 (λ c hc m h=>by
   obtain⟨w,rfl⟩:=h;rw[show(1:Int)+(c:Int)=((c+1:Nat):Int) by omega];have t:=G7 (G:=G) (F:=run G T fu (k+1)) (δ:=kS L rest L g (KU ((r*(2^b - 1)+c:Nat):Int)) (KU ((r+1:Nat):Int)) (KU ((c+1:Nat):Int))) (g7 (f6 (n:=5) (d:=.int ((r+1:Nat):Int)) rfl) (g7 (f6 (n:=6) (d:=.int ((c+1:Nat):Int)) rfl) k6)) (ln4 KS) rfl;have dn:=jf (JR (L:=L) (i:=2) rfl t (u (r+1) (c+1) KE KE KE KE));have O:=L3 (G:=G) (F:=run G T fu (k+1)) (a:=.var 4) (f6 (n:=4) (d:=.int ((r*(2^b - 1)+c:Nat):Int)) rfl) dn;rw[show((r*(2^b - 1)+c:Nat):Int)+(if true=true then 1 else 0)=((r*(2^b - 1)+(c+1):Nat):Int) by rw[f8 rfl];push_cast;omega]at O;exact⟨_,j9 (o7 O rfl) rfl,_,rfl⟩) ⟨w,rfl⟩
  rw[show(1:Int)+(r:Int)=((r+1:Nat):Int) by omega];refine⟨_,K9 (cG (l _ _ _ _) KE) (.inr rfl) W rfl,.val (Li ((r+1:Nat):Int)),S,?_⟩;rw[gu]) ⟨.no,.no,by rw[Nat.zero_mul];rfl⟩
 have E:=N3 (F:=run G T fu (k+1)) (δ:=kS L rest L g (KU (((2^a - 1)*(2^b - 1):Nat):Int)) p o) (e:=.var 0) (ds:=L.map tD) (c:=.strong) (f6 rfl);rw[g8,X]at E;have N:=b_ne (f6 (G:=G) (F:=run G T fu (k+1)) (δ:=kS L rest L g (KU (((2^a - 1)*(2^b - 1):Nat):Int)) p o) (n:=4) (d:=.int (((2^a - 1)*(2^b - 1):Nat):Int)) rfl) E;have A:=P7 (j g (KU (((2^a - 1)*(2^b - 1):Nat):Int)) p o) (i5 (i:=1));have v:=P7 (l g (KU (((2^a - 1)*(2^b - 1):Nat):Int)) p o) (i5 (i:=1));have a1:=U2 a;have b1:=U2 b;rw[show((2^a:Nat):Int) - 1=((2^a - 1:Nat):Int) by omega]at A;rw[show((2^b:Nat):Int) - 1=((2^b - 1:Nat):Int) by omega]at v;have B:=Z8 A v (by unfold M7;simp;omega);rw[show((2^a - 1:Nat):Int)*((2^b - 1:Nat):Int)=(((2^a - 1)*(2^b - 1):Nat):Int) by push_cast;rfl]at B;have M:=b_ne (f6 (G:=G) (F:=run G T fu (k+1)) (δ:=kS L rest L g (KU (((2^a - 1)*(2^b - 1):Nat):Int)) p o) (n:=4) (d:=.int (((2^a - 1)*(2^b - 1):Nat):Int)) rfl) B;rw[Y6]at N M;show Ou.of _=_;exact t6 (v9 (o6 s1) (j9 (xh rfl) (K9 (ds:=L.map tD) (cl:=.strong) rfl Mv K (j9 (o7 (i5 (i:=0)) rfl) (K9 (cG (j _ _ _ _) KE) (.inr rfl) U (v9 (o6 (or_f N (or_1 M))) (p8 (xi rfl))))))))
end k24
end
noncomputable section
namespace k24
open PySem L2
def cL{r c:Nat}(b:KM u cx (dC L))(h:evE G F e δ=some (.ok (.tup [.int r,.int c]) cy))(a:L.lookup (r,c)=some z):evE G F (.dix u e) δ=some (.ok (.int z) .strong):=by
 have d:evE G F (.dix u e) δ=Re.thn _ _:=rfl;rw[d,b,B1,h,B1];show(match J3 (kk (r,c)) _ (MC _)with
  | some (.int v)=>some _
  | _=>none)=_
 rw[oz,a];rfl
end k24
end
noncomputable section
namespace k24
open PySem L2
variable {fu k:Nat} {F:Nat->on DV->Kr Ou} {δ:on Sv} {ds:on DV} {cl:Cl} {a b R C:Nat} {rest rows:on (on Int)} {n m:Nat}
def JT(a:L≠[])(h:evE G F (.var 0) δ=some (Lc (dC L))):r3 (La (.kys (.var 0)))=some (.ok (L.map λ p=>.tup [.int p.1.1,.int p.1.2]) .strong):=by
 have b:evE G F (.kys (.var 0)) δ=Re.thn _ _:=rfl;rw[b,h,B1];cases L with
 | nil=>exact absurd rfl a
 | cons p L=>
  show r3 (if Cl.strong=.strong then(kvp? ((p::L).map λ p=>kk p.1) _).map (λ l=>Re.ok _ .strong)else none)=_;rw[f8 rfl,oE];show some _=_;rw[o9];rfl
abbrev yS(L:Tb)(rest:Le)(x y z:Sv):on Sv:=[.val (dC L),.val (rL rest),x,y,z]
noncomputable def yB:on MS:=[.set 4 false (.int 1),.iff (.not (.call 33 [.var 1,.var 2,.var 3])) [.set 4 false (.bi .min [.comp (.bin .Add (.dix (.var 2) (.var 0)) (.dix (.var 2) (.var 1))) (.many [0,1]) (.call 32 [.var 2,.var 3]) [none,none,some 0]])] [],.iff (.cmp .NotEq (.dix (.var 0) (.tup [.var 2,.var 3])) (.var 4)) [.ret LL] []]
def JU(f:0<R)(e:R<2^a)(j:0<C)(i:C<2^b)(h:p∈ls R C):p.1∈ps b (2^a) 1/\p.2∈ps b (2^a) 1:=by
 unfold ls at h;rcases F1.mp h with q | q
 ·obtain⟨g,d,rfl⟩:=i8.mp q;have c:=aA.mp d;have:=c.1;have:=c.2.1;exact(LQ (.inl ⟨by dsimp only;omega,by dsimp only;omega,j,i⟩))
 ·obtain⟨g,d,rfl⟩:=i8.mp q;have c:=aA.mp d;have:=c.1;have:=c.2.1;exact(LQ (.inl ⟨f,e,by dsimp only;omega,by dsimp only;omega⟩))
def y_in(N:Rect a b rest)(K:W9 rest)(a0:0<a)(E:a<=5)(B:b<=5)(g:0<R)(p:R<2^a)(j:0<C)(q:C<2^b)(z:Sv):∃O,evSs G (KY (k+2)) fu yB (yS (tbl jE Lj b (2^a) 1) rest (KU R) (KU C) z)=some (.nx (yS (tbl jE Lj b (2^a) 1) rest (KU R) (KU C) O)):=by
 have pa:=p32 E;have pb:=p32 B;have H:R<32:=by omega
 have I:C<32:=by omega
 let D:Sv->on Sv:=λ z=>yS (tbl jE Lj b (2^a) 1) rest (KU R) (KU C) z
 have v:=oC N K E B g p j q;have m:=U7 (k7 (G:=G) (F:=run G T fu (k+2)) (δ:=D (KU 1)) (f:=33) (es:=[.var 1,.var 2,.var 3]) (l:=[(rL rest,.strong),(Mi R),(Mi C)]) (fr:=false) rfl rfl (JN (fu:=fu) (k:=k+1) N K a0 E B g p j q));have M:∀z:Nat,z=V jE Lj R C->evSs G (KY (k+2)) fu [.iff (.cmp .NotEq (.dix (.var 0) (.tup [.var 2,.var 3])) (.var 4)) [.ret LL] []] (D (KU z))=some (.nx (D (KU z))):=λ z A=>by
  subst A;have U:(tbl jE Lj b (2^a) 1).lookup (R,C)=some (V jE Lj R C):=by rw[az,f8 (L7.mpr (.inl ⟨g,p,j,q⟩))]
  have dx:=cL (F:=run G T fu (k+2)) (δ:=D (KU (V jE (mf rest) R C:Nat))) (u:=.var 0) (e:=.tup [.var 2,.var 3]) (L:=tbl jE Lj b (2^a) 1) (r:=R) (c:=C) (cx:=.strong) (cy:=.strong) (f6 rfl) (G7 (g7 (f6 rfl) (LM k6)) (ln4 KS) rfl) U;have ne:=b_ne dx (f6 (n:=4) (d:=.int (V jE Lj R C:Nat)) rfl);rw[Y6]at ne;exact v9 (o6 ne) rfl
 unfold yB;by_cases o:wn Lj R C=1
 ·have x:(!(wn Lj R C==1))=false:=by rw[o];rfl
  rw[x]at m;have Q:V jE Lj R C=1:=by rw[V_eq _ KE];unfold stp;rw[f8 o]
  exact⟨_,j9 (o7 (i5 (i:=1)) rfl) (v9 (o6 m) (M 1 Q.symm))⟩
 ·have x:(!(wn Lj R C==1))=true:=by rw[x8.mpr o];rfl
  rw[x]at m;obtain⟨y,P⟩:=JK (J:=jE) rfl H I g j o v;have S:=k7 (G:=G) (F:=run G T fu (k+2)) (δ:=D (KU 1)) (f:=32) (es:=[.var 2,.var 3]) (l:=[(Mi R),(Mi C)]) (fr:=true) rfl rfl (JJ (fu:=fu) (k:=k) H I);have cm:=F0 (F:=run G T fu (k+2)) (δ:=D (KU 1)) (l:=ls R C) (h:=sD) (elt:=.bin .Add (.dix (.var 2) (.var 0)) (.dix (.var 2) (.var 1))) (tg:=.many [0,1]) (fr:=[none,none,some 0]) (cl:=.fresh) (by rw[S];rfl) KL
   (by unfold ls;rw[t9,g8,g8];exact i7 (gf (cK H) (cK I)) KL) λ w Y=>by obtain⟨X,W⟩:=JU (a:=a) (b:=b) g p j q Y;refine⟨[.val _,.val _,.val _],.strong,rfl,?_,rfl⟩;exact L3 (cL (cx:=.strong) (cy:=.strong) (f6 rfl) (f6 rfl) (by rw[az,f8 X])) (cL (cx:=.strong) (cy:=.strong) (f6 rfl) (f6 rfl) (by rw[az,f8 W]))
  obtain⟨z,A,Z,ez⟩:=wZ ((by rw[cm];unfold nD;rw[o9];rfl)) (λ z=>y (bp.mp z));have zz:=jg A Z;exact⟨_,j9 (o7 (i5 (i:=1)) rfl) (P6 (o6 m) (j9 (o7 ez rfl) rfl) (M z (by rw[P,zz])))⟩
theorem xN(j:Rect a b rest)(i:W9 rest)(o:0<a)(n:a<=5)(m:b<=5):∀(l:on (Nat×Nat)) (x y z:Sv),(∀p∈l,p∈ps b (2^a) 1)->∃g f e,C6 (.many [2,3]) (λ d=>evSs G (KY (k+2)) fu yB d) (l.map λ p=>.tup [.int p.1,.int p.2]) (yS (tbl jE Lj b (2^a) 1) rest x y z)=some (.nx (yS (tbl jE Lj b (2^a) 1) rest g f e))
 | [],x,y,z,_=>⟨x,y,z,rfl⟩
 | p::l,x,y,z,h=>by
  have c:0<p.1/\p.1<2^a/\0<p.2/\p.2<2^b:=by
   rcases L7.mp (h p o5)with q | q
   ·exact q
   ·omega
  obtain⟨r,w⟩:=y_in j i o n m c.1 c.2.1 c.2.2.1 c.2.2.2 z;obtain⟨g,f,e,v⟩:=xN j i o n m l _ _ r λ q u=>h q (o4 _ u)
  refine⟨g,f,e,?_⟩;rw[A3,nX rfl w];exact v
def JV(d:Rect a b rest)(c:W9 rest)(l:0<a)(h:a<=5)(g:b<=5)(i:tbl jE Lj b (2^a) 1≠[]):run G T fu (k+3) 42 [dC (tbl jE Lj b (2^a) 1),rL rest]=some (.v (.bl true) false):=by
 rw[r6 rfl rfl];obtain⟨x',y',z',e⟩:=xN d c l h g _ .no .no .no λ p f=>f
 have w:=JT (F:=run G T fu (k+2)) (δ:=yS _ rest .no .no .no) i (f6 rfl);have j:(tbl jE Lj b (2^a) 1).map (λ p=>DV.tup [.int p.1.1,.int p.1.2])=(ps b (2^a) 1).map λ p=>.tup [.int p.1,.int p.2]:=by unfold tbl;rw[o9];rfl
 rw[j]at w;show Ou.of _=_;exact t6 (K9 w Mv e (p8 rfl))
end k24
end
noncomputable section
namespace k24
open PySem L2
inductive Pn where
 | fin (w:Int) | ask (s:Bool) (c:Nat) (n y:Pn)
noncomputable def Pn.D:Pn->DV
 | .fin w=>.tup [.str "end",.int w]
 | .ask s c n y=>.tup [.str "ask",sd s,.int c,n.D,y.D]
noncomputable def Pn.deep:Pn->Nat
 | .fin _=>0
 | .ask _ _ n y=>1+max n.deep y.deep
noncomputable def Pn.rch:Pn->Nat->Nat->Int
 | .fin w,_,_=>w
 | .ask s c n y,i,j=>if c.testBit (if s then i else j)then y.rch i j else n.rch i j
noncomputable def bs:Nat->(Nat->Bool)->Nat
 | 0,_=>0
 | n+1,q=>2^n*(if q n then 1 else 0)+bs n q
theorem oY(q:Nat->Bool):∀n,bs n q<2^n
 | 0=>Nat.zero_lt_one
 | n+1=>by have:=oY q n;show 2^n*_+bs n q<2^(n+1);rw[ky];split<;>omega
theorem xO(q:Nat->Bool)(i:Nat):∀n,(bs n q).testBit i=(decide (i<n)&&q i)
 | 0=>by show Nat.testBit 0 i=_;rw[fU,B8 (dg i)];rfl
 | n+1=>by
  show(2^n*_+bs n q).testBit i=_;rw[Nat.testBit_two_pow_mul_add _ (oY q n)];split
  ·rename_i h;rw[xO q i n,C5 h,C5 KE]
  ·rename_i h;by_cases e:i=n
   ·subst e;rw[kt,C5 (Y7 i)];cases q i<;>rfl
   ·rw[B8 KE];obtain⟨d,hd⟩:∃d,i - n=d+1:=⟨i - n - 1,by omega⟩;rw[hd];cases q n
    ·exact fU _
    ·show Nat.testBit 1 (d+1)=false;exact qd (by rw[ky];have:=U2 d;omega)
theorem jm:∀{n},(∀c,c<n->q c=a c)->bs n q=bs n a
 | 0,_=>rfl
 | n+1,h=>by show 2^n*_+bs n q=2^n*_+bs n a;rw[h n KE,jm λ c hc=>h c KE]
theorem xP:∀{n},(∀c,c<n->q c=true->a c=false)->bs n q+bs n a=bs n λ c=>q c||a c
 | 0,_=>rfl
 | n+1,h=>by
  show(2^n*_+bs n q)+(2^n*_+bs n a)=2^n*(if q n||a n then 1 else 0)+bs n λ c=>q c||a c
  rw[←(xP λ c hc=>h c KE)];have:=h n KE;cases d:q n<;>cases b:a n
  ·simp;
  ·simp;omega
  ·simp;omega
  ·rw[d]at this;rw[this rfl]at b;cases b
theorem xQ:∀n,bs n (λ _=>false)=0
 | 0=>rfl
 | n+1=>by show 2^n*0+bs n _=0;rw[xQ n,Nat.mul_zero]
theorem xR(q:Nat->Bool):∀n,(((Lb n).filter q).map λ c=>((2^c:Nat):Int)).sum=(bs n q:Nat)
 | 0=>rfl
 | n+1=>by
  rw[aK,List.filter_append,C4,List.sum_append,xR q n];show _=((2^n*_+bs n q:Nat):Int);cases e:q n
  ·simp[e]
  ·simp[e];omega
noncomputable def kd(rows:Le)(c:Nat):Nat:=rows.idxOf (rows.getD c [])
def kx(rows:Le)(c:Nat):Nat:=(Lf).idxOf (kd rows c)
section
variable {rows:on (on Int)} {i j n m h:Nat}
def xS(a:i<rows.length):kd rows i∈FI rows:=by
 unfold FI;have:=E9 a;refine D6.mpr ⟨u0.mpr (fg this),?_⟩;unfold kd;rw[cE this,R4]
def aB(a:i<rows.length):kx rows i<(Lf).length:=fx (xS a)
def xT(a:i<rows.length):(Lf).getD (kx rows i) 0=kd rows i:=by
 unfold kx;rw[u8,m7 (fx (xS a))];exact cW _
def xU(rows:Le):(Lf).Nodup:=(jG).nodup List.nodup_range
def JW(hi:i<rows.length)(a:t<(Lf).length):(kd rows i==(Lf).getD t 0)=(kx rows i==t):=by
 rw[u8,m7 a];show(kd rows i==_[t])=_;rw[U1,h8,h8];constructor
 ·intro e;unfold kx;rw[e];exact pN (xU rows) t a
 ·intro e;subst e;exact(cW _).symm
def ks(rows:Le):on Nat:=(Lf).map λ t=>bs rows.length λ c=>kd rows c==t
def JX(a:t<(Lf).length):(ks rows).getD t 0=bs rows.length λ c=>kx rows c==t:=by
 unfold ks;rw[u8,t5,m7 a];show bs rows.length _=_;refine jm λ c b=>?_
 have:=JW b a;rw[u8,m7 a]at this;exact this
theorem xV:∀(L:on Nat),L.Nodup->(∀t∈L,t<(Lf).length)->(L.map λ t=>(ks rows).getD t 0).sum=bs rows.length λ c=>L.contains (kx rows c)
 | [],_,_=>(xQ _).symm
 | t::L,d,b=>by
  have a:=P0.mp d;rw[A3,gq,xV L a.2 λ t f=>b t (o4 _ f),JX (b t (o5 ..)),xP λ c g e=>?_]
  ·refine jm λ c g=>?_;rw[List.contains_cons]
  ·rw[h8]at e;rw[e];cases q:L.contains t with
   | false=>rfl
   | true=>exact absurd (L9.mp q) a.1
def wd(rows:Le)(h:Nat):Nat:=((cs h).map λ t=>(ks rows).getD t 0).sum
def xW(b:h<2^(Lf).length):wd rows h=bs rows.length λ c=>h.testBit (kx rows c):=by
 unfold wd;rw[xV (cs h) ((jG).nodup List.nodup_range) λ t a=>T3 b a];refine jm λ c hc=>?_
 rw[U1,L9];exact⟨Q4,V9⟩
def oZ(b:h<2^(Lf).length)(a:i<rows.length):(wd rows h).testBit i=h.testBit (kx rows i):=by
 rw[xW b,xO,C5 a,bD]
def xX(a:h<2^(Lf).length):wd rows h<2^rows.length:=by
 rw[xW a];exact oY _ _
def xY(f:h<2^(Lf).length)(g:0<h)(a:h<32):0<wd rows h:=by
 obtain⟨t,b⟩:=bj (O7 h a g);have d:=T3 f b;have c:=Y8 d;refine tb0 (j:=Lf[t]) ?_;rw[oZ f (Y1 c)];have e:kd rows Lf[t]=Lf[t]:=h8.mp (D6.mp c).2;have:kx rows Lf[t]=t:=by unfold kx;rw[e];exact pN (xU rows) t d
 rw[this];exact Q4 b
def JY(h:LG)(o:i<n)(f:j<m):mf Mm (kx rows i) (kx KQ j)=mf rows i j:=by
 have a:i<rows.length:=by rw[h.1];exact o
 have b:j<(KQ).length:=by rw[H9];exact f
 have e:=aB a;have d:=aB b;have p:mf Mm (kx rows i) (kx KQ j)=mf rows ((Lf).getD (kx rows i) 0) ((FI KQ).getD (kx KQ j) 0):=(by unfold mf rst sub;rw[u8 (i:=kx rows i),t5,m7 e];show(List.map _ _).getD _ 0=_;rw[u8,t5,m7 d,u8 (i:=kx rows i),m7 e,u8 (l:=FI KQ),m7 d];rfl);rw[p,xT a,xT b];have r1:rows.getD (kd rows i) []=rows.getD i []:=cE (E9 a);have g:(KQ).getD (kd KQ j) []=(KQ).getD j []:=cE (E9 b);have k:kd KQ j<m:=by have:=fg (E9 b);rw[H9]at this;exact this
 rw[je k,je f]at g;have c:(col rows (kd KQ j)).getD i 0=(col rows j).getD i 0:=by rw[g]
 unfold col at c;rw[u8,u8,t5,t5,m7 a]at c;unfold mf;rw[r1,u8 (l:=rows),m7 a];exact c
end
def xZ(h:evE G F e δ=some (.ok (Lw (iD r)) c)):evE G F (.bi .sum [e]) δ=some (.ok (Li r.sum) .strong):=by
 show Rs.thn _ _=_;rw[g7 h k6];show(ints? (iD r)).map _=_;rw[cD];rfl
theorem ya:∀l:on Nat,(l.map λ (j:Nat)=>(j:Int)).sum=((l.sum:Nat):Int)
 | []=>rfl
 | a::l=>by rw[A3,gq,gq,ya l];omega
theorem yb:∀(l:Le) (k:Nat),enuD k (l.map g)=(Lb l.length).map λ c=>.tup [.int ((k+c:Nat):Int),g (l.getD c [])]
 | [],_=>rfl
 | a::l,k=>by
  rw[A3,x9,qa,A3,o9];show _::enuD (k+1) _=_;rw[yb l (k+1)]
  congr 1
  refine M1 λ c _=>?_;show DV.tup _=.tup _;rw[show k+1+c=k+(c+1) by omega];rfl
def yc(rows:Le)(b:rows.length<=8):run G T fu (k+1) 22 [.lst (iD (kI rows))]=some (.v (Lw (nD (ks rows))) true):=by
 rw[r6 (fd:=nF) rfl rfl];unfold nF;have a:=nW (F:=run G T fu k) (δ:=n9 1 [.lst (iD (kI rows))]) (e:=.var 0) (r:=kI rows) (f6 rfl) (by rw[nZ];omega);rw[wq,nY]at a;have w:r3 (evE G (KY k) (.bi .sset [.var 0]) (n9 1 [.lst (iD (kI rows))]))=some (.ok ((Lf).map λ (t:Nat)=>DV.int (t:Int)) .fresh):=by rw[a];rfl
 have o:=F0 (F:=run G T fu k) (elt:=.bi .sum [.compi (.bin .LShift (.int 1) (.var 0)) (.many [0,1]) (.enu (.var 1)) (.cmp .Eq (.var 1) (.var 2)) [none,none,some 0]]) (tg:=.one 0) (fr:=[none,some 0]) (l:=FI rows) (f:=λ t=>.int ((bs rows.length λ c=>kd rows c==t:Nat):Int)) w KL (i7 (fh rows) (i7 b KL)) (λ t ht=>⟨[.val (Li (t:Int)),.val (Lw (iD (kI rows)))],.strong,rfl,?_,rfl⟩)
 ·have j:((Lf).map λ t=>DV.int ((bs rows.length λ c=>kd rows c==t:Nat):Int))=nD (ks rows):=by unfold nD ks;rw[o9];rfl
  rw[j]at o;exact t6 (p8 (v4 o))
 ·have g:r3 (evE G (KY k) (.enu (.var 1)) [.val (Li (t:Int)),.val (Lw (iD (kI rows)))])=some (.ok ((Lb rows.length).map λ (c:Nat)=>DV.tup [.int (c:Int),.int ((kd rows c:Nat):Int)]) .strong):=by
   show some _=_;unfold iD kI;rw[o9,yb]
   congr 3
   funext c
   rw[gw];rfl
  have d:=cF (F:=run G T fu k) (p:=λ c=>kd rows c==t) (elt:=.bin .LShift (.int 1) (.var 0)) (tg:=.many [0,1]) (cd:=.cmp .Eq (.var 1) (.var 2)) (fr:=[none,none,some 0]) g KL (by rw[C3];exact i7 b KL) (λ c h=>⟨[.val (Li (c:Int)),.val _,.val (Li (t:Int))],rfl,o6 (xn (f6 rfl) (f6 rfl)),.strong,jb (f6 rfl) (by have:=u0.mp h;omega),rfl⟩);have i:(((Lb rows.length).filter λ c=>kd rows c==t).map λ c=>DV.int ((2^c:Nat):Int))=iD (((Lb rows.length).filter λ c=>kd rows c==t).map λ c=>((2^c:Nat):Int)):=by unfold iD;rw[o9];rfl
  rw[i]at d;have:=xZ d;rw[xR]at this;exact this
def JZ{i:Nat}(h:i<l.length):ixD (Lw (nD l)) (Li (i:Int))=some (.int ((l.getD i 0:Nat):Int)):=by
 show(E5 (nD l).length _).bind _=_;unfold nD;rw[g8,nO h];show(List.map _ l)[i]? = _;rw[t5,m7 h,u8,m7 h];rfl
def yd{h:Nat}(d:0<h)(a:h<32)(c:h<2^S.length):run G T fu (k+2) 23 [.int (h:Int),.lst (nD S)]=some (.v (Li ((((cs h).map λ t=>S.getD t 0).sum:Nat):Int)) false):=by
 rw[r6 rfl rfl];unfold vJ;have g:=k7 (G:=G) (δ:=n9 2 [.int (h:Int),.lst (nD S)]) (f:=4) (es:=[.var 0]) rfl rfl (oj (fu:=fu) (k:=k) h d KE);have w:r3 (evE G (KY (k+1)) (LH 4 0) (n9 2 [.int (h:Int),.lst (nD S)]))=some (.ok ((cs h).map λ (t:Nat)=>DV.int (t:Int)) .fresh):=by rw[g];rfl
 have o:=F0 (elt:=.ix (.var 1) (.var 0)) (tg:=.one 0) (fr:=[none,some 1]) (l:=cs h) w KL (i7 (cs5 h a) KL) (λ t b=>⟨[.val (Li (t:Int)),.val (Lw (nD S))],.strong,rfl,p9 (cx:=.strong) (f6 rfl) (f6 rfl) (JZ (T3 c b)),rfl⟩);have e:((cs h).map λ t=>DV.int ((S.getD t 0:Nat):Int))=iD (((cs h).map λ t=>S.getD t 0).map λ (j:Nat)=>(j:Int)):=by unfold iD;rw[o9,o9];rfl
 rw[e]at o;have:=xZ o;rw[ya]at this;exact t6 (p8 (v4 this))
def Ka(r:on Int):DV.nolams (iD r)=true:=by
 induction r with
 | nil=>rfl
 | cons a r b=>exact b
def ye(r:on Nat):DV.nolams (nD r)=true:=by
 induction r with
 | nil=>rfl
 | cons a r b=>exact b
def pd(rows:Le):(Mc).nolam=true:=by
 show DV.nolams _=true
 induction rows with
 | nil=>rfl
 | cons a r b=>
  show(DV.nolams (iD a)&&DV.nolams _)=true;rw[Ka,b];rfl
def fv(L:Tb):(dC L).nolam=true:=by
 show DV.nolams _=true
 induction L with
 | nil=>rfl
 | cons a r b=>exact b
theorem bh:∀p:Pn,p.D.nolam=true
 | .fin w=>rfl
 | .ask s c n y=>by show((sd s).nolam&&(n.D.nolam&&(y.D.nolam&&true)))=true;rw[bh n,bh y];cases s<;>rfl
abbrev own(m:Nat)(rows:Le):DV:=.dct [.s "row",.s "column"] [.lst (nD (ks rows)),.lst (nD (ks KQ))]
abbrev caps(J:Jt)(m:Nat)(rows:Le):on DV:=[dC (ft J m rows),.fn J.nm,tT Mm,own m rows]
def pf(m:Nat)(rows:Le):(own m rows).nolam=true:=by
 show(DV.nolams _&&(DV.nolams _&&true))=true;rw[ye,ye];rfl
def Kb(m:Nat)(rows:Le):DV.nolams (caps J m rows)=true:=by
 show((dC _).nolam&&(true&&((tT _).nolam&&((own m rows).nolam&&true))))=true;rw[fv,pd,pf];rfl
def clB:on MS:=match clo with | some C=>C.body | none=>[]
def yf(h:evSs G (KY k) fu clB (n9 10 (.int R :: .int C::caps J m rows))=some (.rt d false))(hd:d.nolam=true):run G T fu (k+1) F2 (.int R :: .int C::caps J m rows)=some (.v d false):=by
 show(if 6=2+4/\DV.nolams _=true then(match evSs G _ fu clB (n9 10 _)with
  | some (.rt d false)=>if d.nolam then some (Ou.v d false)else none
  | _=>none)else none)=_
 rw[f8 ⟨rfl,Kb m rows⟩,h];exact f8 hd
def yg{cs:on DV}(c:capD δ [2,3,4,5]=some cs)(e:Me)(a:LD=true)(b:l.length=2)(h:F F2 (l.map (·.1)++cs)=some (.v d false))(hd:d.nolam=true):evE G F (.self 2 4 es) δ=some (.ok d .strong):=by
 show(if 2=2/\4=4 then(capD δ [2,3,4,5]).bind λ cs=>Rs.thn _ λ l=>R8 F 2 cs l else none)=_;rw[f8 ⟨rfl,rfl⟩,c,e];show R8 F 2 cs l=_;unfold R8;rw[f8 ⟨a,b⟩,h];exact f8 hd
def Kc{cs:on DV}{ks:on Int}(g:evE G F a δ=some (.ok (Lw ds) .fresh))(f:capD δ fr=some cs)(c:U6 F (.lam ⟨N,np,b,G.fnl,G.bll,G.cll⟩ cs) ds=some ks)(e:P5 ks=some i)(hd:ds[i]? = some d):evE G F (.mink a N np b fr) δ=some (.ok d .strong):=by
 show gW G F _ N np b _=_;rw[f,g];show((U6 F _ ds).bind λ ks=>(P5 ks).bind λ i=>ds[i]?.map λ d=>Re.ok d .strong)=_;rw[c];show((P5 ks).bind λ i=>ds[i]?.map λ d=>Re.ok d .strong)=_;rw[e];show(ds[i]?.map λ d=>Re.ok d .strong)=_;rw[hd];rfl
def Kd{ks:on Int}(h:ks≠[]):∃i,P5 ks=some i/\i<ks.length/\∀x∈ks,ks.getD i 0<=x:=by
 cases f:ks with
 | nil=>exact absurd f h
 | cons m r=>
  obtain⟨v,u,p⟩:=ja r m;have l:=v.elim (λ e=>by rw[e];exact o5 ..) λ e=>o4 _ e
  have c:=λ x k=>(i6.mp k).elim (λ e=>by rw[e];exact u) (p x);rw[←f]at l c ⊢;generalize minI m r=z at l c;have d:=fx l;have n:ks.getD (ks.idxOf z) 0=z:=by rw[u8,m7 d];exact cW d
  have w:∀j,j<ks.length->ks.getD j 0∈ks:=λ j b=>by rw[u8,m7 b];exact Y8 b
  have ok:((Lb ks.length).all λ j=>decide (ks.getD (ks.idxOf z) 0<=ks.getD j 0)&&(decide (ks.idxOf z<=j)||decide (ks.getD (ks.idxOf z) 0<ks.getD j 0)))=true:=by
   rw[J0];intro j b;have b:=u0.mp b;rw[f7,D8,B7,B7,B7,n];have a:=c _ (w j b);refine⟨a,?_⟩;rcases W7 j (ks.idxOf z)with q | q
   ·refine .inr (Int.lt_iff_le_and_ne.mpr ⟨a,λ e=>?_⟩);have:=List.not_of_lt_findIdx q;rw[u8,m7 b]at e;have y:z=ks[j]:=e;rw[←y,R4]at this;cases this
   ·exact .inl q
  cases g:P5 ks with
  | none=>
   unfold P5 at g;have:=List.find?_eq_none.mp g _ (u0.mpr d);exact absurd ok this
  | some i=>
   unfold P5 at g;have o:=jY g;rw[J0]at o;refine⟨i,rfl,(u0.mp (jp g)),λ x k=>?_⟩;obtain⟨j,b,rfl⟩:=List.mem_iff_getElem.mp k;have:=o j (u0.mpr b);rw[f7,B7]at this;have e:=this.1;rw[u8 (i:=j),m7 b]at e;exact e
theorem yh{F:Nat->on DV->Kr Ou}{m:DV}{α:Type}{h:α->DV}{g:α->Int}:∀{l:on α},(∀a∈l,F G6 [m,h a]=some (.v (Li (g a)) false))->U6 F m (l.map h)=some (l.map g)
 | [],_=>rfl
 | a::l,q=>by
  show(match F G6 [m,h a]with
   | some (.v (.int k) false)=>(U6 F m (l.map h)).map (k :: ·)
   | _=>none)=_
  rw[q a (o5 ..),yh λ b hb=>q b (o4 _ hb)];rfl
end k24
end
noncomputable section
namespace k24
open PySem L2
variable {fu k:Nat} {F:Nat->on DV->Kr Ou} {δ:on Sv} {ds:on DV} {cl:Cl} {n m R C:Nat} {rows:on (on Int)}
def Ke{m:LamD}{cs args:on DV}{d:DV}(h1:args.length=m.np/\args.length+cs.length=m.N.length/\DV.nolams args=true/\DV.nolams cs=true)(h:evE G (KY k) m.body ((args++cs).map Sv.val)=some (Lc d))(hd:d.nolam=true):run G T fu (k+1) G6 (.lam m cs::args)=some (.v d false):=by
 have e1:run G T fu (k+1) G6 (.lam m cs::args)=lamR (evE G (KY k)) (.lam m cs::args):=rfl;rw[e1];show(if args.length=m.np/\args.length+cs.length=m.N.length/\DV.nolams args=true/\DV.nolams cs=true then(match evE G (KY k) m.body ((args++cs).map Sv.val)with
  | some (.ok d .strong)=>if d.nolam then some (Ou.v d false)else none
  | _=>none)else none)=_
 rw[f8 h1,h];exact f8 hd
def Kf(b:evE G F u δ=some (Lc (.dct [.s "row",.s "column"] [d,a])))(h:KM e cy (sd s)):evE G F (.dix u e) δ=some (.ok (if s then d else a) .strong):=by
 have c:evE G F (.dix u e) δ=Re.thn _ _:=rfl;rw[c,b,B1,h,B1];cases s
 ·show(if DKey.s "row" = DKey.s "column" then some d else if DKey.s "column" = DKey.s "column" then some a else none).map (λ d=>Re.ok d .strong)=_;rw[g9 KL,f8 rfl];rfl
 ·show(if DKey.s "row" = DKey.s "row" then some d else if DKey.s "column" = DKey.s "row" then some a else none).map (λ d=>Re.ok d .strong)=_;rw[f8 rfl];rfl
def W0(h:δ[i]? = some (.val d))(hd:d.nolam=true)(b:capD δ r=some a):capD δ (i::r)=some (d::a):=by
 show(match δ[i]?,capD δ r with
  | some (.val d),some a=>if d.nolam then some (d::a)else none
  | _,_=>none)=_
 rw[h,b];exact f8 hd
def ph(h:w∈wl R C):(∃g,Sb g R/\w=(sd true,g,(R - g,C),(g,C)))\/∃g,Sb g C/\w=(sd false,g,(R,C - g),(R,g)):=by
 unfold wl at h;rcases F1.mp h with q | q
 ·obtain⟨g,a,rfl⟩:=i8.mp q;exact .inl ⟨g,(ay a).1,rfl⟩
 ·obtain⟨g,a,rfl⟩:=i8.mp q;exact .inr ⟨g,(ay a).1,rfl⟩
def yi:∀R,R<32->∀g,g<32->0<g/\g<R/\g &&& R=g->(cs g).length+(cs (R - g)).length=(cs R).length:=by decide +kernel
noncomputable def Pn.ok(n m:Nat):Pn->Prop
 | .fin w=>0<=w/\w<=9
 | .ask s c a b=>0<c/\c<2^(if s then n else m)/\a.ok n m/\b.ok n m
noncomputable def Pn.val(J:Jt):Pn->Nat
 | .fin _=>J.g
 | .ask _ _ n y=>J.j (n.val J) (y.val J)
structure PlOk(J:Jt)(n m:Nat)(rows:List (List Int))(R C:Nat)(p:Pn):Prop where
 val:p.val J=V J (mf Mm) R C
 few:p.deep+2<=(cs R).length+(cs C).length
 ok:p.ok n m
 to:∀i j,i<n->j<m->R.testBit (kx rows i)=true->C.testBit (kx KQ j)=true->p.rch i j=mf rows i j
def Kg(l:JOk J)(rc:Rect n m a)(h1:(FI a).length<=5)(h2:(FI (flip m a)).length<=5)(f:0<R)(hR:R<2^(FI a).length)(h:0<C)(hC:C<2^(FI (flip m a)).length)(hw:w∈wl R C)(j:N.length=3) :
  run G T fu (k+3) G6 [.lam ⟨N,1,.callv 1 [("joined_ends",15)] [.dix (.var 2) (KW 0 (.int 2)),.dix (.var 2) (KW 0 (.int 3))],G.fnl,G.bll,G.cll⟩ [.fn J.nm,dC (ft J m a)],wD w]=some (.v (Li ((wv J (mf (rst m a)) w:Nat):Int)) false):=by
 have b:∀r c,0<r->r<=R->0<c->c<=C->(ft J m a).lookup (r,c)=some _:=λ r c i r1 o c1=>by unfold ft;rw[az,f8 (L7.mpr (.inl ⟨i,by dsimp only;omega,o,by dsimp only;omega⟩))]
 have d:(ft J m a).lookup w.2.2.1=some (V J (mf (rst m a)) w.2.2.1.1 w.2.2.1.2)/\(ft J m a).lookup w.2.2.2=some (V J (mf (rst m a)) w.2.2.2.1 w.2.2.2.2):=by
  rcases ph hw with⟨g,s,rfl⟩ | ⟨g,s,rfl⟩
  ·have:=s.1;have:=s.2.1;exact⟨b _ _ KE KE h KE,b _ _ s.1 KE h KE⟩
  ·have:=s.1;have:=s.2.1;exact⟨b _ _ f KE KE KE,b _ _ f KE s.1 KE⟩
 have nl:(wD w).nolam=true:=(by rcases ph hw with⟨g,s,rfl⟩ | ⟨g,s,rfl⟩<;>rfl);have e:∀F,evE G F (.var 0) (([wD w]++[.fn J.nm,dC (ft J m a)]).map Sv.val)=some _:=λ F=>f6 rfl;refine Ke ⟨rfl,j.symm,?_,?_⟩ (xg l rfl (g7 (cL (f6 rfl) (p9 (e _) i5 rfl) d.1) (g7 (cL (f6 rfl) (p9 (e _) i5 rfl) d.2) k6))) rfl
 ·show((wD w).nolam&&true)=true;rw[nl];rfl
 ·show(true&&((dC (ft J m a)).nolam&&true))=true;rw[fv];rfl
theorem yj{J:Jt}(hJ:JOk J)(rc:LG)(w9:W9 rows)(n0:0<n)(m0:0<m)(n8:n<=8)(m8:m<=8)(h1:(Lf).length<=5)(h2:(FI KQ).length<=5) :
  ∀(N R C:Nat),(cs R).length+(cs C).length<=N->0<R->R<2^(Lf).length->0<C->C<2^(FI KQ).length->∃p,PlOk J n m rows R C p/\run G T fu (k+N+6) F2 (.int R :: .int C::caps J m rows)=some (.v p.D false)
 | 0,R,C,hN,R0,hR,C0,hC=>by have:=O7 R (t7 hR (p32 h1)) R0;omega
 | N+1,R,C,hN,R0,hR,C0,hC=>by
  have pa:=p32 h1;have pb:=p32 h2;have r1:=O7 R KE R0;have c1':=O7 C KE C0;have rc':=jj (m:=m) (rows:=rows);have w9':=oU rc w9;have a0:0<(Lf).length:=Q3 (by rw[rc.1];exact n0);have ih:=yj hJ rc w9 n0 m0 n8 m8 h1 h2 N
  let F:=run G T fu (k+N+6)
  let D0:on Sv:=n9 10 (.int R :: .int C::caps J m rows)
  let f:=mf Mm
  have rs:Rect (cs R).length (cs C).length (sub Mm (cs R) (cs C)):=(by refine⟨by unfold sub;rw[g8],λ r hr=>?_⟩;obtain⟨i,_,rfl⟩:=i8.mp hr;rw[g8]);have w9s:W9 (sub Mm (cs R) (cs C)):=λ r hr x hx=>by obtain⟨i,hi,rfl⟩:=i8.mp hr;obtain⟨j,hj,rfl⟩:=i8.mp hx;exact cI rc' w9' (T3 hR hi) (T3 hC hj)
  have c1:=k7 (G:=G) (F:=F) (δ:=D0) (f:=2) (es:=[.var 4,.var 0,.var 1]) (l:=[(tT Mm,.strong),(Mi R),(Mi C)]) rfl rfl (wM (fu:=fu) (k:=k+N+3) Mm _ _ R C rc' a0 KE KE R0 hR C0 hC);have c2:=k7 (G:=G) (F:=F) (δ:=D0) (f:=11) (es:=[.call 2 [.var 4,.var 0,.var 1]]) (g7 c1 k6) rfl (wG (fu:=fu) (k:=k+N+5) _ _ _ rs (i7 (cs5 R KE) KL) (i7 (cs5 C KE) KL) w9s);rw[xb]at c2;obtain⟨ws,hws⟩:∃ws,(List.range 10).filter (wp f R C)=ws:=LY;have hwn:wn f R C=ws.length:=by rw[←hws];rfl
  rw[show(Lb 10).filter (wp (mf Mm) R C)=ws from hws]at c2
  let D1:on Sv:=D0.set 6 (.val (Lw (nD ws)))
  have st1:evS G F fu (.set 6 false (.call 11 [.call 2 [.var 4,.var 0,.var 1]])) D0=some (.nx D1):=o7 c2 rfl;have l1:=N3 (F:=F) (δ:=D1) (e:=.var 6) (ds:=nD ws) (c:=.strong) (f6 rfl);unfold nD at l1;rw[g8,←hwn]at l1;have t1:=xn l1 (i5 (i:=1));by_cases h1w:wn f R C=1
  ·obtain⟨w,rfl⟩:=qe.mp (hwn.symm.trans h1w);refine⟨.fin w,⟨by rw[V_eq _ KE];exact(f8 h1w).symm,by show 0+2<=_;omega,?_,λ i j hi hj hbi hbj=>?_⟩,yf (k:=k+N+6) ?_ (bh _)⟩
   ·have:w∈(Lb 10).filter (wp f R C):=by rw[hws];exact w4.mpr rfl
    have:=u0.mp (D6.mp this).1;exact⟨by omega,by omega⟩
   ·have e:=JY rc hi hj;have b9:=cI rc' w9' (aB (rows:=rows) (i:=i) (by rw[rc.1];exact hi)) (aB (rows:=flip m rows) (i:=j) (by rw[H9];exact hj));have hx:(mf Mm (kx rows i) (kx KQ j)).toNat∈(Lb 10).filter (wp f R C):=D6.mpr ⟨u0.mpr KE,Y2.mpr ⟨_,_,V9 hbi,V9 hbj,by show mf _ _ _=_;omega⟩⟩;rw[hws]at hx;have:=w4.mp hx;rw[←e];show(w:Int)=_;omega
   ·rw[show(wn f R C==1)=true by rw[h1w];rfl]at t1;have x0:evE G F (KW 6 (.int 0)) D1=some (.ok (Li (w:Int)) .strong):=p9 (cx:=.strong) (f6 (n:=6) (d:=.lst (nD [w])) rfl) i5 rfl;exact j9 st1 (hU (o6 t1) (p8 (v4 (G7 (g7 (P8 (x:="end")) (g7 x0 k6)) (show 2<=p7 by decide) rfl))))
  ·have hp:0<wn f R C:=oC rc' w9' h1 h2 R0 hR C0 hC;have hwl:=oT (f:=f) (R:=R) (C:=C) KE KE R0 C0 KE;rw[show(wn f R C==1)=false from x8.mpr h1w]at t1;have sp:=k7 (G:=G) (F:=F) (δ:=D1) (f:=17) (es:=[.var 0,.var 1]) (l:=[(Mi R),(Mi C)]) rfl rfl (wU (fu:=fu) (k:=k+N+4) (R:=R) (C:=C) KE KE);have cp:capD D1 [3,2]=some [.fn J.nm,dC (ft J m rows)]:=W0 rfl rfl (W0 rfl (fv _) rfl);have hk:=yh (F:=F) (m:=.lam ⟨["way","joined","numbers"],1,.callv 1 [("joined_ends",15)] [.dix (.var 2) (KW 0 (.int 2)),.dix (.var 2) (KW 0 (.int 3))],G.fnl,G.bll,G.cll⟩ [.fn J.nm,dC (ft J m rows)]) (h:=wD) (g:=λ w=>((wv J f w:Nat):Int)) (l:=wl R C) (λ w hw=>Kg (k:=k+N+3) hJ rc h1 h2 R0 hR C0 hC hw rfl);obtain⟨i,hi,hil,hmin⟩:=Kd (ks:=(wl R C).map λ w=>((wv J f w:Nat):Int)) (λ z=>hwl (bp.mp z));rw[g8]at hil;obtain⟨w,hw⟩:∃w,(wl R C)[i]? = some w:=⟨_,m7 hil⟩;have hwm:=K7 hw;have mk:=Kc sp cp hk hi (by rw[t5,hw];rfl);have gi:((wl R C).map λ w=>((wv J f w:Nat):Int)).getD i 0=((wv J f w:Nat):Int):=by rw[u8,t5,hw];rfl
   rw[gi]at hmin;have hV:wv J f w=V J f R C:=by
    rw[V_eq f KE];unfold stp;rw[g9 h1w];refine jg (i8.mpr ⟨w,hwm,rfl⟩) λ x hx=>?_
    obtain⟨w',hw',rfl⟩:=i8.mp hx;have:=hmin _ (i8.mpr ⟨w',hw',rfl⟩);exact Int.ofNat_le.mp this
   let D2:on Sv:=D1.set 7 (.val (wD w))
   let D3:on Sv:=D2.set 8 (.val (.tup [.int w.2.2.1.1,.int w.2.2.1.2]))
   let D4:on Sv:=D3.set 9 (.val (.tup [.int w.2.2.2.1,.int w.2.2.2.2]))
   have cp4:capD D4 [2,3,4,5]=some (caps J m rows):=W0 rfl (fv _) (W0 rfl rfl (W0 rfl (pd _) (W0 rfl (pf _ _) rfl)));have fin:∀(s:Bool) (g c:Nat) (pn py:Pn),w.1=sd s->w.2.1=g->run G T fu (k+N+6) 23 [.int (g:Int),if s then .lst (nD (ks rows))else .lst (nD (ks KQ))]=some (.v (Li (c:Int)) false) ->
     run G T fu (k+N+6) F2 (.int w.2.2.1.1 :: .int w.2.2.1.2::caps J m rows)=some (.v pn.D false)->run G T fu (k+N+6) F2 (.int w.2.2.2.1 :: .int w.2.2.2.2::caps J m rows)=some (.v py.D false)->run G T fu (k+(N+1)+6) F2 (.int R :: .int C::caps J m rows)=some (.v (Pn.ask s c pn py).D false):=λ s g c pn py e1 e2 e3 e4 e5=>by
    refine yf (k:=k+N+6) ?_ (bh _);have v7:evE G F (.var 7) D4=some (.ok (wD w) .strong):=f6 rfl;have x0:evE G F (KW 7 (.int 0)) D4=some (.ok (sd s) .strong):=p9 (cx:=.strong) v7 i5 (by rw[←e1];rfl);have x1:evE G F (KW 7 (.int 1)) D4=some (.ok (Li (g:Int)) .strong):=p9 (cx:=.strong) v7 i5 (by rw[←e2];rfl);have x2:=k7 (G:=G) (F:=F) (δ:=D4) (f:=23) (es:=[.ix (.var 7) (.int 1),.dix (.var 5) (KW 7 (.int 0))]) (g7 x1 (g7 (Kf (s:=s) (u:=.var 5) (f6 rfl) x0) k6)) rfl e3;have y3:=yg (F:=F) (δ:=D4) (es:=[.ix (.var 8) (.int 0),.ix (.var 8) (.int 1)]) (l:=[(Mi w.2.2.1.1),(Mi w.2.2.1.2)]) cp4 rfl rfl rfl e4 (bh _);have y4:=yg (F:=F) (δ:=D4) (es:=[.ix (.var 9) (.int 0),.ix (.var 9) (.int 1)]) (l:=[(Mi w.2.2.2.1),(Mi w.2.2.2.2)]) cp4 rfl rfl rfl e5 (bh _);exact j9 st1 (v9 (o6 t1) (j9 (o7 mk rfl) (j9 (o7 (δ:=D2) (p9 (cx:=.strong) (f6 (n:=7) (d:=wD w) rfl) i5 rfl) rfl) (j9 (o7 (δ:=D3) (p9 (cx:=.strong) (f6 (n:=7) (d:=wD w) rfl) i5 rfl) rfl) (p8 (v4 (G7 (g7 (P8 (x:="ask")) (g7 x0 (g7 x2 (g7 y3 (g7 y4 k6))))) (show 5<=p7 by decide) rfl)))))))
   rcases ph hwm with⟨g,s,rfl⟩ | ⟨g,s,rfl⟩
   ·have s1:=s.1;have s2:=s.2.1;have two:=yi R KE g (s.lt KE) s;have g1:=O7 g (s.lt KE) s1;have g2:=O7 (R - g) KE KE;obtain⟨pn,okn,en⟩:=ih (R - g) C KE KE KE C0 hC;obtain⟨py,oky,ey⟩:=ih g C KE s1 KE C0 hC;have hgl:g<2^(Lf).length:=by omega
    refine⟨.ask true (wd rows g) pn py,⟨?_,?_,⟨xY hgl s1 KE,by show _<2^n;rw[←rc.1];exact xX hgl,okn.ok,oky.ok⟩,λ i j hi hj hbi hbj=>?_⟩,fin true g _ pn py rfl rfl ?_ en ey⟩
    ·show J.j (pn.val J) (py.val J)=V J f R C;rw[okn.val,oky.val,←hV];rfl
    ·have a:=okn.few;have b:=oky.few;show 1+max pn.deep py.deep+2<=_;omega
    ·have hil:i<rows.length:=by rw[rc.1];exact hi
     have k5:kx rows i<5:=t7 (aB hil) h1;have bits:=(ow R KE g (s.lt KE) s.2.2 (kx rows i) k5).1;show(if(wd rows g).testBit i then py.rch i j else pn.rch i j)=_;rw[oZ hgl hil];cases e:g.testBit (kx rows i)with
     | true=>exact oky.to i j hi hj e hbj
     | false=>exact okn.to i j hi hj (by rw[bits,hbi,e];rfl) hbj
    ·exact yd s1 KE (by unfold ks;rw[g8];exact hgl)
   ·have s1:=s.1;have s2:=s.2.1;have two:=yi C KE g (s.lt KE) s;have g1:=O7 g (s.lt KE) s1;have g2:=O7 (C - g) KE KE;obtain⟨pn,okn,en⟩:=ih R (C - g) KE R0 hR KE KE;obtain⟨py,oky,ey⟩:=ih R g KE R0 hR s1 KE;have hgl:g<2^(FI KQ).length:=by omega
    refine⟨.ask false (wd KQ g) pn py,⟨?_,?_,⟨xY hgl s1 KE,by have:=xX hgl;rw[H9]at this;exact this,okn.ok,oky.ok⟩,λ i j hi hj hbi hbj=>?_⟩,fin false g _ pn py rfl rfl ?_ en ey⟩
    ·show J.j (pn.val J) (py.val J)=V J f R C;rw[okn.val,oky.val,←hV];rfl
    ·have a:=okn.few;have b:=oky.few;show 1+max pn.deep py.deep+2<=_;omega
    ·have hjl:j<(KQ).length:=by rw[H9];exact hj
     have k5:kx KQ j<5:=t7 (aB hjl) h2;have bits:=(ow C KE g (s.lt KE) s.2.2 (kx KQ j) k5).1;show(if(wd KQ g).testBit j then py.rch i j else pn.rch i j)=_;rw[oZ hgl hjl];cases e:g.testBit (kx KQ j)with
     | true=>exact oky.to i j hi hj hbi e
     | false=>exact okn.to i j hi hj hbi (by rw[bits,hbj,e];rfl)
    ·exact yd s1 KE (by unfold ks;rw[g8];exact hgl)
end k24
end
noncomputable section
namespace k24
open PySem L2
variable {fu k:Nat} {F:Nat->on DV->Kr Ou} {δ:on Sv} {ds:on DV} {cl:Cl} {n m:Nat} {rows:on (on Int)}
def Kh(h:Ly a (.ok d c))(g:Ly b (.ok e f))(j:stro d c=true)(i:stro e f=true):evE G F (.dc2 "row" "column" a b) δ=some (.ok (.dct [.s "row",.s "column"] [d,e]) .strong):=by
 show Re.thn _ _=_;rw[h,B1,g,B1];exact f8 ⟨j,i,by decide⟩
def Ki{cs:on DV}(c:δ[5]? = some .no)(e:capD δ [1,2,3,4]=some cs)(f:Me)(a:LD=true)(b:l.length=2)(h:F F2 (l.map (·.1)++cs)=some (.v d false))(hd:d.nolam=true):evS G F fu (.dfr 5 [1,2,3,4] es) δ=some (.rt d false):=by
 show dfrS G F _ _ _ δ[5]? = _;rw[f,e,c];show(R8 F 2 cs l).bind (λ r=>match r with
   | .ok d _=>some _)=_
 unfold R8;rw[f8 ⟨a,b⟩,h];show((if d.nolam then some (Re.ok d .strong)else none):Kr Re).bind _=_;rw[f8 hd];rfl
structure PlF(n m:Nat)(rows:List (List Int))(p:Pn):Prop where
 val:p.val jE=V jE (mf Mm) (2^(Lf).length - 1) (2^(FI KQ).length - 1)
 few:p.deep<=8
 ok:p.ok n m
 to:∀i j,i<n->j<m->p.rch i j=mf rows i j
def Kj(a:LG)(z:W9 rows)(g:0<n)(E:0<m)(B:n<=8)(C:m<=8)(q:(Lf).length<=5)(h:(FI KQ).length<=5):∃p,PlF n m rows p/\run G T fu (k+18) 20 [tT rows]=some (.v p.D false):=by
 have pa:=p32 q;have pb:=p32 h;have K:0<(Lf).length:=Q3 (by rw[a.1];exact g);have q1:2<=2^(Lf).length:=i7 (by decide:2<=2^1) (Q7 KL K);have q2:2<=2^(FI KQ).length:=i7 (by decide:2<=2^1) (Q7 KL (Q3 (by rw[H9];exact E)));have l1:=cs5 (2^(Lf).length - 1) KE;have l2:=cs5 (2^(FI KQ).length - 1) KE;obtain⟨p,ok,e⟩:=yj (J:=jE) (fu:=fu) (k:=k) rfl a z g E B C q h 10 (2^(Lf).length - 1) (2^(FI KQ).length - 1) KE KE KE KE KE;refine⟨p,⟨ok.val,by have:=ok.few;omega,ok.ok,λ i j I H=>ok.to i j I H ?_ ?_⟩,?_⟩
 ·rw[pD,C5 (aB (by rw[a.1];exact I))]
 ·rw[pD,C5 (aB (by rw[H9];exact H))]
 have c:=jj (m:=m) (rows:=rows);have en:=xD (J:=jE) (fu:=fu) (k:=k+10) rfl rows n m a z g KE KE q h;have u:run G T fu (k+17) 21 [tT rows,dC (ft jE m rows),.fn "joined_ends"]=some (.v p.D false):=by
  rw[r6 (fd:=nE) rfl rfl];unfold nE
  let F:=run G T fu (k+16)
  let L:on Sv:=n9 6 [tT rows,dC (ft jE m rows),.fn "joined_ends"]
  have R:=k7 (G:=G) (F:=F) (δ:=L) (f:=8) (es:=[.var 0]) (l:=[(tT rows,.strong)]) rfl rfl (og (fu:=fu) (k:=k+13) rows n m a g KE KE)
  let b:on Sv:=L.set 3 (.val (tT Mm))
  have O:=k7 (G:=G) (F:=F) (δ:=b) (f:=6) (es:=[.var 0]) (l:=[(tT rows,.strong)]) rfl rfl (nT (fu:=fu) (k:=k+15) rows (by rw[a.1];omega));have N:=k7 (G:=G) (F:=F) (δ:=b) (f:=7) (es:=[.var 0]) (l:=[(tT rows,.strong)]) rfl rfl (ww (fu:=fu) (k:=k+14) rows n m a g KE KE);have s1:=k7 (G:=G) (F:=F) (δ:=b) (f:=22) (g7 O k6) rfl (yc (fu:=fu) (k:=k+15) rows (by rw[a.1];exact B));have M:=k7 (G:=G) (F:=F) (δ:=b) (f:=22) (g7 N k6) rfl (yc (fu:=fu) (k:=k+15) KQ (by rw[H9];exact C));have o:=Kh s1 M rfl rfl
  let w:on Sv:=b.set 4 (.val (own m rows))
  have Q:capD w [1,2,3,4]=some (caps jE m rows):=W0 rfl (fv _) (W0 rfl rfl (W0 rfl (pd _) (W0 rfl (pf _ _) rfl)));have A:evE G F (.var 3) w=some (.ok (tT Mm) .strong):=f6 rfl;have y:=ol KE (lenT c A);have x:=ol KE (oN c K A);rw[show((2^(Lf).length:Nat):Int) - 1=((2^(Lf).length - 1:Nat):Int) by omega]at y;rw[show((2^(FI KQ).length:Nat):Int) - 1=((2^(FI KQ).length - 1:Nat):Int) by omega]at x;exact t6 (j9 (o7 R rfl) (j9 (o7 (δ:=b) o rfl) (p8 (Ki (δ:=w) rfl Q (g7 y (g7 x k6)) rfl rfl e (bh _)))))
 rw[r6 (fd:=vI) rfl rfl];have v:=k7 (G:=G) (F:=run G T fu (k+17)) (δ:=n9 1 [tT rows]) (f:=14) (es:=[.var 0]) (l:=[(tT rows,.strong)]) rfl rfl ((by rw[r6 rfl rfl];exact t6 (p8 (v4 (k7 rfl rfl en)))));have P:evE G (KY (k+17)) (.glb "joined_ends") (n9 1 [tT rows])=some (.ok (.fn "joined_ends") .strong):=rfl;have r:=v4 (fu:=fu) (k7 (g7 (f6 (n:=0) (d:=tT rows) rfl) (g7 v (g7 P k6))) rfl u);rw[show frD p.D _=false by cases p<;>rfl]at r;exact t6 (p8 r)
end k24
end
noncomputable section
namespace k24
open PySem L2
def q_ea:cmpD .Eq (.str "end") (.str "ask")=some false:=by decide +kernel
def q_aa:cmpD .Eq (.str "ask") (.str "ask")=some true:=by decide +kernel
def q_ee:cmpD .Eq (.str "end") (.str "end")=some true:=by decide +kernel
def q_ae:cmpD .Eq (.str "ask") (.str "end")=some false:=by decide +kernel
def yk(s:Bool):cmpD .Eq (sd s) (.str "column")=some (!s):=by cases s<;>decide +kernel
def q_in(s:Bool):cmpD .NotIn (sd s) (.tup [.str "row",.str "column"])=some false:=by cases s<;>decide +kernel
def q_na:cmpD .NotEq (.str "ask") (.str "ask")=some false:=by decide +kernel
def p0{p:Pn}(h:evE G F e δ=some (Lc p.D)):evE G F (.ix e (.int 0)) δ=some (.ok (.str (match p with | .fin _=>"end" | .ask _ _ _ _=>"ask")) .strong):=p9 h i5 (by cases p<;>rfl)
def p1(h:evE G F e δ=some (.ok (Pn.ask s x p q).D .strong)):evE G F (.ix e (.int 1)) δ=some (.ok (sd s) .strong):=p9 h i5 rfl
def p2(h:evE G F e δ=some (.ok (Pn.ask s x p q).D .strong)):evE G F (.ix e (.int 2)) δ=some (.ok (Li (x:Int)) .strong):=p9 h i5 rfl
def p3(h:evE G F e δ=some (.ok (Pn.ask s x p q).D .strong)):evE G F (.ix e (.int 3)) δ=some (.ok p.D .strong):=p9 h i5 rfl
def p4(h:evE G F e δ=some (.ok (Pn.ask s x p q).D .strong)):evE G F (.ix e (.int 4)) δ=some (.ok q.D .strong):=p9 h i5 rfl
noncomputable def rB:on MS:=[.set 3 false (.var 1),.iff (.cmp .Eq (KW 0 (.int 1)) (.str "column")) [.set 3 false (.var 2)] [],.set 0 false (.ix (.var 0) (.bin .Add (.int 3) (.bin .BitAnd (.bin .RShift (KW 0 (.int 2)) (.var 3)) (.int 1))))]
theorem yl(i j:Nat):∀(p:Pn) (z:Nat) (x:Sv),p.deep<z->∃m,O4 (λ f=>tstD (evE G F (.cmp .Eq (.ix (.var 0) (.int 0)) (.str "ask")) f)) (λ f=>evSs G F fu rB f) z [.val p.D,.val (Li (i:Int)),.val (Li (j:Int)),x]=some (.nx [.val (Pn.fin (p.rch i j)).D,.val (Li (i:Int)),.val (Li (j:Int)),m])
 | p,0,x,h=>absurd h (dg _)
 | .fin w,z+1,x,_=>⟨x,AT (o6 (F3 (p0 (p:=.fin w) (f6 rfl)) P8 q_ea))⟩
 | .ask s c n y,z+1,x,h=>by
  have hd:1+max n.deep y.deep<z+1:=h;obtain⟨t,o⟩:∃t:Nat,t=(if s then i else j):=LY
  let D (u:Sv):on Sv:=[.val (Pn.ask s c n y).D,.val (Li (i:Int)),.val (Li (j:Int)),u]
  have l:∀u,evE G F (.var 0) (D u)=some (.ok (Pn.ask s c n y).D .strong):=λ u=>f6 rfl;have a:evSs G F fu [.set 0 false (.ix (.var 0) (.bin .Add (.int 3) (.bin .BitAnd (.bin .RShift (KW 0 (.int 2)) (.var 3)) (.int 1))))] (D (KU (t:Int)))=some (.nx [.val (if c.testBit t then y else n).D,.val (Li (i:Int)),.val (Li (j:Int)),.val (Li (t:Int))]):=by
   have r:=oM (p2 (l (KU (t:Int)))) (f6 (n:=3) (d:=.int (t:Int)) rfl) (G2 t);have A:=L3 (i5 (i:=3)) ((by have:evE G F (.bin .BitAnd (.bin .RShift (KW 0 (.int 2)) (.var 3)) (.int 1)) (D (KU (t:Int)))=some (.ok (Li (Builtin.bitAnd ((c:Int)/2^((t:Int).toNat)) 1)) .strong):=J8 r (i5) rfl;rw[oh]at this;exact this));refine j9 (o7 (p9 (cx:=.strong) (l _) A ?_) ?_) rfl
   ·cases c.testBit t<;>rfl
   ·rfl
  have k:evSs G F fu rB (D x)=some (.nx [.val (if c.testBit t then y else n).D,.val (Li (i:Int)),.val (Li (j:Int)),.val (Li (t:Int))]):=by
   have q:=o6 (F3 (p1 (l (KU (i:Int)))) (P8 (x:="column")) (yk s));refine j9 (o7 (f6 (n:=1) (d:=.int (i:Int)) rfl) rfl) ?_;cases s with
   | true=>
    have g:t=i:=o;rw[g]at a ⊢;exact v9 q a
   | false=>
    have g:t=j:=o;rw[g]at a ⊢;exact P6 q (j9 (o7 (f6 (n:=2) (d:=.int (j:Int)) rfl) rfl) rfl) a
  obtain⟨m,v⟩:=yl i j (if c.testBit t then y else n) z (KU (t:Int)) (by split<;>omega);refine⟨m,AU (o6 (F3 (p0 (p:=.ask s c n y) (l x)) P8 q_aa)) k (v.trans ?_)⟩;have e:(if c.testBit t then y else n).rch i j=(Pn.ask s c n y).rch i j:=by show _=(if c.testBit (if s then i else j)then y.rch i j else n.rch i j);rw[o];generalize (if s then i else j)=u;cases c.testBit u<;>rfl
  rw[e]
def Kk{p:Pn}{i j:Nat}(h:p.deep<fu):run G T fu (k+1) 36 [p.D,.int (i:Int),.int (j:Int)]=some (.v (Li (p.rch i j)) false):=by
 rw[r6 rfl rfl];obtain⟨x',e⟩:=yl i j p fu .no h;exact t6 (AV e (p8 (v4 (p9 (f6 rfl) i5 rfl))))
theorem pi(o:LG)(B:0<n)(I:n<=8)(J:m<=8):∀(p:Pn) (K:Nat) (r:Int),p.deep+2<=K->(p.deep:Int)<=r->p.ok n m->run G T fu K 37 [p.D,.int r,tT rows]=some (.v (.bl true) false)
 | .fin w,0,r,h,_,_=>by have:(Pn.fin w).deep=0:=rfl;omega
 | .ask s c a b,0,r,h,_,_=>by omega
 | .fin w,1,r,h,_,_=>by have:(Pn.fin w).deep=0:=rfl;omega
 | .ask s c a b,1,r,h,_,_=>by have:(Pn.ask s c a b).deep=1+max a.deep b.deep:=rfl;omega
 | .fin w,K+2,r,_,L,ok=>by
  rw[r6 (fd:=fe) rfl rfl];unfold fe;have R:(0:Int)<=r:=L
  let D:on Sv:=n9 4 [(Pn.fin w).D,.int r,tT rows]
  let F:=run G T fu (K+1)
  have e:evE G F (.var 0) D=some (.ok (Pn.fin w).D .strong):=f6 rfl;have P:evE G F (.or [.not (.isi (.var 0) ["tuple"]),.cmp .Lt (.var 1) (.int 0)]) D=some (.ok LL .strong):=(by refine or_f (cx:=.strong) rfl (or_1 ?_);rw[b_lt (f6 (n:=1) (d:=.int r) rfl) i5,B8 KE]);have E:evE G F (KW 0 (.int 1)) D=some (.ok (.int w) .strong):=p9 (cx:=.strong) e i5 rfl;have S:evE G F (.chain .LtE .LtE (.int 0) (KW 0 (.int 1)) (.int 9)) D=some (.ok (.bl true) .strong):=by
   show Re.thn (evE G F (.int 0) D) (λ x _=>Re.thn (evE G F (KW 0 (.int 1)) D) λ y _=>match cmpD .LtE x y with
    | none=>none
    | some false=>some (Lc (.bl false))
    | some true=>Re.thn (evE G F (.int 9) D) λ z _=>(cmpD .LtE y z).map λ k=>.ok (.bl k) .strong)=_
   rw[E];show(match some (decide ((0:Int)<=w))with
    | none=>none
    | some false=>some (Re.ok LL .strong)
    | some true=>(some (decide (w<=9))).map λ k=>.ok (.bl k) .strong)=_
   rw[C5 ok.1,C5 ok.2];rfl
  have C:=k7 (f:=24) (g7 E k6) rfl (iU (fu:=fu) (k:=K) (x:=w));exact t6 (v9 (o6 P) (hU (o6 (x:=true) (cl:=.strong) rfl) (p8 (v4 (S9 (F3 (p0 (p:=.fin w) e) P8 q_ee) (S9 C (Y0 S)))))))
 | .ask s c a b,K+2,r,hK,L,ok=>by
  rw[r6 (fd:=fe) rfl rfl];unfold fe;have hd:(Pn.ask s c a b).deep=1+max a.deep b.deep:=rfl;obtain⟨c0,X,A,v⟩:=ok
  let D (u:Sv):on Sv:=[.val (Pn.ask s c a b).D,.val (.int r),.val Mc,u]
  let F:=run G T fu (K+1)
  have e:∀u,evE G F (.var 0) (D u)=some (.ok (Pn.ask s c a b).D .strong):=λ u=>f6 rfl;have l:∀u,evE G F (.var 2) (D u)=some (.ok Mc .strong):=λ u=>f6 rfl;have C:=k7 (f:=24) (g7 (p2 (e .no)) k6) rfl (iU (fu:=fu) (k:=K) (x:=(c:Int)));have O:evE G F (.or [.cmp .NotEq (Lv 0) (.int 5),.cmp .NotEq (.ix (.var 0) (.int 0)) (.str "ask"),.cmp .NotIn (KW 0 (.int 1)) (.tup [.str "row",.str "column"]),.not (.call 24 [.ix (.var 0) (.int 2)])]) (D .no)=some (.ok LL .strong):=
   or_f (cx:=.strong) rfl (or_f (F3 (p0 (p:=.ask s c a b) (e _)) P8 q_na) (or_f (F3 (p1 (e _)) rfl (q_in s)) (or_1 (U7 C))))
  obtain⟨N,q⟩:∃N:Nat,N=(if s then n else m):=LY;have N8:N<=8:=by rw[q];split<;>assumption
  rw[←q]at X;have rest:evSs G F fu [.iff (.or [.cmp .Lt (KW 0 (.int 2)) (.int 1),.cmp .GtE (KW 0 (.int 2)) (.bin .LShift (.int 1) (.var 3))]) [.ret LL] [],.ret (.and [.call 37 [.ix (.var 0) (.int 3),.bin .Sub (.var 1) (.int 1),.var 2],.call 37 [.ix (.var 0) (.int 4),.bin .Sub (.var 1) (.int 1),.var 2]])] (D (KU (N:Int)))=some (.rt (.bl true) false):=by
   have M:evE G F (.or [.cmp .Lt (KW 0 (.int 2)) (.int 1),.cmp .GtE (KW 0 (.int 2)) (.bin .LShift (.int 1) (.var 3))]) (D (KU (N:Int)))=some (.ok LL .strong):=by
    refine or_f (cx:=.strong) ?_ (or_1 ?_)
    ·rw[b_lt (p2 (e _)) i5,B8 KE]
    ·rw[b_ge (p2 (e _)) (jb (f6 (n:=3) (d:=.int (N:Int)) rfl) KE),B8 KE]
   have r1:=P7 (G:=G) (F:=F) (δ:=D (KU (N:Int))) (f6 (n:=1) (d:=.int r) rfl) (i5 (i:=1));have W:=k7 (f:=37) (g7 (p3 (e (KU (N:Int)))) (g7 r1 (g7 (l _) k6))) rfl (pi o B I J a (K+1) (r - 1) KE KE A);have U:=k7 (f:=37) (g7 (p4 (e (KU (N:Int)))) (g7 r1 (g7 (l _) k6))) rfl (pi o B I J b (K+1) (r - 1) KE KE v);exact v9 (o6 M) (p8 (v4 (S9 W (Y0 U))))
  have Q:=o7 (fu:=fu) (i:=3) (lenT o (l .no)) rfl;have H:=o6 (F3 (p1 (e (KU (n:Int)))) (P8 (x:="column")) (yk s));refine t6 (v9 (o6 ((by refine or_f rfl (or_1 ?_);rw[b_lt (f6 rfl) i5,B8 KE]))) (v9 (o6 (x:=false) (cl:=.strong) rfl) (v9 (o6 O) (j9 Q ?_))));cases s with
  | true=>
   have g:N=n:=q;rw[g]at rest;exact v9 H rest
  | false=>
   have g:N=m:=q;rw[g]at rest;exact P6 H (j9 (o7 (oN o B (l _)) rfl) rfl) rest
def Kl(q:LG)(y:0<n)(n8:n<=8)(m8:m<=8){p:Pn}(h:p.deep<fu)(w:∀i j,i<n->j<m->p.rch i j=mf rows i j):run G T fu (k+2) 40 [p.D,tT rows]=some (.v (.bl true) false):=by
 rw[r6 rfl rfl];unfold vQ
 let D (u v:Sv):on Sv:=[.val p.D,.val Mc,u,v]
 let F:=run G T fu (k+1)
 have o:∀u v,evE G F (.var 1) (D u v)=some (.ok Mc .strong):=λ u v=>f6 rfl;refine t6 (AZ (cJ (lenT q (o .no .no)) KE) (.inr rfl) (lw (I:=λ a=>∃u v,a=D u v) (λ d hd a ⟨u,v,e⟩=>?_) ⟨_,_,rfl⟩) λ a ⟨u,v,e⟩=>by subst e;exact p8 rfl);subst e;obtain⟨i,g,rfl⟩:=i8.mp hd;have g:=u0.mp g;obtain⟨b,z,v',rfl⟩:=lw (I:=λ a=>∃v,a=D (KU (i:Int)) v) (tg:=.one 3) (body:=λ b=>evSs G F fu [.iff (.cmp .NotEq (.call 36 [.var 0,.var 2,.var 3]) (.ix (KW 1 (.var 2)) (.var 3))) [.ret LL] []] b) (ds:=(Lb m).map λ (j:Nat)=>DV.int (j:Int)) (λ d hd a ⟨v,e⟩=>by
  subst e;obtain⟨j,c,rfl⟩:=i8.mp hd;have c:=u0.mp c;have x:=k7 (G:=G) (F:=F) (δ:=D (KU (i:Int)) (KU (j:Int))) (f:=36) (es:=[.var 0,.var 2,.var 3]) (l:=[(p.D,.strong),(Mi (i:Int)),(Mi (j:Int))]) rfl rfl (Kk (k:=k) h);have r:=Jh (F:=F) (δ:=D (KU (i:Int)) (KU (j:Int))) (Jg q) (o _ _) (f6 (n:=2) (d:=.int (i:Int)) rfl) (f6 (n:=3) (d:=.int (j:Int)) rfl) g c;have ne:=b_ne x r;rw[show(p.rch i j != at2 rows i j)=false by rw[w i j g c];exact Y6 _]at ne;exact⟨_,D _ _,rfl,v9 (o6 ne) rfl,_,rfl⟩) ⟨v,rfl⟩
 exact⟨D _ v,_,rfl,K9 (cJ (oN q y (o _ _)) KE) (.inr rfl) z rfl,_,_,rfl⟩
def pj(h:x.cps.all (· < 0x110000)=true)(N:Nat):DV.plain N (.str x)=true:=by cases N<;>(unfold DV.plain;exact h)
def Km(s:Bool)(N:Nat):DV.plain N (sd s)=true:=by cases s<;>exact pj LU N
theorem pl_P:∀(p:Pn) (N:Nat),p.deep<N->DV.plain N p.D=true
 | p,0,h=>absurd h (dg _)
 | .fin w,N+1,_=>by show(DV.plain N _&&(DV.plain N _&&true))=true;rw[vV,pj LU];rfl
 | .ask s c n y,N+1,h=>by have hd:1+max n.deep y.deep<N+1:=h;show(DV.plain N _&&(DV.plain N (sd s)&&(DV.plain N _&&(DV.plain N n.D&&(DV.plain N y.D&&true)))))=true;rw[vV,pl_P n N KE,pl_P y N KE,Km,pj LU];rfl
theorem pq:∀p:Pn,deq p.D p.D=true
 | .fin w=>by show(decide (("end" : Str) = "end")&&((w==w)&&true))=true;rw[R4];decide +kernel
 | .ask s c n y=>by show(decide (("ask" : Str) = "ask")&&(deq (sd s) (sd s)&&((_==_)&&(deq n.D n.D&&(deq y.D y.D&&true)))))=true;rw[R4,pq n,pq y];cases s<;>decide +kernel
def eq_P{p:Pn}(h:p.deep<=8):cmpD .Eq p.D p.D=some true:=by
 show(if(p.D.plain 60&&p.D.plain 60)=true then some (deq p.D p.D)else none)=_;rw[pl_P p 60 KE,pq];rfl
theorem ym:∀L:Tb,DV.immuts (MC (p.2:Int))=true
 | []=>rfl
 | p::L=>by show(DV.immut _&&DV.immuts _)=true;rw[ym L];rfl
theorem pu:∀(p:Pn) (K:Nat),p.deep<K->run G T fu K 39 [p.D]=some (.v (Li (p.val jE:Nat)) false)
 | p,0,h=>absurd h (dg _)
 | .fin w,K+1,_=>by rw[r6 rfl rfl];exact t6 (hU (o6 (F3 (p0 (p:=.fin w) (f6 rfl)) P8 q_ee)) (p8 rfl))
 | .ask s c n y,K+1,h=>by have hd:1+max n.deep y.deep<K+1:=h;rw[r6 rfl rfl];have a:evE G (KY K) (.var 0) (n9 1 [(Pn.ask s c n y).D])=some _:=f6 rfl;have d:=k7 (g7 (p3 a) k6) rfl (pu n K KE);have b:=k7 (g7 (p4 a) k6) rfl (pu y K KE);have e:=L3 d b;exact t6 (v9 (o6 (F3 (p0 (p:=.ask s c n y) a) P8 q_ae)) (p8 (v4 e)))
def cM(b:T[f]? = some d)(a:ds.length=d.np)(h:rxS G (KY k) 3 d.body (n9 d.n ds)=true):run G T fu (k+1) (rxIx+f) ds=some (.v .non false):=by
 rw[gY (W4 (i7 (show 44<=rxIx by decide) (R5 rxIx f))),g9 (N7 (t7 KL (R5 rxIx f))),g9 (N7 (t7 KL (R5 rxIx f)))];unfold rxR;rw[pW,b];exact f8 ⟨R5 ..,a,h⟩
def rx_c(a:Me)(h:F (rxIx+f) (l.map (·.1))=some o):rxC G F (.call f es) δ=true:=by
 show(match evEs G F es δ with | some (.ok l)=>(F _ _).isSome | none=>false)=true;rw[a];show(F _ _).isSome=true;rw[h];rfl
def Kn(R:LG)(l:0<n)(n8:n<=8)(m8:m<=8)(j:sm (Lf).length (FI KQ).length=false):∀f∈[12,19,20],run G T fu (k+9) (rxIx+f) [tT rows]=some (.v .non false):=by
 have c:∀k,run G T fu (k+5) (rxIx+10) [tT rows]=some (.v .non false):=λ k=>by have c:=U7 (k7 (G:=G) (δ:=n9 1 [tT rows]) (f:=9) (es:=[.var 0]) rfl rfl (wy (fu:=fu) (k:=k) rows n m R l KE KE));rw[j]at c;refine cM rfl rfl ?_;show(match tstD (evE G (KY (k+4)) (.not (LH 9 0)) (n9 1 [tT rows]))with | some (.ok b)=>rxS G (KY (k+4)) 2 _ _ | none=>false)=true;rw[o6 c];rfl
 have one:∀{F:Nat->on DV->Kr Ou} {δ:on Sv} {f:Nat} {a:ME},rxC G F (.call f [a]) δ=true->rxE G F (.call f [a]) δ=true:=λ h=>by show(_||_)=true;rw[h];rfl
 have v:∀k,evEs G (KY k) [.var 0] (n9 1 [tT rows])=some (.ok [(tT rows,.strong)]):=λ k=>rfl;have o:∀k,run G T fu (k+7) (rxIx+14) [tT rows]=some (.v .non false):=λ k=>by refine cM (d:=nA) rfl rfl ?_;show(_||_)=true;rw[rx_c rfl (cM (d:=vG) rfl rfl (one (rx_c rfl (c k))))];rfl
 have q:=λ k=>rx_c (v _) (o k);have i:∀k,run G T fu (k+8) (rxIx+12) [tT rows]=some (.v .non false):=λ k=>by refine cM (d:=nz) rfl rfl ?_;show(_||rxC G (KY (k+7)) (LH 14 0) (n9 1 [tT rows]))=true;rw[q k,gy]
 intro f g;simp only[i6,O9,P3]at g;rcases g with rfl | rfl | rfl
 ·exact i (k+1)
 ·exact cM rfl rfl (rx_c (v _) (i k))
 ·refine cM rfl rfl ?_;have e:rxL G (KY (k+8)) [.var 0,.call 14 [.var 0],.glb "joined_ends"] (n9 1 [tT rows])=true:=(by show(true&&rxC G (KY (k+1+7)) (LH 14 0) (n9 1 [tT rows]))=true;rw[q (k+1)];rfl);show(_||rxL G (KY (k+8)) _ (n9 1 [tT rows]))=true;rw[e,gy]
def Ko(h:∀f∈[12,19,20],run G T fu k (rxIx+f) [t]=some (.v .non false)):∀j∈[0,1,2],run G T fu (k+1) 41 [t,.int j]=some (.v (.bl true) false):=by
 intro j a;rw[r6 rfl rfl];refine t6 (p8 (f8 ?_));have one:∀f∈[12,19,20],rxE G _ (LH f 0) [.val t,.val (.int j),.val .non,.no]=true:=λ f b=>by show(_||_)=true;rw[rx_c rfl (h f b)];rfl
 simp only[i6,O9,P3]at a;rcases a with rfl | rfl | rfl
 ·exact one 12 KL
 ·exact one 19 KL
 ·exact one 20 KL
def Kq(H:on Int)(a4:H.length<=63):run G T 100 60 43 [.scr H]=some (.v (.bl true) false):=by
 obtain⟨n,m,h,t,e1⟩:=Jz (fu:=100) (k:=56) H a4;have s1:(FI h).length<=5:=xp t.fr;have B:(FI (flip m h)).length<=5:=xp t.fc;have O:0<(FI h).length:=Q3 (by rw[t.R.1];exact t.n0);have b0:0<(FI (flip m h)).length:=Q3 (by rw[(be t.R).1];exact t.m0);have Z:=t.n8;have m8:=t.m8;have e3:=xF (fu:=100) (k:=51) h n m t.R t.w9 t.n0 KE t.m0 KE s1 B;have E:=jj (m:=m) (rows:=h);have w9:=oU t.R t.w9;obtain⟨l1,l2⟩:=xE (J:=jE) (m:=m) (rows:=h) s1 B;obtain⟨L0,eL⟩:=oV (J:=jE) (m:=m) O b0;have h0:ft jE m h≠[]:=by rw[eL];simp
 have A:(ft jE m h).map (·.1)=ps (FI (flip m h)).length (2^(FI h).length) 1:=(by unfold ft tbl;rw[o9];exact List.map_id _);have hp:((ft jE m h).map (·.1)).Pairwise lx:=by
  rw[A];have:=xy (FI (flip m h)).length (2^(FI h).length - 1)
  rwa [show 2^(FI h).length - 1+1=2^(FI h).length by have:=U2 (FI h).length;omega]at this
 have e4:=JS (fu:=100) (k:=57) (ft jE m h) E O s1 B h0 l1 l2 hp (λ r c h1 h2 h3 h4=>by rw[A];exact L7.mpr (.inl ⟨h1,h2,h3,h4⟩));have e6:=JI (fu:=100) (k:=50) h n m t.R t.w9 t.n0 KE t.m0 KE s1 B;obtain⟨p,ok,ep⟩:=Kj (fu:=100) (k:=41) t.R t.w9 t.n0 t.m0 Z m8 s1 B;have f1:=ok.few;have ip:=pi (fu:=100) t.R t.n0 Z m8 p 59 12 KE KE ok.ok;have sp:=Kl (fu:=100) (k:=57) t.R t.n0 Z m8 (p:=p) KE ok.to;have R:=pu (fu:=100) p 59 KE;rw[ok.val]at R;have lk:(ft jE m h).lookup (2^(FI h).length - 1,2^(FI (flip m h)).length - 1)=some (V jE (mf (rst m h)) (2^(FI h).length - 1) (2^(FI (flip m h)).length - 1)):=(by unfold ft;rw[az,f8];have:2<=2^(FI h).length:=i7 (by decide:2<=2^1) (Q7 KL O);have:2<=2^(FI (flip m h)).length:=i7 (by decide:2<=2^1) (Q7 KL b0);exact L7.mpr (.inl ⟨by dsimp only;omega,by dsimp only;omega,by dsimp only;omega,by dsimp only;omega⟩));obtain⟨v1,c1⟩:=nL (fu:=100) (k:=58) H 1;obtain⟨n',m',o,n3,Y,m3,a3,R',a5,e7⟩:=JB (fu:=100) (k:=58) v1;have rf:=Ko (fu:=100) (k:=58) (t:=tT o) (Kn (fu:=100) (k:=49) R' KE Y a3 a5);have N:cmpD .Eq (Lw ((ft jE m h).map tD)) (Lw ((ft jE m h).map tD))=some true:=eq_T _;have M:=eq_P f1;have K:DV.immut (dC (ft jE m h))=true:=ym _;obtain⟨P,hP⟩:∃P,(ft jE m h).map tD=P:=LY;obtain⟨q,hV⟩:∃v,V jE (mf (rst m h)) (2^(FI h).length - 1) (2^(FI (flip m h)).length - 1)=v:=LY;obtain⟨Q,hQ⟩:∃d,p.D=d:=LY;rw[hV]at e6 lk R;rw[hP]at e3 e4 N;rw[hQ]at ep ip sp R M
 let F:=run G T 100 59
 let D:Sv->Sv->Sv->Sv->Sv->Sv->Sv->on Sv:=λ x y z v u g w=>[.val (.scr H),.val (tT h),.val (rL (rst m h)),x,y,z,v,u,g,w]
 let C:=D (.own (.lst P)) (.val (dC (ft jE m h))) .no .no .no .no .no
 let U:=D (.own (.lst P)) (.val (dC (ft jE m h))) (KU q) (KU q) (.val Q) .no .no
 let S:=D (.own (.lst P)) (.val (dC (ft jE m h))) (KU q) (KU q) (.val Q) (.val (tT o)) .no
 let D4:=D (.own (Lw (P++[.int 0]))) (.val (dC (ft jE m h))) (KU q) (KU q) (.val Q) (.val (tT o)) (.val (.lst P))
 have t1:evE G F (.or [.cmp .Is (.var 4) (.non),.not (.call 42 [.var 4,.var 2])]) C=some (.ok LL .strong):=
  or_f (cx:=.strong) rfl (or_1 (U7 (k7 (fr:=false) (g7 (f6 rfl) (LM k6)) rfl (JV E w9 O s1 B h0))))
 have a1:=U2 (FI h).length;have b1:=U2 (FI (flip m h)).length;have X:evE G F (.bin .Sub (.call 30 [.bi .len [.var 2]]) (.int 1)) C=some (.ok (Li ((2^(FI h).length - 1:Nat):Int)) .strong):=by
  have I:=N3 (F:=F) (δ:=C) (e:=.var 2) (ds:=(rst m h).map λ r=>.lst (iD r)) (c:=.strong) (f6 rfl);rw[g8,E.1]at I;have:=P7 (k7 (fr:=false) (g7 I k6) rfl (jk (fu:=100) (k:=58) (FI h).length KE)) (i5 (i:=1))
  rwa [show((2^(FI h).length:Nat):Int) - 1=((2^(FI h).length - 1:Nat):Int) by omega]at this
 have W:evE G F (.bin .Sub (.call 30 [.bi .len [.ix (.var 2) (.int 0)]]) (.int 1)) C=some (.ok (Li ((2^(FI (flip m h)).length - 1:Nat):Int)) .strong):=by
  have r0:0<(rst m h).length:=by rw[E.1];exact O
  have I:=N3 (F:=F) (δ:=C) (p9 (a:=.var 2) (b:=.int 0) (cx:=.strong) (f6 rfl) (i5 (i:=((0:Nat):Int))) (ax (rows:=rst m h) r0));rw[show(iD ((rst m h).getD 0 [])).length=(FI (flip m h)).length by unfold iD;rw[g8];exact E.2 _ (E9 r0)]at I;have:=P7 (k7 (fr:=false) (g7 I k6) rfl (jk (fu:=100) (k:=58) (FI (flip m h)).length KE)) (i5 (i:=1))
  rwa [show((2^(FI (flip m h)).length:Nat):Int) - 1=((2^(FI (flip m h)).length - 1:Nat):Int) by omega]at this
 have q5:=cL (F:=F) (δ:=C) (u:=.var 4) (L:=ft jE m h) (cx:=.strong) (f6 rfl) (G7 (g7 X (g7 W k6)) (ln4 KS) rfl) lk;have n1:=U7 (k7 (G:=G) (F:=F) (δ:=U) (f:=24) (es:=[.var 6]) (l:=[(Mi q)]) (fr:=false) rfl rfl (iU (fu:=100) (k:=58) (x:=(q:Int))));have n2:=b_ne (f6 (G:=G) (F:=F) (δ:=U) (n:=6) (d:=.int q) rfl) (f6 (n:=5) (d:=.int q) rfl);rw[Y6]at n2;have a2:=U7 (k7 (G:=G) (F:=F) (δ:=U) (f:=37) (es:=[.var 7,.int 12,.var 1]) (l:=[(Q,.strong),(Mi 12),(tT h,.strong)]) (fr:=false) rfl rfl ip);have n4:=U7 (k7 (G:=G) (F:=F) (δ:=U) (f:=40) (es:=[.var 7,.var 1]) (l:=[(Q,.strong),(tT h,.strong)]) (fr:=false) rfl rfl sp);have t2:=or_f n1 (or_f n2 (or_f a2 (or_1 n4)));have m1:=b_ne (k7 (G:=G) (F:=F) (δ:=S) (f:=39) (es:=[.var 7]) (l:=[(Q,.strong)]) (fr:=false) rfl rfl R) (f6 (n:=5) (d:=.int q) rfl);rw[Y6]at m1;have cr:=λ j hj=>U7 (k7 (G:=G) (F:=F) (δ:=S) (f:=41) (es:=[.var 8,.int j]) (l:=[(tT o,.strong),(Mi j)]) (fr:=false) rfl rfl (rf j hj));have t3:=or_f m1 (or_1 (cr 0 KL));have t4:=or_f (cr 1 KL) (or_1 (cr 2 KL));have q7:evE G F (.bi .list [.var 3]) S=some (.ok (.lst P) .fresh):=(by show Rs.thn (evEs G F [.var 3] S) (λ l=>dU l)=_;rw[g7 (eg rfl) k6];rfl);have lP:P.length<=1000:=by rw[←hP,g8];exact l2
 rw[r6 (fd:=iT) rfl rfl];unfold iT;exact t6 (j9 (o7 (k7 (fr:=false) (LM (g7 i5 k6)) rfl e1) rfl)
  (j9 (o7 (k7 (fr:=true) (LM k6) rfl (JC t.R t.n0 t.n8 t.m8)) rfl)
  (j9 (ee (k7 (fr:=true) (LM k6) rfl e3))
  (j9 (o7 (AR (g7 (eg rfl) (LM k6)) rfl e4) K) (v9 (o6 t1) (j9 (o7 q5 rfl)
  (j9 (o7 (k7 (fr:=false) (LM k6) rfl e6) rfl)
  (j9 (o7 (k7 (fr:=false) (LM k6) rfl ep) rfl)
  (v9 (o6 t2) (j9 (o7 (k7 (g7 (k7 rfl rfl c1) k6) rfl e7) rfl) (v9 (o6 t3) (v9 (o6 t4) (j9 (o7 q7 rfl) (j9 (lA rfl i5 rfl (by show P.length<_;have:p7=1000000:=rfl;omega)) (p8 (v4 (S9 (F3 (k7 rfl rfl e3) (f6 rfl) N) (Y0 (F3 (k7 rfl rfl ep) (f6 rfl) M)))))))))))))))))))
open PySem.W PySem.Spec PyProof.Rows
def lnS(h:b.length=n+1):∃a r,b=a::r/\r.length=n:=by cases b with | nil=>cases h | cons a r=>exact⟨a,r,rfl,Nat.succ.inj h⟩
def ln0(h:a.length=0):a=[]:=aC.mp h
def ln1{α:Type}{us:on α}(h:us.length=1):∃a0,us=[a0]:=by obtain⟨_,_,rfl,h0⟩:=lnS h;obtain rfl:=ln0 h0;exact LY
def ln2{α:Type}{us:on α}(h:us.length=2):∃a0 a1,us=[a0,a1]:=by obtain⟨_,_,rfl,h0⟩:=lnS h;obtain⟨_,_,rfl,h1⟩:=lnS h0;obtain rfl:=ln0 h1;exact⟨_,_,rfl⟩
def ln3{α:Type}{us:on α}(h:us.length=3):∃a0 a1 a2,us=[a0,a1,a2]:=by obtain⟨_,_,rfl,h0⟩:=lnS h;obtain⟨_,_,rfl,h1⟩:=lnS h0;obtain⟨_,_,rfl,h2⟩:=lnS h1;obtain rfl:=ln0 h2;exact⟨_,_,_,rfl⟩
def fn:on Str:=fnl
def bl:on Str:=bll
def cl:on Str:=cll
def ok15:okD fn bl cl vF ["no","yes"] ["no","yes"] (top 24)=true:=by decide +kernel
def ok43:okD fn bl cl iT ["_law_script","_law_table_here","_law_small","_law_paper","_law_known_here","_law_every","_law_found","_law_plan","_law_great_here","_law_held"] ["_law_script"] (top 54)=true:=by decide +kernel
abbrev ck(P:Params)(x:Str)(f:Ku)(i:Nat)(dV pm:Ks)(cd:Ku):Prop:=(nsIn (kK P) mainGlobals x,(kK P).lookup f,codeIn (kK P) (.ref cd) x,keepIn (kK P) (.ref f))=(some (Md f),some (fo x i dV pm cd),true,true)
def ck4{P:Params}{x:Str}{f:Ku}{i:Nat}{dV pm:Ks}{cd:Ku}(q:ck P x f i dV pm cd):nsIn (kK P) mainGlobals x=some (Md f)/\(kK P).lookup f=some (fo x i dV pm cd)/\codeIn (kK P) (.ref cd) x=true/\keepIn (kK P) (.ref f)=true:=by
 obtain⟨a,b⟩:=gz q;obtain⟨b,c⟩:=gz b;exact⟨a,b,gz c⟩
def kN(P:Params):((kK P).map (·.1)).Nodup:=by rw[show(kK P).map (·.1)=zA by kernel_rfl];decide +kernel
def kM(P:Params):((A8 (kK P)).map (·.1)).Nodup:=by rw[show(A8 (kK P)).map (·.1)=kT.map (·.1) by kernel_rfl];decide +kernel
def zz(P:Params):bl.map (nsIn (kK P) mainGlobals)=bl.map λ _=>some none:=by kernel_rfl
abbrev zd(j:Nat):Rw:=zD.getD j ⟨"",0,0,0,0,false,0,0,0⟩
def sk{w:Ky}{h:Kv}{mg:Str->Kr Ks}(j:Nat){d:FD}(N:on Str)(X:(kK w.params).In h)(Ns:h.Ns mainGlobals mg)(ok:okD fn bl cl d N (N.take d.np) (top (zd j).i)=true:=by decide +kernel)(q:ck w.params (zd j).n ((zd j).c+1) (zd j).i .none (zP (zd j).m) (zd j).c:=by kernel_rfl)(hb:∀(kV doc pm:Ks) (an:Kr Ku) (cdv ct:Ks) (us:on Ks),us.length=(N.take d.np).length->bindArgs (fnOf (zd j).n (zd j).n (aO (top (zd j).i)) (J2 (top (zd j).i)) (u9 (top (zd j).i)) .none kV doc pm an cdv ct) ⟨us,[]⟩=pure ((N.take d.np).zip us):=by(intro _ _ _ _ _ _ us hl;first | (obtain⟨_,rfl⟩:=ln1 hl;rfl) | (obtain⟨_,_,rfl⟩:=ln2 hl;rfl) | (obtain⟨_,_,_,rfl⟩:=ln3 hl;rfl)))(dq:dqB (zd j).n (u9 (top (zd j).i)).names=true:=by decide +kernel):Stands (kK w.params) mg fn bl cl d (zd j).n ((zd j).c+1) (fnOf (zd j).n (zd j).n (aO (top (zd j).i)) (J2 (top (zd j).i)) (u9 (top (zd j).i)) .none .none .none (zP (zd j).m) none (.ref (zd j).c) .none) (N.take d.np):=by
 obtain⟨a,l,c,k⟩:=ck4 q;exact iS X Ns (cC ok).1 (.inl (cC ok).2) a l c k hb dq
open PySem.W
def all_mk{l:OpenLaw}{w:Ky}{h:Kv}{mg:Str->Kr Ks}{fa:Ku}(X:(kK w.params).In h)(Ns:h.Ns mainGlobals mg)(hfa:mg "law" = some (.ref fa)):∃fd:FuncData,(∀(s:Kt) (v:Ks),BindsTo s fd ⟨[v],[]⟩ [("_law_script",v)])/\∀base:Kv,(kK w.params).In base->base.Ns mainGlobals mg->FnOk l.prog w (kK w.params) mg base CX0 60 fa fd ["_law_script"] (spS (kK w.params)):=by
 obtain⟨a15,l15,c15,k15⟩:=ck4 (P:=w.params) (x:="joined_ends") (f:=165) (i:=24) (dV:=.none) (pm:=(.str "talkleast.parts" 349)) (cd:=164) Mz;have S15:=iS X Ns (cC ok15).1 (.inl (cC ok15).2) a15 l15 c15 k15 λ _ _ _ _ _ _ us hl=>by obtain⟨_,_,rfl⟩:=ln2 hl;rfl
 obtain⟨a41,l41,c41,k41⟩:=ck4 (P:=w.params) (x:="_law_refused") (f:=323) (i:=52) (dV:=.none) (pm:=(.str "law_talkleast_k24_ends_papers_and_plans" 439)) (cd:=322) Mz;have S41:Stands (kK w.params) mg fn bl cl vR _ _ _ _:=iS (N:=["_law_table_here","_law_kind","_law_caught","error"]) (ps:=["_law_table_here","_law_kind"]) (st:=top 52) X Ns LU (.inr ⟨_,rfl,by decide +kernel,by refine⟨_,_,_,_,_,_,_,_,_,_,_,_,_,_,_,_,_,_,_,_,_,_,_,_,_,_,_,_,_,_,_,_,_,_,_,_,_,_,_,_,_,_,?_,rfl⟩;decide +kernel⟩) a41 l41 c41 k41 λ _ _ _ _ _ _ us hl=>by obtain⟨_,_,rfl⟩:=ln2 hl;rfl
 obtain⟨a43,l43,c43,k43⟩:=ck4 (P:=w.params) (x:="law") (f:=335) (i:=54) (dV:=.none) (pm:=(.str "law_talkleast_k24_ends_papers_and_plans" 439)) (cd:=334) Mz;have S43:=iS X Ns (cC ok43).1 (.inl (cC ok43).2) a43 l43 c43 k43 λ _ _ _ _ _ _ us hl=>by obtain⟨_,rfl⟩:=ln1 hl;rfl
 have e:=hfa.symm.trans (mg_of X Ns a43);cases e;have HC:∀x d,G.con.lookup x=some d->∃u v,mg x=some u/\RelV v u/\∀H,Rep ⟨kK w.params,mg⟩ H d v:=by
  intro x d h;have g0:nsIn (kK w.params) mainGlobals "SMALL_LINES" = some (some (.int 5 268)):=by kernel_rfl
  exact vn ⟨_,.int _,mg_of X Ns g0,LY,λ H=>z8.mpr rfl⟩ (vn ⟨_,.ref _,S15.mg,rfl,λ H=>ma.mpr ⟨_,rfl,S15.mg⟩⟩ (Ik)) x d h
 have x0:nsIn (kK w.params) mainGlobals "TooGreat" = some (some (.ref 68)):=by kernel_rfl
 have x1:nsIn (kK w.params) mainGlobals "TalkError" = some (some (.ref 31)):=by kernel_rfl
 have x2:nsIn (kK w.params) mainGlobals "NoTable" = some (some (.ref 44)):=by kernel_rfl
 have x3:nsIn (kK w.params) mainGlobals "NoCard" = some (some (.ref 56)):=by kernel_rfl
 have HX:XF (kK w.params) mg 68:=⟨mg_of X Ns x0,⟨_,_,_,[.type "ValueError",.type "Exception",.type "BaseException",.type "object"],PySem.F.excBase_ValueError,_,_,_,_,_,_,_,_,_,_,_,_,_,_,_,_,rfl,by kernel_rfl,by kernel_rfl,by kernel_rfl⟩,by constructor<;>kernel_rfl,⟨_,mg_of X Ns x1,by kernel_rfl⟩,by kernel_rfl,by kernel_rfl,⟨_,mg_of X Ns x2,by kernel_rfl⟩,⟨_,mg_of X Ns x3,by kernel_rfl⟩⟩;have HSS:HS (kK w.params) mg fn bl cl T fn:=(t8 (sk 0 ["thing","least","most"] X Ns) (t8 (sk 1 ["table"] X Ns) (t8 (sk 2 ["table","rows","columns"] X Ns) (t8 (sk 3 ["cards","size"] X Ns) (t8 (sk 4 ["cards"] X Ns) (t8 (sk 5 ["table","rows","columns"] X Ns) (t8 (sk 6 ["table"] X Ns) (t8 (sk 7 ["table"] X Ns) (t8 (sk 8 ["table"] X Ns) (t8 (sk 9 ["table","rest"] X Ns) (t8 (sk 10 ["table"] X Ns) (t8 (sk 11 ["table","words","row"] X Ns) (t8 (sk 12 ["table"] X Ns) (t8 (sk 13 ["numbers"] X Ns) (t8 (sk 14 ["table"] X Ns) (t8 S15 (t8 (sk 16 ["table","ground","joined","rest","numbers","rows","columns","ways"] X Ns) (t8 (sk 17 ["rows","columns","by_rows","by_columns"] X Ns) (t8 (sk 18 ["cards"] X Ns) (t8 (sk 19 ["table"] X Ns) (t8 (sk 20 ["table"] X Ns) (t8 (sk 21 ["table","numbers","joined","rest","own","plan_of"] X Ns) (t8 (sk 22 ["kinds"] X Ns) (t8 (sk 23 ["cards","sets"] X Ns) (t8 (sk 24 ["_law_found"] X Ns) (t8 (sk 25 ["_law_script","_law_k"] X Ns) (t8 (sk 26 ["_law_cell","_law_many","_law_found","_law_number","_law_k"] X Ns) (t8 (sk 27 ["_law_script","_law_start","_law_xs","_law_most","_law_many","_law_wide","_law_top","_law_words","_law_k","_law_rows"] X Ns) (t8 (sk 28 ["_law_script","_law_start","_law_xs","_law_rows","_law_k","_law_at","_law_there"] X Ns) (t8 (sk 29 ["_law_table_here","_law_rows","_law_columns","_law_kept"] X Ns) (t8 (sk 30 ["_law_many","_law_found","_law_k"] X Ns) (t8 (sk 31 ["_law_some"] X Ns) (t8 (sk 32 ["_law_rows","_law_columns","_law_found"] X Ns) (t8 (sk 33 ["_law_small","_law_rows","_law_columns","_law_seen","_law_r","_law_c"] X Ns) (t8 (sk 34 ["_law_paper","_law_small","_law_known_here","_law_row","_law_every","_law_rows","_law_columns"] X Ns) (t8 (sk 35 ["_law_cell","_law_many","_law_rows"] X Ns) (t8 (sk 36 ["_law_plan","_law_row","_law_column","_law_card"] X Ns) (t8 (sk 37 ["_law_plan","_law_room","_law_table_here","_law_many"] X Ns) (t8 (sk 0 ["thing","least","most"] X Ns) (t8 (sk 38 ["_law_plan"] X Ns) (t8 (sk 39 ["_law_plan","_law_table_here","_law_r","_law_c"] X Ns) (t8 S41 (t8 (sk 41 ["_law_known_here","_law_small","_law_rows","_law_columns","_law_due"] X Ns) (t8 S43 Ii))))))))))))))))))))))))))))))))))))))))))));refine⟨_,λ s v=>.of_eq rfl,λ base _ _=>Il (T:=T) (G:=G) (fu:=100) rfl HSS (λ x hx=>mg_none_of X Ns (fQ.mp (zz _) x hx)) HC (i:=43) rfl rfl S43 (λ _=>⟨⟨rfl,rfl,rfl⟩,by decide,λ i d x qual st fa fd _ _ _ F=>Io (K:=kK w.params) Mz F⟩) (by unfold T;repeat' (first | (refine List.forall_mem_cons.mpr ⟨?_,?_⟩) | exact Or.inl rfl | exact Or.inr rfl | exact λ _ h=>nomatch h)) HX KL Kq⟩
end k24
open PySem PySem.W PyProof.Rows
set_option maxRecDepth 100000 in
set_option maxHeartbeats 0 in
theorem PySem.Challenge.cw_talkleast_k24_ends_papers_and_plans_holds : PySem.Challenge.rw_talkleast_k24_ends_papers_and_plans.Holds := by
 refine holds_law Mz λ said => ?_
 refine holds_open (q := k24.kQ) (loose := k24.kL) (Xt := λ s => xlAt k24.kQ [] s && recOk (RowW.records (OpenRow.toRowW (OpenLaw.row PySem.Challenge.rw_talkleast_k24_ends_papers_and_plans))) s) (XP := XL k24.kQ []) (Yf := (kHook k24.kAll k24.zB k24.kE).obs) (Ya := (kHook k24.kAll k24.zB k24.kE).val) (YP := (kHook k24.kAll k24.zB k24.kE).says) (N := 4444) k24.kLeft (kHook k24.kAll k24.zB k24.kE).of (kHook k24.kAll k24.zB k24.kE).keeps (λ s e => xl_of s (F7.mp e).1) XL.keeps (by rfl) (by rfl) (by rfl) (λ s e => recFacts_of (F7.mp e).2) (by rfl) said LU ⟨rfl, rfl, rfl, rfl, rfl, by decide +kernel⟩ ?hw ?hc
 case hw => w_witness2
 exact L2.walkE (l := PySem.Challenge.rw_talkleast_k24_ends_papers_and_plans) (k := 60) (p := "_law_script") rfl rfl ⟨rfl, by decide, by decide⟩ (λ w h Y => (L2.in_app (kIn_of Y) Mz).1) (λ w h Y => ⟨L2.htb_of (T := k24.kT) (L2.in_app (kIn_of Y) Mz).1 (L2.in_app (kIn_of Y) Mz).2 (k24.kN _) Mz, k24.kM _⟩) λ w mg fa h KX G hmg => k24.all_mk KX G hmg
end

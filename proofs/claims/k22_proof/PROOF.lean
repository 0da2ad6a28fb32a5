import PyProof.Rows.All
import Wide.All
import OpenK.AllK
import Wide.FinOn
import Lean
import PyProof.EqAt
import PyProof.EqKinds
import PyProof.TupleCall
import PyProof.ExcAttrAll.ValueError
import PyProof.ZipIter
import PyProof.TupleIter
import PyProof.P3In
import PyProof.Rows.SeqMore2
import PyProof.FactsAll.tuple_3
import PyProof.FactsAll.list_3
import PyProof.Rows.Range3
import KE.KRevIter
import PyProof.Rows.FactsT2
import PySem.Builtin.Int.W1All
import KE.KSortAsk
import PyProof.SetScanFacts
import PyProof.SetKind
import PyProof.DictKinds
import PyProof.DictStraight
import PyProof.Rows.SetFrom
import PyProof.CollectWalk
import PyProof.Seq
import PyProof.DictIter
import PyProof.Rows.Tup
import PyProof.FactsAll.set_1
import PyProof.FactsAll.set_2
import PyProof.Rows.SortWalk
import PyProof.ConsumeWalk
import PyProof.Rows.SumAny
import PySem.Syntax
import PySem.Eval
import KE.KLam
import PyProof.StrWalks
import PyProof.StrOps
import PyProof.StrCalls2
import PyProof.StrLawsTight
import PyProof.StrLawsFirst
import PyProof.StrLawsChain
import PyProof.StrLawsIn
import PyProof.Rows.StrJoin2
import PyProof.Rows.StrItems
import PyProof.CallStr
import KE.KIntText
import PyProof.SliceStr2
import PyProof.StrLaws
import PyProof.StrLawsIdx
import KE.KNest
import PyProof.DictTable
import PyProof.ListRange
import PyProof.EnumMake
import KE.KMinKey
import PyProof.DictItems
import PyProof.DictItemsLoops
import PyProof.MeetsDict
import PyProof.DictWalks
import PyProof.RulesTry
import PyProof.Rows.SortShell
import KE.KDictSum
import KE.KPairComp
import PySem.Challenge.RW_talkleast_k22_least_plans
set_option compiler.extract_closed false
set_option genSizeOf false
set_option genInjectivity false
set_option bootstrap.genMatcherCode false
set_option Elab.async false
set_option linter.all false
set_option maxRecDepth 100000
set_option maxHeartbeats 4000000
set_option hygiene false
local macro_rules|`(JA)=>`((by omega))|`(JB)=>`((by decide))|`(JD)=>`((s.heap.push {cls:=.type "list",data:=.seq ([]:ge Jj).toArray}))|`(JE)=>`((model X.prog X.w))|`(JF)=>`(⟨.none,none,.fields #[],#[]⟩)|`(JG)=>`((model prog w))|`(JH)=>`((by intro z;cases z))|`(JJ)=>`((flip m rows))|`(JK)=>`((dE X.D E δ q))|`(JL)=>`((by simp))|`(JM)=>`((H9 (t:="NoTable") (Ct:=44) (mg_of X Ns xa1) ⟨by kernel_rfl,by kernel_rfl⟩ (H9 (t:="NoCard") (Ct:=56) (mg_of X Ns xa2) ⟨by kernel_rfl,by kernel_rfl⟩ (H9 (t:="TooGreat") (Ct:=68) (mg_of X Ns xa3) ⟨by kernel_rfl,by kernel_rfl⟩ hY))))|`(JO)=>`((cxD P w K mg base N qual scope f cd A outer s H E))|`(JS)=>`((R.hid.mono s1))|`(JU)=>`((.str "law_talkleast_k22_least_plans" 439))|`(JV)=>`((FI rows))|`(JW)=>`(ge (ge Int))|`(Kc)=>`((Same.refl H))|`(Kd)=>`((o5 X.env.cells sc.names []))|`(Ki)=>`((λ _ _=>rfl))|`(Kk)=>`(ge (Jl×Obj))|`(Kl)=>`(∀i x v,N[ps.length+i]? = some x->ws[i]? = some v->∃c u,cl.lookup x=some c/\s.heap.IsCell c (some u)/\RelV v u)|`(Kn)=>`((x==("__debug__" : Str)))|`(Ko)=>`((l.all λ p=>p.2 == .strong||p.2 == .fresh))|`(Kq)=>`((congrArg C t.2))|`(Kr)=>`(⟨O,W,R,p⟩)|`(Ks)=>`(Rect n m rows)|`(Kt)=>`(⟨_,_,_,[.type "ValueError",.type "Exception",.type "BaseException",.type "object"],ee,by kernel_rfl⟩)|`(Ku)=>`(Nat->ge DV->Ji Ou)|`(Kv)=>`((.comp (.bin .Add (.bin .Add (.slt (.var 0) (.var 1)) (.lst [.ix (.var 0) (.var 2)])) (.slf (.var 0) (.var 1))) (.one 0) (.var 3) [none,some 5,some 6]))|`(Kw)=>`((.str "talkleast.tables" 266))|`(Ky)=>`((λ z=>nomatch z))|`(Kz)=>`((by grind))|`(KA)=>`((by decide +kernel))|`(KB)=>`((r3 X scope K (D+1) j a H fp x1))|`(KC)=>`(∀y∈sc.names,y.2=NameKind.free->∃a,X.env.cells.lookup y.1=some a)|`(KD)=>`(⟨_,rfl⟩)|`(KH)=>`(∀(j i:Nat),fr[j]? = some i->∃y,m.N[m.np+j]? = some y/\X.N[i]? = some y/\(X.env.kindOf y=some .cell\/X.env.kindOf y=some .free))|`(KI)=>`((.bl false))|`(KJ)=>`(∀x d,G.con.lookup x=some d->∃u v,mg x=some u/\RelV v u/\∀H,Rep ⟨K,mg⟩ H d v)|`(KL)=>`(⟨G9 sg tn fr,cp.sc.names,sg.fn,sg.bl,sg.cl,false,false,noCo⟩)|`(KN)=>`(⟨G9 sg tn fr,c.sc.names,sg.fn,sg.bl,sg.cl,false,false,noCo⟩)|`(KQ)=>`((Re.thn ra λ x _=>Re.thn rb λ y _=>(cmpD op x y).map λ k=>.ok (.bl k) .strong))|`(KR)=>`(A.handled=none)|`(KU)=>`((mf rest))|`(KW)=>`(⟨_,_,rfl⟩)|`(KZ)=>`((rst m rows))|`(Lb)=>`(X.calm=true)|`(Lc)=>`((X.env.qual ++ "<lambda>"))|`(Le)=>`((.str "a set of cards is an int from 1 on with cards of the table alone"))|`(Lf)=>`((d.push {cls:=.type "tuple",data:=.seq #[.int k a,x]}))|`(Lg)=>`((.str "talkleast.parts" 349))|`(Li)=>`(evEs G F es δ=some (.ok l))|`(Lk)=>`((R.mono s1))|`(Ll)=>`((dA X.D E δ q))|`(Lo)=>`(∀(i:Nat) d x,T[i]? = some d->fn[i]? = some x->∃fa fd ps,Stands K mg fn bl cl d x fa fd ps)|`(Lq)=>`((tT rows))|`(Lr)=>`((by have:=(v4.mp h).1;rw[B1]at this;exact this))|`(Ls)=>`(⟨4,by decide,by decide,rfl⟩)|`(Lv)=>`((model P w))|`(Lw)=>`((f.2 b (p6 (r9 (j9 e) I.ok.above))))|`(Lz)=>`(PySem.W.Frag)|`(LB)=>`((by kernel_rfl))|`(LC)=>`((q ++ ".<locals>." ++ "<lambda>"))|`(LD)=>`((EP X pins σ Q))|`(LG)=>`(t.fits es.size=true)|`(LH)=>`((s.heap.push {cls:=.type "range",data:=.fields #[.int a t,.int d u,.int 1 v]}))|`(LI)=>`((.inl rfl))|`(LJ)=>`((x,NameKind.free))|`(LL)=>`((.frz o (.own c)))
local macro_rules|`(JC $a $b $c)=>`(evE G F $a δ=some (.ok $c $b))|`(JI $a)=>`(Inv X $a σ H s)|`(JN $a $b)=>`((.ix (.var $a) (.int $b)))|`(JP $a)=>`((evE G F $a δ))|`(JQ $a $b)=>`((.ix (.var $a) $b))|`(JR $a)=>`((.ref $a))|`(JT $a)=>`((.ok $a .strong))|`(JX $a)=>`((run G T fu $a))|`(JY $a)=>`((List.range $a))|`(JZ $a)=>`((L2.wo $a H))|`(Ka $a)=>`((L2.wo (O++W) $a))|`(Kb $a)=>`((.val (.int $a)))|`(Ke $a)=>`((.int $a))|`(Kf $a)=>`((.bi .len [.ix (.var $a) (.int 0)]))|`(Kg $a)=>`((by simpa using $a))|`(Kh $a $b)=>`(evE G F $a δ=some $b)|`(Kj $a)=>`((.Call (.Name $a p) (e::es) [] pos))|`(Km $a)=>`((.bi .len [.var $a]))|`(Kx $a)=>`((.lst $a))|`(KG $a)=>`((.comp (.comp $a (.one 0) (.rng [.var 1]) [none,some 0]) (.one 0) (.rng [.var 4]) [none,some 5]))|`(KM $a)=>`(Hid O W $a H)|`(KO $a $b)=>`((backTo $a (starEach $b X.env)))|`(KP $a)=>`((some (.ref $a)))|`(KS $a)=>`((by simpa[DV.plain]using $a))|`(KY $a)=>`(CompScope X.N $a scope X.env.scope fr)|`(La $a)=>`(RSt $a H σ δ O W)|`(Ld $a)=>`((Ne.symm $a))|`(Lh $a)=>`((.bin .LShift (.int 1) $a))|`(Lj $a $b)=>`((.call $a [.var $b]))|`(Lm $a $b $c)=>`((sk $a $b $c ["table"] ["table"] X Ns))|`(Ln $a)=>`((eval $a X.env))|`(Lu $a)=>`((s1.trans $a))|`(Lx $a)=>`(PE X (.Name x $a) (tVar i))|`(Ly $a)=>`((false,eval $a X.env))|`(LF $a)=>`((.int $a,.strong))|`(LK $a)=>`((if stro d $a then some (.nx (δ.set i (.val d)))else none))|`(LM $a)=>`((L.map λ p=>.int $a))
set_option hygiene true
section
open PySem PySem.Spec PyProof.Rows
abbrev ge:=@List
abbrev Ji:=@Option
abbrev Jj:=@Value
abbrev Jk:=@Shared
abbrev Jl:=@Addr
abbrev Jm:=@Heap
abbrev Jn:=@Expr
abbrev Jo:=@Array
abbrev Jp:=@World
abbrev Jq:=@Program
abbrev Jr:=@Around
abbrev Js:=@Stmt
abbrev Jt:=@FuncData
abbrev Ju:=@PySem.W.Frag
abbrev Jv:=@Scope
abbrev Jw:=@Arguments
abbrev Jx:=@SetTable
abbrev Jy:=@NameKind
abbrev Jz:=@String
abbrev f0:=@wpAny_bind
abbrev f7:=@Bool.and_eq_true
abbrev i3:=@Heap.get?_push_of_some
abbrev g6:=@List.length_map
abbrev k7:=@List.getElem?_eq_getElem
abbrev f9:=@wpAny_pure
abbrev o8:=@List.getD_eq_getElem?_getD
abbrev h8:=@List.mem_cons
abbrev n6:=@List.mem_cons_of_mem
abbrev g9:=@beq_iff_eq
abbrev n9:=@List.mem_cons_self
abbrev i4:=@List.mem_map
abbrev f8:=@if_pos
abbrev i7:=@Nat.le_trans
abbrev j9:=@Heap.lt_size
abbrev q0:=@Heap.get?_push_size
abbrev v4:=@List.getElem?_eq_some_iff
abbrev i8:=@Nat.le_refl
abbrev p5:=@List.getElem?_map
abbrev r9:=@Nat.lt_of_lt_of_le
abbrev v9:=@Option.bind_eq_some_iff
abbrev g7:=@if_neg
abbrev t5:=@List.length_append
abbrev u5:=@List.getElem?_set_ne
abbrev w6:=@Option.map_eq_some_iff
abbrev t8:=@Bool.not_eq_true'
abbrev x3:=@List.mem_append_right
abbrev u7:=@List.mem_singleton
abbrev q9:=@List.mem_range
abbrev u8:=@List.size_toArray
abbrev p6:=@Nat.ne_of_lt
abbrev z8:=@beq_eq_false_iff_ne
abbrev p9:=@List.map_map
abbrev A3:=@Array.length_toList
abbrev x9:=@List.length_cons
abbrev B4:=@PySem.mem_of_lookup
abbrev B5:=@Bool.false_ne_true
abbrev A8:=@Int.toNat_natCast
abbrev A9:=@decide_eq_true_eq
abbrev D6:=@List.mem_append_left
abbrev F5:=@List.getElem?_set_self
abbrev B7:=@List.length_range
abbrev B0:=@Option.some.inj
abbrev B1:=@List.length_set
abbrev C3:=@wpAny_newObj_type
abbrev u0:=@wpAny_mono
abbrev A4:=@List.map_cons
abbrev B8:=@List.mem_filter
abbrev E8:=@Int.natCast_nonneg
abbrev C4:=@List.map_append
abbrev D7:=@List.mem_append
abbrev D8:=@Bool.or_eq_true
abbrev B6:=@wpAny_holding
abbrev C5:=@decide_eq_true
abbrev J7:=@Array.getElem?_toList
abbrev J8:=@List.contains_iff_mem
abbrev E9:=@List.length_take
abbrev F0:=@List.lookup_cons
abbrev E3:=@decide_eq_false
abbrev E4:=@List.append_nil
abbrev J9:=@List.mem_of_getElem?
abbrev K0:=@Bool.and_eq_true_iff
abbrev O3:=@List.getElem?_append_left
abbrev F6:=@List.all_eq_true
abbrev Q4:=@List.getElem?_append_right
abbrev G4:=@wpAny_call_entry
abbrev O4:=@wpAny_callSpecial?_slot
abbrev K9:=@Heap.SameBut.update
abbrev L0:=@List.map_congr_left
abbrev F7:=@Heap.size_push
abbrev L3:=@List.pairwise_cons
abbrev T4:=@Array.getElem?_eq_getElem
abbrev L4:=@Nat.lt_succ_of_lt
abbrev F8:=@List.any_cons
abbrev D9:=@wpAny_field
abbrev O5:=@Bool.or_eq_false_iff
abbrev O6:=@Nat.pow_le_pow_right
abbrev E5:=@Nat.zero_le
abbrev T5:=@Array.getElem?_eq_none
abbrev O7:=@wpAny_setField_rec
abbrev O8:=@decide_eq_true_iff
abbrev N0:=@Option.bind_some
abbrev T6:=@List.length_singleton
abbrev N1:=@List.nodup_cons
abbrev N2:=@Option.map_some
abbrev O9:=@Nat.lt_succ_self
abbrev P0:=@List.getElem_mem
abbrev aL:=@List.exists_mem_of_length_pos
abbrev Z2:=@Option.isSome_iff_exists
abbrev V4:=@Heap.get?_update_self
abbrev aM:=@Array.getD_eq_getD_getElem?
abbrev Z3:=@List.length_eq_zero_iff
abbrev Q5:=@beq_self_eq_true
abbrev V5:=@Around.under_plainId
abbrev N3:=@Nat.lt_irrefl
abbrev Z4:=@PySem.F.plain_min_loop
abbrev T7:=@List.append_assoc
abbrev V6:=@List.replicate_succ
abbrev Q6:=@codeAny_builtin
abbrev Z5:=@List.getElem?_eq_none
abbrev aN:=@List.getElem?_take_of_lt
abbrev N4:=@codeAny_mono
abbrev T8:=@List.not_mem_nil
abbrev Q7:=@wpAny_attempt
abbrev V7:=@List.mem_reverse
abbrev V8:=@List.any_eq_true
abbrev Z6:=@wpAny_Call_Name_kw
abbrev Z7:=@List.getElem?_drop
abbrev Z8:=@Nat.lt_of_le_of_lt
abbrev dW:=@PyProof.Rows.slot_tuple_getitem
abbrev Q8:=@Nat.ne_of_gt
abbrev V9:=@PySem.W.kia_one
abbrev Z9:=@List.flatten_cons
abbrev T9:=@plainId_quiet
abbrev bQ:=@List.getElem?_replicate
abbrev bR:=@List.filter_cons_of_pos
abbrev aO:=@List.filterMap_cons
abbrev aa:=@List.length_drop
abbrev W0:=@wpAny_setField
abbrev bS:=@Heap.get?_update_other
abbrev bT:=@Calls.callWith_builtin
abbrev U0:=@Nat.le_of_lt
abbrev aP:=@wpAny_pyIter_tuple
abbrev dX:=@PyProof.Rows.callWith_type1
abbrev aQ:=@List.mem_filterMap
abbrev aR:=@Obj.data_mapFields
abbrev aS:=@Bool.false_eq_true
abbrev dY:=@List.idxOf_lt_length_of_mem
abbrev ae:=@wpAny_passesOwn
abbrev bU:=@wpAny_loadPart'
abbrev dZ:=@F.slot_tuple_iterator_next
abbrev ee:=@PySem.F.excBase_ValueError
abbrev aT:=@wpAny_truthy_bool
abbrev aU:=@wpAny_setState_of
abbrev bV:=@Heap.get?_none_of_le
abbrev eg:=@List.getElem?_zip_eq_some
abbrev af:=@wpAny_seqItems
abbrev W1:=@Nat.lt_or_ge
abbrev aV:=@wpAny_askSetting
abbrev aW:=@List.map_reverse
abbrev aX:=@List.filter_cons
abbrev bW:=@wpAny_setEntries_of
abbrev bX:=@List.length_reverse
abbrev bY:=@Array.toList_append
abbrev ej:=@List.filter_cons_of_neg
abbrev L5:=@Iff.rfl
abbrev aY:=@List.find?_cons
abbrev iH:=@wpAny_typeNameOfWhole_itemiter
abbrev U1:=@bne_iff_ne
abbrev eA:=@PySem.W.cellsFrom_some
abbrev eB:=@List.take_of_length_le
abbrev eC:=@List.length_pos_of_mem
abbrev eD:=@List.length_replicate
abbrev eE:=@Obj.isFreed_of_fields
abbrev eF:=@List.mem_iff_getElem?
abbrev eG:=@List.getElem?_reverse
abbrev eH:=@F.slot_enumerate_next
abbrev aZ:=@wpAny_tryCatch
abbrev eI:=@List.length_filter_le
abbrev eJ:=@Calls.evalArgs_plain
abbrev eK:=@List.mem_of_mem_drop
abbrev eL:=@List.mem_of_mem_take
abbrev bZ:=@wpAny_isInstance
abbrev ce:=@Option.getD_some
abbrev ag:=@wpAny_of_eq
abbrev eM:=@PySem.W.hideAll_get
abbrev eN:=@List.getElem?_range
abbrev eO:=@List.length_pos_iff
abbrev eP:=@List.drop_succ_cons
abbrev eQ:=@List.map_eq_nil_iff
abbrev cf:=@wpAny_execs_nil
abbrev cg:=@List.of_mem_zip
abbrev cj:=@wpAny_updateSeq
abbrev cn:=@Nat.not_lt_zero
abbrev iI:=@List.mem_of_find?_eq_some
abbrev cq:=@Nat.min_eq_left
abbrev iJ:=@Nat.ge_two_pow_of_testBit
abbrev cr:=@Bool.eq_iff_iff
abbrev U2:=@or_false
abbrev ba:=@Int.le_trans
abbrev eR:=@List.getElem_idxOf
abbrev eS:=@Int.emod_lt_of_pos
abbrev cu:=@wpAny_fieldsOf
abbrev cw:=@List.drop_zero
abbrev iK:=@F.plain_set_update_loop
abbrev iL:=@PySem.F.plainAttrs_list
abbrev eT:=@List.take_sublist
abbrev eU:=@List.reverse_cons
abbrev eV:=@bne_self_eq_false
abbrev iM:=@List.pairwise_lt_range
abbrev bc:=@intItems_at
abbrev be:=@wpAny_letGo
abbrev iN:=@PySem.F.entry_min_loop
abbrev iO:=@wpAny_isOneOf_itemiter
abbrev cA:=@wpAny_standAt
abbrev cB:=@nums_intItems
abbrev eW:=@Nat.le_add_right
abbrev W3:=@numAt_eq
abbrev eX:=@Nat.zero_testBit
abbrev iP:=@Around.frames_deeper
abbrev cC:=@wpAny_typeOf
abbrev eY:=@List.foldl_cons
abbrev bf:=@wpAny_rule
abbrev iQ:=@codeAny_call_builtin
abbrev cD:=@Nat.lt_trans
abbrev eZ:=@Int.emod_nonneg
abbrev fe:=@Nat.two_pow_pos
abbrev nE:=@F.slot_dict_itemiterator_next
abbrev iR:=@List.filter_sublist
abbrev ff:=@slicePart_none
abbrev nF:=@F.args_tuple_iterator_next_1
abbrev fg:=@isSubtype_stop
abbrev fh:=@List.nodup_nil
abbrev cE:=@sizeLine_eq
abbrev cF:=@Nat.one_mul
abbrev iS:=@Calls.spliced_cons
abbrev bg:=@eq_of_beq
abbrev nG:=@F.entry_tuple_iterator_next
abbrev iT:=@Nat.eq_zero_or_pos
abbrev iU:=@tupleKind_room_in1
abbrev iV:=@Int.lt_of_le_of_lt
abbrev nH:=@Nat.testBit_two_pow_sub_one
abbrev fj:=@Paired.length
abbrev nK:=@Calls.Name_function_global
abbrev nL:=@Int.fdiv_eq_ediv_of_nonneg
abbrev fk:=@List.cons.inj
abbrev fq:=@Bool.true_and
abbrev fv:=@List.map_drop
abbrev fw:=@List.map_take
abbrev fx:=@List.sum_cons
abbrev iW:=@wpAny_pyIter_list
abbrev iX:=@Calls.spliced_nil
abbrev iY:=@Obj.cls_mapFields
abbrev iZ:=@fits_of_scanBound
abbrev ja:=@wpAny_pyIter_slot
abbrev jb:=@List.ext_getElem?
abbrev jc:=@of_decide_eq_true
abbrev jd:=@List.Pairwise.imp
abbrev cG:=@wpAny_Name
abbrev cH:=@wpAny_load
abbrev cI:=@wpAny_call
abbrev nM:=@List.pairwise_iff_getElem
abbrev nN:=@List.drop_eq_getElem_cons
abbrev nO:=@Option.isNone_iff_eq_none
abbrev nP:=@Classical.byContradiction
abbrev nQ:=@PySem.F.args_tuple_add_2
abbrev je:=@Nat.le_of_not_lt
abbrev jf:=@wpAny_comp_letGo
abbrev nR:=@PySem.F.slot_tuple_index
abbrev jg:=@List.isEmpty_nil
abbrev jh:=@List.drop_length
abbrev ji:=@decide_eq_decide
abbrev jj:=@Nat.min_eq_right
abbrev nT:=@List.Nodup.idxOf_getElem
abbrev nU:=@PySem.F.entry_tuple_add
abbrev nV:=@wpAny_Call_method0_late
abbrev nW:=@PySem.F.slot_list_index
abbrev nX:=@F.entry_set_update_loop
abbrev nY:=@F.args_enumerate_next_1
abbrev nZ:=@PySem.F.slot_dict_items
abbrev oa:=@decide_eq_false_iff_not
abbrev jk:=@List.nil_append
abbrev jl:=@pushCells_keeps
abbrev jm:=@List.range_succ
abbrev jn:=@List.length_nil
abbrev jo:=@wpAny_ite_split
abbrev jp:=@List.find?_some
abbrev og:=@PySem.F.slot_tuple_add
abbrev oh:=@subscriptTail_builtinR
abbrev oj:=@wpAny_Call_method_late
abbrev fy:=@Nat.le_succ
abbrev ol:=@List.range_succ_eq_map
abbrev fz:=@Nat.log2_lt
abbrev ow:=@F.entry_enumerate_next
abbrev ox:=@F.slot_dict_items_iter
abbrev fA:=@Nat.add_mul
abbrev oy:=@Nat.testBit_lt_two_pow
abbrev oz:=@List.length_eq_one_iff
abbrev oA:=@codeAny_call_function
abbrev jq:=@Bool.and_false
abbrev oB:=@builtinLookup_eq_fast
abbrev jr:=@isSubtype_type
abbrev oC:=@List.pairwise_reverse
abbrev js:=@Nat.mul_le_mul
abbrev fB:=@Walks.list
abbrev jt:=@evalPart_none
abbrev ju:=@wpAny_handled
abbrev jv:=@seqIndex_neg
abbrev jw:=@List.map_nil
abbrev jx:=@wpAny_mkText
abbrev jy:=@Nat.zero_add
abbrev jz:=@List.any_map
abbrev jA:=@Nat.sub_self
end
noncomputable section
noncomputable section
namespace L2
open PySem
noncomputable def P1(s:Js):Jw:=match s with
 | .FunctionDef _ a _ _ _ _ _ _ _ _=>a
 | _=>{posonlyargs:=[],args:=[],vararg:=none,kwonlyargs:=[],kw_defaults:=[],kwarg:=none,defaults:=[]}
noncomputable def G5(s:Js):ge Js:=match s with
 | .FunctionDef _ _ b _ _ _ _ _ _ _=>b
 | _=>[]
noncomputable def u6(s:Js):Jv:=match s with
 | .FunctionDef _ _ _ _ _ _ sc _ _ _=>sc
 | _=>{kind:=.function,names:=[],isGenerator:=false,isCoroutine:=false}
end L2
namespace k22
open PySem PySem.W L2 PySem.Spec PyProof.Rows
noncomputable def top(i:Nat):Js:=PySem.Challenge.pw_talkleast_k22_least_plans.main.body.getD i (.Pass ⟨0,0,0,0⟩)
def fo(n:Str)(i:Nat)(dV pm:Jj)(cd:Jl):Obj:=⟨.type "function",none,.func (fnOf n n (P1 (top i)) (G5 (top i)) (u6 (top i)) dV .none .none pm none (JR cd) .none),#[]⟩
noncomputable def en(P:Params)(s:Str)(t:Nat)(v:Jj):DictEntry:=⟨PyData.keyHash P s,.str s t,v⟩
noncomputable def co(n:Str)(t:Nat)(ln na fl:Int)(a b c d e:Jj)(q:Int)(r:Nat):Obj:=⟨.type "code",none,.fields #[.str n t,.str n (t+1),.str "/claim/cut.py" (t+2),.int ln 0,.int na 0,.int 0 0,.int 0 0,.int fl 0,a,.bool true,.int 181 0,b,.none,c,d,e,.int q 0,.int ln 0,.str "/claim/cut.py" r],#[]⟩
def kK(P:Params):Frag:=[(2,⟨.none,none,.dict #[] 0,#[]⟩),
 (3,⟨.type "dict",none,.dict #[en P "__name__" 165 JU,en P "__doc__" 166 .none,en P "__package__" 167 .none,en P "__loader__" 168 (.builtin "__main__.__loader__#opaque"),en P "__spec__" 169 .none,en P "__annotations__" 170 (.ref 6),en P "__builtins__" 171 (.ref 4),en P "__file__" 173 (.str "/claim/cut.py" 172),en P "__cached__" 174 .none,en P "is_int" 197 (JR 21),en P "TalkError" 217 (JR 31),en P "NoTable" 233 (JR 44),en P "NoCard" 249 (JR 56),en P "TooGreat" 265 (JR 68),en P "SMALL_LINES" 269 (.int 5 268),en P "flipped" 275 (JR 75),en P "cut" 284 (JR 82),en P "check_cards" 292 (JR 89),en P "cards_in" 298 (JR 94),en P "crossing" 304 (JR 99),en P "row_kinds" 310 (JR 104),en P "column_kinds" 317 (JR 111),en P "trimmed" 324 (JR 118),en P "is_small" 332 (JR 125),en P "check_small" 339 (JR 132),en P "words_in" 348 (JR 139),en P "bits_paper" 357 (JR 146),en P "paper" 363 (JR 151),en P "bits_numbers" 370 (JR 158),en P "joined_bits" 378 (JR 165),en P "least_numbers" 384 (JR 170),en P "splits" 390 (JR 175),en P "halves" 396 (JR 180),en P "least_bits" 405 (JR 187),en P "least_plan" 412 (JR 194),en P "plan_by" 426 (JR 201),en P "sets_of_kinds" 432 (JR 206),en P "widened" 438 (JR 211),en P "_law_int" 447 (JR 218),en P "_law_cell_at" 455 (JR 225),en P "_law_stream" 466 (JR 232),en P "_law_core" 472 (JR 237),en P "_law_table" 478 (JR 242),en P "_law_great" 484 (JR 247),en P "_law_reached" 494 (JR 254),en P "_law_is_plan" 504 (JR 261),en P "_law_deep" 511 (JR 268),en P "_law_ends" 518 (JR 275),en P "_law_settles" 528 (JR 282),en P "_law_refused" 537 (JR 289),en P "law" 543 (JR 294)] 51,#[]⟩),
 (20,co "is_int" 189 2 3 3 (JR 15) (JR 16) (JR 17) (JR 18) (JR 19) 195 196),
 (21,fo "is_int" 1 .none (.str "talkleast.checks" 187) 20),
 (30,⟨.type "dict",none,.dict #[en P "__module__" 207 (.str "talkleast.errors" 198),en P "__firstlineno__" 211 (.int 5 210),en P "__static_attributes__" 212 (JR 29),en P "__weakref__" 214 (JR 32),en P "__doc__" 215 .none] 3,#[]⟩),
 (31,⟨.type "type",none,.cls ⟨"TalkError",[.type "ValueError"],[.ref 31,.type "ValueError",.type "Exception",.type "BaseException",.type "object"],30,"TalkError",true,[],[.ref 44,.ref 56,.ref 68],false,none,false⟩,#[some (JR 22),none,some (.str "TalkError" 200),some (.str "TalkError" 208),some (.builtin "ValueError.__new__"),some (.bool true)]⟩),
 (32,⟨.type "getset_descriptor",none,.fields #[.str "__weakref__" 213,.ref 31,.builtin "ExceptionGroup.__weakref__",.none],#[]⟩),
 (43,⟨.type "dict",none,.dict #[en P "__module__" 225 (.str "talkleast.errors" 198),en P "__firstlineno__" 229 (.int 7 228),en P "__static_attributes__" 230 (JR 42),en P "__doc__" 231 .none] 2,#[]⟩),
 (44,⟨.type "type",none,.cls ⟨"NoTable",[.ref 31],[.ref 44,.ref 31,.type "ValueError",.type "Exception",.type "BaseException",.type "object"],43,"NoTable",true,[],[],false,none,false⟩,#[some (JR 35),none,some (.str "NoTable" 218),some (.str "NoTable" 226),some (.builtin "ValueError.__new__"),some (.bool true)]⟩),
 (55,⟨.type "dict",none,.dict #[en P "__module__" 241 (.str "talkleast.errors" 198),en P "__firstlineno__" 245 (.int 9 244),en P "__static_attributes__" 246 (JR 54),en P "__doc__" 247 .none] 2,#[]⟩),
 (56,⟨.type "type",none,.cls ⟨"NoCard",[.ref 31],[.ref 56,.ref 31,.type "ValueError",.type "Exception",.type "BaseException",.type "object"],55,"NoCard",true,[],[],false,none,false⟩,#[some (JR 47),none,some (.str "NoCard" 234),some (.str "NoCard" 242),some (.builtin "ValueError.__new__"),some (.bool true)]⟩),
 (67,⟨.type "dict",none,.dict #[en P "__module__" 257 (.str "talkleast.errors" 198),en P "__firstlineno__" 261 (.int 11 260),en P "__static_attributes__" 262 (JR 66),en P "__doc__" 263 .none] 2,#[]⟩),
 (68,⟨.type "type",none,.cls ⟨"TooGreat",[.ref 31],[.ref 68,.ref 31,.type "ValueError",.type "Exception",.type "BaseException",.type "object"],67,"TooGreat",true,[],[],false,none,false⟩,#[some (JR 59),none,some (.str "TooGreat" 250),some (.str "TooGreat" 258),some (.builtin "ValueError.__new__"),some (.bool true)]⟩),
 (74,co "flipped" 270 15 1 3 (JR 71) (JR 72) .none .none (JR 73) 273 274),
 (75,fo "flipped" 9 .none Kw 74),
 (81,co "cut" 276 17 3 3 (JR 76) (JR 77) (JR 78) (JR 79) (JR 80) 282 283),
 (82,fo "cut" 10 .none Kw 81),
 (88,co "check_cards" 285 21 2 3 (JR 83) (JR 84) (JR 85) (JR 86) (JR 87) 290 291),
 (89,fo "check_cards" 11 .none Kw 88),
 (93,co "cards_in" 293 24 1 3 (JR 90) (JR 91) .none .none (JR 92) 296 297),
 (94,fo "cards_in" 12 .none Kw 93),
 (98,co "crossing" 299 26 3 3 (JR 95) (JR 96) .none .none (JR 97) 302 303),
 (99,fo "crossing" 13 .none Kw 98),
 (103,co "row_kinds" 305 28 1 3 (JR 100) (JR 101) .none .none (JR 102) 308 309),
 (104,fo "row_kinds" 14 .none Kw 103),
 (110,co "column_kinds" 311 30 1 3 (JR 105) (JR 106) (JR 107) (JR 108) (JR 109) 315 316),
 (111,fo "column_kinds" 15 .none Kw 110),
 (117,co "trimmed" 318 32 1 3 (JR 112) (JR 113) (JR 114) (JR 115) (JR 116) 322 323),
 (118,fo "trimmed" 16 .none Kw 117),
 (124,co "is_small" 325 34 1 3 (JR 119) (JR 120) (JR 121) (JR 122) (JR 123) 330 331),
 (125,fo "is_small" 17 .none Kw 124),
 (131,co "check_small" 333 37 1 3 (JR 126) (JR 127) (JR 128) (JR 129) (JR 130) 337 338),
 (132,fo "check_small" 18 .none Kw 131),
 (138,co "words_in" 340 40 1 3 (JR 133) (JR 134) (JR 135) (JR 136) (JR 137) 346 347),
 (139,fo "words_in" 19 .none Kw 138),
 (145,co "bits_paper" 351 46 1 3 (JR 140) (JR 141) (JR 142) (JR 143) (JR 144) 355 356),
 (146,fo "bits_paper" 21 .none Lg 145),
 (150,co "paper" 358 48 1 3 (JR 147) (JR 148) .none .none (JR 149) 361 362),
 (151,fo "paper" 22 .none Lg 150),
 (157,co "bits_numbers" 364 50 1 3 (JR 152) (JR 153) (JR 154) (JR 155) (JR 156) 368 369),
 (158,fo "bits_numbers" 23 .none Lg 157),
 (164,co "joined_bits" 371 52 2 3 (JR 159) (JR 160) (JR 161) (JR 162) (JR 163) 376 377),
 (165,fo "joined_bits" 24 .none Lg 164),
 (169,co "least_numbers" 379 54 3 3 (JR 166) (JR 167) .none .none (JR 168) 382 383),
 (170,fo "least_numbers" 25 .none Lg 169),
 (174,co "splits" 385 66 2 3 (JR 171) (JR 172) .none .none (JR 173) 388 389),
 (175,fo "splits" 26 .none Lg 174),
 (179,co "halves" 391 70 1 3 (JR 176) (JR 177) .none .none (JR 178) 394 395),
 (180,fo "halves" 27 .none Lg 179),
 (186,co "least_bits" 399 73 1 3 (JR 181) (JR 182) (JR 183) (JR 184) (JR 185) 403 404),
 (187,fo "least_bits" 29 .none (.str "talkleast.least" 397) 186),
 (193,co "least_plan" 406 75 1 3 (JR 188) (JR 189) (JR 190) (JR 191) (JR 192) 410 411),
 (194,fo "least_plan" 30 .none (.str "talkleast.least" 397) 193),
 (200,co "plan_by" 413 77 3 3 (JR 195) (JR 196) (JR 197) (JR 198) (JR 199) 424 425),
 (201,fo "plan_by" 31 .none (.str "talkleast.least" 397) 200),
 (205,co "sets_of_kinds" 427 90 1 3 (JR 202) (JR 203) .none .none (JR 204) 430 431),
 (206,fo "sets_of_kinds" 32 .none (.str "talkleast.least" 397) 205),
 (210,co "widened" 433 92 2 3 (JR 207) (JR 208) .none .none (JR 209) 436 437),
 (211,fo "widened" 33 .none (.str "talkleast.least" 397) 210),
 (217,co "_law_int" 441 95 1 3 (JR 212) (JR 213) (JR 214) (JR 215) (JR 216) 445 446),
 (218,fo "_law_int" 35 .none JU 217),
 (224,co "_law_cell_at" 448 97 2 3 (JR 219) (JR 220) (JR 221) (JR 222) (JR 223) 453 454),
 (225,fo "_law_cell_at" 36 .none JU 224),
 (231,co "_law_stream" 456 101 2 3 (JR 226) (JR 227) (JR 228) (JR 229) (JR 230) 464 465),
 (232,fo "_law_stream" 37 .none JU 231),
 (236,co "_law_core" 467 108 3 3 (JR 233) (JR 234) .none .none (JR 235) 470 471),
 (237,fo "_law_core" 38 .none JU 236),
 (241,co "_law_table" 473 124 2 3 (JR 238) (JR 239) .none .none (JR 240) 476 477),
 (242,fo "_law_table" 39 .none JU 241),
 (246,co "_law_great" 479 136 1 3 (JR 243) (JR 244) .none .none (JR 245) 482 483),
 (247,fo "_law_great" 40 .none JU 246),
 (253,co "_law_reached" 485 144 3 3 (JR 248) (JR 249) (JR 250) (JR 251) (JR 252) 492 493),
 (254,fo "_law_reached" 41 .none JU 253),
 (260,co "_law_is_plan" 495 151 3 3 (JR 255) (JR 256) (JR 257) (JR 258) (JR 259) 502 503),
 (261,fo "_law_is_plan" 42 .none JU 260),
 (267,co "_law_deep" 505 164 1 3 (JR 262) (JR 263) (JR 264) (JR 265) (JR 266) 509 510),
 (268,fo "_law_deep" 43 .none JU 267),
 (281,co "_law_settles" 519 172 2 3 (JR 276) (JR 277) (JR 278) (JR 279) (JR 280) 526 527),
 (282,fo "_law_settles" 45 .none JU 281),
 (288,co "_law_refused" 529 178 1 3 (JR 283) (JR 284) (JR 285) (JR 286) (JR 287) 535 536),
 (289,fo "_law_refused" 46 .none JU 288),
 (293,co "law" 538 187 1 3 (JR 290) (JR 291) .none .none (JR 292) 541 542),
 (294,fo "law" 47 .none JU 293)]
noncomputable def kA:ge Jl:=[2,3,20,21,30,31,32,43,44,55,56,67,68,74,75,81,82,88,89,93,94,98,99,103,104,110,111,117,118,124,125,131,132,138,139,145,146,150,151,157,158,164,165,169,170,174,175,179,180,186,187,193,194,200,201,205,206,210,211,217,218,224,225,231,232,236,237,241,242,246,247,253,254,260,261,267,268,281,282,288,289,293,294]
noncomputable def kT:Frag:=[(16,JF),(72,JF),(77,JF),(84,JF),(91,JF),(96,JF),(101,JF),(106,JF),(113,JF),(120,JF),(127,JF),(134,JF),(141,JF),(148,JF),(153,JF),(160,JF),(167,JF),(172,JF),(177,JF),(182,JF),(189,JF),(196,JF),(203,JF),(208,JF),(213,JF),(220,JF),(227,JF),(234,JF),(239,JF),(244,JF),(249,JF),(256,JF),(263,JF),(277,JF),(284,JF),(291,JF)]
def kAll(P:Params):Frag:=kT++kK P
noncomputable def kB:ge Jl:=[16,72,77,84,91,96,101,106,113,120,127,134,141,148,153,160,167,172,177,182,189,196,203,208,213,220,227,234,239,244,249,256,263,277,284,291,2,3,20,21,30,31,32,43,44,55,56,67,68,74,75,81,82,88,89,93,94,98,99,103,104,110,111,117,118,124,125,131,132,138,139,145,146,150,151,157,158,164,165,169,170,174,175,179,180,186,187,193,194,200,201,205,206,210,211,217,218,224,225,231,232,236,237,241,242,246,247,253,254,260,261,267,268,281,282,288,289,293,294]
theorem kE:∀P,kB=(kAll P).map (·.1):=λ _=>by kernel_rfl
noncomputable def kQ:Jq:=view PySem.Challenge.pw_talkleast_k22_least_plans [1,3,4,5,6,8,9,10,11,12,13,14,15,16,17,18,19,21,22,23,24,25,26,27,29,30,31,32,33,35,36,37,38,39,40,41,42,43,44,45,46,47]
def kL:ge Str:=[]
set_option maxHeartbeats 0 in
theorem kLeft:LeftO PySem.Challenge.pw_talkleast_k22_least_plans kQ kL (λ s=>xlAt kQ [] s&&recOk (RowW.records (OpenRow.toRowW (OpenLaw.row PySem.Challenge.rw_talkleast_k22_least_plans))) s) (kHook kAll kB kE).obs (kHook kAll kB kE).val 4028:=by
 intro w
 kernel_rfl
end k22
end
noncomputable section
namespace L2
open PySem PySem.Spec PyProof.Rows
abbrev Key:=Sum Int Str
noncomputable def bh:Key->Jj->Bool
 | .inl k,v=>Value.isInt k v
 | .inr x,v=>Value.isStrOf x v
noncomputable def keyH(w:Jp):Key->Int
 | .inl k=>hashInt k
 | .inr x=>hashStr w x
theorem U3:∀{k:Key} {v:Jj},bh k v=true->(∃i t,k=Sum.inl i/\v=Value.int i t)\/(∃x t,k=Sum.inr x/\v=Value.str x t)
 | .inl i,v,h=>by obtain⟨t,e⟩:=Value.isInt_shape h;exact .inl ⟨i,t,rfl,e⟩
 | .inr x,v,h=>by obtain⟨t,e⟩:=Value.isStrOf_shape h;exact .inr ⟨x,t,rfl,e⟩
theorem wL(i:Int)(t:Tok):bh (.inl i) (.int i t)=true:=by simp[bh,Value.isInt]
theorem wM(x:Str)(t:Tok):bh (.inr x) (.str x t)=true:=by simp[bh,Value.isStrOf]
theorem wN(a b:Int):decide ((Sum.inl a:Key)=Sum.inl b)=(a==b):=by
 by_cases e:a=b
 ·subst e;simp
 ·have h:¬(Sum.inl a:Key)=Sum.inl b:=λ q=>e (Sum.inl.inj q);rw[E3 h];exact(z8.mpr e).symm
theorem wO(a b:Str):decide ((Sum.inr a:Key)=Sum.inr b)=decide (a=b):=by
 by_cases e:a=b
 ·subst e;simp
 ·have h:¬(Sum.inr a:Key)=Sum.inr b:=λ q=>e (Sum.inr.inj q);rw[E3 h,E3 e]
theorem wP(a:Int)(b:Str):decide ((Sum.inl a:Key)=Sum.inr b)=false:=E3 (λ q=>nomatch q)
theorem wQ(a:Str)(b:Int):decide ((Sum.inr a:Key)=Sum.inl b)=false:=E3 (λ q=>nomatch q)
def F9(prog:Jq)(w:Jp):PySem.KeyKind prog w Key where
 is:=bh
 hash:=keyH w
 inj:=λ v a b ha hb=>by
  rcases U3 ha with⟨i,t,rfl,rfl⟩ | ⟨x,t,rfl,rfl⟩
  ·rcases U3 hb with⟨j,u,rfl,e⟩ | ⟨y,u,rfl,e⟩
   ·injection e with e1 _;rw[e1]
   ·exact nomatch e
  ·rcases U3 hb with⟨j,u,rfl,e⟩ | ⟨y,u,rfl,e⟩
   ·exact nomatch e
   ·injection e with e1 _;rw[e1]
 byValue:=λ k v h=>by rcases U3 h with⟨i,t,rfl,rfl⟩ | ⟨x,t,rfl,rfl⟩<;>rfl
 pyHash:=λ hv h=>by
  rcases U3 hv with⟨i,t,rfl,rfl⟩ | ⟨x,t,rfl,rfl⟩
  ·exact wpAny_pyHash_int h
  ·exact wpAny_pyHash_str h
 eqBool:=λ hu hv h=>by
  rcases U3 hu with⟨i,t,rfl,rfl⟩ | ⟨x,t,rfl,rfl⟩
  ·rcases U3 hv with⟨j,u,rfl,rfl⟩ | ⟨y,u,rfl,rfl⟩
   ·rw[wN]at h;exact wpAny_eqBool_int h
   ·rw[wP]at h;exact SeqAt.EqAt.int_str i t y u _ _ _ _ h
  ·rcases U3 hv with⟨j,u,rfl,rfl⟩ | ⟨y,u,rfl,rfl⟩
   ·rw[wQ]at h;exact SeqAt.EqAt.str_int x t j u _ _ _ _ h
   ·rw[wO]at h;exact wpAny_eqBool_str h
 «strs»:=λ k x t v h=>by
  rcases U3 h with⟨i,u,rfl,e⟩ | ⟨y,u,rfl,e⟩
  ·exact nomatch e
  ·injection e with e1 _
   subst e1;cases v<;>rfl
theorem wR(prog:Jq)(w:Jp)(i:Int)(t:Tok):(F9 prog w).is (.inl i) (.int i t)=true:=wL i t
theorem wS(prog:Jq)(w:Jp)(x:Str)(t:Tok):(F9 prog w).is (.inr x) (.str x t)=true:=wM x t
end L2
namespace L2
open PySem PySem.Spec PyProof.Rows
inductive V where
 | non | bl (b:Bool) | int (i:Int) | str (x:Str) | byt (b:Array UInt8) | flt (b:UInt64) | ref (a:Addr) | ty (n:String)
 deriving DecidableEq
noncomputable def RelV:V->Jj->Prop
 | .non,u=>u=Value.none
 | .bl b,u=>u=Value.bool b
 | .int i,u=>∃t,u=Value.int i t
 | .str x,u=>∃t,u=Value.str x t
 | .byt b,u=>∃t,u=Value.bytes b t
 | .flt b,u=>∃t,u=Value.float b t
 | .ref a,u=>u=Value.ref a
 | .ty n,u=>u=Value.type n
abbrev Vals:ge V->ge Jj->Prop:=Paired RelV
theorem Vals.length(r:Vals xs a):xs.length=a.length:=fj r
theorem Vals.get:∀{xs:ge V} {us:ge Jj} {i:Nat} {x:V},Vals xs us->xs[i]? = some x->∃u,us[i]? = some u/\RelV x u
 | _,_,_,_,.nil,e=>by simp at e
 | _,_,0,_,.cons r _,e=>by simp at e;subst e;exact⟨_,rfl,r⟩
 | _,_,i+1,x,.cons _ t,e=>by obtain⟨u,b,a⟩:=Vals.get t (Kg e);exact⟨u,by simpa using b,a⟩
theorem Vals.set(r:RelV x u):∀{xs:ge V} {us:ge Jj} (i:Nat),Vals xs us->Vals (xs.set i x) (us.set i u)
 | _,_,_,.nil=>.nil
 | _,_,0,.cons _ t=>.cons r t
 | _,_,i+1,.cons q t=>.cons q (Vals.set r i t)
theorem Vals.append:∀{xs a:ge V} {us ws:ge Jj},Vals xs us->Vals a ws->Vals (xs++a) (us++ws)
 | _,_,_,_,.nil,s=>s
 | _,_,_,_,.cons r t,s=>.cons r (Vals.append t s)
theorem Vals.take:∀{xs:ge V} {us:ge Jj} (n:Nat),Vals xs us->Vals (xs.take n) (us.take n)
 | _,_,0,_=>.nil
 | _,_,_+1,.nil=>.nil
 | _,_,n+1,.cons r t=>.cons r (Vals.take n t)
theorem Vals.drop:∀{xs:ge V} {us:ge Jj} (n:Nat),Vals xs us->Vals (xs.drop n) (us.drop n)
 | _,_,0,r=>r
 | _,_,_+1,.nil=>.nil
 | _,_,n+1,.cons _ t=>Vals.drop n t
def RelO:Ji V->Ji Jj->Prop
 | some v,some u=>RelV v u
 | none,none=>True
 | _,_=>False
def KV{κ:Type}:ge (κ×V)->ge (κ×Jj)->Prop:=Paired λ (p:κ×V) (q:κ×Jj)=>p.1=q.1/\RelV p.2 q.2
noncomputable def kV:Key->V
 | .inl i=>.int i
 | .inr x=>.str x
inductive HO where
 | lst (xs:List V)
 | tup (xs:List V)
 | dK (kvs:List (Key×V)) | dT (kvs:List (List Key×V))
 | set (S:Int->Bool) (n:Nat)
 | ins (C dx:Addr) (fs:List (Str×V))
 | own (x:Addr)
 | xd (fs:List (Str×V))
 | met (f x:Addr)
 | rng (lo hi:Int)
 | frz (o:Obj) (u:HO)
 | tbl (q:Str)
 | ext (φ:Heap->Prop)
abbrev Hp:=Jl->Ji HO
noncomputable def upd(H:Hp)(a:Jl)(o:HO):Hp:=λ b=>if b=a then some o else H b
theorem u9:upd H a o a=some o:=by unfold upd;rw[f8 rfl]
theorem i9(h:b≠a):upd H a o b=H b:=by unfold upd;rw[g7 h]
theorem wT{H:Hp}(h:H a=some o)(h':H b=some u)(d:o≠u):a≠b:=by
 intro e;subst e;rw[h]at h';exact d (B0 h')
theorem y9{H:Hp}(h:H a=some o)(h':H b=none):a≠b:=by
 intro e;subst e;rw[h]at h';cases h'
def P2(h:Jm)(a:Jl)(items:Jo Jj):Prop:=∃o,h.get? a=some o/\(o.cls=.type "tuple" /\ o.dict=none)/\∃n,o.data=.seq items n
theorem P2.tup(x:P2 h a items):IsTup h a items:=let ⟨o,ho,hc,r⟩:=x;⟨o,ho,hc.1,r⟩
theorem P2.lt(x:P2 h a items):a<h.objs.size:=let ⟨_,ho,_⟩:=x;j9 ho
theorem P2.new(h:Jm)(items:Jo Jj):P2 (h.push {cls:=.type "tuple",data:=.seq items}) h.objs.size items:=⟨_,q0 _ rfl,⟨rfl,rfl⟩,_,rfl⟩
section
variable (P:Jq) (w:Jp)
noncomputable def L6(q:Str):Bool:=q == "plan_by.<locals>.plan_of" || q == "best_right.<locals>.plan_of"
def t9(H:Hp)(h:Jm)(a:Jl):HO->Prop
 | .lst xs=>xs.length<=sizeLine/\∃(its:ge Jj) (n:Nat),Vals xs its/\h.get? a=some {cls:=.type "list",data:=.seq its.toArray n}
 | .tup xs=>xs.length<=sizeLine/\∃its:ge Jj,Vals xs its/\P2 h a its.toArray
 | .dK kvs=>kvs.length<=sizeLine/\(a==sysModules)=false/\∃vs,KV kvs vs/\h.DictOf (F9 P w) a vs
 | .dT kvs=>kvs.length<=sizeLine/\(a==sysModules)=false/\∃xs:ge (ge Key×Jl×Jj),
   Paired (λ (p:ge Key×V) (q:ge Key×Jl×Jj)=>p.1=q.1/\H q.2.1=some (.tup (p.1.map kV))/\RelV p.2 q.2.2) kvs xs /\
   ∃o es ep,h.get? a=some o/\o.ExactDict/\o.data=.dict es ep/\es.toList=xs.map (entryOfKey (tupleKind (F9 P w)))/\(xs.map (·.1)).Nodup
 | .set S n=>h.SetOf (intKind P w) a S n
 | .ins C dx fs=>H dx=some (.own a)/\fs.length<=1000/\dx≠a/\h.get? a=some (PySem.W.instObj C dx) /\
   ∃mA,h.Ns1 dx mA/\(∀f,RelO (fs.lookup f) (mA f))/\PySem.Within mA (fs.map (·.1))
 | .own _=>∃o,h.get? a=some o
 | .xd fs=>∃mA,h.Ns1 a mA/\∀f,RelO (fs.lookup f) (mA f)
 | .rng lo hi=>∃t u v,h.get? a=some {cls:=.type "range",data:=.fields #[.int lo t,.int hi u,.int 1 v]}
 | .frz o u=>h.get? a=some o/\t9 H h a u
 | .tbl q=>∃ps:Jo Jj,h.get? a=some {cls:=.none,data:=.fields ps} /\ TriplesOk ps.toList/\∀pos cv,codeAmong pos ps.toList=some cv->∃c oc u vs t,cv=.ref c/\H c=some (.frz oc u)/\oc.data=.fields vs/\vs[1]? = some (.str q t)/\(L6 q=true->oc.cls=.type "code" /\ ∃(T:Jl) (file:Str) (tf:Tok) (flags:Int) (tg:Tok) (inF:Bool) (text:Int) (tt:Tok),vs[11]? = some (.ref T)/\vs.getD 11 .none=.ref T/\vs.getD 18 .none=.str file tf/\vs.getD 7 .none=.int flags tg/\vs.getD 9 .none=.bool inF/\vs.getD 10 .none=.int text tt/\c≠T/\H T=some (.tbl LC))
 | .met f x=>h.get? a=some (PySem.W.methodObj (.ref f) (.ref x))
 | .ext φ=>φ h/\(∃o,h.get? a=some o)/\∀h1 h2:Jm,φ h1->(∀o,h1.get? a=some o->h2.get? a=some o)->φ h2
def HOk(H:Hp)(h:Jm):Prop:=∀a o,H a=some o->t9 P w H h a o
end
theorem t9.lt(x:t9 P w H h a o):a<h.objs.size:=by
 cases o with
 | lst c=>obtain⟨_,_,_,_,e⟩:=x;exact j9 e
 | tup c=>obtain⟨_,_,_,p⟩:=x;exact p.lt
 | dK b=>obtain⟨_,_,_,_,o,_,_,e,_⟩:=x;exact j9 e
 | dT b=>obtain⟨_,_,_,_,o,_,_,e,_⟩:=x;exact j9 e
 | set S n=>obtain⟨o,_,_,_,e,_⟩:=x;exact j9 e
 | ins C dx fs=>obtain⟨_,_,_,e,_⟩:=x;exact j9 e
 | own y=>obtain⟨_,e⟩:=x;exact j9 e
 | xd fs=>obtain⟨_,⟨_,_,_,e,_⟩,_⟩:=x;exact j9 e
 | rng lo hi=>obtain⟨_,_,_,e⟩:=x;exact j9 e
 | frz ob u=>obtain⟨e,_⟩:=x;exact j9 e
 | tbl q=>obtain⟨_,e,_⟩:=x;exact j9 e
 | met f y=>exact j9 (x)
 | ext φ=>obtain⟨_,⟨_,e⟩,_⟩:=x;exact j9 e
theorem Paired.mapP:∀{c:ge e} {l₂:ge d},Paired F c l₂->(∀a b,F a b->G a b)->Paired G c l₂
 | _,_,.nil,_=>.nil
 | _,_,.cons r t,f=>.cons (f _ _ r) (Paired.mapP t f)
theorem t9.stay(x:t9 P w H h a o)(k:∀b u,(b=a\/H b=some (.own a))->h.get? b=some u->h'.get? b=some u)
  (ho:∀b,H b=some (.own a)->E b=some (.own a)) (ht:∀b xs,H b=some (.tup xs)->E b=some (.tup xs)) (hy:∀b q,H b=some (.tbl q)->E b=some (.tbl q)) (hz:∀b o u vs,o.data=.fields vs->H b=some (.frz o u)->E b=some (.frz o u)):t9 P w E h' a o:=by
 induction o with
 | lst xs=>obtain⟨z,l,n,r,e⟩:=x;exact⟨z,l,n,r,k _ _ LI e⟩
 | tup xs=>obtain⟨z,l,r,g,e,c⟩:=x;exact⟨z,l,r,g,k _ _ LI e,c⟩
 | dK K=>obtain⟨z,y,vs,r,g,i,j,e,c⟩:=x;exact⟨z,y,vs,r,g,i,j,k _ _ LI e,c⟩
 | dT K=>
  obtain⟨z,y,xs,r,g,i,j,e,c⟩:=x;exact⟨z,y,xs,Paired.mapP r λ p q z=>⟨z.1,ht _ _ z.2.1,z.2.2⟩,g,i,j,k _ _ LI e,c⟩
 | set S n=>obtain⟨g,i,j,t,e,c⟩:=x;exact⟨g,i,j,t,k _ _ LI e,c⟩
 | ins C dx fs=>
  obtain⟨d,z,ne,e,J,⟨I,i,j,M,c⟩,r⟩:=x;exact⟨ho _ d,z,ne,k _ _ LI e,J,⟨I,i,j,k _ _ (.inr d) M,c⟩,r⟩
 | own y=>obtain⟨g,e⟩:=x;exact⟨g,k _ _ LI e⟩
 | xd fs=>obtain⟨J,⟨I,i,j,e,c⟩,r⟩:=x;exact⟨J,⟨I,i,j,k _ _ LI e,c⟩,r⟩
 | rng lo hi=>obtain⟨t,u,v,e⟩:=x;exact⟨t,u,v,k _ _ LI e⟩
 | frz g u ih=>obtain⟨e,q⟩:=x;exact⟨k _ _ LI e,ih q⟩
 | tbl q=>
  obtain⟨ps,e,t,f⟩:=x;refine⟨ps,k a _ LI e,t,λ F cv z=>?_⟩;obtain⟨c,oc,u,vs,t',e1,M,N,e4,e5⟩:=f F cv z;refine⟨c,oc,u,vs,t',e1,hz _ _ _ _ N M,N,e4,λ y=>?_⟩;obtain⟨y0,T,B,tf,m,tg,L,A,tt,Z,Y,X,W,U,R,Q,O⟩:=e5 y;exact⟨y0,T,B,tf,m,tg,L,A,tt,Z,Y,X,W,U,R,Q,hy _ _ O⟩
 | met f y=>
  have e:=x;show h'.get? a=some _;exact k a _ LI e
 | ext φ=>obtain⟨p,⟨o,e⟩,st⟩:=x;exact⟨st _ _ p λ o q=>k _ _ LI q,⟨o,k _ _ LI e⟩,st⟩
theorem HOk.lt(x:HOk P w H h)(e:H a=some o):a<h.objs.size:=(x a o e).lt
theorem HOk.fresh(x:HOk P w H h)(e:h.objs.size<=a):H a=none:=by
 cases q:H a with
 | none=>rfl
 | some u=>exact absurd (r9 (x.lt q) e) (N3 _)
theorem HOk.kept(x:HOk P w H h)(k:∀b u,h.get? b=some u->h'.get? b=some u):HOk P w H h':=λ a o e=>
 (x a o e).stay (λ b u _ q=>k b u q) (λ _ q=>q) (λ _ _ q=>q) (λ _ _ q=>q) λ _ _ _ _ _ q=>q
theorem HOk.laid(x:HOk P w H h)(k:∀b u,h.get? b=some u->h'.get? b=some u)(i:h.objs.size<=a)(new:t9 P w (upd H a o) h' a o):HOk P w (upd H a o) h':=λ b u e=>by
 have d:=x.fresh i;by_cases f:b=a
 ·subst f;rw[u9]at e;cases e;exact new
 ·rw[i9 f]at e;exact(x b u e).stay (λ c v _ q=>k c v q) (λ c q=>by rw[i9 (y9 q d)];exact q) (λ c g q=>by rw[i9 (y9 q d)];exact q) (λ c g q=>by rw[i9 (y9 q d)];exact q) λ c _ _ _ _ q=>by rw[i9 (y9 q d)];exact q
def Rd(H:Hp)(a:Jl)(u:HO):Prop:=H a=some u\/∃o,H a=some (.frz o u)
theorem Rd.ok(r:Rd H a u)(x:HOk P w H h):t9 P w H h a u:=by
 rcases r with r | ⟨o,r⟩
 ·exact x a u r
 ·obtain⟨_,q⟩:=x a _ r;exact q
noncomputable def Mut:Ji HO->Prop
 | some (.lst _)=>True
 | some (.dK _)=>True
 | some (.dT _)=>True
 | some (.set _ _)=>True
 | some (.ins _ _ _)=>True
 | some (.ext _)=>True
 | _=>False
theorem HOk.write(ok:HOk P w H h)(f:Mut (H x))(A:e=x\/H e=some (.own x))(k:∀b u,b≠e->h.get? b=some u->h'.get? b=some u)(n:∃u,h'.get? e=some u)
  (new:t9 P w (upd H x m) h' x m):HOk P w (upd H x m) h':=λ b u q=>by
 have d:∀c y,H c=some (.own y)->c≠x:=λ c y r z=>by subst z;rw[r]at f;exact f
 have i:∀c g,H c=some (.tup g)->c≠x:=λ c g r z=>by subst z;rw[r]at f;exact f
 by_cases l:b=x
 ·subst l;rw[u9]at q;cases q;exact new
 ·rw[i9 l]at q;by_cases a:b=e
  ·have p:H b=some (.own x):=by
    rcases A with z | z
    ·exact absurd (a.trans z) l
    ·rw[a];exact z
   rw[q]at p;cases p;obtain⟨v,hv⟩:=n;exact⟨v,by rw[a];exact hv⟩
  ·refine(ok b u q).stay (λ c v j r=>k c v ?_ r) (λ c r=>by rw[i9 (d c b r)];exact r) (λ c g r=>by rw[i9 (i c g r)];exact r) (λ c g r=>by rw[i9 λ z=>by subst z;rw[r]at f;exact f];exact r) λ c o v _ _ r=>by rw[i9 λ z=>by subst z;rw[r]at f;exact f];exact r
   rcases j with rfl | j
   ·exact a
   ·rintro rfl
    rcases A with z | z
    ·exact d c b j z
    ·rw[j]at z;cases z;exact l rfl
structure Un(fs ex:List Addr)(H H':Hp)(h h':Heap):Prop where
 keep:∀b o,h.get? b=some o->H b=none->b∉fs->b∉ex->h'.get? b=some o
 slot:∀b o,h.get? b=some o->H b=none->b∈fs->b∉ex->∃sl,h'.get? b=some {o with slots:=sl}
 free:∀b o,h.get? b=some o->H b=none->b∉ex->H' b=none
 there:∀b o,h.get? b=some o->b∉ex->∃o',h'.get? b=some o'
 tups:∀b xs,H b=some (.tup xs)->H' b=some (.tup xs)
 frzs:∀b o u,H b=some (.frz o u)->H' b=some (.frz o u)
 tbls:∀b q,H b=some (.tbl q)->H' b=some (.tbl q)
theorem Un.any(u:Un fs ex H g h e)(q:h.get? b=some a)(n:H b=none)(c:b∉ex):∃f,e.get? b=some {a with slots:=f}:=by
 by_cases d:b∈fs
 ·exact u.slot b a q n d c
 ·exact⟨a.slots,u.keep b a q n d c⟩
theorem Un.kept(k:∀b u,h.get? b=some u->h'.get? b=some u):Un fs ex H H h h':=
 ⟨λ b a q _ _ _=>k b a q,λ b a q _ _ _=>⟨a.slots,k b a q⟩,λ _ _ _ n _=>n,λ b a q _=>⟨a,k b a q⟩,λ _ _ q=>q,λ _ _ _ q=>q,λ _ _ q=>q⟩
theorem Un.refl:Un fs ex H H h h:=Un.kept λ _ _ q=>q
theorem Un.laid(k:∀b u,h.get? b=some u->h'.get? b=some u)(e:h.objs.size<=a)(c:H a=none):Un fs ex H (upd H a o) h h' where
 keep:=λ b u q _ _ _=>k b u q
 slot:=λ b u q _ _ _=>⟨u.slots,k b u q⟩
 free:=λ b u q n _=>by rw[i9 (p6 (r9 (j9 q) e))];exact n
 there:=λ b u q _=>⟨u,k b u q⟩
 tups:=λ b d q=>by rw[i9 (y9 q c)];exact q
 frzs:=λ b u d q=>by rw[i9 (y9 q c)];exact q
 tbls:=λ b ps q=>by rw[i9 (y9 q c)];exact q
theorem Un.write(c:Mut (H x))(m:e=x\/H e=some (.own x))(k:∀b u,b≠e->h.get? b=some u->h'.get? b=some u)(f:∃u,h'.get? e=some u):Un fs ex H (upd H x o) h h':=by
 have g:∀b,H b=none->b≠x:=λ b n z=>by subst z;rw[n]at c;exact c
 have i:∀b,H b=none->b≠e:=λ b n z=>by
  subst z;rcases m with r | r
  ·exact g b n r
  ·rw[n]at r;cases r
 have d:∀b u,H b=some u->¬Mut (some u)->b≠x:=λ b u q l z=>by subst z;rw[q]at c;exact l c
 refine⟨λ b u q n _ _=>k b u (i b n) q,λ b u q n _ _=>⟨u.slots,k b u (i b n) q⟩,λ b u q n _=>by rw[i9 (g b n)];exact n,λ b u q _=>?_,
  λ b j q=>by rw[i9 (d b _ q λ z=>z)];exact q,λ b u j q=>by rw[i9 (d b _ q λ z=>z)];exact q,λ b ps q=>by rw[i9 (d b _ q λ z=>z)];exact q⟩
 by_cases a:b=e
 ·subst a;exact f
 ·exact⟨u,k b u a q⟩
noncomputable def trk(h:Jm)(H:Hp):ge Jl:=(JY h.objs.size).filter λ a=>(H a).isSome
def hidT(h:Jm)(H:Hp):Jm:=PySem.W.hideAll h (trk h H)
theorem wU(h:Jm)(H:Hp):(hidT h H).objs.size=h.objs.size:=PySem.W.hideAll_size _ _
theorem wV(e:h.get? b=some o)(n:H b=none):(hidT h H).get? b=some o:=
 eM _ e λ a=>by have q:=(B8.mp a).2;rw[n]at q;simp at q
theorem wW(e:(hidT h H).get? b=some o):h.get? b=some o/\H b=none:=by
 have a:=PySem.W.of_hideAll _ e;refine⟨a,?_⟩;cases q:H b with
 | none=>rfl
 | some x=>
  have z:(hidT h H).get? b=none:=PySem.W.hideAll_none _ (B8.mpr ⟨q9.mpr (j9 a),by simp[q]⟩);rw[z]at e;cases e
noncomputable def wX(g h:Jm)(L:Jl):ge (Jl×Obj):=(JY h.objs.size).filterMap λ a=>if a=L\/(g.get? a).isSome=true then none else(h.get? a).map λ o=>(a,o)
def rest(g h:Jm)(L d:Jl):ge (Jl×Obj):=(wX g h L).filter λ p=>decide (p.1≠d)
end L2
namespace L2
open PySem PySem.Spec PyProof.Rows
structure Mod(K:Lz)(mg:Str->Option Value)(base:Heap):Prop where
 kin:K.In base
 glob:base.Ns mainGlobals mg
 blt:∃mb,base.Ns builtinsNs mb/\∀x:Str,x ≠ "__name__" -> mb x=bootBuiltins x
 nolimit:base.NoLimit
 bmod:∃bm ob,mg "__builtins__" = some (JR bm)/\bm≠builtinsNs/\base.get? bm=some ob/\ob.cls=.type "module" /\ ob.dict=some builtinsNs/\ob.data=.plain
set_option genInjectivity true in
structure Cx where
 prog:Program
 w:World
 K:PySem.W.Frag
 mg:Str->Option Value
 base:Heap
 A:Around
 N:List Str
 s₀:Shared
 H₀:Hp
 env:Env
 outer:List Env
 stack:List Env
 ex:List Addr
 fn:Str->Bool
 calm:Bool
 pn:List (Addr×Obj)
 xe:Value->Shared->Prop
def tagQ(q:Str):Str:=if L6 (q ++ ".<locals>." ++ "plan_of")then q ++ ".<locals>." ++ "plan_of" else q ++ ".<locals>." ++ "<lambda>"
def x4(K:Ju):ge (Jl×Str):=K.filterMap λ p=>match p.2.cls,p.2.data with
 | .type "code",.fields vs=>(match(vs[11]?:Ji Jj),(vs[1]?:Ji Jj)with
  | some (.ref P),some (.str q _)=>if(K.lookup P).isNone then some (P,tagQ q)else none
  | _,_=>none)
 | _,_=>none
def cJ(K:Ju)(H:Hp):Prop:=∀p∈x4 K,H p.1=some (.tbl p.2)
noncomputable def frs(l:ge Env):ge Jl:=l.filterMap (·.frame)
abbrev Cx.fs(X:Cx):ge Jl:=frs X.outer
def Vis(sc:Jv)(x:Str):Prop:=sc.names.lookup x=some .local\/sc.names.lookup x=some .cell\/sc.names.lookup x=some .free
def Loc(sc:Jv)(x:Str):Prop:=sc.names.lookup x=some .local\/sc.names.lookup x=some .cell
def Look(env:Env)(h:Jm)(m:Str->Ji Jj)(x:Str)(u:Jj):Prop:=
 (env.kindOf x=some .local/\m x=some u)\/((env.kindOf x=some .cell\/env.kindOf x=some .free)/\∃c,env.cells.lookup x=some c/\h.IsCell c (some u))
structure Cx.Ok(X:Cx):Prop where
 mod:Mod X.K X.mg X.base
 kind:X.env.scope.kind=.function
 glob:X.env.globals=mainGlobals
 blt:X.env.builtins=builtinsNs
 above:X.s₀.heap.objs.size<=X.env.locals
 inj:∀x y c,X.env.cells.lookup x=some c->X.env.cells.lookup y=some c->x=y
 has:∀x,(X.env.kindOf x=some .cell\/X.env.kindOf x=some .free)->∃c,X.env.cells.lookup x=some c
 cab:∀x c,X.fn x=true->X.env.cells.lookup x=some c->X.s₀.heap.objs.size<=c
 hd:X.calm=true->X.A.handled=none
 frames:X.A.frames=some X.stack
 stk:X.stack=X.outer\/(X.stack=X.env::X.outer/\X.env.frame=some X.env.locals)
 exf:∀b∈X.ex,b≠X.env.locals/\∀x c,X.env.cells.lookup x=some c->c≠b
 bs:∀b o,X.base.get? b=some o->X.s₀.heap.get? b=some o/\X.H₀ b=none
 bsz:X.base.objs.size<=X.s₀.heap.objs.size
 noex:∀b o,X.base.get? b=some o->b∉X.ex
 exfs:∀b∈X.ex,b∉X.fs
 funs:X.s₀.heap.FunFrames X.base X.outer
 frf:(∀b∈X.fs,X.H₀ b=none)/\cJ X.K X.H₀
structure Inv(X:Cx)(pins:List (Addr×Obj))(σ:List (Option V))(H:Hp)(s:Shared):Prop where
 ok:X.Ok
 os:s.os=X.s₀.os
 bare:AllBare s.gens
 base:Un X.fs X.ex X.H₀ H X.s₀.heap s.heap
 loc:∃m,s.heap.Ns X.env.locals m/\∀(i:Nat) (x:Str) (v:V),X.N[i]? = some x->σ[i]? = some (some v)->Vis X.env.scope x->∃u,RelV v u/\Look X.env s.heap m x u
 cell:∀x c,X.env.cells.lookup x=some c->∃v,s.heap.IsCell c v
 free:H X.env.locals=none
 freeC:∀x c,X.env.cells.lookup x=some c->H c=none
 pin:∀p∈X.pn++pins,s.heap.get? p.1=some p.2/\H p.1=none/\p.1≠X.env.locals/\p.1∉X.fs/\∀v,p.2.data ≠ .cell v
 hok:HOk X.prog X.w H s.heap
 len:σ.length=X.N.length
theorem Cx.Ok.nofr{X:Cx}(ok:X.Ok)(e:X.base.get? b=some o):b∉X.fs:=λ a=>by
 have:=(ok.funs.mem a).1;rw[e]at this;cases this
theorem Inv.bs(I:JI a):∀b o,X.base.get? b=some o->s.heap.get? b=some o/\H b=none:=λ b o e=>
 ⟨I.base.keep b o (I.ok.bs b o e).1 (I.ok.bs b o e).2 (I.ok.nofr e) (I.ok.noex b o e),I.base.free b o (I.ok.bs b o e).1 (I.ok.bs b o e).2 (I.ok.noex b o e)⟩
theorem Inv.bk(I:JI a):∀b o,X.base.get? b=some o->s.heap.get? b=some o:=λ b o e=>(I.bs b o e).1
theorem Inv.mod(I:JI a):Mod X.K X.mg X.base:=I.ok.mod
theorem Inv.tabs(I:JI a):cJ X.K H:=λ p b=>I.base.tbls p.1 p.2 (I.ok.frf.2 p b)
theorem Inv.kIn(I:JI a):X.K.In s.heap:=I.ok.mod.kin.keeps I.bk
theorem Inv.lt(I:JI a):X.env.locals<s.heap.objs.size:=let ⟨_,hn,_⟩:=I.loc;hn.lt
theorem Inv.sz(I:JI a):X.s₀.heap.objs.size<=s.heap.objs.size:=i7 I.ok.above (U0 I.lt)
theorem Inv.nofs(I:JI b)(h:s.heap.objs.size<=a):a∉X.fs:=λ d=>by
 obtain⟨_,o,c,_⟩:=I.ok.funs.mem d
 exact absurd (r9 (j9 c) (i7 I.sz h)) (N3 _)
theorem Inv.cne(I:JI a):∀x c,X.env.cells.lookup x=some c->c≠X.env.locals:=λ x c e z=>by
 obtain⟨v,o,f,hd⟩:=I.cell x c e;obtain⟨m,⟨o',es,ep,b,d,_⟩,_⟩:=I.loc;rw[z,b]at f;cases f;rw[d]at hd;cases hd
theorem Inv.funs(I:JI a):s.heap.FunFrames X.base X.outer:=by
 have all:∀(l:ge Env),(∀b∈frs l,b∈X.fs)->X.s₀.heap.FunFrames X.base l->s.heap.FunFrames X.base l:=by
  intro l
  induction l with
  | nil=>intro _ _;trivial
  | cons p r h=>
   intro g m;obtain⟨n,⟨L,o,c,k,j,hd⟩,i⟩:=m;have f:=g L (by unfold frs;rw[aO,c];exact n9);obtain⟨sl,e⟩:=I.base.slot L o j (I.ok.frf.1 L f) f λ z=>I.ok.exfs L z f
   exact⟨n,⟨L,_,c,k,e,hd⟩,h (λ b d=>g b (by unfold frs;rw[aO,c];exact n6 _ d)) i⟩
 exact all X.outer (λ _ d=>d) I.ok.funs
theorem Inv.stack(I:JI a):s.heap.FunFrames X.base X.stack:=by
 rcases I.ok.stk with e | ⟨e,hf⟩
 ·rw[e];exact I.funs
 ·rw[e];obtain⟨m,b,_⟩:=I.loc;refine .cons (by rw[I.ok.kind];decide) hf b ?_ I.funs
  exact bV (i7 I.ok.bsz I.ok.above)
theorem Inv.stkSub(I:JI c):∀b∈frs X.stack,b∈X.env.locals::X.fs:=λ b a=>by
 rcases I.ok.stk with e | ⟨e,hf⟩
 ·rw[e]at a;exact n6 _ a
 ·rw[e]at a;unfold frs at a;rw[aO,hf]at a;exact a
theorem Inv.stkFree(I:JI a):∀b∈frs X.stack,H b=none:=λ b c=>by
 rcases h8.mp (I.stkSub b c)with e | c
 ·rw[e];exact I.free
 ·obtain⟨_,o,d,_⟩:=I.ok.funs.mem c
  exact I.base.free b o d (I.ok.frf.1 b c) λ z=>I.ok.exfs b z c
theorem Inv.step{ch:ge Jl}(I:JI f)
  (j:∀b∈ch,(b∈X.ex\/X.s₀.heap.objs.size<=b)/\b≠X.env.locals/\(∀x c,X.env.cells.lookup x=some c->c≠b)/\∀p∈X.pn++f,p.1≠b)
  (h:∀b o,b≠X.env.locals->b∉X.fs->b∉ch->s.heap.get? b=some o->H b=none->h'.get? b=some o)
  (slot:∀b o,b≠X.env.locals->b∈X.fs->b∉ch->s.heap.get? b=some o->H b=none->∃O,h'.get? b=some {o with slots:=O}) (free:∀b o,b∉ch->s.heap.get? b=some o->H b=none->E b=none)
  (there:∀b o,b∉ch->s.heap.get? b=some o->∃K,h'.get? b=some K)
  (F:∀b xs,H b=some (.tup xs)->E b=some (.tup xs)) (M:∀b o u,H b=some (.frz o u)->E b=some (.frz o u)) (J:∀b q,H b=some (.tbl q)->E b=some (.tbl q))
  (Y:∀m,s.heap.Ns X.env.locals m->h'.Ns X.env.locals m) (P:HOk X.prog X.w E h') (hg:AllBare W) :
  Inv X f σ E {s with heap:=h',gens:=W,drawn:=d',toks:=t'}:=by
 have L:∀b o,X.s₀.heap.get? b=some o->b≠X.env.locals:=λ b o e=>p6 (r9 (j9 e) I.ok.above);have y:∀b o,X.s₀.heap.get? b=some o->b∉X.ex->b∉ch:=λ b o e a A=>by
  rcases(j b A).1 with z | z
  ·exact a z
  ·exact absurd (r9 (j9 e) z) (N3 _)
 have w:∀x c,X.env.cells.lookup x=some c->∀v,s.heap.IsCell c v->h'.IsCell c v:=λ x c e v ⟨o,C,hd⟩=>by
  have g:c∉ch:=λ z=>(j c z).2.2.1 x c e rfl;by_cases U:c∈X.fs
  ·obtain⟨O,q⟩:=slot c o (I.cne x c e) U g C (I.freeC x c e);exact⟨_,q,hd⟩
  ·exact⟨o,h c o (I.cne x c e) U g C (I.freeC x c e),hd⟩
 refine⟨I.ok,I.os,hg,⟨λ b o e n A a=>?_,λ b o e n A a=>?_,λ b o e n a=>?_,λ b o e a=>?_,λ b xs e=>F b xs (I.base.tups b xs e),λ b o xs e=>M b o xs (I.base.frzs b o xs e),λ b ps e=>?_⟩,?_,λ x c e=>?_,?_,λ x c e=>?_,λ p S=>?_,P,I.len⟩
 ·exact h b o (L b o e) A (y b o e a) (I.base.keep b o e n A a) (I.base.free b o e n a)
 ·obtain⟨O,B⟩:=I.base.slot b o e n A a;obtain⟨N,Q⟩:=slot b _ (L b o e) A (y b o e a) B (I.base.free b o e n a);exact⟨N,Q⟩
 ·obtain⟨K,B⟩:=I.base.there b o e a;exact free b K (y b o e a) B (I.base.free b o e n a)
 ·obtain⟨K,B⟩:=I.base.there b o e a;exact there b K (y b o e a) B
 ·exact J b ps (I.base.tbls b ps e)
 ·obtain⟨m,Z,hl⟩:=I.loc;refine⟨m,Y m Z,λ i x v B Q e3=>?_⟩;obtain⟨u,r,l⟩:=hl i x v B Q e3;refine⟨u,r,?_⟩;rcases l with l | ⟨k,c,e,z⟩
  ·exact .inl l
  ·exact .inr ⟨k,c,e,w x c e _ z⟩
 ·obtain⟨v,z⟩:=I.cell x c e;exact⟨v,w x c e v z⟩
 ·obtain⟨m,⟨o,_,_,C,_⟩,_⟩:=I.loc;exact free _ o (λ z=>(j _ z).2.1 rfl) C I.free
 ·obtain⟨v,o,C,hd⟩:=I.cell x c e;exact free c o (λ z=>(j c z).2.2.1 x c e rfl) C (I.freeC x c e)
 ·obtain⟨e,n,ne,R,d⟩:=I.pin p S;have g:p.1∉ch:=λ z=>(j p.1 z).2.2.2 p S rfl
  exact⟨h p.1 p.2 ne R g e n,free p.1 p.2 g e n,ne,R,d⟩
theorem Inv.un(I:JI a)(u:Un X.fs [] H i s.heap h')(d:HOk X.prog X.w i h'):Inv X a σ i {s with heap:=h',toks:=t'}:=by
 obtain⟨m,⟨o,es,ep,j,r⟩,_⟩:=id I.loc;obtain⟨sl,p⟩:=u.any j I.free JL;exact I.step (ch:=[]) (λ _ z=>nomatch z) (λ b o _ f _ e n=>u.keep b o e n f JL) (λ b o _ f _ e n=>u.slot b o e n f JL) (λ b o _ e n=>u.free b o e n JL) (λ b o _ e=>u.there b o e JL) u.tups u.frzs u.tbls (λ m' l=>by
  obtain⟨o',g,h,c,k⟩:=l;rw[j]at c;cases c;exact⟨_,g,h,p,k⟩) d I.bare
theorem Inv.call(I:JI a)(u:Un (frs X.stack) ch H l s.heap h')(h:HOk X.prog X.w l h')(A:AllBare v)
  (g:∀b∈ch,(b∈X.ex\/X.s₀.heap.objs.size<=b)/\b≠X.env.locals/\(∀x c,X.env.cells.lookup x=some c->c≠b)/\∀p∈X.pn++a,p.1≠b) :
  Inv X a σ l {s with heap:=h',gens:=v,drawn:=C,toks:=t'}:=by
 obtain⟨m,⟨o,es,ep,q,r⟩,_⟩:=id I.loc;obtain⟨sl,i⟩:=u.any q I.free λ z=>(g _ z).2.1 rfl
 exact I.step g (λ b o i B d e n=>u.keep b o e n (λ z=>(h8.mp (I.stkSub b z)).elim i B) d) (λ b o _ _ d e n=>u.any e n d) (λ b o d e n=>u.free b o e n d) (λ b o d e=>u.there b o e d) u.tups u.frzs u.tbls (λ m' y=>by
  obtain⟨o',j,k,f,w⟩:=y;rw[q]at f;cases f;exact⟨_,j,k,i,w⟩) h A
theorem Inv.turned(I:JI a)(k:∀b o,b≠it->s.heap.get? b=some o->h'.get? b=some o)(i:H it=none)(g:it≠X.env.locals)
  (A:it∈X.ex\/X.s₀.heap.objs.size<=it) (y:∀x c,X.env.cells.lookup x=some c->c≠it) (w:∀p∈X.pn++a,p.1≠it):Inv X a σ H {s with heap:=h',toks:=t'}:=by
 have f:∀b u,H b=some u->b≠it:=λ b u e z=>by rw[z,i]at e;cases e
 refine I.step (ch:=[it]) (λ b l=>?_) (λ b o _ _ d e _=>k b o (λ z=>d (by simp[z])) e) (λ b o _ _ d e _=>⟨o.slots,k b o (λ z=>d (by simp[z])) e⟩) (λ _ _ _ _ n=>n)
  (λ b o d e=>⟨o,k b o (λ z=>d (by simp[z])) e⟩) (λ _ _ e=>e) (λ _ _ _ e=>e) (λ _ _ e=>e) (λ m j=>?_) (λ b u e=>?_) I.bare
 ·have e:b=it:=by simpa using l
  subst e;exact⟨A,g,y,w⟩
 ·obtain⟨o,B,C,h,r⟩:=j;exact⟨o,B,C,k _ o (Ld g) h,r⟩
 ·refine(I.hok b u e).stay (λ c v d q=>k c v ?_ q) (λ _ q=>q) (λ _ _ q=>q) (λ _ _ q=>q) λ _ _ _ _ _ q=>q;rcases d with z | z
  ·rw[z];exact f b u e
  ·exact f c _ z
theorem Inv.tok(I:JI a)(t:Nat):Inv X a σ H {s with toks:=t}:=I.un Un.refl I.hok
theorem Inv.kept(I:JI a)(k:∀b u,s.heap.get? b=some u->h'.get? b=some u):Inv X a σ H {s with heap:=h',toks:=t'}:=I.un (Un.kept k) (I.hok.kept k)
theorem Inv.laid(I:JI c)(k:∀b u,s.heap.get? b=some u->h'.get? b=some u)(d:s.heap.objs.size<=a)(new:t9 X.prog X.w (upd H a o) h' a o) :
  Inv X c σ (upd H a o) {s with heap:=h',toks:=t'}:=I.un (Un.laid k d (I.hok.fresh d)) (I.hok.laid k d new)
theorem Inv.write(I:JI a)(d:Mut (H x))(f:e=x\/H e=some (.own x))(k:∀b u,b≠e->s.heap.get? b=some u->h'.get? b=some u)(c:∃u,h'.get? e=some u)
  (new:t9 X.prog X.w (upd H x o) h' x o):Inv X a σ (upd H x o) {s with heap:=h',toks:=t'}:=I.un (Un.write d f k c) (I.hok.write d f k c new)
theorem Inv.pins_of(I:JI a)(h:∀p∈pins',s.heap.get? p.1=some p.2/\H p.1=none/\p.1≠X.env.locals/\p.1∉X.fs/\∀v,p.2.data ≠ .cell v):Inv X pins' σ H s:=
 ⟨I.ok,I.os,I.bare,I.base,I.loc,I.cell,I.free,I.freeC,λ p b=>(D7.mp b).elim (λ z=>I.pin p (D6 _ z)) (h p),I.hok,I.len⟩
theorem fC{N:ge Str}(c:N.Nodup){j:Nat}(a:N[i]? = some x)(b:N[j]? = some x):i=j:=by
 obtain⟨h1,e⟩:=v4.mp a;obtain⟨h2,d⟩:=v4.mp b;exact(List.getElem_inj c).mp (e.trans d.symm)
theorem oE(I:JI J)(hN:X.N.Nodup)(W:X.N[i]? = some x)(B:Loc X.env.scope x)(r:RelV v u)
  (h:∀s',Inv X J (σ.set i (some v)) H s'->(∃a,Heap.SameBut a s.heap s'.heap/\(a=X.env.locals\/X.env.cells.lookup x=some a))->Q () s') (hf:X.fn x=true\/X.env.scope.names.lookup x=some .local:=by first | exact .inl rfl | exact .inr rfl | assumption):wpAny M A (storeName X.env x u) Q E s:=by
 obtain⟨m,hn,hl⟩:=id I.loc;have Y:(X.env.scope.kind == .class||(X.env.scope.kind == .module&&X.env.locals != X.env.globals))=false:=by rw[I.ok.kind];rfl
 have L:i<σ.length:=by rw[I.len];exact(v4.mp W).1
 have cne:=I.cne;have g:∀{a:Jl} {R:Jm},(∃o,s.heap.get? a=some o/\H a=none)->Heap.SameBut a s.heap R->HOk X.prog X.w H R:=λ {a R} ha f b ob e=>by
  obtain⟨_,_,C⟩:=ha;refine(I.hok b ob e).stay (λ c w' w q=>(f.2 c ?_).trans q) (λ _ q=>q) (λ _ _ q=>q) (λ _ _ q=>q) λ _ _ _ _ _ q=>q
  rintro rfl
  rcases w with rfl | w
  ·rw[C]at e;cases e
  ·rw[C]at w;cases w
 rcases B with K | K
 ·refine wpAny_storeName_local K hn (λ R a2 f=>?_) Y;obtain⟨oL,_,_,a1,_⟩:=id hn;refine h _ ⟨I.ok,I.os,I.bare,⟨λ b o e n P B=>?_,λ b o e n P B=>?_,I.base.free,λ b o e B=>?_,I.base.tups,I.base.frzs,I.base.tbls⟩,⟨_,a2,λ j y v' l F e3=>?_⟩,λ y c e=>?_,I.free,I.freeC,λ p hp=>?_,g ⟨oL,a1,I.free⟩ f,by simpa using I.len⟩ ⟨_,f,.inl rfl⟩
  ·exact(Lw).trans (I.base.keep b o e n P B)
  ·obtain⟨sl,l⟩:=I.base.slot b o e n P B;exact⟨sl,(Lw).trans l⟩
  ·obtain⟨o',l⟩:=I.base.there b o e B;exact⟨o',(Lw).trans l⟩
  ·by_cases N:j=i
   ·subst N;rw[W]at l;cases l;rw[F5 L]at F;cases F;exact⟨u,r,.inl ⟨K,by simp⟩⟩
   ·rw[u5 (Ld N)]at F;obtain⟨u',r',q⟩:=hl j y v' l F e3;refine⟨u',r',?_⟩;rcases q with⟨k,e⟩ | ⟨k,c,e,z⟩
    ·refine .inl ⟨k,?_⟩;have:y≠x:=λ e=>N (fC hN l (e▸W));simp[this,e]
    ·exact .inr ⟨k,c,e,z.sameBut f (cne y c e)⟩
  ·obtain⟨w',z⟩:=I.cell y c e;exact⟨w',z.sameBut f (cne y c e)⟩
  ·obtain⟨e,n,ne,nf,d⟩:=I.pin p hp;exact⟨(f.2 p.1 ne).trans e,n,ne,nf,d⟩
 ·have O:X.fn x=true:=by
   rcases hf with z | z
   ·exact z
   ·rw[z]at K;cases K
  obtain⟨c,w⟩:=I.ok.has x (.inl K);obtain⟨w',z⟩:=I.cell x c w;refine wpAny_storeName_cell I.ok.kind K w z (λ R a0 f=>?_);obtain⟨oc,U,S⟩:=id z;refine h {s with heap:=R} ⟨I.ok,I.os,I.bare,⟨λ b o e n P B=>?_,λ b o e n P B=>?_,I.base.free,λ b o e B=>?_,I.base.tups,I.base.frzs,I.base.tbls⟩,⟨m,hn.sameBut f (Ld (cne x c w)),λ j y v' l F e3=>?_⟩,λ y c' e=>?_,I.free,I.freeC,λ p hp=>?_,g ⟨oc,U,I.freeC x c w⟩ f,by simpa using I.len⟩ ⟨c,f,.inr w⟩
  ·exact(f.2 b (p6 (r9 (j9 e) (I.ok.cab x c O w)))).trans (I.base.keep b o e n P B)
  ·obtain⟨sl,l⟩:=I.base.slot b o e n P B;exact⟨sl,(f.2 b (p6 (r9 (j9 e) (I.ok.cab x c O w)))).trans l⟩
  ·obtain⟨o',l⟩:=I.base.there b o e B;exact⟨o',(f.2 b (p6 (r9 (j9 e) (I.ok.cab x c O w)))).trans l⟩
  ·by_cases N:j=i
   ·subst N;rw[W]at l;cases l;rw[F5 L]at F;cases F;exact⟨u,r,.inr ⟨.inl K,c,w,a0⟩⟩
   ·rw[u5 (Ld N)]at F;obtain⟨u',r',q⟩:=hl j y v' l F e3;refine⟨u',r',?_⟩;rcases q with q | ⟨k,c',e,z'⟩
    ·exact .inl q
    ·refine .inr ⟨k,c',e,z'.sameBut f ?_⟩
     rintro rfl
     exact N (fC hN l (I.ok.inj _ _ _ e w▸W))
  ·by_cases Z:c'=c
   ·subst Z;exact⟨_,a0⟩
   ·obtain⟨w2,z2⟩:=I.cell y c' e;exact⟨w2,z2.sameBut f Z⟩
  ·obtain⟨e,n,ne,nf,d⟩:=I.pin p hp;refine⟨(f.2 p.1 ?_).trans e,n,ne,nf,d⟩;intro q;rw[q,U]at e;exact d w' (by rw[←(B0 e)];exact S)
theorem fD(I:JI a)(f:X.N.Nodup)(d:X.N[i]? = some x)(c:Loc X.env.scope x)(r:RelV v u)
  (h:∀b,Inv X a (σ.set i (some v)) H b->Q () b) (e:X.fn x=true\/X.env.scope.names.lookup x=some .local:=by first | exact .inl rfl | exact .inr rfl | assumption):wpAny M A (storeName X.env x u) Q E s:=
 oE I f d c r (λ b g _=>h b g) e
theorem Inv.call'(I:JI a)(i:d.os=s.os)(u:Un (frs X.stack) ch H h s.heap d.heap)(f:HOk X.prog X.w h d.heap)(j:AllBare d.gens)
  (g:∀b∈ch,(b∈X.ex\/X.s₀.heap.objs.size<=b)/\b≠X.env.locals/\(∀x c,X.env.cells.lookup x=some c->c≠b)/\∀p∈X.pn++a,p.1≠b):Inv X a σ h d:=by
 obtain⟨h',g',d',t',o'⟩:=d;have e:=i;subst e;exact I.call u f j g
abbrev XK:=Jj->Ji Jl->Hp->Prop
abbrev St:=ge (Ji V)
abbrev VK:=V->Hp->Prop
abbrev TE:=St->Hp->VK->Prop
abbrev TT:=St->Hp->(Bool->Hp->Prop)->Prop
abbrev TA:=St->Hp->(ge V->Hp->Prop)->Prop
structure Ends where
 nx:St->Hp->Prop
 rt:VK
 bk:St->Hp->Prop:=λ _ _=>False
 ct:St->Hp->Prop:=λ _ _=>False
abbrev TS:=Ends->St->Hp->Prop
def EP(X:Cx)(pins:Kk)(σ:St)(Q:VK)(u:Jj)(s':Jk):Prop:=∃v H',Inv X pins σ H' s'/\RelV v u/\Q v H'
def TP(X:Cx)(pins:Kk)(σ:St)(Q:Bool->Hp->Prop)(b:Bool)(s':Jk):Prop:=∃H',Inv X pins σ H' s'/\Q b H'
def AP(X:Cx)(pins:Kk)(σ:St)(Q:ge V->Hp->Prop)(us:ge Jj)(s':Jk):Prop:=∃vs H',Inv X pins σ H' s'/\Vals vs us/\Q vs H'
def SP(X:Cx)(pins:Kk)(D:Ends)(f:Flow)(s':Jk):Prop:=
 match f with
 | .next=>∃σ' H',Inv X pins σ' H' s'/\D.nx σ' H'
 | .brk=>∃σ' H',Inv X pins σ' H' s'/\D.bk σ' H'
 | .cont=>∃σ' H',Inv X pins σ' H' s'/\D.ct σ' H'
 | .ret u=>∃v σ' H',Inv X pins σ' H' s'/\RelV v u/\D.rt v H'
def PE(X:Cx)(e:Jn)(t:TE):Prop:=
 ∀(pins:Kk) (s:Jk) (σ:St) (H:Hp) (Q:VK),Inv X pins σ H s->t σ H Q->wpAny JE X.A (Ln e) LD X.xe s
def PT(X:Cx)(e:Jn)(t:TT):Prop:=
 ∀(pins:Kk) (s:Jk) (σ:St) (H:Hp) (Q:Bool->Hp->Prop),Inv X pins σ H s->t σ H Q->wpAny JE X.A (isTrue e X.env (Ln e)) (TP X pins σ Q) X.xe s
def PW(X:Cx)(e:Jn)(t:TT):Prop:=
 ∀(whole:Sem Jj) (pins:Kk) (s:Jk) (σ:St) (H:Hp) (Q:Bool->Hp->Prop),Inv X pins σ H s->t σ H Q->wpAny JE X.A (isTrue e X.env whole) (TP X pins σ Q) X.xe s
theorem PW.pt(h:PW X e t):PT X e t:=h _
def PA(X:Cx)(es:ge Jn)(t:TA):Prop:=
 ∀(pos:Pos) (pins:Kk) (s:Jk) (σ:St) (H:Hp) (Q:ge V->Hp->Prop),Inv X pins σ H s->t σ H Q->wpAny JE X.A (spliced (KO pos es)) (AP X pins σ Q) X.xe s
def PS(X:Cx)(st:Js)(t:TS):Prop:=
 ∀(pins:Kk) (s:Jk) (σ:St) (H:Hp) (D:Ends),Inv X pins σ H s->t D σ H->wpAny JE X.A (exec st X.env) (SP X pins D) X.xe s
def PSs(X:Cx)(st:ge Js)(t:TS):Prop:=
 ∀(pins:Kk) (s:Jk) (σ:St) (H:Hp) (D:Ends),Inv X pins σ H s->t D σ H->wpAny JE X.A (execs st X.env) (SP X pins D) X.xe s
theorem thn(h:wpAny M A t Q E s)(c:∀a s,Q a s->Q' a s):wpAny M A t Q' E s:=u0 h c λ _ _ x=>x
end L2
namespace L2
open PySem PySem.Spec PyProof.Rows
section
variable {X:Cx}
theorem bin(w:PE X a m)(r:PE X b l){R:V->V->Hp->Prop}(I:JI c)(h:m σ H λ x j=>l σ j λ y d=>R x y d)
     {Q:k->Jk->Prop} {f:Jj->Jj->Sem k}
    (q:∀v u i x y d,Inv X c σ d i->RelV x v->RelV y u->R x y d->wpAny JE X.A (f v u) Q X.xe i) :
    wpAny JE X.A (Ln a) (λ v g=>wpAny JE X.A (Ln b) (λ u e=>wpAny JE X.A (f v u) Q X.xe e) X.xe g) X.xe s:=by
  refine thn (w c s σ H _ I h) λ v s1 t0=>?_;obtain⟨x,j,A,r1,p⟩:=t0;refine thn (r c s1 σ j _ A p) λ u i t0=>?_;obtain⟨y,d,z,n,o⟩:=t0;exact q v u i x y d z r1 n o
noncomputable def tVar(i:Nat):TE:=λ σ H Q=>∃v,σ[i]? = some (some v)/\Q v H
noncomputable def tC(v:V):TE:=λ _ H Q=>Q v H
theorem Q9(o:X.N[i]? = some x)(hv:Vis X.env.scope x)(hd:Kn=false:=by decide)(f:(x==("__classdict__" : Str))=false:=by decide):PE X (.Name x pos) (tVar i):=by
 intro d s g H Q I h;obtain⟨v,e,h⟩:=h;obtain⟨m,j,n⟩:=I.loc;obtain⟨u,r,l⟩:=n i x v o e hv;have b:EP X d g Q u s:=⟨v,H,I,r,h⟩;rcases l with⟨a,k⟩ | ⟨a,c,hc,hcell⟩
 ·exact cG (wpAny_loadName_local I.ok.kind a j k b) hd
 ·rcases a with a | a
  ·exact cG (wpAny_loadName_cell I.ok.kind a hc hcell b) hd
  ·exact cG (wpAny_loadName_free I.ok.kind a hc hcell b f) hd
theorem oF:PE X (.Constant (.int i) j pos) (tC (.int i)):=λ _ _ _ H _ I h=>wpAny_Constant_int ⟨.int i,H,I.tok _,KD,h⟩
theorem wY:PE X (.Constant (.bool b) j pos) (tC (.bl b)):=λ _ _ _ H _ I h=>Constant_bool ⟨.bl b,H,I,rfl,h⟩
theorem wZ:PE X (.Constant .none j pos) (tC .non):=λ _ _ _ H _ I h=>Constant_none ⟨.non,H,I,rfl,h⟩
theorem jB:PE X (.Constant (.str x) j pos) (tC (.str x)):=λ _ _ _ H _ I h=>Calls.Constant_str ⟨.str x,H,I.tok _,KD,h⟩
def Gl(X:Cx)(x:Str):Prop:=X.env.kindOf x=some .globalImplicit
theorem fE(I:JI a)(c:Gl X x)(b:X.mg x=some u)(h:Q u s)
  (hd:Kn=false:=by decide):wpAny JE X.A (Ln (.Name x pos)) Q E s:=
 nK I.ok.kind c (Calls.loadGlobal_global (by rw[I.ok.glob];exact I.mod.glob.keeps I.bk) b h) hd
theorem ah(I:JI a)(d:Gl X x)(c:X.mg x=none)(hv:bootBuiltins x=some u)(h:Q u s)
  (b:x ≠ "__name__":=by decide) (hd:Kn=false:=by decide):wpAny JE X.A (Ln (.Name x pos)) Q E s:=by
 obtain⟨mb,f,e⟩:=I.mod.blt;exact nK I.ok.kind d (Calls.loadGlobal_builtin (by rw[I.ok.glob];exact I.mod.glob.keeps I.bk) c (by rw[I.ok.blt];exact f.keeps I.bk) ((e x b).trans hv) h) hd
theorem oG(b:Gl X x)(a:X.mg x=some u)(r:RelV v u)(hd:Kn=false:=by decide):PE X (.Name x pos) (tC v):=
 λ _ _ _ H _ I h=>fE I b a ⟨v,H,I,r,h⟩ hd
theorem oH(c:Gl X x)(b:X.mg x=none)(hv:bootBuiltins x=some u)(r:RelV v u)(a:x ≠ "__name__":=by decide)(hd:Kn=false:=by decide):PE X (.Name x pos) (tC v):=
 λ _ _ _ H _ I h=>ah I c b hv ⟨v,H,I,r,h⟩ a hd
variable {a b:Jn} {ta tb:TE} {pos:Pos}
def PC(X:Cx)(op:CmpOp)(a b:Jn)(t:TE):Prop:=
 ∀(pins:Kk) (s:Jk) (σ:St) (H:Hp) (Q:VK),Inv X pins σ H s->t σ H Q ->
  wpAny JE X.A (Ln a) (λ v s₁=>wpAny JE X.A (Ln b) (λ u s₂=>wpAny JE X.A (compareOp op v u) LD X.xe s₂) X.xe s₁) X.xe s
noncomputable def tAnd(t u:TT):TT:=λ σ H Q=>t σ H λ c H1=>if c=true then u σ H1 Q else Q false H1
noncomputable def tOr(t u:TT):TT:=λ σ H Q=>t σ H λ c H1=>if c=true then Q true H1 else u σ H1 Q
noncomputable def tNot(t:TT):TT:=λ σ H Q=>t σ H λ c H1=>Q (!c) H1
theorem xa(g:PT X a d):PW X (.BoolOp .And [a] pos) d:=by
 intro wh b s f H Q I h;refine isTrue_and (thn (g b s f H Q I h) λ c s1 e=>?_);cases c with
 | true=>exact isTrue_and_nil e
 | false=>exact e
theorem xb(g:PT X a d):PW X (.BoolOp .Or [a] pos) d:=by
 intro wh b s f H Q I h;refine isTrue_or (thn (g b s f H Q I h) λ c s1 e=>?_);cases c with
 | false=>exact isTrue_or_nil e
 | true=>exact e
theorem jC{rest:ge Jn}(n:PT X a g)(m:PW X (.BoolOp .And (b::rest) pos) e):PW X (.BoolOp .And (a::b::rest) pos) (tAnd g e):=by
 intro l d s f H Q I h;refine isTrue_and (thn (n d s f H _ I h) λ c s1 t0=>?_);obtain⟨k,j,i⟩:=t0;cases c with
 | true=>exact m l d s1 f k Q j i
 | false=>exact⟨k,j,i⟩
theorem jD{rest:ge Jn}(n:PT X a g)(m:PW X (.BoolOp .Or (b::rest) pos) e):PW X (.BoolOp .Or (a::b::rest) pos) (tOr g e):=by
 intro l d s f H Q I h;refine isTrue_or (thn (n d s f H _ I h) λ c s1 t0=>?_);obtain⟨k,j,i⟩:=t0;cases c with
 | true=>exact⟨k,j,i⟩
 | false=>exact m l d s1 f k Q j i
theorem oI(e:PT X a c):PT X (.UnaryOp .Not a pos) (tNot c):=by
 intro b s d H Q I h;exact isTrue_not (e b s d H _ I h)
theorem oK(h:PE X a t):PE X (.BoolOp op [a] pos) t:=λ b s c H Q I d=>BoolOp_one (h b s c H Q I d)
end
end L2
namespace L2
open PySem PySem.Spec PyProof.Rows
def SqL(K:Ju)(H:Hp)(a:Jl)(xs:ge V):Prop:=
 Rd H a (Kx xs) \/
  ∃(o:Obj) (its:Jo Jj) (n:Nat),K.lookup a=some o/\o.cls=.type "list" /\ o.dict=none/\o.data=.seq its n/\its.size<=sizeLine/\Vals xs its.toList
def SqT(K:Ju)(H:Hp)(a:Jl)(xs:ge V):Prop:=
 Rd H a (.tup xs) \/
  ∃(o:Obj) (its:Jo Jj) (n:Nat),K.lookup a=some o/\(o.cls=.type "tuple" /\ o.dict=none)/\o.data=.seq its n/\its.size<=sizeLine/\Vals xs its.toList
noncomputable def absV:Jj->Ji V
 | .none=>some .non
 | .bool b=>some (.bl b)
 | .int i _=>some (.int i)
 | .str x _=>some (.str x)
 | .bytes b _=>some (.byt b)
 | .float b _=>some (.flt b)
 | .ref a=>some (.ref a)
 | .type n=>some (.ty n)
 | _=>none
theorem RelV.abs(r:RelV x u):absV u=some x:=by
 cases x with
 | non=>cases r;rfl
 | bl _=>cases r;rfl
 | int _=>obtain⟨t,rfl⟩:=r;rfl
 | str _=>obtain⟨t,rfl⟩:=r;rfl
 | byt _=>obtain⟨t,rfl⟩:=r;rfl
 | flt _=>obtain⟨t,rfl⟩:=r;rfl
 | ref _=>cases r;rfl
 | ty _=>cases r;rfl
theorem RelV.inj(r:RelV x u)(q:RelV y u):x=y:=B0 (r.abs.symm.trans q.abs)
theorem Vals.inj(h:Vals xs b):Vals a b->xs=a:=by
 induction h generalizing a with
 | nil=>intro t;cases t;rfl
 | cons r _ e=>intro t;cases t with | cons d c=>rw[r.inj d,e c]
theorem SqL.of{K:Ju}(h:H a=some (Kx xs)):SqL K H a xs:=.inl (.inl h)
theorem SqT.of{K:Ju}(h:H a=some (.tup xs)):SqT K H a xs:=.inl (.inl h)
theorem Inv.list(I:JI c)(h:SqL X.K H a xs):∃b:ge Jj,Vals xs b/\PlainL s.heap a b.toArray/\xs.length<=sizeLine:=by
 rcases h with h | ⟨o,b,n,hk,hc,hd,hs,hz,r⟩
 ·obtain⟨z,b,n,r,e⟩:=h.ok I.hok;exact⟨b,r,⟨_,n,e,rfl,rfl,rfl⟩,z⟩
 ·refine⟨b.toList,r,⟨o,n,I.kIn a o hk,hc,hd,by simpa using hs⟩,?_⟩;have e:=r.length;simp only[A3]at e;omega
theorem Inv.tuple(I:JI c)(h:SqT X.K H a xs):∃b:ge Jj,Vals xs b/\IsTup s.heap a b.toArray/\xs.length<=sizeLine:=by
 rcases h with h | ⟨o,b,n,hk,hc,hs,hz,r⟩
 ·obtain⟨z,b,r,p⟩:=h.ok I.hok;exact⟨b,r,p.tup,z⟩
 ·refine⟨b.toList,r,⟨o,I.kIn a o hk,hc.1,n,by simpa using hs⟩,?_⟩;have e:=r.length;simp only[A3]at e;omega
theorem Inv.tupleN(I:JI b)(h:SqT X.K H a xs):∃o,s.heap.get? a=some o/\o.cls=.type "tuple" /\ o.dict=none:=by
 rcases h with h | ⟨o,d,n,hk,hc,hs,hz,r⟩
 ·obtain⟨z,d,r,o,e,c,_⟩:=h.ok I.hok;exact⟨o,e,c.1,c.2⟩
 ·exact⟨o,I.kIn a o hk,hc.1,hc.2⟩
theorem Inv.list_inj(I:JI b)(h:SqL X.K H a xs)(h':SqL X.K H a g):xs=g:=by
 obtain⟨f,r,⟨o,n,e,_,_,d⟩,_⟩:=I.list h;obtain⟨c,k,⟨o',n',i,_,_,j⟩,_⟩:=I.list h';rw[e]at i;cases i;rw[d]at j;injection j with d1 _
 have:f=c:=by simpa using congrArg Array.toList d1
 subst this;exact r.inj k
theorem Inv.tuple_inj(I:JI b)(h:SqT X.K H a xs)(h':SqT X.K H a g):xs=g:=by
 obtain⟨f,r,⟨o,e,_,n,d⟩,_⟩:=I.tuple h;obtain⟨c,k,⟨o',i,_,n',j⟩,_⟩:=I.tuple h';rw[e]at i;cases i;rw[d]at j;injection j with d1 _
 have:f=c:=by simpa using congrArg Array.toList d1
 subst this;exact r.inj k
section
variable {X:Cx} {st:Js} {rest:ge Js} {t u:TS} {e:Jn} {te:TE} {pos:Pos}
noncomputable def xc:TS:=λ D σ H=>D.nx σ H
noncomputable def tSeq(t u:TS):TS:=λ D σ H=>t {D with nx:=u D} σ H
theorem xg:PSs X [] xc:=λ _ _ a H _ I h=>cf ⟨a,H,I,h⟩
theorem cK(e:PS X st t)(d:PSs X rest u):PSs X (st::rest) (tSeq t u):=by
 intro a s c H D I h;refine wpAny_execs_cons (thn (e a s c H {D with nx:=u D} I h) λ f s1 q=>?_);cases f with
 | next=>
  obtain⟨b,i,g,q⟩:=q;exact d a s1 b i D g q
 | ret v=>exact q
 | brk=>exact q
 | cont=>exact q
theorem xh(c:PS X st t):PSs X [st] t:=by
 intro a s b H D I h;refine wpAny_execs_cons (thn (c a s b H D I h) λ f s1 q=>?_);cases f with
 | next=>exact cf q
 | ret v=>exact q
 | brk=>exact q
 | cont=>exact q
theorem Inv.quiet(I:JI a):interactive X.env=false:=by simp[interactive,I.ok.kind]
noncomputable def xi(te:TE):TS:=λ D σ H=>te σ H λ _ H1=>D.nx σ H1
theorem fF(f:PE X e te)(d:swapsWith e none pos.line X.env=pure false:=by rfl):PS X (.Expr e pos) (xi te):=by
 intro a s b H D I h;exact wpAny_Expr_any (thn (f a s b H _ I h) λ v s1 ⟨x,i,g,r1,c⟩=>⟨b,i,g,c⟩) I.quiet d
noncomputable def tRet(te:TE):TS:=λ D σ H=>te σ H D.rt
theorem fG(d:PE X e te):PS X (.Return (some e) pos) (tRet te):=by
 intro a s b H D I h;exact wpAny_Return_some (thn (d a s b H _ I h) λ v s1 ⟨x,g,f,r1,c⟩=>⟨x,b,g,f,r1,c⟩)
noncomputable def tIfS(c:TT)(t u:TS):TS:=λ D σ H=>c σ H λ b H1=>if b=true then t D σ H1 else u D σ H1
theorem jE(l:PT X c g)(n:PSs X a t)(m:PSs X b u):PS X (.If c a b pos) (tIfS g t u):=by
 intro e s f H D I h;refine wpAny_If (thn (l e s f H _ I h) λ d s1 t0=>?_);obtain⟨k,j,i⟩:=t0;cases d with
 | true=>exact n e s1 f k D j i
 | false=>exact m e s1 f k D j i
noncomputable def xj:TS:=λ _ _ _=>False
theorem ai:PSs X a xj:=λ _ _ _ _ _ _ h=>h.elim
end
abbrev TG:=V->St->Hp->(St->Hp->Prop)->Prop
abbrev TGs:=ge V->St->Hp->(St->Hp->Prop)->Prop
def PG(X:Cx)(target:Jn)(t:TG):Prop:=
 ∀(pins:Kk) (s:Jk) (σ:St) (H:Hp) (v:V) (u:Jj) (Q:St->Hp->Prop),Inv X pins σ H s->RelV v u->t v σ H Q ->
  wpAny JE X.A (assign target X.env u) (λ _ s'=>∃σ' H',Inv X pins σ' H' s'/\Q σ' H') X.xe s
def PGs(X:Cx)(ts:ge Jn)(t:TGs):Prop:=
 ∀(pins:Kk) (s:Jk) (σ:St) (H:Hp) (vs:ge V) (us:ge Jj) (Q:St->Hp->Prop),Inv X pins σ H s->Vals vs us->t vs σ H Q ->
  wpAny JE X.A (assignInOrder ((assignEach ts X.env).map (·.2)) us) (λ _ s'=>∃σ' H',Inv X pins σ' H' s'/\Q σ' H') X.xe s
abbrev TSet:=V->V->V->Hp->(Hp->Prop)->Prop
def PSet(X:Cx)(t:TSet):Prop:=
 ∀(pins:Kk) (s:Jk) (σ:St) (H:Hp) (o i v:V) (ov iv u:Jj) (Q:Hp->Prop),Inv X pins σ H s->RelV o ov->RelV i iv->RelV v u->t o i v H Q ->
  wpAny JE X.A (setItem ov iv u) (λ _ s'=>∃H',Inv X pins σ H' s'/\Q H') X.xe s
noncomputable def cL(i:Nat):TG:=λ v σ H Q=>Q (σ.set i (some v)) H
theorem oM(e:X.N.Nodup)(c:X.N[i]? = some x)(b:Loc X.env.scope x)(d:X.fn x=true\/X.env.scope.names.lookup x=some .local:=by first | exact .inl rfl | exact .inr rfl | assumption):PG X (.Name x pos) (cL i):=by
 intro a s σ H v u Q I r h;exact wpAny_assign_Name (fD I e c b r (λ s' f=>⟨_,H,f,h⟩) d)
noncomputable def gNil:TGs:=λ vs σ H Q=>vs=[]/\Q σ H
noncomputable def oN(t:TG)(u:TGs):TGs:=λ vs σ H Q=>∃v r,vs=v::r/\t v σ H λ σ' H'=>u r σ' H' Q
theorem xk:PGs X [] gNil:=by
 intro a s b H vs us Q I r h;obtain⟨e,h⟩:=h;subst e;cases r;exact assignInOrder_nil ⟨b,H,I,h⟩
theorem xl(j:PG X e t)(i:PGs X es u)
  (g:(assignEach (e::es) X.env).map (·.2)=assign e X.env::(assignEach es X.env).map (·.2):=by rfl):PGs X (e::es) (oN t u):=by
 intro a s c H vs us Q I r h;obtain⟨v,vr,k,h⟩:=h;subst k;cases r with
 | cons r d=>
  rw[g];refine assignInOrder_cons (thn (j a s c H _ _ _ I r h) λ _ s1 t0=>?_);obtain⟨b,m,l,f⟩:=t0;exact i a s1 b m _ _ Q l d f
noncomputable def gTup(K:Ju)(n:Nat)(t:TGs):TG:=λ v σ H Q=>∃a xs,v=.ref a/\SqT K H a xs/\xs.length=n/\t xs σ H Q
theorem xm(x:Lb)(h:PGs X es t)
  (q:(assignEach es X.env).length=n:=by rfl) (f:(assignEach es X.env).findIdx? (·.1)=none:=by rfl):PG X (.Tuple es k pos) (gTup X.K n t):=by
 intro c s g H v u Q I r d;obtain⟨a,i,y,p,w,d⟩:=d;subst y;cases r;obtain⟨j,rv,m,hz⟩:=I.tuple p;refine assign_Tuple_tuple (I.ok.hd x) m (by simp[q,←w,rv.length]) f λ h' l=>?_
 exact h c _ g H i _ Q (I.kept λ b o e=>l b o (p6 (j9 e)) e) (Kg rv) d
noncomputable def gSub(to ti:TE)(t:TSet):TG:=λ v σ H Q=>to σ H λ o H1=>ti σ H1 λ i H2=>t o i v H2 λ H3=>Q σ H3
theorem xn(n:PE X o d)(p:PE X i e)(m:PSet X t)
  (q:∀v,assign (.Subscript o i pos) X.env v=(do
   let ov ←holding [v] (Ln o)
   let b ←holding [v,ov] (Ln i)
   standAt pos
   holding [v,ov,b] (setItem ov b v)
   release [v,ov,b] []):=by intro _;rfl):PG X (.Subscript o i pos) (gSub d e t):=by
 intro a s c H v u Q I r h;rw[q];refine f0 (B6 (thn (n a s c H _ I h) λ ov s1 t0=>?_));obtain⟨x,E,A,r1,l⟩:=t0;refine f0 (B6 (thn (p a s1 c E _ A l) λ b f t0=>?_));obtain⟨y,C,z,g,k⟩:=t0;refine f0 (cA (f0 (B6 (thn (m a f c C x y v ov b u _ z r1 g r k) λ _ s3 t0=>?_))));obtain⟨B,w,j⟩:=t0;exact wpAny_release ⟨c,B,w,j⟩
noncomputable def tAsg(te:TE)(g:TG):TS:=λ D σ H=>te σ H λ x H1=>g x σ H1 D.nx
theorem xo(j:PE X e c)(i:PG X tg g)(f:swapsWithSole [tg] e pos.line X.env=pure false:=by rfl)(hw:swappedStores [tg] e X.env=pure none:=by rfl)
  (k:(assignEach [tg] X.env).map (·.2)=[assign tg X.env]:=by rfl):PS X (.Assign [tg] e pos) (tAsg c g):=by
 intro a s b H D I h;refine wpAny_Assign_stores (thn (j a s b H _ I h) λ v s1 ⟨x,m,l,r1,d⟩=>?_) f hw;rw[k];exact thn (i a s1 b m x v _ l r1 d) λ _ s2 q=>q
theorem fH(m:X.N.Nodup)(j:X.N[i]? = some x)(f:Loc X.env.scope x)(l:PE X e b)(g:swapsWith e (some (.Name x pos')) pos.line X.env=pure false:=by rfl)(k:X.fn x=true\/X.env.scope.names.lookup x=some .local:=by first | exact .inl rfl | exact .inr rfl | assumption) :
  PS X (.Assign [.Name x pos'] e pos) (tAsg b (cL i)):=by
 intro a s c H D I h;refine wpAny_Assign_Name (thn (l a s c H _ I h) λ v s1 ⟨y,p,o,r1,d⟩=>?_) g;exact fD o m j f r1 (λ s2 n=>⟨_,p,n,d⟩) k
noncomputable def xp(c:TT)(tb:TS):TS:=λ D σ H=>∃W:Nat->St->Hp->Prop,(∃m,W m σ H)/\∀m σ H,W m σ H ->
 c σ H λ b H1=>if b=true then ∃N:St->Hp->Prop,(∀σ' H',N σ' H'->∃m',m'<m/\W m' σ' H')/\tb {D with nx:=N,ct:=N,bk:=D.nx} σ H1 else D.nx σ H1
theorem xq(w:PassesOwn JE X.A X.env X.xe)(K:PT X c r)(L:PSs X body u):PS X (.While c body [] pos) (xp r u):=by
 intro d s B H D I h;obtain⟨W,⟨J,C⟩,g⟩:=h;refine wpAny_While (codeAny_whileLoop (λ n F=>∃e A,Inv X d e A F/\W n e A) ?_ J ⟨B,H,I,C⟩)
 rintro n s1 ⟨σ1,H1,I1,w1⟩
 refine ae w (thn (K d s1 σ1 H1 _ I1 (g n σ1 H1 w1)) λ b E t0=>?_);obtain⟨z,y,k⟩:=t0;cases b with
 | true=>
  obtain⟨N,x,k⟩:=k;rw[f8 rfl];refine ae w (thn (L d E σ1 z _ y k) λ f s3 j=>?_);cases f with
  | next=>
   obtain⟨a,i,q,m⟩:=j;obtain⟨o,p,l⟩:=x a i m;exact⟨o,p,a,i,q,l⟩
  | cont=>
   obtain⟨a,i,q,m⟩:=j;obtain⟨o,p,l⟩:=x a i m;exact⟨o,p,a,i,q,l⟩
  | brk=>exact j
  | ret v=>exact j
 | false=>
  rw[g7 B5];exact cf ⟨σ1,z,y,k⟩
structure It where
 go:Nat->Hp->Prop
 yld:Nat->Hp->V->Hp->Prop
 stop:Nat->Hp->Prop
def FpOk(X:Cx)(pins:Kk)(H:Hp)(b:Jl):Prop:=
 H b=none/\b≠X.env.locals/\b∉X.fs/\(b∈X.ex\/X.s₀.heap.objs.size<=b)/\(∀x c,X.env.cells.lookup x=some c->c≠b)/\∀p∈X.pn++pins,p.1≠b
theorem Inv.fpOk(I:JI a)(d:s.heap.objs.size<=b)(h:f b=none):FpOk X a f b:=by
 refine⟨h,Q8 (r9 I.lt d),I.nofs d,.inr (i7 I.sz d),λ x c e z=>?_,λ p g z=>?_⟩
 ·obtain⟨v,q⟩:=I.cell x c e;exact absurd (r9 q.lt (by rw[z];exact d)) (N3 _)
 ·exact absurd (r9 (j9 (I.pin p g).1) (by rw[z];exact d)) (N3 _)
structure Turn(P:Program)(w:World)(K:Lz)(tg:Expr)(J:It)(fp:List Addr)(it:Addr)(tn:Nat->Heap->Prop):Prop where
 mem:it∈fp
 obj:∀i h,tn i h->∀b∈fp,∃o,h.get? b=some o/\∀v,o.data ≠ .cell v
 keep:∀i h h',tn i h->(∀b∈fp,∀o,h.get? b=some o->h'.get? b=some o)->tn i h'
 item:∀(X:Cx),X.prog=P->X.w=w->X.K=K->X.calm=true->∀(i:Nat) (pins:List (Addr×Obj)) (s:Shared) (σ:St) (H:Hp) (E:Value->Shared->Prop),Inv X pins σ H s->(∀b∈fp,FpOk X pins H b)->tn i s.heap->J.go i H ->
  wpAny Lv X.A (pyNext (JR it)) (λ r s1=>∃u,r=some u /\
   wpAny Lv X.A (letOwnedTupleGo tg (JR it) u) (λ _ s2=>∃x H',Inv X pins σ H' s2/\RelV x u/\J.yld i H x H'/\tn (i+1) s2.heap/\∀b∈fp,H' b=none) E s1) E s
 done:∀(X:Cx),X.prog=P->X.w=w->X.K=K->X.calm=true->∀(i:Nat) (pins:List (Addr×Obj)) (s:Shared) (σ:St) (H:Hp) (E:Value->Shared->Prop),Inv X pins σ H s->(∀b∈fp,FpOk X pins H b)->tn i s.heap->J.stop i H ->
  wpAny Lv X.A (pyNext (JR it)) (λ r s1=>r=none/\Inv X pins σ H s1) E s
 self:∀(A:Around) (i:Nat) (s:Shared) (Q:Value->Shared->Prop) (E:Value->Shared->Prop),tn i s.heap->Q (JR it) s->wpAny Lv A (pyIter (JR it)) Q E s
abbrev TI:=St->Hp->(It->Hp->Prop)->Prop
def PIE(X:Cx)(pins:Kk)(σ:St)(tg:Jn)(R:It->Hp->Prop)(itv:Jj)(s2:Jk):Prop:=
 ∃(it:Jl) (fp:ge Jl) (tn:Nat->Jm->Prop) (J:It) (H':Hp),itv=.ref it/\Inv X pins σ H' s2/\Turn X.prog X.w X.K tg J fp it tn/\tn 0 s2.heap/\(∀b∈fp,FpOk X pins H' b)/\R J H'
def PI(X:Cx)(tg iter:Jn)(wi:TI):Prop:=
 ∀(pins:Kk) (s:Jk) (σ:St) (H:Hp) (R:It->Hp->Prop),Inv X pins σ H s->wi σ H R ->
  wpAny JE X.A (Ln iter) (λ v s1=>wpAny JE X.A (pyIter v) (PIE X pins σ tg R) X.xe s1) X.xe s
theorem jF(b:s.heap.get? it=some o)(d:o.cls=.type n)(hd:o.data=.fields vs)
    (c : ["enumerate","zip","dict_itemiterator","dict_reverseitemiterator","odict_iterator","itertools.zip_longest","itertools.pairwise"].contains n=false) (a:Q () s):wpAny M A (letOwnedTupleGo tg (JR it) u) Q E s:=by
  unfold letOwnedTupleGo;cases tg<;>first
    | exact f9 a
    | (cases u<;>first
        | exact f9 a
        | (refine f0 (cH b ?_)
           rw[d,hd];show wpAny M A (if(["enumerate","zip","dict_itemiterator","dict_reverseitemiterator","odict_iterator","itertools.zip_longest","itertools.pairwise"].contains n&&vs[0]? == some _)=true then _ else _) Q E s;rw[g7 (by intro h;rw[c,Bool.false_and]at h;cases h)];exact f9 a))
noncomputable def Itl(K:Ju)(a:Jl):It:=
 ⟨λ i H=>∃xs x,SqL K H a xs/\xs[i]? = some x,λ i H x H'=>H'=H/\∀xs,SqL K H a xs->xs[i]? = some x,λ i H=>∃xs,SqL K H a xs/\xs.length<=i⟩
noncomputable def Itt(K:Ju)(a:Jl):It:=
 ⟨λ i H=>∃xs x,SqT K H a xs/\xs[i]? = some x,λ i H x H'=>H'=H/\∀xs,SqT K H a xs->xs[i]? = some x,λ i H=>∃xs,SqT K H a xs/\xs.length<=i⟩
noncomputable def Itr(lo:Int)(n:Nat):It:=⟨λ i _=>i<n,λ i H x H'=>H'=H/\x=.int (lo+i),λ i _=>n<=i⟩
theorem xr{K:Ju}(a it:Jl):Turn P w K tg (Itl K a) [it] it (λ i h=>h.IsListIter it a i) where
 mem:=by simp
 obj:=λ i h st b f=>by
  have e:b=it:=by simpa using f
  subst e;obtain⟨o,e,c,d⟩:=st;exact⟨o,e,λ v z=>by rw[d]at z;cases z⟩
 keep:=λ i h O st k=>st.at λ o e=>k it JL o e
 item:=by
  intro X A r B N i j s Q H E I m st y;subst A r B;obtain⟨R,x,l,q⟩:=y;obtain⟨n,rv,p,W⟩:=I.list l;obtain⟨u,Z,U⟩:=rv.get q;obtain⟨M,L,f2,J,F,C⟩:=m it JL;refine wpAny_pyNext_list_item st p.isList (Kg Z) λ O g S=>?_
  obtain⟨o,e,c,d⟩:=id g;exact⟨u,rfl,jF e c d JB ⟨x,H,(I.turned (λ b o f e=>(S.2 b f).trans e) M L J F C),U,⟨rfl,λ ys Y=>by rw[I.list_inj Y l];exact q⟩,g,λ b f=>(m b f).1⟩⟩
 done:=by
  intro X A r B N i j s Q H E I m st y;subst A r B;obtain⟨R,l,q⟩:=y;obtain⟨n,rv,p,W⟩:=I.list l;obtain⟨M,L,f2,J,F,C⟩:=m it JL;have hl:=rv.length;exact wpAny_pyNext_list_end (I.ok.hd N) st p.isList (by simp;omega) λ O eb=>⟨rfl,I.turned (λ b o f e=>eb b o f e) M L J F C⟩
 self:=λ _ _ _ _ _ st h=>wpAny_pyIter_listiter st h
theorem xt{K:Ju}(a it:Jl):Turn P w K tg (Itt K a) [it] it (λ i h=>h.IsTupleIter it a i) where
 mem:=by simp
 obj:=λ i h st b f=>by
  have e:b=it:=by simpa using f
  subst e;obtain⟨o,e,c,d⟩:=st;exact⟨o,e,λ v z=>by rw[d]at z;cases z⟩
 keep:=λ i h O st k=>st.at λ o e=>k it JL o e
 item:=by
  intro X A r B N i j s Q H E I m st y;subst A r B;obtain⟨R,x,l,q⟩:=y;obtain⟨n,rv,p,W⟩:=I.tuple l;obtain⟨u,Z,U⟩:=rv.get q;obtain⟨M,L,f2,J,F,C⟩:=m it JL;refine wpAny_pyNext_tuple_item st (p) (Kg Z) λ O g S=>?_
  obtain⟨o,e,c,d⟩:=id g;exact⟨u,rfl,jF e c d JB ⟨x,H,(I.turned (λ b o f e=>(S.2 b f).trans e) M L J F C),U,⟨rfl,λ ys Y=>by rw[I.tuple_inj Y l];exact q⟩,g,λ b f=>(m b f).1⟩⟩
 done:=by
  intro X A r B N i j s Q H E I m st y;subst A r B;obtain⟨R,l,q⟩:=y;obtain⟨n,rv,p,W⟩:=I.tuple l;obtain⟨M,L,f2,J,F,C⟩:=m it JL;have hl:=rv.length;exact wpAny_pyNext_tuple_end (I.ok.hd N) st (p) (by simp;omega) λ O eb=>⟨rfl,I.turned (λ b o f e=>eb b o f e) M L J F C⟩
 self:=λ _ _ _ _ _ st h=>wpAny_pyIter_tupleiter st h
theorem xu{K:Ju}(it:Jl)(f:Int)(n:Nat):Turn P w K tg (Itr f n) [it] it (λ i h=>IsRangeIter h it (f+(i:Nat)*1) ((n:Int) - (i:Nat)) 1) where
 mem:=by simp
 obj:=λ i h st b a=>by
  have e:b=it:=by simpa using a
  subst e;exact⟨_,st,λ v z=>by
   have F:=z;cases F⟩
 keep:=λ i h B st k=>k it JL _ st
 item:=by
  intro X p j q m i d s C H E I g st l;subst p j q;obtain⟨A,y,J,x,u,r⟩:=g it JL;refine (Walks.range (I.ok.hd m) it f 1 n).item i s _ _ l st λ v B tk hv c kk=>?_
  obtain⟨t,rfl⟩:=hv;refine⟨_,rfl,jF c rfl rfl JB ⟨.int (f+i),H,(I.turned (λ b o a e=>kk b o (Kg a) e) A y x u r),⟨t,?_⟩,⟨rfl,rfl⟩,c,λ b a=>(g b a).1⟩⟩;rw[Int.mul_one]
 done:=by
  intro X p j q m i d s C H E I g st l;subst p j q;obtain⟨A,y,J,x,u,r⟩:=g it JL;exact wpAny_pyNext_range_end (I.ok.hd m) st (by have:n<=i:=l;omega) λ B L=>⟨rfl,I.turned (λ b o a e=>L b o a e) A y x u r⟩
 self:=λ _ _ _ _ _ st h=>wpAny_pyIter_rangeiter st h
end L2
namespace L2
open PySem PySem.Spec PyProof.Rows
def xv(K:Ju)(tl:TE):TI:=λ σ H R=>tl σ H λ x H1=>∃a,x=.ref a/\(∃xs,SqL K H1 a xs)/\R (Itl K a) H1
def iTup(K:Ju)(tl:TE):TI:=λ σ H R=>tl σ H λ x H1=>∃a,x=.ref a/\(∃xs,SqT K H1 a xs)/\R (Itt K a) H1
theorem jG(m:PE X l f):PI X tg l (xv X.K f):=by
 intro c s g H R I h;refine thn (m c s g H _ I h) λ v s1 t0=>?_;obtain⟨x,r,d,r1,i⟩:=t0
 obtain⟨a,e,⟨xs,k⟩,q⟩:=i;subst e;cases r1;obtain⟨j,rv,p,hz⟩:=d.list k;refine iW p.isList ?_;refine⟨s1.heap.objs.size,[s1.heap.objs.size],_,_,r,rfl,d.kept λ b o e=>i3 _ e,xr a _,⟨_,q0 _ rfl,rfl,rfl⟩,λ b n=>?_,q⟩;have e:b=s1.heap.objs.size:=by simpa using n
 subst e;exact d.fpOk (i8 _) (d.hok.fresh (i8 _))
theorem xw(m:PE X l f):PI X tg l (iTup X.K f):=by
 intro c s g H R I h;refine thn (m c s g H _ I h) λ v s1 t0=>?_;obtain⟨x,r,d,r1,i⟩:=t0
 obtain⟨a,e,⟨xs,k⟩,q⟩:=i;subst e;cases r1;obtain⟨j,rv,p,hz⟩:=d.tuple k;refine aP (p) ?_;refine⟨s1.heap.objs.size,[s1.heap.objs.size],_,_,r,rfl,d.kept λ b o e=>i3 _ e,xt a _,⟨_,q0 _ rfl,rfl,rfl⟩,λ b n=>?_,q⟩;have e:b=s1.heap.objs.size:=by simpa using n
 subst e;exact d.fpOk (i8 _) (d.hok.fresh (i8 _))
theorem oO(I:JI c)(k : -(2^62)<=a)(j:a<2^62)(i : -(2^62)<=d)(h:d<2^62)
  (q:R (Itr a (d - a).toNat) H):wpAny JE X.A (pyIter (JR s.heap.objs.size)) (PIE X c σ tg R) E {s with heap:=s.heap.push {cls:=.type "range",data:=.fields #[.int a t,.int d u,.int 1 v]},toks:=tk}:=by
 refine wpAny_pyIter_range (IsRange.new ..) (small_one k j i h) ?_;have f:Inv X c σ H {s with heap:=s.heap.push {cls:=.type "range",data:=.fields #[.int a t,.int d u,.int 1 v]},toks:=tk}:=I.kept λ b o e=>i3 _ e;refine⟨(LH).objs.size,[(LH).objs.size],_,_,H,rfl,
  f.kept λ b o e=>i3 _ e,xu _ a (d - a).toNat,?_,λ b g=>?_,q⟩
 ·have m:a+((0:Nat):Int)*1=a:=by simp
  have l:(((d - a).toNat:Nat):Int) - ((0:Nat):Int)=Builtin.Range.rangeSize a d 1:=by rw[rangeSize_one];split<;>omega
  show IsRangeIter _ _ _ _ 1;rw[m,l];exact q0 _ rfl
 ·have e:b=(LH).objs.size:=by simpa using g
  subst e;exact f.fpOk (i8 _) (f.hok.fresh (i8 _))
def xx(ta:TA):TI:=λ σ H R=>ta σ H λ vs H1=>∃j:Int,vs=[.int j] /\ -(2^62)<=j/\j<2^62/\R (Itr 0 j.toNat) H1
def xy(ta:TA):TI:=λ σ H R=>ta σ H λ vs H1=>∃i j:Int,vs=[.int i,.int j]/\(-(2^62)<=i/\i<2^62 /\ -(2^62)<=j/\j<2^62)/\R (Itr i (j - i).toNat) H1
theorem xz(m:Gl X "range")(l:X.mg "range" = none)(n:PA X [a] d)(k:starEach [a] X.env=[(Ly a)]:=by rfl):PI X tg (.Call (.Name "range" p) [a] [] pos) (xx d):=by
 intro b s f H R I h;refine Call_ (ah I m l boot_range (dX (thn (n pos b s f H _ I h) λ us s1 ⟨vs,H1,o,r1,c⟩=>?_) k rfl));obtain⟨j,e,c,i,q⟩:=c;subst e;cases r1 with
 | cons r g=>
  cases g;obtain⟨t,rfl⟩:=r;exact call_range_1 (oO o JA JA c i (Kg q))
theorem xA(x:Gl X "range")(w:X.mg "range" = none)(y:PA X [a,b] k)(v:starEach [a,b] X.env=[(Ly a),(Ly b)]:=by rfl)(d:starEach [b] X.env=[(Ly b)]:=by rfl) :
  PI X tg (.Call (.Name "range" p) [a,b] [] pos) (xy k):=by
 intro c s l H R I h;refine Call_ (ah I x w boot_range (dX (thn (y pos c s l H _ I h) λ us s1 ⟨vs,H1,z,r1,g⟩=>?_) (by rw[v,d]) (by rw[d];rfl)));obtain⟨i,j,e,⟨g,u,o,n⟩,q⟩:=g;subst e;cases r1 with
 | cons r f=>
  cases f with
  | cons m f=>
   cases f;obtain⟨t,rfl⟩:=r;obtain⟨t',rfl⟩:=m;exact call_range_2 (oO z g u o n q)
noncomputable def tFor(wi:TI)(g:TG)(tb:TS):TS:=λ D σ H=>wi σ H λ J H1=>∃W:Nat->Nat->St->Hp->Prop,(∃m,W 0 m σ H1)/\∀i m σ H,W i m σ H ->
 (J.stop i H/\D.nx σ H)\/(J.go i H/\∃N:St->Hp->Prop,(∀σ' H',N σ' H'->∃m',m'<m/\W (i+1) m' σ' H')/\∀x H',J.yld i H x H'->g x σ H' λ σ2 H2=>tb {D with nx:=N,ct:=N,bk:=D.nx} σ2 H2)
noncomputable def fI(fp:ge Jl)(h:Jm):ge (Jl×Obj):=fp.filterMap λ b=>(h.get? b).map λ o=>(b,o)
theorem W4(a:b∈fp)(e:h.get? b=some o):(b,o)∈fI fp h:=aQ.mpr ⟨b,a,by rw[e];rfl⟩
theorem xB(a:p∈fI fp h):p.1∈fp/\h.get? p.1=some p.2:=by
 obtain⟨b,c,e⟩:=aQ.mp a;cases q:h.get? b with
 | none=>rw[q]at e;cases e
 | some o=>
  rw[q]at e;have d:=B0 e;subst d;exact⟨c,q⟩
theorem Inv.pinned(I:JI a)(i:∀b∈fp,FpOk X a H b)(h:∀b∈fp,∃o,s.heap.get? b=some o/\∀v,o.data ≠ .cell v):Inv X (a++fI fp s.heap) σ H s:=
 I.pins_of λ p g=>(D7.mp g).elim (λ z=>I.pin p (x3 _ z)) λ z=>by obtain⟨c,e⟩:=xB z;obtain⟨l,k,j,_⟩:=i p.1 c;obtain⟨o,f,d⟩:=h p.1 c;rw[e]at f;cases f;exact⟨e,l,k,j,d⟩
theorem Inv.unpinned(I:JI (a++b)):Inv X a σ H s:=I.pins_of λ p c=>I.pin p (x3 _ (D6 _ c))
theorem oP(K:PassesOwn JE X.A X.env X.xe)(hc:Lb)(hi:PI X tg l Y)(hg:PG X tg g)(p:PSs X body tb)
  (hs:∀x,foldedSetIterable l X.env x=pure x:=by intro _;rfl):PS X (.For tg l body [] pos) (tFor Y g tb):=by
 intro c s U H D I h;refine wpAny_For (thn (hi c s U H _ I h) λ v s1 h1=>thn h1 λ itv s2 h2=>?_) hs;obtain⟨it,L,Z,J,H2,e,I2,T,O,f2,W,⟨m0,w0⟩,C⟩:=h2;subst e;have k:∀{z:Hp},(∀b∈L,z b=none)->∀b∈L,FpOk X c z b:=λ hn b p=>⟨hn b p,(f2 b p).2⟩
 refine codeAny_forLoop_any (λ n s'=>∃i j z,Inv X c j z s'/\Z i s'.heap/\(∀b∈L,z b=none)/\W i n j z) ?_ m0 ⟨0,U,H2,I2,O,λ b p=>(f2 b p).1,w0⟩
 rintro n s3 ⟨i,σ3,H3,I3,st3,fr3,w3⟩
 rcases C i n σ3 H3 w3 with⟨E,qn⟩ | ⟨go,N,hN,step⟩
 ·refine ae K (thn (T.done X rfl rfl rfl hc i c s3 σ3 H3 X.xe I3 (k fr3) st3 E) λ r s4 t0=>?_);obtain⟨Q,I4⟩:=t0;subst Q;exact cf ⟨σ3,H3,I4,qn⟩
 ·refine ae K (thn (T.item X rfl rfl rfl hc i c s3 σ3 H3 X.xe I3 (k fr3) st3 go) λ r s4 t0=>?_);obtain⟨u,Q,h4⟩:=t0;subst Q;refine ae K (thn h4 λ _ s5 t0=>?_);obtain⟨x,H5,I5,r5,y5,B,R⟩:=t0;have S:=I5.pinned (k R) (T.obj _ _ B);refine ae K (thn (hg _ s5 σ3 H5 x u _ S r5 (step x H5 y5)) λ _ s6 t0=>?_);obtain⟨M,H6,I6,q6⟩:=t0;refine ae K (thn (p _ s6 M H6 _ I6 q6) λ f P A=>?_);have q:∀{a:St} {y:Hp},Inv X _ a y P->N a y->∃m,m<n/\∃i j z,Inv X c j z P/\Z i P.heap/\(∀b∈L,z b=none)/\W i m j z:=λ {a y} w F=>by obtain⟨m',hm,w7⟩:=hN a y F;refine⟨m',hm,i+1,a,y,w.unpinned,T.keep _ _ _ B λ b p o e=>(w.pin (b,o) (x3 _ (x3 _ (W4 p e)))).1,λ b p=>?_,w7⟩;obtain⟨o,e,d⟩:=T.obj _ _ B b p;exact(w.pin (b,o) (x3 _ (x3 _ (W4 p e)))).2.1
  cases f with
  | next=>obtain⟨a,y,w,F⟩:=A;exact q w F
  | cont=>obtain⟨a,y,w,F⟩:=A;exact q w F
  | brk=>obtain⟨a,y,w,A⟩:=A;exact⟨a,y,w.unpinned,A⟩
  | ret v=>obtain⟨x7,a,y,w,r7,A⟩:=A;exact⟨x7,a,y,w.unpinned,r7,A⟩
end L2
namespace L2
open PySem PySem.Spec PyProof.Rows
abbrev R2:=V->V->Hp->VK->Prop
def OpR(X:Cx)(f:Jj->Jj->Sem Jj)(r:R2):Prop:=
 ∀(pins:Kk) (s:Jk) (σ:St) (H:Hp) (x y:V) (v u:Jj) (Q:VK),Inv X pins σ H s->RelV x v->RelV y u->r x y H Q ->
  wpAny JE X.A (f v u) LD X.xe s
def UnR(X:Cx)(f:Jj->Sem Jj)(r:V->Hp->VK->Prop):Prop:=
 ∀(pins:Kk) (s:Jk) (σ:St) (H:Hp) (x:V) (v:Jj) (Q:VK),Inv X pins σ H s->RelV x v->r x H Q ->
  wpAny JE X.A (f v) LD X.xe s
def B2(X:Cx)(f:Jj)(r:ge V->Hp->VK->Prop):Prop:=
 ∀(pins:Kk) (s:Jk) (σ:St) (H:Hp) (xs:ge V) (us:ge Jj) (Q:VK),Inv X pins σ H s->Vals xs us->r xs H Q ->
  wpAny JE X.A (call f us) LD X.xe s
def TruR(X:Cx)(r:V->Hp->(Bool->Hp->Prop)->Prop):Prop:=
 ∀(pins:Kk) (s:Jk) (σ:St) (H:Hp) (x:V) (v:Jj) (Q:Bool->Hp->Prop),Inv X pins σ H s->RelV x v->r x H Q ->
  wpAny JE X.A (truthy v) (TP X pins σ Q) X.xe s
noncomputable def tOp(r:R2)(ta tb:TE):TE:=λ σ H Q=>ta σ H λ x H1=>tb σ H1 λ y H2=>r x y H2 Q
noncomputable def tUn(r:V->Hp->VK->Prop)(ta:TE):TE:=λ σ H Q=>ta σ H λ x H1=>r x H1 Q
noncomputable def rI(C:Int->Int->Prop)(g:Int->Int->V):R2:=λ x y H Q=>∃i j,x=.int i/\y=.int j/\C i j/\Q (g i j) H
noncomputable def rI0(g:Int->Int->V):R2:=λ x y H Q=>∃i j,x=.int i/\y=.int j/\Q (g i j) H
noncomputable def rU(g:Int->V):V->Hp->VK->Prop:=λ x H Q=>∃i,x=.int i/\Q (g i) H
theorem binT(r:PE X a l)(q:PE X b k){R:V->V->Hp->Prop}(I:JI c)
  (h:l σ H λ x j=>k σ j λ y d=>R x y d)  {f:Jj->Jj->Sem Jj}
  (p:∀v u i x y d,Inv X c σ d i->RelV x v->RelV y u->R x y d->wpAny JE X.A (f v u) Q X.xe i) :
  wpAny JE X.A (Ln a) (λ v g=>wpAny JE X.A (Ln b) (λ u e=>wpAny JE X.A (f v u) Q X.xe e) X.xe g) X.xe s:=by
 refine thn (r c s σ H _ I h) λ v s1 t0=>?_;obtain⟨x,j,z,r1,o⟩:=t0;refine thn (q c s1 σ j _ z o) λ u i t0=>?_;obtain⟨y,d,w,m,n⟩:=t0;exact p v u i x y d w r1 m n
theorem xC(l:OpR X (binaryOp f) r)(n:PE X a e)(m:PE X b d):PE X (.BinOp a f b pos) (tOp r e d):=by
 intro c s g H Q I h;exact wpAny_BinOp (binT n m I h λ v u i x y p o k j q=>l c i g p x y v u Q o k j q)
theorem oQ(g:UnR X (unaryOp e) r)(i:PE X a d):PE X (.UnaryOp e a pos) (tUn r d):=by
 intro b s c H Q I h;exact UnaryOp_ (thn (i b s c H _ I h) λ v s1 ⟨x,k,j,r1,f⟩=>g b s1 c k x v Q j r1 f)
theorem opI{g:Int->Int->Int}
  (a:∀(i j:Int) (t u:Tok) (s:Jk) (Q:Jj->Jk->Prop) (E:Jj->Jk->Prop),C i j->Q (.int (g i j) s.toks) {s with toks:=s.toks+1} -> wpAny JE X.A (f (.int i t) (.int j u)) Q E s) :
  OpR X f (rI C λ i j=>.int (g i j)):=by
 intro b s σ H x y v u Q I e d h;obtain⟨i,j,rfl,rfl,k,q⟩:=h;obtain⟨t,rfl⟩:=e;obtain⟨c,rfl⟩:=d;exact a i j t c s _ _ k ⟨.int _,H,I.tok _,KD,q⟩
theorem opI0{g:Int->Int->Int}
  (a:∀(i j:Int) (t u:Tok) (s:Jk) (Q:Jj->Jk->Prop) (E:Jj->Jk->Prop),Q (.int (g i j) s.toks) {s with toks:=s.toks+1} -> wpAny JE X.A (f (.int i t) (.int j u)) Q E s) :
  OpR X f (rI0 λ i j=>.int (g i j)):=by
 intro b s σ H x y v u Q I e d h;obtain⟨i,j,rfl,rfl,q⟩:=h;obtain⟨t,rfl⟩:=e;obtain⟨c,rfl⟩:=d;exact a i j t c s _ _ ⟨.int _,H,I.tok _,KD,q⟩
theorem opB0{g:Int->Int->Bool}
  (a:∀(i j:Int) (t u:Tok) (s:Jk) (Q:Jj->Jk->Prop) (E:Jj->Jk->Prop),Q (.bool (g i j)) s->wpAny JE X.A (f (.int i t) (.int j u)) Q E s) :
  OpR X f (rI0 λ i j=>.bl (g i j)):=by
 intro b s σ H x y v u Q I e d h;obtain⟨i,j,rfl,rfl,q⟩:=h;obtain⟨t,rfl⟩:=e;obtain⟨c,rfl⟩:=d;exact a i j t c s _ _ ⟨.bl _,H,I,rfl,q⟩
def CPow(i j:Int):Prop:=0<=j/\j<=1000000/\i.natAbs<2^64
def CMul(i j:Int):Prop:=(-(2^64)<i/\i<2^64)\/(-(2^64)<j/\j<2^64)
theorem CMul.ok(h:CMul i j):IntMulOk i j:=by
 rcases h with⟨b,a⟩ | ⟨b,a⟩
 ·exact .of_left (intBits_le_64 b a)
 ·exact .of_right (intBits_le_64 b a)
theorem xD(k:Nat):(0:Int)<=2^k:=by
 rw[two_pow_cast];exact E8 _
theorem xF:OpR X (binaryOp .Add) (rI0 λ i j=>.int (i+j)):=opI0 λ _ _ _ _ _ _ _ q=>add_int q
theorem xG:OpR X (binaryOp .Sub) (rI0 λ i j=>.int (i - j)):=opI0 λ _ _ _ _ _ _ _ q=>sub_int q
theorem xH:OpR X (binaryOp .Mod) (rI (λ _ j=>0<j) λ i j=>.int (i%j)):=opI λ i j _ _ _ _ _ a q=>by
 have h1:=a;exact mod_int' JA (by rw[Int.fmod_eq_emod_of_nonneg i JA];exact q)
theorem xI:OpR X (binaryOp .Mod) (rI (λ _ j=>j≠0) λ i j=>.int (i.fmod j)):=opI λ _ _ _ _ _ _ _ a q=>mod_int' a q
theorem xJ:OpR X (binaryOp .LShift) (rI CPow λ i j=>.int (i*2^j.toNat)):=opI λ _ _ _ _ _ _ _ a q=>lshift_int_small a.1 a.2.1 a.2.2 q
theorem xK:OpR X (binaryOp .RShift) (rI (λ _ j=>0<=j) λ i j=>.int (i/2^j.toNat)):=opI λ i j _ _ _ _ _ a q=>
 rshift_int a (by rw[nL i (xD _)];exact q)
theorem xL:OpR X (binaryOp .BitAnd) (rI0 λ i j=>.int (Builtin.bitAnd i j)):=opI0 λ _ _ _ _ _ _ _ q=>and_int q
theorem unI{g:Int->Int}
  (a:∀(i:Int) (t:Tok) (s:Jk) (Q:Jj->Jk->Prop) (E:Jj->Jk->Prop),Q (.int (g i) s.toks) {s with toks:=s.toks+1} -> wpAny JE X.A (f (.int i t)) Q E s) :
  UnR X f (rU λ i=>.int (g i)):=by
 intro b s σ H x v Q I c h;obtain⟨i,rfl,q⟩:=h;obtain⟨t,rfl⟩:=c;exact a i t s _ _ ⟨.int (g i),H,I.tok _,KD,q⟩
theorem oR:UnR X (unaryOp .USub) (rU λ i=>.int (-i)):=unI λ _ _ _ _ _ q=>neg_int q
section
variable {X:Cx} {a b c:Jn} {ta tb tc:TE} {pos:Pos}
theorem xM{a:ge (Jl×Obj)}{b:Bool}(I:JI a)(q:Q (.bl k) H)(e:k=b):EP X a σ Q (.bool b) s:=by
 subst e;exact⟨.bl k,H,I,rfl,q⟩
theorem xN:OpR X (compareOp .Lt) (rI0 λ i j=>.bl (decide (i<j))):=opB0 λ _ _ _ _ _ _ _ q=>lt_int q
theorem xO:OpR X (compareOp .LtE) (rI0 λ i j=>.bl (decide (i<=j))):=opB0 λ _ _ _ _ _ _ _ q=>le_int q
theorem xP:OpR X (compareOp .GtE) (rI0 λ i j=>.bl (decide (j<=i))):=opB0 λ _ _ _ _ _ _ _ q=>ge_int q
theorem xQ:OpR X (compareOp .Is) (λ x y H Q=>y=.non/\Q (.bl (decide (x=.non))) H):=by
 intro b s σ H x y v u Q I a c h;obtain⟨rfl,q⟩:=h;cases c;refine is_none_gen (xM I q ?_);cases x<;>first
  | (cases a;rfl)
  | (obtain⟨t,rfl⟩:=a;rfl)
theorem OpR.or(h:OpR X f r)(h':OpR X f e):OpR X f (λ x y H Q=>r x y H Q\/e x y H Q):=by
 intro a s b H x y v u Q I d c q;rcases q with q | q
 ·exact h a s b H x y v u Q I d c q
 ·exact h' a s b H x y v u Q I d c q
theorem Jg(b:Jn){a:CmpOp}(h:a ≠ .In:=by decide)(c:a ≠ .NotIn:=by decide):behindInMarks a b=false:=by
 have e:(a==CmpOp.In)=false:=by cases a<;>first | rfl | exact absurd rfl h
 have d:(a==CmpOp.NotIn)=false:=by cases a<;>first | rfl | exact absurd rfl c
 cases b<;>simp[behindInMarks,e,d]
theorem xR(j:OpR X (compareOp d) r)(m:PE X a ta)(l:PE X b tb)(k:behindInMarks d b=false):PE X (.Compare a [d] [b] pos) (tOp r ta tb):=by
 intro c s e H Q I h;exact wpAny_Compare1 (binT m l I h λ v u f x y o n i g q=>j c f e o x y v u Q n i g q) k
noncomputable def oS(t:TE):TT:=λ σ H Q=>t σ H λ x H'=>∃k,x=.bl k/\Q k H'
theorem xS(p:OpR X (compareOp g) r)(A:PE X a ta)(w:PE X b tb)(q:behindInMarks g b=false):PT X (.Compare a [g] [b] pos) (oS (tOp r ta tb)):=by
 intro d s f H Q I h;refine wpAny_isTrue_Compare1 (thn (A d s f H _ I h) λ v s1 ⟨x,K,E,r1,o⟩=>thn (w d s1 f K _ E o) λ u i ⟨y,J,C,l,n⟩=>
  thn (p d i f J x y v u _ C r1 l n) λ c s3 ⟨z,F,B,j,k,e,m⟩=>?_) q
 subst e;cases j;exact aT ⟨F,B,m⟩
noncomputable def jH(r r':R2)(ta tb tc:TE):TE:=λ σ H Q=>ta σ H λ x H1=>tb σ H1 λ y H2=>r x y H2 λ z H3=>∃k,z=.bl k /\
 (if k=true then tc σ H3 λ w' H4=>r' y w' H4 Q else Q KI H3)
theorem xT(N:OpR X (compareOp j) r)(l:OpR X (compareOp g) n)(S:PE X a ta)(R:PE X b tb)(P:PE X c tc)
  (O:lastMarks [j,g] [b,c]=false:=by with_unfolding_all rfl):PE X (.Compare a [j,g] [b,c] pos) (jH r n ta tb tc):=by
 intro f s i H Q I h;refine Compare_chain (thn (S f s i H _ I h) λ v s1 ⟨x,H1,Y,r1,M⟩=>chain_link (thn (R f s1 i H1 _ Y M) λ u E ⟨y,H2,W,m,L⟩=>
  thn (N f E i H2 x y v u _ W r1 m L) λ d C ⟨z,q,p,J,k,e,o⟩=>?_)) O
 subst e;cases J;refine aT ?_;cases k with
 | false=>exact ite_ff ⟨.bl false,q,p,rfl,o⟩
 | true=>exact ite_tt (chain_last (thn (P f C i q _ p o) λ A B ⟨w,Z,U,F,K⟩=>l f B i Z y w u A Q U m F K))
theorem xU(R:OpR X (compareOp j) r)(l:OpR X (compareOp g) n)(Y:PE X a ta)(W:PE X b tb)(U:PE X c tc)
  (S:lastMarks [j,g] [b,c]=false:=by with_unfolding_all rfl):PT X (.Compare a [j,g] [b,c] pos) (oS (jH r n ta tb tc)):=by
 intro f s i H Q I h;refine isTrue_chain (thn (Y f s i H _ I h) λ v s1 ⟨x,H1,I1,r1,O⟩=>test_link (thn (W f s1 i H1 _ I1 O) λ u E ⟨y,H2,I2,m,N⟩=>
  thn (R f E i H2 x y v u _ I2 r1 m N) λ d C ⟨z,q,p,K,k,e,o⟩=>?_)) S
 subst e;cases K;refine aT ?_;cases k with
 | false=>
  obtain⟨k',e',P⟩:=o;cases e';exact ite_ff ⟨q,p,P⟩
 | true=>
  refine ite_tt (test_last (thn (U f C i q _ p o) λ A B ⟨w,H4,I4,J,M⟩=>thn (l f B i H4 y w u A _ I4 m J M) λ d' s5 t0=>?_));obtain⟨z2,H5,I5,F,k2,Z,L⟩:=t0;subst Z;cases F;exact aT ⟨H5,I5,L⟩
def TruV(K:Ju)(x:V)(H:Hp)(k:Bool):Prop:=
 match x with
 | .non=>k=false
 | .bl b=>k=b
 | .int i=>k=(i != 0)
 | .str y=>y.length<=sizeLine/\k=((y.length:Int) != 0)
 | .byt y=>y.size<=sizeLine/\k=((y.size:Int) != 0)
 | .ref p=>(∃xs,SqL K H p xs/\k = !xs.isEmpty)\/(∃xs,SqT K H p xs/\k = !xs.isEmpty)\/∃kvs,H p=some (.dK kvs)/\k = !kvs.isEmpty
 | _=>False
theorem xV{b:Type}{a:ge (b×V)}{vs:ge (b×Jj)}(r:KV a vs):(!vs.isEmpty) = !a.isEmpty:=by
 cases r<;>rfl
theorem oT{a:ge Jj}(r:Vals xs a):(!a.toArray.isEmpty) = !xs.isEmpty:=by
 cases r<;>simp
theorem bj:(sizeLine:Nat)<2^63:=by rw[cE];decide
theorem fK:TruR X (λ x H Q=>∃k,TruV X.K x H k/\Q k H):=by
 intro A s σ H x v Q I j h;obtain⟨k,e,q⟩:=h;have hl:=bj;have hs:=cE;cases x with
 | non=>
  cases j;have c:=e;subst c;exact truthy_none ⟨H,I,q⟩
 | bl b=>
  cases j;have c:=e;subst c;exact aT ⟨H,I,q⟩
 | int i=>
  obtain⟨t,rfl⟩:=j;have c:=e;subst c;exact PySem.P.truthy_int ⟨H,I,q⟩
 | str y=>
  obtain⟨t,rfl⟩:=j;obtain⟨E,c⟩:y.length<=sizeLine/\k=_:=e;subst c;exact PySem.P.truthy_str JA ⟨H,I.tok _,q⟩
 | byt y=>
  obtain⟨t,rfl⟩:=j;obtain⟨E,c⟩:y.size<=sizeLine/\k=_:=e;subst c;exact PySem.W.truthy_bytes JA ⟨H,I.tok _,q⟩
 | ref p=>
  cases j;have c:=e;rcases c with⟨C,n,c⟩ | ⟨C,n,c⟩ | ⟨l,n,c⟩
  ·subst c;obtain⟨z,r,w,B⟩:=I.list n;have g:=r.length;exact wpAny_truthy_list w.isList (by simp only[u8];omega) ⟨H,I.tok _,by rw[oT r];exact q⟩
  ·subst c;obtain⟨z,r,w,B⟩:=I.tuple n;have g:=r.length;exact truthy_tuple w (by simp only[u8];omega) ⟨H,I.tok _,by rw[oT r];exact q⟩
  ·subst c;obtain⟨B,F,u,r,m⟩:l.length<=sizeLine/\_=false/\∃u,KV l u/\s.heap.DictOf _ p u:=I.hok p _ n;have g:=fj r;exact wpAny_truthy_dict F m JA ⟨H,I.tok _,by rw[xV r];exact q⟩
 | _=>exact(e).elim
theorem oU(i:PE X a ta)(g:∀b,isTrue a X.env b=(do let v ←b;standAt a.pos;holding [v] (truthy v))) :
  PT X a (λ d H Q=>ta d H λ x e=>∃k,TruV X.K x e k/\Q k e):=by
 intro c s d H Q I h;exact isTrue_plain (thn (i c s d H _ I h) λ v s1 ⟨x,l,j,r1,f⟩=>fK c s1 d l x v Q j r1 f) (g _)
theorem L7{a:ge Jj}(r:Vals [x] a):∃u,a=[u]/\RelV x u:=by
 cases r with
 | cons r1 b=>cases b;exact⟨_,rfl,r1⟩
theorem fL{b:ge Jj}(r:Vals [x,y] b):∃u a,b=[u,a]/\RelV x u/\RelV y a:=by
 cases r with
 | cons r1 e=>
  cases e with
  | cons d c=>cases c;exact⟨_,_,rfl,r1,d⟩
theorem xW(d:Lb):B2 X (.builtin "max") (λ b H Q=>∃i j,b=[.int i,.int j]/\Q (Ke (if j>i then j else i)) H):=by
 intro c s σ H b us Q I r h;obtain⟨i,j,rfl,q⟩:=h;obtain⟨u,w',rfl,⟨t,rfl⟩,⟨t',rfl⟩⟩:=fL r;refine max_two_ints (I.ok.hd d) λ h' tk k=>⟨_,H,I.kept k,?_,q⟩
 by_cases a:j>i
 ·rw[f8 a,f8 a];exact KD
 ·rw[g7 a,g7 a];exact KD
theorem xX(d:Lb):B2 X (.builtin "min") (λ b H Q=>∃i j,b=[.int i,.int j]/\Q (Ke (if j<i then j else i)) H):=by
 intro c s σ H b us Q I r h;obtain⟨i,j,rfl,q⟩:=h;obtain⟨u,w',rfl,⟨t,rfl⟩,⟨t',rfl⟩⟩:=fL r;refine min_two_ints (I.ok.hd d) λ h' tk k=>⟨_,H,I.kept k,?_,q⟩
 by_cases a:j<i
 ·rw[f8 a,f8 a];exact KD
 ·rw[g7 a,g7 a];exact KD
theorem oV:B2 X (.type "int") (λ a H Q=>(∃i,a=[.int i]/\Q (.int i) H)\/∃k,a=[.bl k]/\Q (Ke (if k then 1 else 0)) H):=by
 intro b s σ H a us Q I r h;rcases h with⟨i,rfl,q⟩ | ⟨k,rfl,q⟩
 ·obtain⟨u,rfl,t,rfl⟩:=L7 r;exact call_int_int ⟨.int i,H,I,KD,q⟩
 ·obtain⟨u,rfl,r1⟩:=L7 r;cases r1;exact call_int_bool ⟨.int _,H,I.tok _,KD,q⟩
end
end L2
namespace L2
open PySem PySem.Spec PyProof.Rows
structure ObjM(h:Heap)(x dx C:Addr)(mA:Str->Option Value):Prop where
 obj:h.get? x=some (PySem.W.instObj C dx)
 ns:h.Ns1 dx mA
 ne:dx≠x
theorem RelO.some_of(r:RelO (some v) o):∃u,o=some u/\RelV v u:=by
 cases o with
 | none=>exact(r).elim
 | some u=>exact⟨u,rfl,r⟩
theorem oW(g:HOk P w H h)(e:H a=some (.ins C c fs)):∃b,ObjM h a c C b/\(∀f,RelO (fs.lookup f) (b f))/\PySem.Within b (fs.map (·.1))/\fs.length<=1000/\H c=some (.own a):=by
 obtain⟨d,z,ne,i,b,n,r,q⟩:=(show t9 P w H h a (.ins C c fs)from g a _ e);exact⟨b,⟨i,n,ne⟩,r,q,z,d⟩
structure Cls(K:Lz)(C:Addr):Prop where
 pg:PySem.W.plainGet K C Str.empty=true
 hd:PySem.W.hasDictIn K C=true
 po:PySem.W.plainOver K C=true
 sa:PySem.W.findIn K (.ref C) "__setattr__" = some (some (.builtin "object.__setattr__"))
structure Con(K:Lz)(C:Addr)(f:Str)(v:V)(u:Value):Prop where
 at_:PySem.W.findIn K (.ref C) f=some (some u)
 rel:RelV v u
 get:PySem.W.specialIn K u "__get__" = some none
 cp:PySem.W.copiedNames.contains f=false
structure Meth(K:Lz)(C:Addr)(m:Str)(f:Addr):Prop where
 at_:PySem.W.findIn K (.ref C) m=some (KP f)
 fn:PySem.W.isFn K (.ref f)=true
 kp:PySem.W.keepIn K (.ref f)=true
section
variable {X:Cx} {pins:ge (Jl×Obj)} {σ:St} {H:Hp} {s:Jk} {A:Jr} {E:Jj->Jk->Prop} {Q:Jj->Jk->Prop} {c:Jj} {b:Bool}
inductive TyOf (K:Lz) (H:Hp):V->Value->Prop where
 | non:TyOf K H .non (.type "NoneType")
 | bl (x:Bool):TyOf K H (.bl x) (.type "bool")
 | int (i:Int):TyOf K H (.int i) (.type "int")
 | str (x:Str):TyOf K H (.str x) (.type "str")
 | flt (x:UInt64):TyOf K H (.flt x) (.type "float")
 | lst {a:Addr} {xs:List V} (e:H a=some (.lst xs)):TyOf K H (.ref a) (.type "list")
 | frz {a:Addr} {o:Obj} {xs:List V} (e:H a=some (.frz o (.lst xs))):TyOf K H (.ref a) (.type "list")
 | tup {a:Addr} {xs:List V} (e:H a=some (.tup xs)):TyOf K H (.ref a) (.type "tuple")
 | dK {a:Addr} {kvs:List (Key×V)} (e:H a=some (.dK kvs)):TyOf K H (.ref a) (.type "dict")
 | dT {a:Addr} {kvs:List (List Key×V)} (e:H a=some (.dT kvs)):TyOf K H (.ref a) (.type "dict")
 | ins {a C dx:Addr} {fs:List (Str×V)} (e:H a=some (.ins C dx fs)) (cl:Cls K C) (ha:PySem.W.findIn K (.ref C) "__class__" = some (some (.builtin "object.__class__")))
   (hn:PySem.W.specialIn K (.builtin "object.__class__") "__get__" = some (some (.builtin "getset_descriptor.__get__"))) (htk:PySem.W.takesIn K (.builtin "object.__class__")=some true)
   (hm:PySem.W.mroIn K C (.type "object")=some true):TyOf K H (.ref a) (.ref C)
end
end L2
namespace L2
open PySem PySem.Spec PyProof.Rows
structure Room(k:Nat)(A:Around):Prop where
 hd:A.handled=none
 dp:A.depth+3*k+5<recursionLimit
 un:A.units+16*k+200<cLine
theorem Room.deeper(r:Room (k+1) A)(env:Env):Room k (A.deeper env):=
 ⟨r.hd,by have:=r.dp;show A.depth+1+3*k+5<_;omega,by have:=r.un;show A.units+3+16*k+200<_;omega⟩
theorem Room.depth(r:Room k A):A.depth<recursionLimit:=by have:=r.dp;omega
theorem Room.units(r:Room k A):A.units+64<cLine:=by have:=r.un;omega
noncomputable def tNil:TA:=λ _ H Q=>Q [] H
noncomputable def jI(ta:TE)(tr:TA):TA:=λ σ H Q=>ta σ H λ x H1=>tr σ H1 λ xs H2=>Q (x::xs) H2
section
variable {X:Cx} {e:Jn} {es:ge Jn} {te:TE} {t:TA} {pos:Pos}
theorem U4:PA X [] tNil:=λ _ _ _ _ H Q I h=>iX ⟨[],H,I,.nil,h⟩
theorem L8(l:PE X e te)(k:PA X es t)(j:starEach (e::es) X.env=(Ly e)::starEach es X.env:=by rfl):PA X (e::es) (jI te t):=by
 intro b a s c H Q I h;rw[j];show wpAny _ _ _ _ _ s;refine iS (thn (l a s c H _ I h) λ u s1 t0=>?_);obtain⟨x,p,n,r1,i⟩:=t0;exact thn (k b a s1 c p _ n i) λ us s2 ⟨d,o,m,f,g⟩=>⟨x::d,o,m,.cons r1 f,g⟩
def tTup(t:TA):TE:=λ σ H Q=>t σ H λ xs H1=>xs.length<=sizeLine/\∀p,H1 p=none->Q (.ref p) (upd H1 p (.tup xs))
def tLst(t:TA):TE:=λ σ H Q=>t σ H λ xs H1=>xs.length<=sizeLine/\∀p,H1 p=none->Q (.ref p) (upd H1 p (Kx xs))
theorem oX(h:PA X es t):PE X (.Tuple es x1 pos) (tTup t):=by
 intro a s d H Q I g;refine wpAny_Tuple_spliced (thn (h pos a s d H _ I g) λ f s1 ⟨xs,i,c,r,z,q⟩=>⟨by rw[←r.length];exact z,?_⟩);refine⟨.ref s1.heap.objs.size,upd i s1.heap.objs.size _,c.laid (λ b u e=>i3 _ e) (i8 _) ?_,rfl,q _ (c.hok.fresh (i8 _))⟩;exact⟨z,f,r,⟨_,q0 _ rfl,⟨rfl,rfl⟩,_,rfl⟩⟩
theorem xY(h:PA X es t):PE X (.List es pos) (tLst t):=by
 intro a s d H Q I g;refine wpAny_List_spliced (thn (h pos a s d H _ I g) λ f s1 ⟨xs,i,c,r,z,q⟩=>⟨by rw[←r.length];exact z,?_⟩);refine⟨.ref s1.heap.objs.size,upd i s1.heap.objs.size _,c.laid (λ b u e=>i3 _ e) (i8 _) ?_,rfl,q _ (c.hok.fresh (i8 _))⟩;exact⟨z,f,0,r,q0 _ rfl⟩
end
abbrev Sp:=ge V->Hp->VK->XK->Prop
abbrev CXT:=ge Env->Hp->Jk->XK->Jj->Jk->Prop
structure Env0(P:Program)(w:World)(K:Lz)(mg:Str->Option Value)(base:Heap)(A:Around)(outer:List Env)(s:Shared)(H:Hp):Prop where
 frames:A.frames=some outer
 mod:Mod K mg base
 bs:∀b o,base.get? b=some o->s.heap.get? b=some o/\H b=none
 bsz:base.objs.size<=s.heap.objs.size
 funs:s.heap.FunFrames base outer
 frf:(∀b∈frs outer,H b=none)/\cJ K H
 hok:HOk P w H s.heap
 bare:AllBare s.gens
def CE(outer:ge Env)(P:Jq)(w:Jp)(H:Hp)(s:Jk)(Q:VK)(u:Jj)(s':Jk):Prop:=
 ∃v H',s'.os=s.os/\AllBare s'.gens/\Un (frs outer) [] H H' s.heap s'.heap/\HOk P w H' s'.heap/\RelV v u/\Q v H'
def CR(CX:CXT)(outer:ge Env)(P:Jq)(w:Jp)(H:Hp)(s:Jk)(Q:VK)(E:XK)(r:Result)(s':Jk):Prop:=
 match r with
 | .ok (.ret u)=>CE outer P w H s Q u s'
 | .ok _=>False
 | .error e=>CX outer H s E e s'
structure FnOk(P:Program)(w:World)(K:Lz)(mg:Str->Option Value)(base:Heap)(CX:CXT)(k:Nat)(f:Addr)(fd:FuncData)(ps:List Str)(sp:Sp):Prop where
 len:∀vs H Q E,sp vs H Q E->vs.length=ps.length
 run:∀(A:Around) (outer:List Env) (s:Shared) (H:Hp) (args:Args) (us:List Value) (vs:List V) (Q:VK) (E:XK),Room k A->Env0 P w K mg base A outer s H->BindsTo s fd args (ps.zip us)->Vals vs us->sp vs H Q E ->
  codeAny Lv A (.call (.ref f) args) (CR CX outer P w H s Q E) s
theorem Inv.env0(I:JI a):Env0 X.prog X.w X.K X.mg X.base X.A X.stack s H:=
 ⟨I.ok.frames,I.ok.mod,I.bs,i7 I.ok.bsz I.sz,I.stack,⟨I.stkFree,I.tabs⟩,I.hok,I.bare⟩
theorem Inv.after(I:JI a)(h:CE X.stack X.prog X.w H s Q u e):EP X a σ Q u e:=by
 obtain⟨v,k,j,c,un,i,r,q⟩:=h;obtain⟨hh,g,d,t,f⟩:=e;obtain rfl:f=s.os:=j;exact⟨v,k,I.call un i c (λ b z=>absurd z JL),r,q⟩
def L9(K:Ju)(fd:Jt)(ps:ge Str)(ds:ge Jj):Prop:=
 ∀(s:Jk) (us:ge Jj),K.In s.heap->(us++ds).length=ps.length->BindsTo s fd ⟨us,[]⟩ (ps.zip (us++ds))
theorem L9.all{K:Ju}(h:∀a:ge Jj,a.length=ps.length->bindArgs fd ⟨a,[]⟩=pure (ps.zip a)):L9 K fd ps []:=λ s a _ b=>by
 rw[E4]at b ⊢;exact .of_eq (h a b)
def jJ(CX:CXT)(X:Cx)(E:XK):Prop:=∀(pins:Kk) (σ:St) (H:Hp) (s:Jk) (e:Jj) (s':Jk),Inv X pins σ H s->CX X.stack H s E e s'->X.xe e s'
section
variable {X:Cx} {CX:CXT} {k:Nat} {f C:Jl} {fd:Jt} {ps:ge Str} {sp:Sp} {dvs:ge V} {ds:ge Jj} {E:XK} {x m:Str} {p pos apos:Pos} {e o:Jn} {es:ge Jn} {ta:TE} {t:TA}
structure Mk(K:Lz)(C f:Addr):Prop where
 makes:PySem.W.makesIn K C=true
 init:PySem.W.findIn K (.ref C) "__init__" = some (KP f)
 fn:PySem.W.isFn K (.ref f)=true
 kp:PySem.W.keepIn K (.ref C)=true
end
def PK(X:Cx)(kws:ge Keyword)(t:TA):Prop:=
 ∀(pos:Pos) (pins:Kk) (s:Jk) (σ:St) (H:Hp) (Q:ge V->Hp->Prop),Inv X pins σ H s->t σ H Q->wpAny JE X.A (evalAll ((backToKw pos (keywordEach kws X.env)).map (·.2))) (AP X pins σ Q) X.xe s
section
variable {X:Cx} {CX:CXT} {k:Nat} {f C:Jl} {fd:Jt} {ps ks:ge Str} {sp:Sp} {E:XK} {x m:Str} {p pos apos kpos:Pos} {e o:Jn} {es:ge Jn} {kws:ge Keyword} {te ta:TE} {t tk:TA} {nm:Ji Str}
theorem xZ:PK X [] tNil:=λ _ _ _ _ H Q I h=>wpAny_evalAll_nil ⟨[],H,I,.nil,h⟩
theorem ya(k:PE X e te)(j:PK X kws t):PK X (⟨nm,e,kpos⟩::kws) (jI te t):=by
 intro b a s c H Q I h;show wpAny _ _ _ _ _ s;refine wpAny_evalAll_cons (f0 (thn (k a s c H _ I h) λ u s1 ⟨x,o,m,r1,i⟩=>f0 (cA (f9 ?_))));exact thn (j b a s1 c o _ m i) λ us s2 ⟨d,n,l,f,g⟩=>⟨x::d,n,l,.cons r1 f,g⟩
structure KBinds(K:Lz)(fd:FuncData)(ps ks:List Str)(g:List Value->List Value->List Value)(gV:List V->List V->List V):Prop where
 to:∀(s:Shared) (us ws:List Value),K.In s.heap->(g us ws).length=ps.length->BindsTo s fd ⟨us,ks.zip ws⟩ (ps.zip (g us ws))
 rel:∀{vs:List V} {us:List Value} {zs:List V} {ws:List Value},Vals vs us->Vals zs ws->Vals (gV vs zs) (g us ws)
end
structure FnScope(N P:List Str)(sc:Scope):Prop where
 kind:sc.kind=.function
 co:sc.isCoroutine=false
 gen:sc.isGenerator=false
 nd:N.Nodup
 pre:N.take P.length=P
 par:∀x∈P,sc.names.lookup x=some .local\/sc.names.lookup x=some .cell
 nofree:∀y∈sc.names,y.2 ≠ .free
theorem oY:∀{a:ge (Str×Jj)} {m:Str->Ji Jj},(∀v,(x,v)∉a)->bindL b a m x=m x
 | [],_,_=>rfl
 | (n,v)::r,m,h=>by
  unfold bindL;rw[oY λ w c=>h w (n6 _ c)];split
  ·have:x≠n:=by rintro rfl;exact h v n9
   simp[this]
  ·rfl
theorem oZ:∀{a:ge (Str×Jj)} {m:Str->Ji Jj},(∀v,(x,v)∉a)->bindC b a m x=m x
 | [],_,_=>rfl
 | (n,v)::r,m,h=>by
  unfold bindC;rw[oZ λ w c=>h w (n6 _ c)];split
  ·rfl
  ·have:x≠n:=by rintro rfl;exact h v n9
   simp[this]
theorem pd:∀{P:ge Str} {b:ge Jj} {i:Nat} {m:Str->Ji Jj},P.Nodup->P[i]? = some x->b[i]? = some v->a x=some .local ->
  bindL a (P.zip b) m x=some v
 | [],_,_,_,_,h,_,_=>by simp at h
 | _::_,[],_,_,_,_,h,_=>by simp at h
 | p::P,w::b,0,m,e,d,c,f=>by simp at d c;subst d;subst c;show bindL a ((p,w)::P.zip b) m p=_;unfold bindL;rw[oY λ v hv=>(N1.mp e).1 (cg hv).1,f8 f];simp
 | p::P,w::b,i+1,m,e,d,c,f=>by show bindL a _ m x=_;unfold bindL;exact pd (N1.mp e).2 (Kg d) (Kg c) f
theorem pf:∀{P:ge Str} {b:ge Jj} {i:Nat} {m:Str->Ji Jj},P.Nodup->P[i]? = some x->b[i]? = some v->a x≠some .local ->
  bindC a (P.zip b) m x=some v
 | [],_,_,_,_,h,_,_=>by simp at h
 | _::_,[],_,_,_,_,h,_=>by simp at h
 | p::P,w::b,0,m,e,d,c,f=>by simp at d c;subst d;subst c;show bindC a ((p,w)::P.zip b) m p=_;unfold bindC;rw[oZ λ v hv=>(N1.mp e).1 (cg hv).1,g7 f];simp
 | p::P,w::b,i+1,m,e,d,c,f=>by show bindC a _ m x=_;unfold bindC;exact pf (N1.mp e).2 (Kg d) (Kg c) f
noncomputable def start(N:ge Str)(vs:ge V):St:=vs.map some++List.replicate (N.length - vs.length) none
noncomputable def cxOf(CX:CXT)(P:Jq)(w:Jp)(K:Ju)(mg:Str->Ji Jj)(base:Jm)(N:ge Str)(qual:Str)(scope:Jv)(f:Jl)(cd:Jj)(A:Jr)(outer:ge Env)(s:Jk)(H:Hp)(E:XK):Cx where
 prog:=P
 w:=w
 K:=K
 mg:=mg
 base:=base
 A:=A.deeper (envOfC qual scope s.heap.objs.size f cd)
 N:=N
 s₀:=s
 H₀:=H
 env:=envOfC qual scope s.heap.objs.size f cd
 outer:=outer
 stack:=envOfC qual scope s.heap.objs.size f cd::outer
 ex:=[]
 calm:=true
 fn:=λ _=>true
 pn:=[]
 xe:=λ e s'=>wpAny Lv (A.deeper (envOfC qual scope s.heap.objs.size f cd)) (leaving (envOfC qual scope s.heap.objs.size f cd) e) (λ _ s''=>CX outer H s E e s'') (λ e' s''=>CX outer H s E e' s'') s'
theorem ph{sc:Jv}(h:sc.names.lookup x=some .cell):∃c,(cellsFrom n sc.names []).lookup x=some c:=by
 exact Z2.mp (eA sc.names n [] (.inl h))
theorem yb{K:Ju}
  (S:FnScope N ps scope) (hd:KR) (j:Env0 P w K mg base A outer s H) (hl:vs.length=ps.length) (r:Vals vs F)
  (x:InCallC s s.heap.objs.size (bindL (envOfC d scope s.heap.objs.size f cd).kindOf (ps.zip F) λ _=>none) (cellsFrom (s.heap.objs.size+1) scope.names []) (bindC (envOfC d scope s.heap.objs.size f cd).kindOf (ps.zip F) λ _=>none) s1) :
  Inv (cxOf L P w K mg base N d scope f cd A outer s H E) [] (start N vs) H s1:=by
 have M:ps.length<=N.length:=by have:=congrArg List.length S.pre;rw[E9]at this;omega
 obtain⟨C,tk,rfl,J⟩:=x.done;have l:∀b:Jl,b∉(cxOf L P w K mg base N d scope f cd A outer s H E).ex:=λ b z=>absurd (show b∈([]:ge Jl)from z) JL
 refine⟨⟨j.mod,S.kind,rfl,rfl,i8 _,λ y z c C g=>?_,λ y m=>?_,λ y c _ h=>?_,λ _=>hd,iP j.frames,.inr ⟨rfl,rfl⟩,λ b z=>absurd z (l b),j.bs,j.bsz,λ b _ _=>l b,λ b z=>absurd z (l b),j.funs,j.frf⟩,
  rfl,j.bare,Un.kept J,⟨_,x.toInCall.ns,λ i y v C g h3=>?_⟩,λ y c h=>⟨_,x.cell y c h⟩,j.hok.fresh (i8 _),λ y c h=>?_,λ p o=>absurd (show p∈([]:ge _)from o) JL,j.hok.kept J,?_⟩
 ·exact name_of_addr x.apart (B4 C) (B4 g)
 ·have m:=m;rcases m with m | m
  ·exact ph m
  ·exact absurd rfl (S.nofree _ (B4 m))
 ·exact U0 (x.above y c (B4 h))
 ·have B:i<vs.length:=by
   unfold start at g;by_cases B:i<vs.length
   ·exact B
   ·rw[Q4 (Kg B)]at g;rw[bQ]at g;split at g<;>cases g
  have O:vs[i]? = some v:=by
   unfold start at g;rw[O3 (Kg B),p5]at g;cases e:vs[i]? with
   | none=>rw[e]at g;cases g
   | some a=>rw[e]at g;cases g;rfl
  obtain⟨u,I,rv⟩:=r.get O;have o:ps[i]? = some y:=(by rw[←S.pre,aN JA];exact C);have n:ps.Nodup:=by rw[←S.pre];exact S.nd.sublist (eT _ _)
  refine⟨u,rv,?_⟩;rcases S.par y (J9 o)with k | k
  ·exact .inl ⟨k,pd n o I k⟩
  ·obtain⟨c,e⟩:=ph k;refine .inr ⟨.inl k,c,e,?_⟩;have q:=x.cell y c e;rw[pf n o I (by show scope.names.lookup y≠_;rw[k];decide)]at q;exact q
 ·exact j.hok.fresh (U0 (x.above y c (B4 h)))
 ·unfold start;show _=N.length;rw[t5,g6,eD];omega
theorem yc{K:Ju}{kV W:Jj}
       (lk:K.lookup f=some ⟨oc,od,.func (PySem.W.fnOf h a c body scope dV kV F pm Y d W),M⟩) (R:PySem.W.codeIn K d a=true) (S:FnScope N ps scope)
    (p:∀vs H Q E,I vs H Q E->vs.length=ps.length)
    (l:∀(A:Jr) (outer:ge Env) (s:Jk) (H:Hp) (vs:ge V) (Q:VK) (E:XK),Room k (A.deeper (envOfC a scope s.heap.objs.size f d))->I vs H Q E ->
      ∃t,PSs (cxOf U P w K mg base N a scope f d A outer s H E) body t/\t {nx:=λ _ i=>Q .non i,rt:=Q} (start N vs) H) :
    FnOk P w K mg base U (k+1) f (PySem.W.fnOf h a c body scope dV kV F pm Y d W) ps I:=by
  refine⟨p,λ A outer s H X us vs Q E O C hb r z=>?_⟩;have hl:=p _ _ _ _ z;have Z:=C.mod.kin.keeps λ b o e=>(C.bs b o e).1;have j:∀y∈ps.zip us,scope.names.lookup y.1=some .local\/(scope.names.lookup y.1=some .cell/\((cellsFrom (s.heap.objs.size+1) scope.names []).lookup y.1).isSome=true):=λ ⟨n,v⟩ hy=>by
    rcases S.par n (cg hy).1 with q | q
    · exact .inl q
    · exact .inr ⟨q,eA _ _ _ (.inl q)⟩
  refine oA O.depth (Z _ _ lk) rfl S.co S.gen rfl (PySem.W.codeRec_of Z R) (hb _ _ _ _ ?_)
  refine wpAny_newFunctionEnv_cells S.kind j λ env he s1 x=>?_;subst he;refine⟨(C.mod.nolimit.keeps λ b o e=>(C.bs b o e).1).keeps x.toInCall.keep,codeAny_func ?_⟩;obtain⟨t,ht,hq⟩:=l A outer s H vs Q E (O.deeper _) z;refine u0 (ht [] s1 _ H _ (yb S O.hd C hl r x) hq) (λ fl L m=>?_) λ e L m=>m;have B:∀{g:St} {i:Hp} {v:V} {u:Jj},Inv (cxOf U P w K mg base N a scope f d A outer s H E) [] g i L->RelV v u->Q v i->CE outer P w H s Q u L:=
    λ {g i v u} J rv q=>⟨v,i,J.os,J.bare,J.base,J.hok,rv,q⟩
  cases fl with
  | ret u=>
    obtain⟨v,g,i,J,rv,q⟩:=m;exact B J rv q
  | next=>
    obtain⟨g,i,J,q⟩:=m;exact B (v:=V.non) J rfl q
  | brk=>
    obtain⟨_,_,_,q⟩:=m;exact False.elim q
  | cont=>
    obtain⟨_,_,_,q⟩:=m;exact False.elim q
end L2
namespace L2
open PySem PySem.Spec PyProof.Rows
section
variable {X:Cx} {x:Str} {p pos:Pos} {e:Jn} {es:ge Jn} {t:TA} {id T:Jz} {r:ge V->Hp->VK->Prop}
noncomputable def tCB(r:ge V->Hp->VK->Prop)(t:TA):TE:=λ σ H Q=>t σ H λ vs H1=>r vs H1 Q
theorem fM(n:B2 X (.builtin id) r)(l:Gl X x)(k:X.mg x=none)(hv:bootBuiltins x=some (.builtin id))(o:PA X (e::es) t)(j:x ≠ "__name__":=by decide)(c:Kn=false:=by decide)
  (m:starEach (e::es) X.env=(Ly e)::starEach es X.env:=by rfl) (b:(KO pos es).any (·.1)=false:=by rfl):PE X (Kj x) (tCB r t):=by
 intro a s d H Q I h;refine Z6 (ah I l k hv ?_ j c);exact PyProof.Rows.callWith_builtin1 (thn (o pos a s d H _ I h) λ g s1 ⟨f,u,q,r1,i⟩=>n a s1 d u f g Q q r1 i) m b
theorem pi(n:B2 X (.type T) r)(l:Gl X x)(k:X.mg x=none)(hv:bootBuiltins x=some (.type T))(o:PA X (e::es) t)(j:x ≠ "__name__":=by decide)(c:Kn=false:=by decide)
  (m:starEach (e::es) X.env=(Ly e)::starEach es X.env:=by rfl) (b:(KO pos es).any (·.1)=false:=by rfl):PE X (Kj x) (tCB r t):=by
 intro a s d H Q I h;refine Z6 (ah I l k hv ?_ j c);exact dX (thn (o pos a s d H _ I h) λ g s1 ⟨f,u,q,r1,i⟩=>n a s1 d u f g Q q r1 i) m b
end
end L2
namespace HT
open PySem PyProof.Rows
theorem cat_tup(u:IsTup s.heap t vs.toArray)(v:IsTup s.heap b ws.toArray)(hv:vs≠[])
  (y:ws=[]->Q (.ref t) s) (x:ws≠[]->Q (JR s.heap.objs.size) {s with heap:=s.heap.push {cls:=.type "tuple",data:=.seq (vs++ws).toArray}})
  (j:vs.length+ws.length<=sizeLine):wpAny JG A (binaryOp .Add (.ref t) (.ref b)) Q E s:=by
 obtain⟨⟨z,p,q,l⟩,i,o,n,hd⟩:=id u;obtain⟨⟨r,g,k,c⟩,a,f,m,d⟩:=id v;simp only at o hd f d;subst o hd f d;have e:vs.toArray++ws.toArray=(vs++ws).toArray:=by simp
 by_cases h:ws=[]
 ·exact concat_meets ⟨_,i,rfl⟩ ⟨_,a,rfl⟩ noFill_tuple_add seq_tuple_add og nU (nQ _ _)
   (tuple_addW1 t b vs.toArray ws.toArray n m p g l c (Kg hv) (by simp[h])) ⟨i,a,y h⟩
 ·refine concat_meets ⟨_,i,rfl⟩ ⟨_,a,rfl⟩ noFill_tuple_add seq_tuple_add og nU (nQ _ _)
   (tuple_addW2 t b vs.toArray ws.toArray n m p g l c (Kg hv) (Kg h) (by rw[u8,u8];exact j)) ⟨i,a,?_⟩
  rw[e];exact x h
noncomputable def sIx(n d:Nat):Ji Int->Nat
 | none=>d
 | some v=>if v<0 then(v+(n:Int)).toNat else min v.toNat n
theorem yd(n d:Nat)(hd:d<=n)(o:Ji Int):sIx n d o<=n:=by
 cases o with
 | none=>exact hd
 | some v=>
  show(if v<0 then(v+_).toNat else min v.toNat n)<=n;by_cases hv:v<0
  ·rw[f8 hv];omega
  ·rw[g7 hv];exact Nat.min_le_right _ _
theorem pj(v:Int)(n d:Nat):(if v<0 then max (v+(n:Int)) 0 else min v (n:Int))=((sIx n d (some v):Nat):Int):=by
 show(if v<0 then max _ 0 else min v _)=(((if v<0 then(v+_).toNat else min v.toNat n):Nat):Int);by_cases hv:v<0
 ·simp only[f8 hv];omega
 ·simp only[g7 hv];omega
theorem ye(a b:Ji Int)(n:Nat):Builtin.Slice.sliceAdjust a b 1 (n:Int)=(((sIx n 0 a:Nat):Int),((sIx n n b:Nat):Int)):=by
 have c:¬((1:Int)<0):=by omega
 unfold Builtin.Slice.sliceAdjust;simp only[c,if_false];refine Prod.ext ?_ ?_
 ·cases a with
  | none=>rfl
  | some v=>exact pj v n 0
 ·cases b with
  | none=>rfl
  | some v=>exact pj v n n
theorem yf(i j:Nat):Builtin.Slice.slicePlaces (i:Int) (j:Int) 1=j - i:=by
 unfold Builtin.Slice.slicePlaces;have a:(1:Int)>0:=by omega
 simp only[a,if_true,Int.ediv_one];split<;>omega
theorem pp(p:IsPart v o)(h:Q o s):wpAny JG A (Builtin.Slice.slicePartIndex v) Q E s:=by
 cases p with
 | none=>exact ff h
 | int i t=>exact slicePart_int h
theorem yg{n:Nat}(k:s.heap.IsSliceOf g f e .none)(j:IsPart f a)(i:IsPart e d)
  (h:Q (((sIx n 0 a:Nat):Int),1,sIx n n d - sIx n 0 a) s):wpAny JG A (Builtin.Slice.sliceApplied (.ref g) (pure (n:Int))) Q E s:=by
 obtain⟨os,b,l,c⟩:=id k;unfold Builtin.Slice.sliceApplied Builtin.Slice.sliceFields;refine f0 (f0 (D9 b c rfl (f0 (D9 b c rfl (f0 (D9 b c rfl (f9 ?_)))))));refine f0 (ff ?_);show wpAny _ _ _ _ _ s;rw[g7 JB];refine f0 (pp j (f0 (pp i (f0 (f9 ?_)))));show wpAny _ _ (match Builtin.Slice.sliceAdjust a d 1 (n:Int)with | (a,d)=>pure (a,_,Builtin.Slice.slicePlaces a d 1)) _ _ s;rw[ye a d n];show wpAny _ _ (pure _) _ _ s;rw[yf];exact f9 h
theorem yh(xs:Jo Jj)(i k:Nat):((JY k).filterMap λ (m:Nat)=>xs[((i:Int)+(m:Int)*1).toNat]?).toArray=((xs.toList.drop i).take k).toArray:=by
 have e:(λ (m:Nat)=>xs[((i:Int)+(m:Int)*1).toNat]?)=λ m=>xs[i+m]?:=by
  funext m
  have:((i:Int)+(m:Int)*1).toNat=i+m:=by omega
  rw[this]
 rw[e];have:=pick_run xs i k;rw[List.filterMap_map]at this;have a:(_ ∘ λ x=>i+x)=λ m=>xs[i+m]?:=rfl
 rw[a]at this;rw[this]
theorem getItem_tuple_cut(d:IsTup s.heap t items)(l:s.heap.IsSliceOf k j i .none)(n:IsPart j a)(m:IsPart i b)
  (hw:¬(sIx items.size 0 a=0/\sIx items.size items.size b=items.size))
  (h:Q (JR s.heap.objs.size) {s with heap:=s.heap.push {cls:=.type "tuple",data:=.seq ((items.toList.drop (sIx items.size 0 a)).take (sIx items.size items.size b - sIx items.size 0 a)).toArray}})
  (p:items.size<=sizeLine):wpAny JG A (getItem (.ref t) (.ref k)) Q E s:=by
 have c:=(by show((items.toList.drop (sIx items.size 0 a)).take (sIx items.size items.size b - sIx items.size 0 a)).toArray.size<=sizeLine;rw[u8,E9,aa,A3];omega);have hj:sIx items.size items.size b<=items.size:=yd _ _ (i8 _) b;obtain⟨o,e,g,r⟩:=id l;unfold getItem
 try with_reducible refine B6 ?_
 first | refine f0 (f9 ?_) | skip
 refine f0 (wpAny_sequenceKey d.typeIs JB ?_);refine f0 (O4 d.typeIs dW
  (G4 dW d.typeIs entry_tuple_getitem ?_ (args_tuple_getitem _ _)))
 show wpAny _ _ (Builtin.Tuple.tupleItemsOf _ >>= _) _ _ s;refine f0 (tupleItemsOf_ d ?_);refine f0 (cC (⟨o,e,g⟩) ?_);rw[f8 JB];refine f0 (yg l n m ?_);have f:¬((((sIx items.size 0 a:Nat):Int)==0&&(1:Int)==1&&(sIx items.size items.size b - sIx items.size 0 a)==items.size)=true):=by intro q;rw[f7,f7]at q;have q1:=bg q.1.1;have q2:=bg q.2;exact hw ⟨by omega,by omega⟩
 show wpAny _ _ (if(((sIx items.size 0 a:Nat):Int)==0&&(1:Int)==1&&(sIx items.size items.size b - sIx items.size 0 a)==items.size)=true then _ else _) _ _ s;rw[g7 f,yh]
 first
  | exact f0 (C3 (f9 ⟨_,rfl,f9 h⟩) c)
  | exact f0 _
  | exact f0 _
  | exact f0 _
end HT
namespace L2
open PySem PySem.Spec PyProof.Rows
abbrev TO:=St->Hp->(Ji Int->Hp->Prop)->Prop
def PO(X:Cx)(e:Ji Jn)(t:TO):Prop:=
 ∀(pins:Kk) (s:Jk) (σ:St) (H:Hp) (Q:Ji Int->Hp->Prop),Inv X pins σ H s->t σ H Q ->
  wpAny JE X.A (evalPart e X.env) (λ u s'=>∃o H',Inv X pins σ H' s'/\IsPart u o/\Q o H') X.xe s
noncomputable def yi:TO:=λ _ H Q=>Q none H
noncomputable def yj(t:TE):TO:=λ σ H Q=>t σ H λ x H1=>∃i,x=.int i/\Q (some i) H1
section
variable {X:Cx} {e:Jn} {te:TE} {lo hi:Ji Jn} {tl th:TO} {pos p2:Pos}
theorem bn:PO X none yi:=by
 intro a s σ H Q I h;rw[jt];exact f9 ⟨none,H,I,.none,h⟩
theorem pq(h:PE X e te):PO X (some e) (yj te):=by
 intro a s b H Q I d;rw[evalPart_some];refine thn (h a s b H _ I d) λ u s1 t0=>?_;obtain⟨x,g,f,r1,c⟩:=t0
 obtain⟨i,rfl,q⟩:=c;obtain⟨t,rfl⟩:=r1;exact⟨some i,g,f,.int i t,q⟩
def SlR(X:Cx)(r:V->Ji Int->Ji Int->Hp->VK->Prop):Prop:=
 ∀(pins:Kk) (s:Jk) (σ:St) (H:Hp) (x:V) (v vl vu:Jj) (lo hi:Ji Int) (sl:Jl) (Q:VK),Inv X pins σ H s->RelV x v->s.heap.IsSliceOf sl vl vu .none->IsPart vl lo->IsPart vu hi->r x lo hi H Q ->
  ∃T id,typeLookup (.type T) "__getitem__" = pure (some (.builtin id))/\s.TypeIs v T/\wpAny JE X.A (getItem v (JR sl)) LD X.xe s
theorem SlR.or(h:SlR X r)(h':SlR X j):SlR X (λ x b c H Q=>r x b c H Q\/j x b c H Q):=by
 intro a s d H x v f e b c g Q I i m l k q;rcases q with q | q
 ·exact h a s d H x v f e b c g Q I i m l k q
 ·exact h' a s d H x v f e b c g Q I i m l k q
noncomputable def tSl(r:V->Ji Int->Ji Int->Hp->VK->Prop)(te:TE)(tl th:TO):TE:=λ σ H Q=>te σ H λ x H1=>tl σ H1 λ l H2=>th σ H2 λ u H3=>r x l u H3 Q
theorem R4(y:SlR X r)(B:PE X e te)(z:PO X lo tl)(p:PO X hi th):PE X (.Subscript e (.Slice lo hi none p2) pos) (tSl r te tl th):=by
 intro a s d H Q I h;refine Subscript_ (thn (B a s d H _ I h) λ v s1 t0=>?_);obtain⟨x,M,J,r1,m⟩:=t0;refine wpAny_Slice (thn (z a s1 d M _ J m) λ g i ⟨l,L,F,o,k⟩=>thn (p a i d L _ F k) λ f c t0=>?_);obtain⟨u,K,E,n,j⟩:=t0;rw[jt];refine f9 ?_;obtain⟨T,id,C,w,A⟩:=y a {c with heap:=c.heap.push {cls:=.type "slice",data:=.fields #[g,f,.none]}} d K x v g f l u c.heap.objs.size Q (E.kept λ b ob q=>i3 _ q) r1 (Heap.IsSliceOf.new ..) o n j;show wpAny _ X.A _ _ X.xe {c with heap:=c.heap.push {cls:=.type "slice",data:=.fields #[g,f,.none]}};exact tail_any w C A (by with_unfolding_all rfl)
def cutV(xs:ge V)(lo hi:Ji Int):ge V:=(xs.drop (HT.sIx xs.length 0 lo)).take (HT.sIx xs.length xs.length hi - HT.sIx xs.length 0 lo)
theorem pu(xs:ge V)(a b:Ji Int):(cutV xs a b).length<=xs.length:=by
 unfold cutV;rw[E9,aa];omega
def rSlT(K:Ju):V->Ji Int->Ji Int->Hp->VK->Prop:=λ x lo hi H Q=>∃a xs,x=.ref a/\SqT K H a xs /\
 ¬(HT.sIx xs.length 0 lo=0/\HT.sIx xs.length xs.length hi=xs.length)/\∀p,H p=none->Q (.ref p) (upd H p (.tup (cutV xs lo hi)))
theorem yk:SlR X (rSlT X.K):=by
 intro f s σ H x v vl vu m u sl Q I j p l k h;obtain⟨a,e,rfl,n,o,q⟩:=h;cases j;obtain⟨d,r,i,g⟩:=I.tuple n;have c:d.toArray.size=e.length:=by rw[u8];exact r.length.symm
 refine⟨"tuple",_,PyProof.Rows.slot_tuple_getitem.lookup,i.typeIs,?_⟩;refine HT.getItem_tuple_cut i p l k (by rw[c];exact o) ?_ (by rw[c];exact g);rw[c];refine⟨.ref s.heap.objs.size,_,I.laid (λ b ob q=>i3 _ q) (i8 _) ?_,rfl,q _ (I.hok.fresh (i8 _))⟩;exact⟨i7 (pu e m u) g,_,(r.drop _).take _,P2.new _ _⟩
def pv(K:Ju):R2:=λ x y H Q=>∃a b xs ys,x=.ref a/\y=.ref b/\SqT K H a xs/\SqT K H b ys/\xs≠[]/\xs.length+ys.length<=sizeLine /\
 (ys=[]->Q (.ref a) H)/\(ys≠[]->∀p,H p=none->Q (.ref p) (upd H p (.tup (xs++ys))))
theorem Vals.nil_iff(r:Vals xs a):a=[]↔xs=[]:=by
 cases r with
 | nil=>simp
 | cons _ _=>simp
theorem yl:OpR X (binaryOp .Add) (pv X.K):=by
 intro d s σ H x y v u Q I i g h;obtain⟨a,b,xs,ys,rfl,rfl,o,n,m,f,k,j⟩:=h;cases i;cases g;obtain⟨l,r1,p1,_⟩:=I.tuple o;obtain⟨e,c,p2,_⟩:=I.tuple n;refine HT.cat_tup p1 p2 (λ z=>m (r1.nil_iff.mp z)) (λ z=>⟨.ref a,H,I,rfl,k (c.nil_iff.mp z)⟩) (λ z=>?_) (by rw[←r1.length,←c.length];exact f);refine⟨.ref s.heap.objs.size,_,I.laid (λ b ob q=>i3 _ q) (i8 _) ?_,rfl,j (λ w=>z (c.nil_iff.mpr w)) _ (I.hok.fresh (i8 _))⟩;exact⟨by rw[t5];exact f,_,r1.append c,P2.new _ _⟩
end
end L2
namespace L2
open PySem PySem.Spec PyProof.Rows
noncomputable def ixN(n:Nat)(i:Int):Ji Nat:=if 0<=i then(if i<n then some i.toNat else none)else if -(n:Int)<=i then some (i+n).toNat else none
def atI{α:Type}(xs:ge α)(i:Int):Ji α:=(ixN xs.length i).bind λ j=>xs[j]?
theorem pw(h:ixN n i=some j):seqIndex? i n=some j/\j<n /\ -(n:Int)<=i/\i<n:=by
 unfold ixN at h;by_cases b:0<=i
 ·rw[f8 b]at h;by_cases a:i<n
  ·rw[f8 a]at h;have e:=B0 h;exact⟨by rw[seqIndex_of b a,e],by omega,by omega,a⟩
  ·rw[g7 a]at h;cases h
 ·rw[g7 b]at h;by_cases a : -(n:Int)<=i
  ·rw[f8 a]at h;have e:=B0 h;exact⟨by rw[jv JA a,e],by omega,a,by omega⟩
  ·rw[g7 a]at h;cases h
theorem jK(h:atI xs i=some v):∃j,seqIndex? i xs.length=some j/\xs[j]? = some v/\j<xs.length /\ -(xs.length:Int)<=i/\i<xs.length:=by
 unfold atI at h;cases e:ixN xs.length i with
 | none=>rw[e]at h;cases h
 | some j=>
  rw[e]at h;obtain⟨f,d,c,b⟩:=pw e;exact⟨j,f,h,d,c,b⟩
def ym(b:Jn):Prop:=∀o i,subscripted b false o i=operate [o,i] (getItem o i)
def IxR(X:Cx)(r:R2):Prop:=
 ∀(value slice:Jn) (pins:Kk) (s:Jk) (σ:St) (H:Hp) (x y:V) (v u:Jj) (Q:VK),Inv X pins σ H s->RelV x v->RelV y u->r x y H Q ->
  subscripted slice false v u=operate [v,u] (getItem v u)->wpAny JE X.A (subscriptTail value slice v u) LD X.xe s
def MtR(X:Cx)(id:Jz)(r:V->ge V->Hp->VK->Prop):Prop:=
 ∀(pins:Kk) (s:Jk) (σ:St) (H:Hp) (x:V) (xs:ge V) (v:Jj) (us:ge Jj) (Q:VK),Inv X pins σ H s->RelV x v->Vals xs us->r x xs H Q ->
  wpAny JE X.A (call (.builtin id) (v::us)) LD X.xe s
section
variable {X:Cx} {a b:Jn} {ta tb:TE} {pos:Pos}
theorem IxR.or(h:IxR X r)(h':IxR X g):IxR X (λ x y H Q=>r x y H Q\/g x y H Q):=by
 intro a b c s d H x y v u Q I f e q i;rcases q with q | q
 ·exact h a b c s d H x y v u Q I f e q i
 ·exact h' a b c s d H x y v u Q I f e q i
theorem yn(j:IxR X r)(l:PE X a ta)(k:PE X b tb)(i:ym b):PE X (.Subscript a b pos) (tOp r ta tb):=by
 intro c s d H Q I h;exact Subscript_ (binT l k I h λ v u e x y n m g f q=>j a b c e d n x y v u Q m g f q (i _ _))
def rIxL(K:Ju):R2:=λ x y H Q=>∃p xs i v,x=.ref p/\y=.int i/\SqL K H p xs/\atI xs i=some v/\Q v H
def rIxT(K:Ju):R2:=λ x y H Q=>∃p xs i v,x=.ref p/\y=.int i/\SqT K H p xs/\atI xs i=some v/\Q v H
def rIxS:R2:=λ x y H Q=>∃z i c,x=.str z/\y=.int i/\z.length<=sizeLine/\atI z.cps.toList i=some c/\Q (.str ⟨#[c]⟩) H
theorem yp:IxR X (rIxL X.K):=by
 intro d e a s A H x y v u Q I C B h m;obtain⟨p,xs,i,z,rfl,rfl,E,J,q⟩:=h;cases C;obtain⟨t,rfl⟩:=B;obtain⟨k,r,g,hz⟩:=I.list E;obtain⟨j,c,M,h3,L,K⟩:=jK J;obtain⟨w,o,f⟩:=r.get M;have F:=r.length;have hn:=bj;have b:EP X a A Q w s:=⟨z,H,I,f,q⟩;by_cases n:0<=i
 ·have l:i.toNat=j:=by
   rw[seqIndex_of n K]at c;exact B0 c
  exact item_listR g.isList n JA (by rw[l];simpa using o) b m
 ·have l:(i+(k.toArray.size:Int)).toNat=j:=by
   rw[jv JA L]at c;rw[u8,←F];exact B0 c
  exact oh g.isList.typeIs slot_list_getitem.lookup
   (wpAny_getItem_list_neg g.isList JA (by rw[u8]<;>omega) JA (by rw[l];simpa using o) ⟨rfl,b⟩) m
theorem yq:IxR X (rIxT X.K):=by
 intro a b e s σ H x y v u Q I g f h l;obtain⟨p,xs,i,z,rfl,rfl,m,n,q⟩:=h;cases g;obtain⟨t,rfl⟩:=f;obtain⟨k,r,d,hz⟩:=I.tuple m;obtain⟨j,A,o,h3,h4,h5⟩:=jK n;obtain⟨w,B,c⟩:=r.get o;have hn:=bj;exact oh d.typeIs slot_tuple_getitem.lookup
  (getItem_tuple d JA JA (by rw[u8,←r.length];exact A) (Kg B) ⟨rfl,(⟨z,H,I,c,q⟩)⟩) l
theorem yt:IxR X rIxS:=by
 intro a b d s σ H x y v u Q I g f h k;obtain⟨z,i,c,rfl,rfl,hz,m,q⟩:=h;obtain⟨t,rfl⟩:=g;obtain⟨t',rfl⟩:=f;obtain⟨j,e,p,h3,o,n⟩:=jK m;have l:z.cps.toList.length=z.length:=by simp[Str.length]
 rw[l]at e o n;have hn:=bj;exact tail_any (typeIs_str s z t) slot_str_getitem.lookup (getItem_str (by
  rw[(E3 JA),(E3 JA),Bool.or_false]) (by rw[e];simpa using p) ⟨.str ⟨#[c]⟩,H,I.tok _,KD,q⟩) k
def rIx(K:Ju):R2:=λ x y H Q=>rIxL K x y H Q\/rIxT K x y H Q\/rIxS x y H Q
theorem yu:IxR X (rIx X.K):=yp.or (yq.or yt)
theorem yv(a:ge Jj)(n j:Nat)(u:Jj):Obj.mapSeq (·.setIfInBounds j u) {cls:=.type "list",data:=.seq a.toArray n} = {cls:=.type "list",data:=.seq (a.set j u).toArray n}:=by
 simp[Obj.mapSeq]
theorem Inv.lst{b:ge (Jl×Obj)}(I:JI b)(h:H p=some (Kx xs)) :
  ∃(a:ge Jj) (n:Nat),Vals xs a/\s.heap.get? p=some {cls:=.type "list",data:=.seq a.toArray n} /\ xs.length<=sizeLine:=by
 obtain⟨z,a,n,r,e⟩:=I.hok p _ h;exact⟨a,n,r,e,z⟩
theorem Inv.lstUpd{d a:ge Jj}(I:JI c)(h:H p=some (Kx xs))
  (l:s.heap.get? p=some {cls:=.type "list",data:=.seq d.toArray n}) (j:f {cls:=.type "list",data:=.seq d.toArray n} = {cls:=.type "list",data:=.seq a.toArray i}) (r:Vals g a) (k:g.length<=sizeLine) (t:Nat) :
  Inv X c σ (upd H p (.lst g)) {s with heap:=s.heap.update p f,toks:=t}:=by
 have e:(s.heap.update p f).get? p=some {cls:=.type "list",data:=.seq a.toArray i}:=(by rw[V4 f l (by rw[j]<;>rfl),j]);refine I.write (by rw[h];trivial) LI (λ b u m q=>(bS _ _ (Ld m)).trans q) ⟨_,e⟩ ?_;exact⟨k,a,i,r,e⟩
def yw:V->V->V->Hp->(Hp->Prop)->Prop:=λ o i v H Q=>∃p xs k j,o=.ref p/\i=.int k/\H p=some (Kx xs)/\ixN xs.length k=some j/\Q (upd H p (Kx (xs.set j v)))
theorem yx:PSet X yw:=by
 intro f s σ H o i v ov iv u Q I y z rv h;obtain⟨p,xs,k,j,rfl,rfl,g,B,q⟩:=h;cases y;obtain⟨t,rfl⟩:=z;obtain⟨a,n,r,c,A⟩:=I.lst g;obtain⟨b,h2,m,l⟩:=pw B;have d:=r.length;have hn:=bj;have x:=
  I.lstUpd g c (yv a n j u) (r.set rv j) (by rw[B1];exact A) s.toks
 by_cases w:0<=k
 ·have e:k.toNat=j:=by
   rw[seqIndex_of w l]at b;exact B0 b
  exact PySem.W.ki_setAt c w JA (by rw[u8,←d];exact l) (by rw[e];exact⟨_,x,q⟩)
 ·have e:(k+(a.toArray.size:Int)).toNat=j:=by
   rw[jv JA m]at b;rw[u8,←d];exact B0 b
  exact PySem.W.ki_setBack c JA (by rw[u8,←d];exact m) JA (by rw[e];exact⟨_,x,q⟩)
theorem yy(a b:Ji Int)(n:Nat):(sliceBounds a b none n).1=((HT.sIx n 0 a:Nat):Int)/\(sliceBounds a b none n).2.1=((HT.sIx n n b:Nat):Int)/\(sliceBounds a b none n).2.2=1:=by
 refine⟨?_,?_,rfl⟩
 ·cases a with
  | none=>simp[sliceBounds,HT.sIx]
  | some i=>
   simp only[sliceBounds,HT.sIx,Option.getD_none,show(1:Int)>0 by decide,if_true];by_cases h:i<0
   ·simp only[h,if_true]<;>omega
   ·simp only[h,if_false]<;>omega
 ·cases b with
  | none=>simp[sliceBounds,HT.sIx]
  | some i=>
   simp only[sliceBounds,HT.sIx,Option.getD_none,show(1:Int)>0 by decide,if_true];by_cases h:i<0
   ·simp only[h,if_true]<;>omega
   ·simp only[h,if_false]<;>omega
theorem yz(a:ge Jj)(b c:Ji Int):slicePick a.toArray b c none=((a.drop (HT.sIx a.length 0 b)).take (HT.sIx a.length a.length c - HT.sIx a.length 0 b)).toArray:=by
 obtain⟨f,e,d⟩:=yy b c a.toArray.size;unfold slicePick;rw[f,e,d];simp only[sliceRange_one,pick_run,u8]<;>rfl
def rSlL(K:Ju):V->Ji Int->Ji Int->Hp->VK->Prop:=λ x lo hi H Q=>∃a xs,x=.ref a/\SqL K H a xs/\∀p,H p=none->Q (.ref p) (upd H p (Kx (cutV xs lo hi)))
theorem yA:SlR X (rSlL X.K):=by
 intro d s σ H x v vl vu k p sl Q I g o j i h;obtain⟨a,f,rfl,n,q⟩:=h;cases g;obtain⟨l,r,e,m⟩:=I.list n;have c:=r.length;refine⟨"list",_,slot_list_getitem.lookup,e.isList.typeIs,?_⟩;refine wpAny_getItem_list_slice e.isList o j i .none JL ?_ (by rw[u8]<;>omega);rw[yz,←c];refine⟨.ref s.heap.objs.size,_,I.laid (λ b ob q=>i3 _ q) (i8 _) ?_,rfl,q _ (I.hok.fresh (i8 _))⟩;exact⟨i7 (pu f k p) m,_,0,(r.drop _).take _,q0 _ rfl⟩
theorem jL:B2 X (.builtin "len") (λ g H Q=>∃p b,g=[.ref p]/\(SqL X.K H p b\/SqT X.K H p b)/\Q (Ke b.length) H):=by
 intro i s σ H g us Q I r h;obtain⟨p,b,rfl,c,q⟩:=h;obtain⟨u,rfl,j⟩:=L7 r;cases j;have hn:=bj;rcases c with c | c
 ·obtain⟨f,d,e,k⟩:=I.list c;have a:=d.length;exact Calls.call_len_list e.isList (by simp only[u8]<;>omega) ⟨.int b.length,H,I.tok _,⟨s.toks+1,by rw[u8,a]⟩,q⟩
 ·obtain⟨f,d,e,k⟩:=I.tuple c;have a:=d.length;exact len_tuple e (by simp only[u8]<;>omega) ⟨.int b.length,H,I.tok _,⟨s.toks+1,by rw[u8,a]⟩,q⟩
theorem pz:B2 X (.type "tuple") (λ i H Q=>∃p a,i=[.ref p]/\((SqL X.K H p a/\∀l,H l=none->Q (.ref l) (upd H l (.tup a)))\/(SqT X.K H p a/\Q (.ref p) H))):=by
 intro j s σ H i us Q I r h;obtain⟨p,a,rfl,h⟩:=h;obtain⟨u,rfl,v⟩:=L7 r;cases v;rcases h with⟨g,q⟩ | ⟨g,q⟩
 ·obtain⟨c,d,f,k⟩:=I.list g;have m:=d.length;refine call_tuple_list f.isList (λ x w=>?_) (by simp only[u8]<;>omega);have n:=I.kept (t':=s.toks) w;have y:=
   n.laid (t':=s.toks) (λ b o e=>i3 _ e) (i8 _) (show t9 X.prog X.w _ _ _ (.tup a)from⟨k,c,d,P2.new _ _⟩)
  exact⟨.ref x.objs.size,_,y,rfl,q _ (n.hok.fresh (i8 _))⟩
 ·obtain⟨c,d,f,k⟩:=I.tuple g;exact call_tuple_same f ⟨.ref p,H,I,rfl,q⟩
def tyV(K:Ju)(T:Jz)(x:V)(H:Hp):Prop:=match x with
 | .str _=>T = "str"
 | .int _=>T = "int"
 | .ref p=>(T = "list" /\ ∃xs,SqL K H p xs)\/(T = "tuple" /\ ∃o,K.lookup p=some o/\o.cls=.type "tuple" /\ o.dict=none) \/
   (T = "dict" /\ ((∃kvs,H p=some (.dK kvs))\/∃kvs,H p=some (.dT kvs)))\/(T = "set" /\ ∃S n,H p=some (.set S n))
 | _=>False
theorem pA(I:JI d)(r:RelV x v)(ty:tyV X.K T x H) :
  s.TypeIs v T/\∀a,v=.ref a->∃j,s.heap.get? a=some j/\j.dict=none:=by
 cases x with
 | str z=>
  obtain⟨t,rfl⟩:=r;cases(ty);exact⟨typeIs_str s z t,λ _ e=>nomatch e⟩
 | int i=>
  obtain⟨t,rfl⟩:=r;cases(ty);exact⟨typeIs_int s i t,λ _ e=>nomatch e⟩
 | ref p=>
  cases r;rcases ty with⟨rfl,xs,l⟩ | ⟨rfl,o,b,hc,hd⟩ | ⟨rfl,b⟩ | ⟨rfl,S,n,b⟩
  ·obtain⟨k,_,h,_⟩:=I.list l;refine⟨h.isList.typeIs,λ a e=>?_⟩;cases e;obtain⟨o,n,e,c,hd,_⟩:=h;exact⟨o,e,hd⟩
  ·refine⟨⟨o,I.kIn p o b,hc⟩,λ a e=>?_⟩;cases e;exact⟨o,I.kIn _ o b,hd⟩
  ·have z:∃o,s.heap.get? p=some o/\o.ExactDict:=by
    rcases b with⟨f,b⟩ | ⟨f,b⟩
    ·obtain⟨_,_,_,_,o,_,_,e,ex,_⟩:=I.hok p _ b;exact⟨o,e,ex⟩
    ·obtain⟨_,_,_,_,o,_,_,e,ex,_⟩:=I.hok p _ b;exact⟨o,e,ex⟩
   obtain⟨o,e,ex⟩:=z;refine⟨⟨o,e,ex.1⟩,λ a g=>?_⟩;cases g;exact⟨o,e,ex.2.1⟩
  ·obtain⟨o,_,_,_,e,ex,_⟩:=I.hok p _ b;refine⟨⟨o,e,ex.1⟩,λ a g=>?_⟩;cases g;exact⟨o,e,ex.2.1⟩
 | _=>exact False.elim ty
noncomputable def tBM0(K:Ju)(T:Jz)(r:V->ge V->Hp->VK->Prop)(to:TE):TE:=λ σ H Q=>to σ H λ x H1=>tyV K T x H1/\r x [] H1 Q
noncomputable def tBM(K:Ju)(T:Jz)(r:V->ge V->Hp->VK->Prop)(to:TE)(t:TA):TE:=λ σ H Q=>to σ H λ x H1=>tyV K T x H1/\t σ H1 λ xs H2=>r x xs H2 Q
theorem yB{a:Str}(l:PlainAttrs T)(slot:Slot T a e)(f:typeOf (.builtin e)=pure (.type "method_descriptor"))(n:MtR X e r)(m:PE X o i)
  (d:attributeBase o a X.env (Ln o)=eval o X.env:=by rfl) (c:(apos.endLine==cpos.line)=true:=by rfl):PE X (.Call (.Attribute o a apos) [] [] cpos) (tBM0 X.K T r i):=by
 intro b s g H Q I h;refine nV d c (thn (m b s g H _ I h) λ v s1 t0=>?_);obtain⟨x,u,j,r1,ty,k⟩:=t0;obtain⟨q,p⟩:=pA j r1 ty;exact⟨T,e,l,slot,f,q,p,bT rfl (PySem.evalArgs_none (n b s1 g u x [] v [] Q j r1 .nil k))⟩
theorem pB(C:PlainAttrs T)(slot:Slot T c k)(m:typeOf (.builtin k)=pure (.type "method_descriptor"))(J:MtR X k r)(F:PE X o n)(K:PA X (e::es) t)
  (g:attributeBase o c X.env (Ln o)=eval o X.env:=by rfl)
  (j:((KO cpos (e::es)).all (λ x=>!x.1)&&(backToKw cpos (keywordEach [] X.env)).all (λ x=>x.1.isSome)
   && decide ((e::es).length+([]:ge Keyword).length+(if([]:ge Keyword).isEmpty then 0 else 1)<30))=true:=by rfl)
  (f:(apos.endLine==cpos.line)=true:=by rfl) (E:starEach (e::es) X.env=(Ly e)::starEach es X.env:=by rfl) (d:(KO cpos es).any (·.1)=false:=by rfl) :
  PE X (.Call (.Attribute o c apos) (e::es) [] cpos) (tBM X.K T r n t):=by
 intro b s l H Q I h;refine oj g j f rfl (thn (F b s l H _ I h) λ v s1 t0=>?_);obtain⟨x,P,q,r1,ty,B⟩:=t0;obtain⟨M,L⟩:=pA q r1 ty;refine⟨T,k,C,slot,m,M,L,?_⟩;have p:=K cpos b s1 l P _ q B;rw[E]at p ⊢;refine bT (by show(false||(backTo cpos _).any (·.1))=false;rw[d]<;>rfl) (eJ ?_);exact thn p λ w y ⟨u,O,N,z,A⟩=>J b y l O x u v w Q N r1 z A
end
end L2
namespace L2
open PySem PySem.Spec PyProof.Rows
def MtM(X:Cx)(id:Jz)(r:V->ge V->Hp->VK->Prop):Prop:=
 ∀(pins:Kk) (s:Jk) (σ:St) (H:Hp) (x:V) (xs:ge V) (v:Jj) (us:ge Jj) (Q:VK),Inv X pins σ H s->RelV x v->Vals xs us->r x xs H Q ->
  wpAny JE X.A (call (.builtin id) (v::us)) LD X.xe s
theorem Vals.unc(h:Vals (x::xs) b):∃u a,b=u::a/\RelV x u/\Vals xs a:=by
 cases h with
 | cons r t=>exact⟨_,_,rfl,r,t⟩
theorem Vals.nl(h:Vals [] a):a=[]:=by cases h;rfl
theorem Vals.one{x:V}{us:ge Jj}(h:Vals [x] us):∃u,us=[u]/\RelV x u:=by
 obtain⟨u,ws,rfl,r,t⟩:=h.unc;cases t.nl;exact⟨_,rfl,r⟩
theorem Vals.two{x y:V}{us:ge Jj}(h:Vals [x,y] us):∃u v,us=[u,v]/\RelV x u/\RelV y v:=by
 obtain⟨u,ws,rfl,r,t⟩:=h.unc;obtain⟨v,rfl,q⟩:=t.one;exact⟨_,_,rfl,r,q⟩
theorem Vals.rep(h:Vals xs a):∀k:Nat,Vals (List.replicate k xs).flatten (List.replicate k a).flatten
 | 0=>.nil
 | k+1=>by rw[V6,V6,Z9,Z9];exact Vals.append h (Vals.rep h k)
theorem pC(a:ge Jj):∀(k:Nat) (b:ge Jj),
  List.foldl (λ d c=>d++c) b.toArray (List.replicate k a.toArray)=(b++(List.replicate k a).flatten).toArray
 | 0,b=>by simp
 | k+1,b=>by
  have e:b.toArray++a.toArray=(b++a).toArray:=by simp
  have f:_++(List.replicate k a).flatten=b++(List.replicate (k+1) a).flatten:=(by rw[V6,Z9,T7]);rw[←f,←pC a k _,←e,V6,eY]
theorem Inv.lset{c:ge Jj}(I:JI b)(k:H l=some (Kx xs))
  (e:s.heap.get? l=some {cls:=.type "list",data:=.seq c.toArray n}) (i:f c.toArray=a.toArray) (hv:Vals d a) (g:d.length<=sizeLine) :
  Inv X b σ (upd H l (.lst d)) {s with heap:=s.heap.update l (Obj.mapSeq f),toks:=t'}:=by
 have q:=PySem.IsL.update e f;rw[i]at q;refine I.write (by rw[k];exact trivial) LI (λ b' u j h=>(bS s.heap _ (Ld j)).trans h) ⟨_,q⟩ ?_;exact⟨g,a,_,hv,q⟩
theorem Inv.lnew(I:JI a)(hv:Vals c b)(d:c.length<=sizeLine) :
  Inv X a σ (upd H s.heap.objs.size (.lst c)) {s with heap:=s.heap.push {cls:=.type "list",data:=.seq b.toArray},toks:=t'}:=
 I.laid (λ _ _ q=>i3 _ q) (i8 _) ⟨d,b,0,hv,q0 _ rfl⟩
theorem Inv.fresh(I:JI a):H s.heap.objs.size=none:=I.hok.fresh (i8 _)
theorem Inv.lstM(I:JI b)(c:H l=some (Kx xs)):xs.length<=sizeLine/\∃(a:ge Jj) (n:Nat),Vals xs a/\xs.length=a.length/\s.heap.get? l=some {cls:=.type "list",data:=.seq a.toArray n}:=by
 obtain⟨z,a,n,r,e⟩:=I.hok l _ c;exact⟨z,a,n,r,r.length,e⟩
theorem pD(h:n<=sizeLine):Builtin.List.listTooLong n=false:=by
 unfold Builtin.List.listTooLong;exact E3 JA
def yC:V->ge V->Hp->VK->Prop:=λ x vs H Q=>∃l xs y,x=.ref l/\vs=[y]/\H l=some (Kx xs)/\xs.length<sizeLine/\Q .non (upd H l (Kx (xs++[y])))
theorem yD:MtM X "list.append" yC:=by
 intro b s σ H x vs v us Q I d rv h;obtain⟨l,xs,y,rfl,rfl,c,hz,q⟩:=h;cases d;obtain⟨u,rfl,f⟩:=rv.one;obtain⟨z,a,n,r,hl,e⟩:=I.lstM c;refine call_meets F.slot_list_append ⟨_,e,rfl⟩ F.entry_list_append (F.args_list_append_2 _ _) (PySem.list_append l a.toArray n u (by rw[u8];omega)) ⟨e,?_⟩;refine⟨.non,_,I.lset c e JL (r.append (.cons f .nil)) ?_,rfl,q⟩;rw[t5,T6];omega
def rCat:R2:=λ x y H Q=>∃l b xs zs,x=.ref l/\y=.ref b/\H l=some (Kx xs)/\H b=some (Kx zs)/\xs.length+zs.length<=sizeLine/\∀p,H p=none->Q (.ref p) (upd H p (Kx (xs++zs)))
theorem yE:OpR X (binaryOp .Add) rCat:=by
 intro d s σ H x y v u Q I g f h;obtain⟨l,b,xs,zs,rfl,rfl,k,m,hz,q⟩:=h;cases g;cases f;obtain⟨z,c,n,r,hl,e⟩:=I.lstM k;obtain⟨z2,a,n2,i,j,p⟩:=I.lstM m;refine PySem.P.add_list e p ?_ (by rw[u8,u8];omega);have o:c.toArray++a.toArray=(c++a).toArray:=by simp
 rw[o];exact⟨.ref _,_,I.lnew (r.append i) (by rw[t5];omega),rfl,q _ I.fresh⟩
def rRep:R2:=λ x y H Q=>∃l k xs,x=.ref l/\y=.int k/\H l=some (Kx xs) /\ -(2^63)<=k/\k<2^63/\xs.length*k.toNat<=sizeLine /\
 ∀p,H p=none->Q (.ref p) (upd H p (.lst (List.replicate k.toNat xs).flatten))
theorem yF(xs:ge a)(k:Nat):(List.replicate k xs).flatten.length=k*xs.length:=by
 induction k with
 | zero=>simp
 | succ k b=>rw[V6,Z9,t5,b,Nat.succ_mul,Nat.add_comm]
theorem yG:OpR X (binaryOp .Mult) rRep:=by
 intro g s σ H x y v u Q I A w h;obtain⟨l,k,xs,rfl,rfl,C,J,E,i,q⟩:=h;cases A;obtain⟨t,rfl⟩:=w;obtain⟨z,b,n,r,B,e⟩:=I.lstM C;have d:b.toArray.size*k.toNat<=sizeLine:=by rw[u8,←B];exact i
 have f:¬b.toArray.size*k.toNat>(2^63 - 1)/8:=by
  have:(sizeLine:Nat)<=(2^63 - 1)/8:=by decide
  omega
 have c:List.foldl (λ o j=>o++j) #[] (List.replicate (if b.toArray.isEmpty=true then 0 else k.toNat) b.toArray)=(List.replicate k.toNat b).flatten.toArray:=by
  have K:=λ m=>by have:=pC b m [];rw[jk]at this;exact this
  rw[K];cases b with
  | nil=>simp
  | cons a r'=>rw[g7 JL]
 refine wpAny_binaryOp_repeat_ref JB ⟨_,e,rfl⟩ (λ p=>typeIs_int p k t) noFill_list_mul F.fills_int_mul F.slot_int_rmul repeat_list F.slot_int_index.lookup
  (call_meets F.slot_int_rmul (typeIs_int s k t) F.entry_int_rmul (F.args_int_rmul_2 _ _) (int___rmul___int_list k t l b.toArray n)
   ⟨e,rfl,⟨_,e,rfl⟩,call_meets F.slot_list_mul ⟨_,e,rfl⟩ F.entry_list_mul (F.args_list_mul_2 _ _) (AutoListH.list___mul___list_int_3 l b.toArray n k t ((by rw[fitsIndex_both J E];exact B5)) f ((by rw[pD d];exact B5))) ⟨e,?_⟩⟩)
 rw[c];exact⟨.ref _,_,I.lnew (r.rep k.toNat) (by rw[yF,Nat.mul_comm];exact i),rfl,q _ I.fresh⟩
end L2
namespace Att
open PySem PySem.W PySem.Calls PyProof.Rows
theorem yH:∀(c:ge Int) (vs:ge Jj),WellAll P h vs (c.map WData.int)->IntsAre vs c:=by
 intro c
 induction c with
 | nil=>
  intro vs w;rw[jw]at w;cases w;exact .nil
 | cons n c d=>
  intro vs w;rw[A4]at w;cases w with
  | cons a b=>
   cases a;exact .cons _ _ (d _ b)
theorem yI{l:OpenLaw}(w:l.most=some n)
  (f:l.row.toRowW.claim.pre b=true) (m:WellAll P h c b) :
  ∃a vs e,c=[Value.ref a]/\b=[WData.list (e.map WData.int)]/\h.get? a=some {cls:=.type "list",data:=.seq vs.toArray} /\ IntsAre vs e/\e.length<=n:=by
 have o:l.pre.holds [] {args:=b} = true:=(pre_splitW f).2;obtain⟨d,r,rfl,z,y⟩:=hasAllW_cons ((pre_splitW f).1);obtain rfl:=hasAllW_nil y;obtain⟨xs,rfl,x⟩:=hasW_list z;obtain⟨e,rfl⟩:=items_int x;have g:e.length<=n:=by
  unfold OpenLaw.pre at o;have k:(WTm.not (.lt (.lit (Ke (n:Int))) (.len (.arg 0)))).holds [] {args:=[.list (e.map .int)]} = true:=by have k:=(holds_andW o).1;rw[w]at k;exact k
  have j:=condW_of k (w_not (w_lt w_lit (w_len_list (w_arg rfl))));rw[g6]at j;refine je λ q=>?_
  first
   | (rw[C5 (by omega)]at j;exact absurd j JB)
   | (simp at j;omega)
 cases m with
 | cons u p=>
  cases p;cases u with
  | list v i=>exact⟨_,_,e,rfl,rfl,v,yH e _ i,g⟩
theorem yJ(l:OpenLaw)(a:ge WData):l.row.toRowW.claim.post a (.bool true) a=true:=
 postW_of
  (by first | rfl | decide | simp[WShape.has,WShape.arms,WShape.armsAll])
  (show(WTm.eq .res _).value [] {args:=a,res:=some _,after:=a} = some (.bool _)from w_eq_bool (w_res rfl) w_lit) rfl
theorem attach_call{l:OpenLaw}
  (J:l.most=some n) (y:d.params.defaults=[])
  (call:∀(w:Jp) (c b:Jk) (mg u:Str->Ji Jj) (k:Jl) (o:Obj) (pm cd g:Jj) (a:Jl) (vs:ge Jj) (p:ge Int),
   Ground q loose [] XP w c mg u b.heap->YP w b.heap ->
   b.heap.get? k=some o->o.data=.func (docDef d.name d.params d.body d.scope pm cd g)->b.heap.CodeRec cd d.name->mg d.name=some (.ref k) ->
   b.heap.get? a=some {cls:=.type "list",data:=.seq vs.toArray} -> IntsAre vs p->p.length<=n->b.gens = #[] ->
   codeAny (model l.prog w) callerA (.call (.ref k) ⟨[.ref a],[]⟩) (λ r m=>r=.ok (.ret (.bool true))/\OldK b.heap m.heap/\m.os=b.os/\AllBare m.gens) b) :
  WalkO q loose XP YP l.row.toRowW d [] (λ f vs=>PySem.call f vs):=by
 intro w c b mg u G Y k o pm cd g Q kV I hd z C x M E A as h B F v L;obtain rfl:Q=.none:=Dflts.none C y;obtain rfl:kV=.none:=Dflts.noKw C;obtain⟨a,vs,p,rfl,rfl,i,e,j⟩:=yI J h v;refine enter_call (N4 (call w c b mg u k o pm cd g a vs p G Y I (fd_plain hd) z x i e j M) λ r m H=>?_);obtain⟨rfl,P,O,N⟩:=H;exact⟨.inl ⟨.bool true,.bool true,[],rfl,λ _=>rfl,.bool true,yJ l _,λ _=>⟨List.Pairwise.nil,λ _ K=>(nomatch K)⟩⟩,P,O,N⟩
noncomputable def Jh(h:Jm)(L d:Jl):ge (Jl×Obj):=(JY h.objs.size).filterMap λ a=>if a=L\/a=d then none else(h.get? a).map λ o=>(a,o)
end Att
namespace L2
open PySem PySem.Spec PyProof.Rows
theorem pE:∀{vs:ge Jj} {ns:ge Int},IntsAre vs ns->Vals (ns.map V.int) vs
 | _,_,.nil=>.nil
 | _,_,.cons n t h=>.cons ⟨t,rfl⟩ (pE h)
def Only(H:Hp):Prop:=∀b,H b=none\/(∃o xs,H b=some (.frz o (Kx xs)))\/∃q,H b=some (.tbl q)
theorem cM{a:Type}:∀{l:ge (Jl×a)} {c:a},l.lookup x=some c->(x,c)∈l
 | (y,v)::l,c,h=>by
  rw[F0]at h;split at h
  ·rename_i e;cases h;rw[g9.mp e];exact n9
  ·exact n6 _ (cM h)
theorem pF{a:Type}:∀{l:ge (Jl×a)} {c:a},l.lookup x=none->(x,c)∉l
 | (y,v)::l,c,h,m=>by
  rw[F0]at h;split at h
  ·cases h
  ·rename_i e;rcases h8.mp m with z | z
   ·cases z;simp at e
   ·exact pF h z
theorem yK{l:ge (e×d)}(f:(l.map (·.1)).Nodup)(g:(p.1,q)∈l)(i:p∈l):q=p.2:=by
 induction l with
 | nil=>cases g
 | cons y l h=>
  rw[A4]at f;have a:=N1.mp f;rcases h8.mp g with c | c<;>rcases h8.mp i with b | b
  ·rw[b,←c]
  ·exact absurd (i4.mpr ⟨p,b,by rw[←c]⟩) a.1
  ·exact absurd (i4.mpr ⟨_,c,by rw[b]⟩) a.1
  ·exact h a.2 c b
theorem yL{K:Ju}
  (KX:K.In c.heap) (R:c.heap.Ns mainGlobals mg) (j:c.heap.Ns builtinsNs mb) (a5:∀x:Str,x ≠ "__name__" -> mb x=bootBuiltins x) (U:c.heap.NoLimit) (hg:c.gens = #[])
  (N:c.heap.get? a=some {cls:=.type "list",data:=.seq vs.toArray}) (hi:IntsAre vs O) (hl:O.length<=sizeLine) (hr:Room k callerA)
  (F:∀base:Jm,K.In base->base.Ns mainGlobals mg->FnOk P w K mg base CX k fa fd [x] sp) (M:∀(s:Jk) (u:Jj),BindsTo s fd ⟨[u],[]⟩ [(x,u)])
  (a3:∀H:Hp,Only H->SqL K H a (O.map V.int)->sp [.ref a] H (λ v _=>v=.bl true) λ _ _ _=>False)
  (i:∀p∈x4 K,K.lookup p.1=none/\c.heap.get? p.1=some {cls:=.none,data:=.fields #[]} /\ isCodeTable c.heap p.1) (a2:((x4 K).map (·.1)).Nodup)
  (a4:∃J C,mg "__builtins__" = some (.ref J)/\J≠builtinsNs/\c.heap.get? J=some C/\C.cls=.type "module" /\ C.dict=some builtinsNs/\C.data=.plain)
  (a7:∀H e l,CX [] H c (λ _ _ _=>False) e l->False) :
  codeAny Lv callerA (.call (JR fa) ⟨[.ref a],[]⟩) (λ r l=>r=.ok (.ret (.bool true))/\OldK c.heap l.heap/\l.os=c.os/\AllBare l.gens) c:=by
 have rv:=pE hi;have Q:=hi.length;have I:∀H:Hp,Only H->SqL K H a (O.map V.int)->HOk P w H c.heap->(∀b,H b≠none->b=a\/((∃q,(b,q)∈x4 K)/\∃q,H b=some (.tbl q)))->(H a≠none->K.lookup a=none)->cJ K H ->
   codeAny Lv callerA (.call (JR fa) ⟨[.ref a],[]⟩) (λ r l=>r=.ok (.ret (.bool true))/\OldK c.heap l.heap/\l.os=c.os/\AllBare l.gens) c:=by
  intro H hO hS L hA hK hT;have g:∀{b:Jl} {o:Obj},c.heap.get? b=some o->H b=none->(hidT c.heap H).get? b=some o:=λ e n=>wV e n
  have a1:∀{b:Jl} {o:Obj} {es:Jo DictEntry} {ep:Nat},c.heap.get? b=some o->o.data=.dict es ep->H b=none:=λ {b o es ep} e d=>by
   cases q:H b with
   | none=>rfl
   | some u=>
    rcases hA b (by rw[q];simp)with e' | ⟨⟨qq,e'⟩,_⟩
    ·subst e';rw[N]at e;cases e;have d':=d;cases d'
    ·rw[(i _ e').2.1]at e;cases e;have d':=d;cases d'
  have y:∀{b:Jl} {m:Str->Ji Jj},c.heap.Ns b m->(hidT c.heap H).Ns b m:=λ {b m} ⟨o,es,ep,e,d,r⟩=>⟨o,es,ep,g e (a1 e d),d,r⟩;have W:=λ b o e=>g (KX b o e) (by
   cases q:H b with
   | none=>rfl
   | some u=>
    rcases hA b (by rw[q];simp)with e' | ⟨⟨qq,e'⟩,_⟩
    ·subst e';rw[hK (by rw[q];simp)]at e;cases e
    ·rw[(i _ e').1]at e;cases e)
  have hM:Mod K mg (hidT c.heap H):=by
   refine⟨W,y R,⟨mb,y j,a5⟩,let ⟨mc,X,h2⟩:=U;⟨mc,y X,h2⟩,?J⟩;obtain⟨J,C,b1,b2,b3,b4,b5,b6⟩:=a4;refine⟨J,C,b1,b2,g b3 ?_,b4,b5,b6⟩;cases q:H J with
   | none=>rfl
   | some u=>
    rcases hA J (by rw[q];simp)with e' | ⟨⟨qq,e'⟩,_⟩
    ·subst e';rw[N]at b3;cases b3;exact absurd (Value.type.inj (show Value.type "list" = Value.type "module" from b4)) JB
    ·rw[(i _ e').2.1]at b3;cases b3;cases b4
  have e0:Env0 P w K mg (hidT c.heap H) callerA [] c H:=⟨rfl,hM,λ b o e=>wW e,Nat.le_of_eq (wU _ _),trivial,⟨λ b j=>absurd (show b∈([]:ge Jl)from j) JL,hT⟩,L,.of_eq hg⟩;refine N4 ((F _ W (y R)).run callerA [] c H ⟨[.ref a],[]⟩ [.ref a] [.ref a] _ _ hr e0 (M c (.ref a)) (.cons rfl .nil) (a3 H hO hS)) λ r l h=>?_;cases r with
  | error e=>exact(a7 H e l h).elim
  | ok fl=>
   cases fl with
   | next=>exact False.elim h
   | brk=>exact False.elim h
   | cont=>exact False.elim h
   | ret u=>
    obtain⟨v,H',os,Z,un,E,r',q⟩:=h;have q':v=.bl true:=q;subst q';obtain rfl:u=Value.bool true:=r';refine⟨rfl,⟨λ b o e=>?_,λ b o e=>un.there b o e JL⟩,os,Z⟩;cases q:H b with
    | none=>exact .inl (un.keep b o e q (by intro z;exact absurd (show b∈([]:ge Jl)from z) JL) JL)
    | some u=>
     rcases hO b with z | ⟨C,xs,z⟩ | ⟨qq,z⟩
     ·rw[q]at z;cases z
     ·have z2:=un.frzs b C _ z;obtain⟨Y,_⟩:=L b _ z;obtain⟨e2,_⟩:=E b _ z2;rw[e]at Y;cases Y;exact .inl e2
     ·rcases hA b (by rw[q];simp)with e' | ⟨⟨q2,e'⟩,_⟩
      ·subst e';obtain⟨ps,Y,_⟩:=L b _ z;rw[N]at Y;have:=congrArg Obj.data (B0 Y);cases this
      ·have t:=i _ e';rw[t.2.1]at e;cases e;obtain⟨ps,e2,_⟩:=E b _ (un.tbls b _ z);exact .inr (.inl ⟨t.2.2,rfl,#[],ps,rfl,by simpa using e2⟩)
 have B:∀f:Hp,(∀p∈x4 K,f p.1=none)->∃H:Hp,(∀b,(∃q,(b,q)∈x4 K/\H b=some (.tbl q))\/((∀q,(b,q)∉x4 K)/\H b=f b)):=λ f hf=>by
  refine⟨λ b=>match(x4 K).lookup b with | some q=>some (.tbl q) | none=>f b,λ b=>?_⟩;cases z:(x4 K).lookup b with
  | some q=>exact .inl ⟨q,cM z,by simp only[z]⟩
  | none=>exact .inr ⟨λ q hq=>pF z hq,by simp only[z]⟩
 have A:∀{H:Hp} {f:Hp},(∀b,(∃q,(b,q)∈x4 K/\H b=some (.tbl q))\/((∀q,(b,q)∉x4 K)/\H b=f b))->cJ K H:=λ {H f} h p hp=>by
  rcases h p.1 with⟨q,X,h2⟩ | ⟨X,_⟩
  ·rw[h2,yK a2 X hp]
  ·exact absurd hp (X p.2)
 cases hk:K.lookup a with
 | some o=>
  have e:=KX a o hk;rw[N]at e;cases e;obtain⟨H,h⟩:=B (λ _=>none) λ _ _=>rfl;refine I H (λ b=>?_) (.inr ⟨_,vs.toArray,_,hk,rfl,rfl,rfl,by rw[u8,Q];exact hl,by simpa using rv⟩) (λ b u z=>?_) (λ b z=>?_) (λ z=>?_) (A h)
  ·rcases h b with⟨q,_,e⟩ | ⟨_,e⟩
   ·exact .inr (.inr ⟨q,e⟩)
   ·exact .inl e
  ·rcases h b with⟨q,m,e⟩ | ⟨_,e⟩
   ·rw[e]at z;cases z;exact⟨#[],(i _ m).2.1,trivial,λ a0 cv z=>by cases z⟩
   ·rw[e]at z;cases z
  ·rcases h b with⟨q,m,e⟩ | ⟨_,e⟩
   ·exact .inr ⟨⟨q,m⟩,q,e⟩
   ·exact absurd e z
  ·rcases h a with⟨q,m,e⟩ | ⟨_,e⟩
   ·have:=(i _ m).1;rw[hk]at this;cases this
   ·exact absurd e z
 | none=>
  have S:∀q,(a,q)∉x4 K:=λ q m=>by have:=(i _ m).2.1;rw[N]at this;have:=congrArg Obj.data (B0 this);cases this
  obtain⟨H,h⟩:=B (λ b=>if b=a then some (.frz {cls:=.type "list",data:=.seq vs.toArray} (Kx (O.map V.int)))else none) λ p hp=>g7 λ z=>S p.2 (by rw[←z];exact hp)
  have a6:H a=some (.frz {cls:=.type "list",data:=.seq vs.toArray} (Kx (O.map V.int))):=by
   rcases h a with⟨q,m,_⟩ | ⟨_,e⟩
   ·exact absurd m (S q)
   ·rw[e];exact f8 rfl
  refine I H (λ b=>?_) (.inl (.inr ⟨{cls:=.type "list",data:=.seq vs.toArray},a6⟩)) (λ b u z=>?_) (λ b z=>?_) (λ _=>hk) (A h)
  ·rcases h b with⟨q,_,e⟩ | ⟨_,e⟩
   ·exact .inr (.inr ⟨q,e⟩)
   ·by_cases j:b=a
    ·exact .inr (.inl ⟨_,_,e.trans (f8 j)⟩)
    ·exact .inl (e.trans (g7 j))
  ·rcases h b with⟨q,m,e⟩ | ⟨_,e⟩
   ·rw[e]at z;cases z;exact⟨#[],(i _ m).2.1,trivial,λ a0 cv z=>by cases z⟩
   ·rw[e]at z;by_cases j:b=a
    ·have z':=(f8 j).symm.trans z;cases z';subst j;exact⟨N,by rw[g6];exact hl,vs,_,rv,N⟩
    ·have z':=(g7 j).symm.trans z;cases z'
  ·rcases h b with⟨q,m,e⟩ | ⟨_,e⟩
   ·exact .inr ⟨⟨q,m⟩,q,e⟩
   ·by_cases j:b=a
    ·exact .inl j
    ·exact absurd (e.trans (g7 j)) z
end L2
namespace L2
open PySem PySem.Spec PyProof.Rows
abbrev KOf{K:Ju}{h:Jm}(_:K.In h):Ju:=K
theorem walk_of{l:PySem.W.OpenLaw}{XP:(Str->Ji Jj)->Jm->Prop}{K:Params->Ju}{N:Jp->CXT}{L:Jp->Sp}
  (P:l.most=some n) (A:n<=sizeLine) (C:d.params.defaults=[]) (O:Room k callerA)
  (U:∀(w:Jp) (h:Jm),YP w h->(K w.params).In h) (i:∀(w:Jp) (h:Jm),YP w h->(∀p∈x4 (K w.params),(K w.params).lookup p.1=none/\h.get? p.1=some {cls:=.none,data:=.fields #[]} /\ isCodeTable h p.1)/\((x4 (K w.params)).map (·.1)).Nodup)
  (F:∀(w:Jp) (mg:Str->Ji Jj) (r:Jl) (h:Jm),(K w.params).In h->h.Ns mainGlobals mg->mg d.name=some (.ref r) ->
   ∃fd:Jt,(∀(s:Jk) (u:Jj),BindsTo s fd ⟨[u],[]⟩ [(x,u)]) /\
    ∀base:Jm,(K w.params).In base->base.Ns mainGlobals mg->FnOk l.prog w (K w.params) mg base (N w) k r fd [x] (L w))
  (z:∀(w:Jp) (H:Hp) (a:Jl) (m:ge Int),m.length<=n->Only H->SqL (K w.params) H a (m.map V.int)->L w [.ref a] H (λ v _=>v=.bl true) λ _ _ _=>False)
  (E:∀(w:Jp) (H:Hp) (s:Jk) (e:Jj) (y:Jk),N w [] H s (λ _ _ _=>False) e y->False) :
  PySem.W.WalkO q loose XP YP l.row.toRowW d [] (λ f I=>PySem.call f I):=by
 refine Att.attach_call P C λ w J g mg mb r o pm cd doc a I m G Y ho hd R B j c b Q=>?_;have M:=U w _ Y;obtain⟨fd,S,Z⟩:=F w mg r _ M G.T.g B;exact yL M G.T.g G.T.b G.T.builtins G.T.nolimit Q j c (i7 b A) O Z S (λ H X W=>z w H a m b X W) (i w _ Y).1 (i w _ Y).2 G.T.bmain λ H e y=>E w H g e y
end L2
namespace L2
open PySem PySem.Spec PyProof.Rows
abbrev CX0:CXT:=λ _ _ _ _ _ _=>False
abbrev E0:XK:=λ _ _ _=>False
structure Fun(K:Lz)(x qual:Str)(st:Stmt)(f:Addr)(fd:FuncData):Prop where
 ex:∃(oc:Value) (od:Option Addr) (kV doc pm:Value) (an:Option Addr) (cdv ct:Value) (osl:Array (Option Value)),
  fd=PySem.W.fnOf x qual (P1 st) (G5 st) (u6 st) .none kV doc pm an cdv ct/\K.lookup f=some ⟨oc,od,.func fd,osl⟩/\PySem.W.codeIn K cdv qual=true
 kp:PySem.W.keepIn K (.ref f)=true
theorem iteF{B:Prop}(h:B):if false=true then A else B:=by
 rw[g7 B5];exact h
theorem iteT{B:Prop}(h:A):if true=true then A else B:=by
 rw[f8 rfl];exact h
def Same(H H':Hp):Prop:=∀b o,H b=some o->H' b=some o
theorem Same.refl(H:Hp):Same H H:=λ _ _ h=>h
theorem Same.trans(a:Same H e)(b:Same e d):Same H d:=λ c o h=>b c o (a c o h)
theorem Same.free(e:Same H a)(h:a l=Option.none):H l=Option.none:=by
 cases q:H l with
 | none=>rfl
 | some o=>
  rw[e l o q]at h;cases h
theorem Same.seq{K:Ju}(e:Same H b)(h:SqL K H a xs):SqL K b a xs:=by
 rcases h with(h | ⟨o,h⟩) | h
 ·exact .inl (.inl (e _ _ h))
 ·exact .inl (.inr ⟨o,e _ _ h⟩)
 ·exact .inr h
end L2
end
noncomputable section
namespace L2
open PySem PySem.Spec PyProof.Rows
noncomputable def F2(o:Obj):Ji Jj:=match o.data with
 | .fields vs=>vs[2]?
 | _=>none
theorem F2.freed(h:F2 o=some c):o.isFreed=false:=by
 unfold F2 at h;split at h
 ·rename_i vs e;exact eE e
 ·cases h
def St2(h h':Jm):Prop:=∀a o c,h.get? a=some o->F2 o=some c->∃o',h'.get? a=some o'/\F2 o'=some c
theorem St2.refl(h:Jm):St2 h h:=λ a o c e q=>⟨o,e,q⟩
theorem St2.trans(x:St2 h d)(y:St2 d b):St2 h b:=λ a o c e q=>by
 obtain⟨g,i,f⟩:=x a o c e q;exact y a g c i f
theorem St2.of_keeps{h h':Jm}(k:∀b o,h.get? b=some o->h'.get? b=some o):St2 h h':=λ a o c e q=>⟨o,k a o e,q⟩
theorem St2.push(h:Jm)(o:Obj):St2 h (h.push o):=.of_keeps λ b o e=>i3 _ e
theorem St2.upd(d:∀o,F2 (f o)=F2 o):St2 h (h.update a f):=λ b o c e q=>by
 by_cases z:a=b
 ·subst z;exact⟨f o,V4 f e (F2.freed (by rwa [d])),by rwa [d]⟩
 ·exact⟨o,by rwa [bS _ _ z],q⟩
inductive Kp2:{α:Type} -> Sem α->Prop
 | pure {α:Type} (a:α):Kp2 (.pure a)
 | raise {α:Type} (e:Value):Kp2 (.raise e:Sem α)
 | unsupported {α:Type} (w:String):Kp2 (.unsupported w:Sem α)
 | rule {α:Type} (t:String) (k:Unit->Sem α):Kp2 (k ())->Kp2 (.rule t k)
 | at{α:Type} (p:Pos) (k:Unit->Sem α):Kp2 (k ())->Kp2 (.at p k)
 | load {α:Type} (a:Addr) (p:Option Value) (k:Obj->Sem α):(∀o,Kp2 (k o))->Kp2 (.load a p k)
 | update {α:Type} (a:Addr) (p:Option Value) (f:Obj->Obj) (k:Unit->Sem α):(∀o,F2 (f o)=F2 o)->Kp2 (k ())->Kp2 (.update a p f k)
 | alloc {α:Type} (o:Obj) (k:Addr->Sem α):(∀a,Kp2 (k a))->Kp2 (.alloc o k)
 | point {α:Type} (l:List Value) (k:Unit->Sem α):Kp2 (k ())->Kp2 (.point l k)
 | ask {α:Type} (k:Setting->Sem α):(∀a,Kp2 (k a))->Kp2 (.ask k)
 | stack {α:Type} (k:List (Code×Pos)->Sem α):(∀a,Kp2 (k a))->Kp2 (.stack k)
theorem Kp2.wp{m:Sem i}(k:Kp2 m):∀{Q:i->Pos->Jk->Prop} {E:Jj->Pos->Jk->Prop} {p:Pos} {s:Jk},Sem.wp M g m Q E p s->Sem.wp M g m (λ a c d=>Q a c d/\St2 s.heap d.heap) (λ e c d=>E e c d/\St2 s.heap d.heap) p s:=by
 induction k with
 | pure a=>intro Q E p s h;exact⟨h,.refl _⟩
 | raise e=>intro Q E p s h;exact⟨h,.refl _⟩
 | unsupported w=>intro Q E p s h;exact h
 | rule t k _ b=>intro Q E p s h;exact b h
 | «at» c k _ b=>intro Q E p s h;exact b h
 | load a c k _ b=>intro Q E p s h;obtain⟨o,e,q⟩:=h;exact⟨o,e,b o q⟩
 | update a c f k j _ b=>
  intro Q E p s h;rw[Sem.wp]at h ⊢;refine⟨h.1,?_⟩;have st:St2 s.heap (s.heap.update a f):=.upd j;have:=b h.2;exact Sem.wp_mono M g _ (λ a c d q=>⟨q.1,st.trans q.2⟩) (λ e c d q=>⟨q.1,st.trans q.2⟩) _ _ this
 | alloc o k _ b=>
  intro Q E p s h;rw[Sem.wp]at h ⊢;have st:St2 s.heap (s.heap.push o):=.push _ _;have:=b _ h;exact Sem.wp_mono M g _ (λ a c d q=>⟨q.1,st.trans q.2⟩) (λ e c d q=>⟨q.1,st.trans q.2⟩) _ _ this
 | point l k _ b=>intro Q E p s h;exact b h
 | ask k _ b=>intro Q E p s h;exact b _ h
 | stack k _ b=>intro Q E p s h;exact b _ h
theorem Kp2.any(k:Kp2 m)(h:wpAny M A m Q E s):wpAny M A m (λ a b=>Q a b/\St2 s.heap b.heap) (λ e b=>E e b/\St2 s.heap b.heap) s:=
 λ f p c=>k.wp (h f p c)
theorem Kp2.bind(h:Kp2 m)(j:∀a,Kp2 (f a)):Kp2 (m.bind f):=by
 induction h with
 | pure a=>exact j a
 | raise e=>exact .raise e
 | unsupported w=>exact .unsupported w
 | rule t k _ b=>exact .rule t _ b
 | «at» p k _ b=>exact .at p _ b
 | load a p k _ b=>exact .load a p _ b
 | update a p g k i _ b=>exact .update a p g _ i b
 | alloc o k _ b=>exact .alloc o _ b
 | point l k _ b=>exact .point l _ b
 | ask k _ b=>exact .ask _ b
 | stack k _ b=>exact .stack _ b
theorem F2.fields(b:i≠2)(o:Obj):F2 (Obj.mapFields (·.setIfInBounds i x) o)=F2 o:=by
 obtain⟨c,d,e,sl⟩:=o;cases e with
 | fields a=>
  show _[2]? = a[2]?;rw[Array.getElem?_setIfInBounds_ne b]
 | _=>rfl
theorem jM(a:Jl):Kp2 (PySem.load a):=.load a none _ λ o=>.pure o
theorem yM(v:Jj):Kp2 (fieldsOf v):=by
 unfold fieldsOf;split
 ·refine .bind (jM _) λ o=>?_;split
  ·exact .pure _
  ·exact .unsupported _
 ·exact .unsupported _
theorem fN(v:Jj)(i:Nat):Kp2 (field v i):=by
 unfold field;refine .bind (yM v) λ vs=>?_
 split
 ·exact .pure _
 ·exact .unsupported _
theorem jN(v:Jj)(a:i≠2)(x:Jj):Kp2 (setField v i x):=by
 unfold setField;split
 ·unfold updateField;refine .bind (jM _) λ o=>?_
  split
  ·split
   ·exact .update _ _ _ _ (F2.fields a) (.pure _)
   ·exact .unsupported _
  ·exact .unsupported _
 ·exact .unsupported _
theorem yN(e:Jj)(fr:Ji Jl):Kp2 (setFlight e fr):=by
 unfold setFlight;refine .bind (fN e 1) λ a=>?_
 split
 ·exact jN a JB _
 ·exact .pure _
theorem yO(env:Env)(a:ge Env):Kp2 (behindIsImport env a):=by
 unfold behindIsImport;split
 ·exact .pure _
 ·split
  ·exact .pure _
  ·exact .bind (fN _ _) λ _=>.pure _
theorem jO:Kp2 PySem.stack:=.stack _ λ a=>.pure a
theorem yP:Kp2 underTheClaimsCaller:=by
 unfold underTheClaimsCaller
 repeat (first | exact .pure _ | exact .unsupported _ | refine .bind jO λ _=>?_ | split)
theorem yQ(env:Env)(i:Bool)(l:ge Env):Kp2 (keptBack env i l):=by
 cases l with
 | nil=>
  show Kp2 (if env.scope.isGenerator||env.scope.isCoroutine then _ else do return if ←underTheClaimsCaller then Value.notImplemented else Value.none);split
  ·exact .pure _
  ·exact .bind yP λ _=>.pure _
 | cons c r=>exact .pure _
theorem pG:∀l:ge Env,Kp2 (readyFrames l)
 | []=>.pure _
 | d::a=>by
  unfold readyFrames;split
  ·refine .bind (jM _) λ o=>?_;split
   ·exact .pure _
   ·refine .bind (yO _ _) λ b=>.bind (yQ _ _ _) λ c=>?_;exact .update _ _ _ _ (λ o=>rfl) (pG a)
  ·exact .unsupported _
theorem yR(l:ge Env):Kp2 (frameObject l):=by
 cases l with
 | nil=>exact .pure _
 | cons e r=>
  unfold frameObject;exact .bind (pG _) λ _=>.pure _
theorem yS(env:Env):Kp2 (PySem.frameOf env):=by
 unfold PySem.frameOf frameEnvs;refine .bind (.bind jO λ _=>.pure _) λ l=>.bind (yR _) λ o=>?_
 split
 ·exact .pure _
 ·exact .unsupported _
theorem yT(f:Jl)(b:Bool):Kp2 (entryPlaceOf f b):=by
 unfold entryPlaceOf;refine .bind jO λ a=>?_
 split<;>exact .pure _
theorem yU(ty:Jz)(vs:ge Jj):Kp2 (newFields ty vs):=by
 unfold newFields newObj;dsimp;split
 ·exact .unsupported _
 ·unfold newObjAsIs;exact .bind (.alloc _ _ λ a=>.pure a) λ _=>.pure _
theorem yV(a b c d e:Jj)(p:ge Jj):Kp2 (EntryCells.newEntry a b c d e p):=yU _ _
theorem yW(e:Jj)(env:Env):Kp2 (noteFrame e env):=by
 unfold noteFrame;split
 ·refine .bind (fN e 1) λ a=>?_;have b:∀f:Jl,Kp2 (do setField e 1 (←EntryCells.newEntry a (←PySem.frameOf env) .none (rawInt f) .none (←entryPlaceOf f (a != .none)))):=λ f=>
   .bind (yS env) λ _=>.bind (yT _ _) λ _=>.bind (yV _ _ _ _ _ _) λ _=>jN e JB _
  split
  ·refine .bind (fN a 3) λ fl=>?_;split
   ·exact .pure _
   ·exact .bind (jN a JB _) λ _=>b _
  ·exact b _
 ·exact .unsupported _
theorem pH(env:Env)(e:Jj):Kp2 (leaving env e):=by
 unfold leaving;exact .bind (yW e env) λ _=>yN e none
def Cx2(h:Jm):Nat->Jl->Prop
 | 0,a=>∃o,h.get? a=some o/\F2 o=some .none
 | n+1,a=>∃o,h.get? a=some o/\(F2 o=some .none\/∃b,F2 o=some (.ref b)/\Cx2 h n b)
theorem Cx2.st{h h':Jm}(x:St2 h h'):∀{n:Nat} {a:Jl},Cx2 h n a->Cx2 h' n a
 | 0,a,c=>by obtain⟨o,e,q⟩:=c;exact x a o _ e q
 | n+1,a,c=>by
  obtain⟨o,e,q⟩:=c;rcases q with q | ⟨b,q,c⟩
  ·obtain⟨o',e',q'⟩:=x a o _ e q;exact⟨o',e',.inl q'⟩
  ·obtain⟨o',e',q'⟩:=x a o _ e q;exact⟨o',e',.inr ⟨b,q',c.st x⟩⟩
def Ctxd(h:Jm)(a:Jl):Prop:=∃n,Cx2 h n a
theorem Ctxd.st{h h':Jm}{a:Jl}(c:Ctxd h a)(x:St2 h h'):Ctxd h' a:=let ⟨n,q⟩:=c;⟨n,q.st x⟩
theorem Ctxd.made{h h':Jm}{e:Jl}{C:Jj}{vs:ge Jj}(hx:Heap.MadeExcOf h h' e C vs):Ctxd h' e:=by
 obtain⟨t,he,_⟩:=hx.there;exact⟨0,_,he,rfl⟩
theorem t9.there(x:t9 P w H h a o):∃b,h.get? a=some b:=by
 cases o with
 | lst d=>obtain⟨_,_,_,_,e⟩:=x;exact⟨_,e⟩
 | tup d=>obtain⟨_,_,_,b,e,_⟩:=x;exact⟨_,e⟩
 | dK c=>obtain⟨_,_,_,_,o,_,_,e,_⟩:=x;exact⟨_,e⟩
 | dT c=>obtain⟨_,_,_,_,o,_,_,e,_⟩:=x;exact⟨_,e⟩
 | set S n=>obtain⟨o,_,_,_,e,_⟩:=x;exact⟨_,e⟩
 | ins C dx fs=>obtain⟨_,_,_,e,_⟩:=x;exact⟨_,e⟩
 | own y=>obtain⟨_,e⟩:=x;exact⟨_,e⟩
 | xd fs=>obtain⟨_,⟨_,_,_,e,_⟩,_⟩:=x;exact⟨_,e⟩
 | rng lo hi=>obtain⟨_,_,_,e⟩:=x;exact⟨_,e⟩
 | frz b u=>obtain⟨e,_⟩:=x;exact⟨_,e⟩
 | tbl q=>obtain⟨_,e,_⟩:=x;exact⟨_,e⟩
 | met f y=>exact⟨_,(x)⟩
 | ext φ=>obtain⟨_,⟨_,e⟩,_⟩:=x;exact⟨_,e⟩
structure Fly(P:Program)(w:World)(base:Heap)(l:List Env)(ea:Addr)(C:Value)(H:Hp)(B h:Heap):Prop where
 fly:∃a0,Heap.FlyingW B l ea C a0 h
 bas:∀b o,base.get? b=some o->B.get? b=some o
 hok:HOk P w H B
 ctx:Ctxd h ea
theorem Fly.stays(F:Fly P w base l a C H B h):∀b o,B.get? b=some o->h.get? b=some o:=by
 obtain⟨a0,f⟩:=F.fly;exact f.1
theorem Fly.newE(F:Fly P w base l a C H B h):B.get? a=none:=by
 obtain⟨a0,f⟩:=F.fly;exact f.2.1
theorem Fly.untr(F:Fly P w base l a C H B h):H a=none:=by
 cases q:H a with
 | none=>rfl
 | some o=>
  obtain⟨ob,e⟩:=(F.hok a o q).there;rw[F.newE]at e;cases e
def CXx(P:Jq)(w:Jp)(base:Jm):CXT:=λ outer H s E e s'=>∃(ea:Jl) (C:Jj) (H':Hp) (B:Jm),e=.ref ea/\s'.os=s.os/\AllBare s'.gens/\Un (frs outer) [] H H' s.heap s'.heap /\
 Fly P w base outer ea C H' B s'.heap/\(∀b o,s.heap.get? b=some o->b∉frs outer->∃o',B.get? b=some o')/\E C none H'
noncomputable def o5(cells:ge (Str×Jl)):ge (Str×Jy)->ge (Str×Jl)->ge (Str×Jl)
 | [],acc=>acc
 | (n,k)::r,acc=>if(k==NameKind.free)=true then o5 cells r ((n,(cells.lookup n).getD 0)::acc)else o5 cells r acc
theorem jP:∀(d:ge (Str×Jy)) (b:ge (Str×Jl)),(∀y∈d,y.2=NameKind.free->∃c,env.cells.lookup y.1=some c) ->
  (forIn d b (λ (x:Str×Jy) (cs:ge (Str×Jl))=>(match x with | (e,f)=>if(f==NameKind.free)=true then(do let a ←cellOf env e;pure (ForInStep.yield ((e,a)::cs)))else pure (ForInStep.yield cs):Sem (ForInStep (ge (Str×Jl))))):Sem (ge (Str×Jl)))=pure (o5 env.cells d b)
 | [],b,_=>rfl
 | (n,k)::r,b,h=>by
  have j:=λ y m=>h y (n6 _ m);rw[List.forIn_cons];by_cases g:(k==NameKind.free)=true
  ·obtain⟨c,l⟩:=h (n,k) n9 (g9.mp g);have o:cellOf env n=pure c:=by unfold cellOf;rw[l]
   have i:o5 env.cells ((n,k)::r) b=o5 env.cells r ((n,c)::b):=(by show(if(k==NameKind.free)=true then o5 env.cells r (_::b)else o5 env.cells r b)=_;rw[f8 g,l];rfl);rw[i,←jP r _ j];simp only[g,if_true,o];rfl
  ·have i:o5 env.cells ((n,k)::r) b=o5 env.cells r b:=by
    show(if(k==NameKind.free)=true then o5 env.cells r (_::b)else o5 env.cells r b)=_;rw[g7 g]
   rw[i,←jP r b j];simp only[g,if_false];rfl
theorem fO(h:∀y∈scope.names,y.2=NameKind.free->∃c,env.cells.lookup y.1=some c):closureFor scope env=pure (o5 env.cells scope.names []):=by
 unfold closureFor
 first
  | exact _.trans rfl
  | (simp only[(jP scope.names [] h)];rfl)
theorem bo:∀{a:ge (Str×Jy)} {d:ge (Str×Jl)} {x:Str} {c:Jl},(∀y∈a,y.2=NameKind.free->∃c,b.lookup y.1=some c) ->
  (x,c)∈o5 b a d->(x,c)∈d\/(b.lookup x=some c/\LJ∈a)
 | [],d,x,c,_,h=>.inl h
 | (n,k)::r,d,x,c,g,h=>by
  have f:=λ y i=>g y (n6 _ i);unfold o5 at h;by_cases e:(k==NameKind.free)=true
  ·rw[f8 e]at h;obtain⟨c',j⟩:=g (n,k) n9 (g9.mp e);rcases bo f h with z | ⟨z1,z2⟩
   ·rcases h8.mp z with z | z
    ·cases z;exact .inr ⟨by rw[j];rfl,by rw[←g9.mp e];exact n9⟩
    ·exact .inl z
   ·exact .inr ⟨z1,n6 _ z2⟩
  ·rw[g7 e]at h;rcases bo f h with z | ⟨z1,z2⟩
   ·exact .inl z
   ·exact .inr ⟨z1,n6 _ z2⟩
theorem jQ:∀{a:ge (Str×Jy)} {c:ge (Str×Jl)} {y:Str×Jl},y∈c->y∈o5 b a c
 | [],_,_,h=>h
 | (n,k)::r,c,y,h=>by
  unfold o5;split
  ·exact jQ (n6 _ h)
  ·exact jQ h
theorem fP:∀{a:ge (Str×Jy)} {d:ge (Str×Jl)} {x:Str} {c:Jl},LJ∈a->b.lookup x=some c->(x,c)∈o5 b a d
 | (n,k)::r,d,x,c,h,e=>by
  unfold o5;rcases h8.mp h with z | z
  ·cases z;rw[f8 (show(NameKind.free==NameKind.free)=true from rfl),e];exact jQ n9
  ·split
   ·exact fP z e
   ·exact fP z e
theorem cN:∀(a:ge (Str×Jy)) (n:Nat) (b:ge (Str×Jl)),cellsFrom n a b=cellsFrom n a []++b
 | [],_,_=>rfl
 | (x,k)::r,n,b=>by
  unfold cellsFrom;split
  ·rw[cN r _ _,cN r _ [(x,n)],T7];rfl
  ·exact cN r n b
theorem jR:∀{a:ge (Str×Jy)} {n:Nat} {x:Str} {c:Jl},(x,c)∈cellsFrom n a []->(x,NameKind.cell)∈a
 | [],_,_,_,h=>nomatch h
 | (y,k)::r,n,x,c,h=>by
  unfold cellsFrom at h;by_cases b:(k==NameKind.cell)=true
  ·rw[f8 b,cN]at h;rcases D7.mp h with z | z
   ·exact n6 _ (jR z)
   ·have d:(x,c)=(y,n):=by simpa using z
    cases d;rw[g9.mp b];exact n9
  ·rw[g7 b]at h;exact n6 _ (jR h)
theorem cO{a:Type}:∀{l r:ge (Str×a)},(l++r).lookup x=(l.lookup x).or (r.lookup x)
 | [],r=>by simp
 | (y,v)::l,r=>by
  rw[List.cons_append,F0,F0];cases hb:x==y with
  | true=>rfl
  | false=>exact cO
theorem pI{a:Type}:∀{l:ge (Str×a)},(∀c,(x,c)∉l)->l.lookup x=none
 | [],_=>rfl
 | (y,v)::l,h=>by
  rw[F0];cases hb:x==y with
  | true=>exact absurd Kz (h v)
  | false=>exact pI λ c b=>h c (n6 _ b)
theorem jS{a:Type}:∀{l:ge (Str×a)} {c:a},(x,c)∈l->∃d,l.lookup x=some d
 | (y,v)::l,c,h=>by
  rw[F0];cases b:x==y with
  | true=>exact⟨v,rfl⟩
  | false=>
   rcases h8.mp h with z | z
   ·cases z;rw[Q5]at b;cases b
   ·exact jS z
theorem W5{b:Type}:∀{l:ge (Str×b)} {c:b},(l.map (·.1)).Nodup->(x,c)∈l->l.lookup x=some c
 | (y,v)::l,c,d,h=>by
  rw[F0];rw[A4]at d;have a:=N1.mp d;rcases h8.mp h with z | z
  ·cases z;rw[Q5]
  ·have:x≠y:=λ e=>a.1 (by rw[←e];exact i4.mpr ⟨_,z,rfl⟩);rw[z8.mpr this];exact W5 a.2 z
theorem jT:(relabel scope env).names.lookup x=(scope.names.lookup x).map λ k=>if(k==NameKind.free&&env.scope.kind == .function&&env.kindOf x==some .cell)=true then NameKind.cell else k:=by
 unfold relabel;show(scope.names.map _).lookup x=_;generalize scope.names=l
 induction l with
 | nil=>rfl
 | cons y r a=>
  obtain⟨n,k⟩:=y;rw[A4];show List.lookup x ((if _=true then _ else(n,k))::_)=_;have e:(if(k==NameKind.free&&env.scope.kind == .function&&env.kindOf n==some .cell)=true then(n,NameKind.cell)else(n,k))=(n,if(k==NameKind.free&&env.scope.kind == .function&&env.kindOf n==some .cell)=true then NameKind.cell else k):=by split<;>rfl
  rw[e,F0,F0];cases b:x==n with
  | true=>rw[g9.mp b];rfl
  | false=>exact a
theorem yX
  (e:Q (newEnv scope s.heap.objs.size g (cellsFrom (s.heap.objs.size+1) scope.names cl) q none .none (some env) builtinsNs) {s with heap:=pushCells (s.heap.push {cls:=.type "dict",data:=.dict #[]}) scope.names}) :
  wpAny M A (newFunctionEnv scope g cl [] q none .none (some env)) Q E s:=by
 simp only[newFunctionEnv,Option.isSome_some,if_true];refine f0 (wpAny_alloc ?_);refine f0 (wpAny_layCells _ (λ d a c=>by cases b:a==NameKind.cell<;>simp[b]) _ _ _ _ ?_);rw[show({s with heap:=s.heap.push {cls:=.type "dict",data:=.dict #[]}}:Jk).heap.objs.size=s.heap.objs.size+1 from F7 ..];exact f0 (f9 (f9 e))
theorem yY(I:Nat->Jk->Prop)
  (turn:∀n s,I n s->wpAny JG A (pyNext it) (λ r f=>match r with
   | none=>R (.ok .next) f
   | some v=>wpAny JG A (letOwnedTupleGo a it v) (λ _ d=>wpAny JG A (assign a env v) (λ _ l=>
     wpAny JG A (forIn y true λ c r=>if r=true then do let ok ←isTrue c env (eval c env);pure (ForInStep.yield ok)else pure (ForInStep.yield r)) (λ ok b=>
      if ok=true then wpAny JG A (eval elt env) (λ x k=>
       wpAny JG A (call (.builtin "list.append") [E,x]) (λ _ j=>∃m,m<n/\I m j) (notedBy JG A env λ e g=>R (.error e) g) k) (notedBy JG A env λ e g=>R (.error e) g) b
      else ∃m,m<n/\I m b) (notedBy JG A env λ e g=>R (.error e) g) l) (notedBy JG A env λ e g=>R (.error e) g) d) (notedBy JG A env λ e g=>R (.error e) g) f) (notedBy JG A env λ e g=>R (.error e) g) s)
  (n:Nat) (h:I n s) :
  codeAny JG A (.compLoop (.ListComp elt [⟨a,u,y,0⟩] scope pos) 0 it E env) R s:=by
 refine codeAny_loop rfl I (λ n s F=>?_) n h;show wpAny _ A _ _ _ s;refine wpAny_noted ?_;rw[compTurn_list];refine f0 (cA (f0 (u0 (turn n s F) (λ r f p=>?_) λ _ _ i=>i)));cases r with
 | none=>exact f9 p
 | some v=>
  refine f0 (u0 p (λ _ d q=>?_) λ _ _ i=>i);refine f0 (u0 q (λ _ l C=>f0 (u0 C (λ ok b o=>?_) λ _ _ i=>i)) λ _ _ i=>i);cases ok with
  | false=>exact f9 ⟨rfl,o⟩
  | true=>
   exact f0 (f0 (u0 o (λ x k B=>f0 (u0 B (λ _ j z=>f9 (f9 ⟨rfl,z⟩)) λ _ _ i=>i)) λ _ _ i=>i))
theorem HOk.track(x:HOk P w H h)(d:H a=none)(new:t9 P w (upd H a o) h a o):HOk P w (upd H a o) h:=λ b u e=>by
 by_cases f:b=a
 ·subst f;rw[u9]at e;cases e;exact new
 ·rw[i9 f]at e;exact(x b u e).stay (λ c v _ q=>q) (λ c q=>by rw[i9 (y9 q d)];exact q) (λ c g q=>by rw[i9 (y9 q d)];exact q) (λ c g q=>by rw[i9 (y9 q d)];exact q) λ c _ _ _ _ q=>by rw[i9 (y9 q d)];exact q
theorem Un.track{fs ex:ge Jl}{H H':Hp}{h h':Jm}{a:Jl}{o:HO}(u:Un fs ex H H' h h')(hn:H' a=none)(hh:h.get? a=none):Un fs ex H (upd H' a o) h h' where
 keep:=u.keep
 slot:=u.slot
 free:=λ b ob q n hx=>by
  have:b≠a:=λ z=>by rw[z,hh]at q;cases q
  rw[i9 this];exact u.free b ob q n hx
 there:=u.there
 tups:=λ b xs q=>by have z:=u.tups b xs q;rw[i9 (y9 z hn)];exact z
 frzs:=λ b ob xs q=>by have z:=u.frzs b ob xs q;rw[i9 (y9 z hn)];exact z
 tbls:=λ b ps q=>by have z:=u.tbls b ps q;rw[i9 (y9 z hn)];exact z
structure CompScope(N N':List Str)(sc osc:Scope)(fr:List (Option Nat)):Prop where
 kind:sc.kind=.function
 nd:N'.Nodup
 snd:(sc.names.map (·.1)).Nodup
 len:fr.length=N'.length
 fre:∀(j i:Nat),fr[j]? = some (some i)->∃x,N'[j]? = some x/\N[i]? = some x/\LJ∈sc.names
 out:∀y∈sc.names,y.2=NameKind.free->osc.names.lookup y.1=some .cell\/osc.names.lookup y.1=some .free
noncomputable def inner(fr:ge (Ji Nat))(σ:St):St:=fr.map λ o=>o.bind λ i=>(σ[i]?).join
noncomputable def pJ(X:Cx)(scope:Jv)(N':ge Str)(C:Jl)(cells:ge (Str×Jl))(s₂:Jk)(H₂:Hp)(fp:ge Jl):Cx:=
 {X with N:=N',s₀:=s₂,H₀:=H₂,env:=compEnvC scope cells C X.env,outer:=X.stack,stack:=X.stack,ex:=fp,fn:=λ x=>scope.names.lookup x==some .cell,pn:=[],xe:=λ _ _=>False}
def r3 (X : Cx) (scope : Jv) (N' : ge Str) (C : Jl) (cells : ge (Str × Jl)) (s₂ : Jk) (H₂ : Hp) (fp : ge Jl) (x1 : XK) : Cx :=
  { X with N := N', s₀ := s₂, H₀ := H₂, env := compEnvC scope cells C X.env, outer := X.stack, stack := X.stack, ex := fp, fn := λ x => scope.names.lookup x == some .cell, pn := [],
           xe := λ e s' => ∃ pins σ H s, Inv (pJ X scope N' C cells s₂ H₂ fp) pins σ H s /\ CXx X.prog X.w X.base X.stack H s x1 e s' }
theorem Inv.comp0{X:Cx}{scope:Jv}{N':ge Str}{C:Jl}{cells:ge (Str×Jl)}{s₂:Jk}{H₂:Hp}{fp:ge Jl}{x1:XK}{pins:ge (Jl×Obj)}{σ:St}{H:Hp}{s:Jk}(I:Inv (r3 X scope N' C cells s₂ H₂ fp x1) pins σ H s):Inv (pJ X scope N' C cells s₂ H₂ fp) pins σ H s:=
 ⟨⟨I.ok.mod,I.ok.kind,I.ok.glob,I.ok.blt,I.ok.above,I.ok.inj,I.ok.has,I.ok.cab,I.ok.hd,I.ok.frames,I.ok.stk,I.ok.exf,I.ok.bs,I.ok.bsz,I.ok.noex,I.ok.exfs,I.ok.funs,I.ok.frf⟩,I.os,I.bare,I.base,I.loc,I.cell,I.free,I.freeC,I.pin,I.hok,I.len⟩
abbrev jU:Jz:="comprehension.variables-let-go"
def fQ(X:Cx)(E:St->XK):Prop:=∀(scope:Jv) (N':ge Str) (cells:ge (Str×Jl)) (C:Nat) (pins:Kk) (σ:St) (H:Hp) (s₂:Jk) (fp:ge Jl) (e:Jj) (s':Jk),
 Inv X pins σ H s₂->(∀b∈fp,FpOk X pins H b)->C=s₂.heap.objs.size+1->(r3 X scope N' C cells s₂ H fp (E σ)).xe e s' ->
 notedBy JE X.A (compEnvC scope cells C X.env) (λ e s'=>∃m,s'.heap.Ns C m/\∀h',Heap.SameBut C s'.heap h'->∀cenv:Env,cenv.locals=C->cenv.frame=X.env.frame->wpAny JE X.A (passOn jU e cenv:Sem Jj) (λ _ _=>False) X.xe {s' with heap:=h'}) e s'
theorem pK:fQ X λ _ _ _ _=>False:=by
 intro a N' b C d σ H c fp e s' I f hC z;obtain⟨_,_,_,_,_,_,_,_,_,_,_,_,_,_,_,q⟩:=z;exact q.elim
abbrev K1:Obj:={cls:=.type "list",dict:=none,data:=.seq ([]:ge Jj).toArray}
abbrev cP:Obj:={cls:=.type "dict",data:=.dict #[]}
theorem yZ(S:KY N')(I:Inv X O σ H d)(f:∀b∈fp,FpOk X O H b)(ho:∀b∈fp,@LT.lt Nat _ b d.heap.objs.size)(hC:C=d.heap.objs.size+1)(M:U=pushCells ((d.heap.push K1).push cP) scope.names) :
  Inv (r3 X scope N' C (cellsFrom (C+1) scope.names (o5 X.env.cells scope.names [])) d H fp x1) [] (inner fr σ) H {d with heap:=U} /\ U.get? d.heap.objs.size=some K1/\(∀b o,d.heap.get? b=some o->U.get? b=some o):=by
 have Q:(d.heap.push K1).objs.size=d.heap.objs.size+1:=F7 ..;have P:((d.heap.push K1).push cP).objs.size=C+1:=by rw[F7,Q,hC]
 have keep:∀b o,d.heap.get? b=some o->U.get? b=some o:=λ b o e=>by rw[M];exact jl _ _ b o (i3 _ (i3 _ e))
 have hD:U.get? d.heap.objs.size=some K1:=by rw[M];exact jl _ _ _ _ (i3 _ (q0 _ rfl))
 have a4:U.Ns C λ _=>none:=by have q:=(Heap.Ns.new (d.heap.push K1) (.type "dict")).keeps (jl scope.names _);rw[Q,←hC]at q;rw[M];exact q
 have ok:=cellsFrom_ok scope.names ((d.heap.push K1).push cP) (C+1) [] ⟨λ _ _ A=>(nomatch A),List.Pairwise.nil⟩ (by rw[P];exact i8 _);rw[P,←M]at ok;have J:∀y∈scope.names,y.2=NameKind.free->∃c,X.env.cells.lookup y.1=some c:=λ y hy hk=>I.ok.has y.1 (S.out y hy hk);generalize Z:o5 X.env.cells scope.names []=cl;have F:∀{x:Str} {c:Jl},(x,c)∈cl->X.env.cells.lookup x=some c/\LJ∈scope.names:=λ {x c} A=>by
  rw[←Z]at A;rcases bo J A with z | z
  ·exact nomatch z
  ·exact z
 generalize n:cellsFrom (C+1) scope.names []=own at ok;have a6:cellsFrom (C+1) scope.names cl=own++cl:=by rw[cN,n]
 rw[a6];have L:∀{x:Str} {c:Jl},(x,c)∈own->(x,NameKind.cell)∈scope.names:=λ {x c} A=>by rw[←n]at A;exact jR A
 have L1:∀x c,(own++cl).lookup x=some c->((x,c)∈own)\/(X.env.cells.lookup x=some c/\LJ∈scope.names/\own.lookup x=none):=λ x c e=>by
  rw[cO]at e;cases q:own.lookup x with
  | some c'=>rw[q]at e;cases e;exact .inl (B4 q)
  | none=>rw[q]at e;have z:=F (B4 (show cl.lookup x=some c from e));exact .inr ⟨z.1,z.2,rfl⟩
 have g:∀{x:Str} {c:Nat},(x,c)∈own->@LE.le Nat _ (C+1) c:=λ {x c} A=>(ok.empty x c A).2;have h:∀{x:Str} {c:Nat},X.env.cells.lookup x=some c->@LT.lt Nat _ c d.heap.objs.size:=λ {x c} e=>by obtain⟨v,z⟩:=I.cell x c e;exact z.lt
 have K:∀{x:Str},LJ∈scope.names->own.lookup x=none:=λ {x} A=>by refine pI λ c Y=>?_;have a:=W5 S.snd A;have b:=W5 S.snd (L Y);rw[a]at b;cases b
 have B:∀{x:Str} {c:Jl},LJ∈scope.names->X.env.cells.lookup x=some c->(own++cl).lookup x=some c:=λ {x c} A Y=>by rw[cO,K A];obtain⟨c',e⟩:=jS (l:=cl) (by rw[←Z];exact fP A Y);have z:=(F (B4 e)).1;rw[Y]at z;cases z;exact e
 have hX:(r3 X scope N' C (own++cl) d H fp x1).Ok:=by
  refine⟨I.ok.mod,S.kind,I.ok.glob,I.ok.blt,?_,λ x y c h1 h2=>?_,λ x hx=>?_,λ x c hf Y=>?_,I.ok.hd,I.ok.frames,.inl rfl,λ b R=>⟨?_,λ x c e=>?_⟩,I.bs,i7 I.ok.bsz I.sz,λ b o e R=>?_,λ b R hs=>?_,I.stack,⟨I.stkFree,I.tabs⟩⟩
  ·show d.heap.objs.size<=C;rw[hC];exact fy _
  ·have h1:(own++cl).lookup x=some c:=h1;have h2:(own++cl).lookup y=some c:=h2;rcases L1 x c h1 with a | ⟨a,_⟩<;>rcases L1 y c h2 with b | ⟨b,_⟩
   ·exact name_of_addr ok.apart a b
   ·exfalso;have q1:=g a;have q2:=h b;omega
   ·exfalso;have q1:=g b;have q2:=h a;omega
   ·exact I.ok.inj x y c a b
  ·have E:(relabel scope X.env).names.lookup x=some .cell\/(relabel scope X.env).names.lookup x=some .free:=hx;show ∃c,(own++cl).lookup x=some c;rw[jT]at E;cases q:scope.names.lookup x with
   | none=>rw[q]at E;rcases E with z | z<;>cases z
   | some k=>
    have km:=B4 q;by_cases k1:k=.cell
    ·subst k1;have z:=eA scope.names (C+1) [] (.inl q);rw[n]at z;obtain⟨c,z⟩:=Z2.mp z;exact⟨c,by rw[cO,z];rfl⟩
    ·by_cases k2:k=.free
     ·subst k2;obtain⟨c,e⟩:=J _ km rfl;exact⟨c,B km e⟩
     ·exfalso;rw[q]at E;have e0:(k==NameKind.free)=false:=z8.mpr k2;simp only[N2,e0,Bool.false_and]at E;rcases E with z | z
      ·exact k1 (Kg z)
      ·exact k2 (Kg z)
  ·have a5:(scope.names.lookup x==some .cell)=true:=hf;have q:scope.names.lookup x=some .cell:=by simpa using a5
   have z:=eA scope.names (C+1) [] (.inl q);rw[n]at z;obtain⟨c',z⟩:=Z2.mp z;have a0:(own++cl).lookup x=some c:=Y;rw[cO,z]at a0;have e:c'=c:=B0 a0;subst e;have:=g (B4 z);show @LE.le Nat _ d.heap.objs.size c';omega
  ·have:=ho b R;show @Ne Nat b C;omega
  ·rcases L1 x c e with a | ⟨a,_⟩
   ·have:=g a;have:=ho b R;show @Ne Nat c b;omega
   ·exact(f b R).2.2.2.2.1 x c a
  ·rcases(f b R).2.2.2.1 with z | z
   ·exact I.ok.noex b o e z
   ·exact absurd (r9 (j9 e) (i7 I.ok.bsz z)) (N3 _)
  ·rcases h8.mp (I.stkSub b hs)with z | z
   ·exact(f b R).2.1 z
   ·exact(f b R).2.2.1 z
 refine⟨⟨hX,rfl,I.bare,Un.kept keep,⟨_,a4,λ i x v e1 W e3=>?_⟩,λ x c e=>?_,I.hok.fresh (by show @LE.le Nat _ d.heap.objs.size C;omega),λ x c e=>?_,λ p hp=>absurd (show p∈([]:ge (Jl×Obj))from hp) JL,I.hok.kept keep,?_⟩,hD,keep⟩
 ·have e1:N'[i]? = some x:=e1;unfold inner at W;rw[p5]at W;cases q:fr[i]? with
  | none=>rw[q]at W;cases W
  | some o=>
   rw[q]at W;cases o with
   | none=>cases W
   | some j=>
    have N:(σ[j]?).join=some v:=B0 W;have hv:σ[j]? = some (some v):=by
     cases z:σ[j]? with
     | none=>rw[z]at N;cases N
     | some o=>rw[z]at N;rw[show o=some v from N]
    obtain⟨x',a1,a2,a3⟩:=S.fre i j q;rw[e1]at a1;cases a1;obtain⟨m,hn,hl⟩:=I.loc;have ko:=S.out _ a3 rfl;obtain⟨u,r,l⟩:=hl j x v a2 hv (ko.elim (λ z=>.inr (.inl z)) λ z=>.inr (.inr z));rcases l with⟨k,_⟩ | ⟨k,c,e,z⟩
    ·have k':X.env.scope.names.lookup x=some .local:=k;rcases ko with w | w<;>(rw[show X.env.scope.names.lookup x=_ from w]at k';cases k')
    ·refine⟨u,r,.inr ⟨?_,c,B a3 e,z.keeps keep⟩⟩;show(relabel scope X.env).names.lookup x=some .cell\/(relabel scope X.env).names.lookup x=some .free;rw[jT,W5 S.snd a3];simp only[N2];split
     ·exact .inl rfl
     ·exact .inr rfl
 ·rcases L1 x c e with a | ⟨a,_⟩
  ·exact⟨none,(ok.empty x c a).1⟩
  ·obtain⟨v,z⟩:=I.cell x c a;exact⟨v,z.keeps keep⟩
 ·rcases L1 x c e with a | ⟨a,_⟩
  ·exact I.hok.fresh (by have:=g a;show @LE.le Nat _ d.heap.objs.size c;omega)
  ·exact I.freeC x c a
 ·show(inner fr σ).length=N'.length;unfold inner;rw[g6,S.len]
def PTs(X:Cx)(ifs:ge Jn)(t:TT):Prop:=
 ∀(pins:Kk) (s:Jk) (σ:St) (H:Hp) (Q:Bool->Hp->Prop),Inv X pins σ H s->t σ H Q ->
  wpAny JE X.A (forIn ifs true λ c r=>if r=true then do let ok ←isTrue c X.env (Ln c);pure (ForInStep.yield ok)else pure (ForInStep.yield r)) (TP X pins σ Q) X.xe s
noncomputable def tYes:TT:=λ _ H Q=>Q true H
theorem za:PTs X [] tYes:=λ _ _ _ H _ I h=>wpAny_tests_nil ⟨H,I,h⟩
theorem zb(h:PT X c t):PTs X [c] t:=λ a s b H Q I d=>wpAny_tests_one (h a s b H Q I d)
def jV(J:It)(g:TG)(tc:TT)(te:TE)(Fin:ge V->Hp->Prop)(σ:St)(H:Hp):Prop:=
 ∃W:Nat->Nat->ge V->St->Hp->Prop,(∃m,W 0 m [] σ H)/\∀i m ys σ H,W i m ys σ H ->
  (J.stop i H/\Fin ys H)\/(J.go i H/\ys.length<sizeLine/\∀x H',J.yld i H x H'->g x σ H' λ σ2 H2=>tc σ2 H2 λ b H3=>
   if b=true then te σ2 H3 λ y H4=>∃m',m'<m/\W (i+1) m' (ys++[y]) σ2 H4 else ∃m',m'<m/\W (i+1) m' ys σ2 H3)
theorem Vals.snoc(r:Vals xs a)(q:RelV x u):Vals (xs++[x]) (a++[u]):=r.append (.cons q .nil)
theorem vrev(h:Vals xs a):Vals xs.reverse a.reverse:=by
 induction h with
 | nil=>exact .nil
 | cons x _ y=>rw[eU,eU];exact y.snoc x
theorem pL{X:Cx}{M:ge (Jl×Obj)}{σ:St}{H:Hp}{a:Jk}{K:ge Str}{scope:Jv}{fr:ge (Ji Nat)}{fp:ge Jl}{Z elt tg:Jn}{a2:ge Jn}{pos:Pos}{g:TG}{te:TE}{tc:TT}{it:Jl}{tn:Nat->Jm->Prop}{J:It}
     {b9:ge V->Hp->Prop} {RR:Jj->Env->Result->Jk->Prop} {x1:XK}
    (S:KY K) (hc:Lb)
    (hg:∀C j a F fp,PG (r3 X scope K C j a F fp x1) tg g) (ht:∀C j a F fp,PTs (r3 X scope K C j a F fp x1) a2 tc) (he:∀C j a F fp,PE (r3 X scope K C j a F fp x1) elt te)
    (I:Inv X M σ H a) (T:Turn X.prog X.w X.K tg J fp it tn) (st:tn 0 a.heap) (f:∀b∈fp,FpOk X M H b) (h:jV J g tc te b9 (inner fr σ) H)
    (hX:∀j (C:Nat) e A,C=a.heap.objs.size+1->(r3 X scope K C j a H fp x1).xe e A->notedBy JE X.A (compEnvC scope j C X.env) (λ e A=>RR (JR a.heap.objs.size) (compEnvC scope j C X.env) (.error e) A) e A)
    (c3:∀D C j H' A m P,Inv X M σ (upd H' D (.lst P)) A->H' D=none->A.heap.Ns C m->upd H' D (.lst P) C=none->C≠X.env.locals->X.s₀.heap.objs.size<=C->(∀x c,X.env.cells.lookup x=some c->c≠C)->(∀p∈X.pn++M,p.1≠C)->b9 P H'->RR (.ref D) (compEnvC scope j C X.env) (.ok .next) A) :
    wpAny JE X.A (newList []) (λ b7 a7=>wpAny JE X.A (newFunctionEnv scope X.env.globals (o5 X.env.cells scope.names []) [] X.env.qual none .none (some X.env)) (λ a0 a6=>
      codeAny JE X.A (.compStart (.ListComp elt [⟨tg,Z,a2,0⟩] scope pos) 0 (JR it) b7 {a0 with scope:=relabel scope X.env}) (RR b7 {a0 with scope:=relabel scope X.env}) a6) E a7) E a:=by
  have ho:∀b∈fp,b<a.heap.objs.size:=λ b w=>by obtain⟨o,e,_⟩:=T.obj _ _ st b w;exact j9 e
  refine C3 (yX ?_);have a9:(a.heap.push K1).objs.size=a.heap.objs.size+1:=F7 ..;obtain⟨I4,b5,keep⟩:=yZ (x1:=x1) (C:=a.heap.objs.size+1) S I f ho rfl rfl;show codeAny _ _ (.compStart _ 0 (JR it) (JR a.heap.objs.size) (compEnvC scope (cellsFrom ((a.heap.push K1).objs.size+1) scope.names (o5 X.env.cells scope.names [])) (a.heap.push K1).objs.size X.env)) (RR (JR a.heap.objs.size) (compEnvC scope (cellsFrom ((a.heap.push K1).objs.size+1) scope.names (o5 X.env.cells scope.names [])) (a.heap.push K1).objs.size X.env)) {a with heap:=pushCells ((a.heap.push K1).push cP) scope.names};rw[a9];have a4:=λ j e A=>hX j _ e A rfl
  clear hX
  generalize b3:a.heap.objs.size=D at *;generalize cellsFrom (D+1+1) scope.names (o5 X.env.cells scope.names [])=j at *;generalize pushCells ((a.heap.push K1).push cP) scope.names=h4 at *;have a3:∀{B:ge (Jl×Obj)} {H':Hp},(∀b∈fp,H' b=none)->(∀p∈B,p.1=D)->∀b∈fp,FpOk KB B H' b:=λ {B H'} hn O b w=>
    ⟨hn b w,(I4.ok.exf b w).1,I4.ok.exfs b w,.inl w,(I4.ok.exf b w).2,λ p R z=>by
      have R:p∈([]:ge (Jl×Obj))++B:=R;rw[jk]at R;have:=ho b w;rw[←z,O p R]at this;exact N3 _ this⟩
  obtain⟨W,⟨m0,w0⟩,turn⟩:=h;have b4:D≠(KB).env.locals:=by show D≠D+1;omega
  have U:∀x c,(KB).env.cells.lookup x=some c->c≠D:=λ x c e z=>by
    obtain⟨v,o,c0,hd⟩:=I4.cell x c e;have q:h4.get? D=some o:=by rw[←z];exact c0
    rw[b5]at q;cases q;cases hd
  have b2:D∉(KB).fs:=λ z=>by
    obtain⟨_,o,c1,_⟩:=I4.ok.funs.mem z
    have:=j9 c1;have e:a.heap.objs.size=D:=b3;exact absurd this (by show ¬D<a.heap.objs.size;omega)
  have Y:codeAny JE X.A (.compLoop (.ListComp elt [⟨tg,Z,a2,0⟩] scope pos) 0 (JR it) (.ref D) (compEnvC scope j (D+1) X.env)) (RR (.ref D) (compEnvC scope j (D+1) X.env)) {a with heap:=h4}:=by
    refine yY (λ n A=>∃i P l k a5 H',Inv KB [] a5 H' A/\tn i A.heap/\(∀b∈fp,H' b=none)/\H' D=none /\
      A.heap.get? D=some {cls:=.type "list",data:=.seq (l:ge Jj).toArray k} /\ Vals P l/\P.length<=sizeLine/\W i n P a5 H') ?_ m0
      ⟨0,[],[],_,_,H,I4,T.keep _ _ _ st λ b _ o e=>keep b o e,λ b w=>(f b w).1,I.hok.fresh JA,b5,.nil,E5 _,w0⟩
    rintro n s3 ⟨i,P,l,k,σ3,H3,I3,st3,fr3,hD3,oD3,rv,hl,w3⟩
    have b8:Inv KB [(D,{cls:=.type "list",data:=.seq l.toArray k})] σ3 H3 s3:=I3.pins_of λ p O=>by
      have e:p=(D,{cls:=.type "list",data:=.seq l.toArray k}):=by simpa using O
      subst e;exact⟨oD3,hD3,b4,b2,λ v z=>by cases z⟩
    have Q:∀p∈[((D:Jl),({cls:=.type "list",data:=.seq l.toArray k}:Obj))],p.1=D:=λ p O=>by
      have e:p=(D,{cls:=.type "list",data:=.seq l.toArray k}):=by simpa using O
      subst e;rfl
    rcases turn i n P σ3 H3 w3 with⟨a8,c7⟩ | ⟨go,hlt,step⟩
    · refine thn (T.done KB rfl rfl rfl hc i _ s3 σ3 H3 _ b8 (a3 fr3 Q) st3 a8) λ r s4 t0=>?_;obtain⟨hr,L⟩:=t0
      subst hr;have oD:=(L.pin (D,_) (x3 _ n9)).1;have un:Un (frs X.stack) fp H H3 a.heap s4.heap:=L.base;have hn:a.heap.get? D=none:=bV (by rw[b3];exact i8 _);obtain⟨mC,c2,_⟩:=L.loc;refine c3 D (D+1) j H3 s4 mC P (I.call' L.os (un.track hD3 hn) (L.hok.track hD3 ⟨hl,l,k,rv,oD⟩) L.bare λ b w=>?_) hD3 c2 ?_ ?_ ?_ (λ x c e=>?_) (λ p O=>?_) c7
      · obtain⟨_,f1,f2,f3,f4,f5⟩:=f b w
        exact⟨f3,f1,f4,f5⟩
      · rw[i9 (show @Ne Nat (D+1) D by omega)];exact L.free
      · have q:@LT.lt Nat _ X.env.locals a.heap.objs.size:=I.lt
        show @Ne Nat (D+1) X.env.locals;omega
      · have q:@LE.le Nat _ X.s₀.heap.objs.size a.heap.objs.size:=I.sz
        show @LE.le Nat _ X.s₀.heap.objs.size (D+1);omega
      · obtain⟨v,z⟩:=I.cell x c e
        have q:@LT.lt Nat _ c a.heap.objs.size:=z.lt;show @Ne Nat c (D+1);omega
      · have q:@LT.lt Nat _ p.1 a.heap.objs.size:=j9 (I.pin p O).1
        show @Ne Nat p.1 (D+1);omega
    · refine thn (T.item KB rfl rfl rfl hc i _ s3 σ3 H3 _ b8 (a3 fr3 Q) st3 go) λ r s4 t0=>?_;obtain⟨u,hr,c5⟩:=t0
      subst hr;refine thn c5 λ _ s5 t0=>?_;obtain⟨x,H5,I5,r5,y5,a1,c6⟩:=t0
      have c8:=I5.pinned (a3 c6 Q) (T.obj _ _ a1);refine u0 (hg (D+1) j a H fp _ s5 σ3 H5 x u _ c8 r5 (step x H5 y5)) (λ _ s6 ⟨N,H6,I6,q6⟩=>?_) λ e' s9 z=>a4 j e' s9 z;refine u0 (ht (D+1) j a H fp _ s6 N H6 _ I6 q6) (λ b s7 ⟨H7,I7,q7⟩=>?_) λ e' s9 z=>a4 j e' s9 z;have b6:∀{H':Hp} {A:Jk},Inv KB ([(D,{cls:=.type "list",data:=.seq l.toArray k})]++fI fp s5.heap) N H' A->tn (i+1) A.heap/\(∀b∈fp,H' b=none)/\A.heap.get? D=some {cls:=.type "list",data:=.seq l.toArray k} /\ H' D=none:=λ {H' A} J'=>by
        refine⟨T.keep _ _ _ a1 λ b w o e=>(J'.pin (b,o) (x3 _ (x3 _ (W4 w e)))).1,λ b w=>?_,?_,?_⟩
        · obtain⟨o,e,d⟩:=T.obj _ _ a1 b w
          exact(J'.pin (b,o) (x3 _ (x3 _ (W4 w e)))).2.1
        · exact(J'.pin (D,_) (x3 _ (D6 _ n9))).1
        · exact(J'.pin (D,_) (x3 _ (D6 _ n9))).2.1
      cases b with
      | false=>
        rw[g7 B5]at q7 ⊢;obtain⟨m',hm,w7⟩:=q7;obtain⟨k1,k2,k3,k4⟩:=b6 I7;exact⟨m',hm,i+1,P,l,k,N,H7,I7.pins_of (λ p O=>(nomatch O)),k1,k2,k4,k3,rv,hl,w7⟩
      | true=>
        rw[f8 rfl]at q7 ⊢;refine u0 (he (D+1) j a H fp _ s7 N H7 _ I7 q7) (λ y s8 ⟨v8,H8,I8,r8,q8⟩=>?_) λ e' s9 z=>a4 j e' s9 z
        obtain⟨m',hm,w8⟩:=q8;obtain⟨k1,k2,k3,k4⟩:=b6 I8;have b1:l.length<=sizeLine:=by rw[←rv.length];exact hl
        refine append_at k3 (λ h9 b0 c4=>?_) (by rw[u8];exact b1);have I9:Inv KB [] N H8 s8:=I8.pins_of λ p O=>(nomatch O);refine⟨m',hm,i+1,P++[v8],l++[y],k+1,N,H8,I9.turned (it:=D) (t':=s8.toks) (λ b o w e=>(b0.2 b w).trans e) k4 b4 (.inr (by show a.heap.objs.size<=D;omega)) U (λ p O=>(nomatch O)),?_,k2,k4,?_,rv.snoc r8,?_,w8⟩
        · exact T.keep _ _ _ k1 λ b w o e=>(b0.2 b (by have q:@LT.lt Nat _ b D:=ho b w;show @Ne Nat b D;omega)).trans e
        · rw[c4,List.push_toArray]
        · rw[t5,T6];omega
  exact codeAny_compStart_list Y (T.self X.A 0 _ _ _ (T.keep _ _ _ st λ b _ o e=>keep b o e) Y)
def zc(M:Model)(A:Jr)(E:Jj->Jk->Prop)(use:Ji (Jj->Sem Unit))(Q:Jj->Jk->Prop)(acc:Jj)(cenv:Env)(r:Result)(s':Jk):Prop:=
 match r,use with
 | .ok _,none=>∃m,s'.heap.Ns cenv.locals m/\∀h',Heap.SameBut cenv.locals s'.heap h'->Q acc {s' with heap:=h'}
 | .ok _,some u=>wpAny M A (u acc) (λ _ s''=>∃m,s''.heap.Ns cenv.locals m/\∀h',Heap.SameBut cenv.locals s''.heap h'->Q .none {s'' with heap:=h'}) E s'
 | .error x,_=>∃m,s'.heap.Ns cenv.locals m/\∀h',Heap.SameBut cenv.locals s'.heap h'->wpAny M A (passOn jU x cenv:Sem Jj) (λ _ _=>False) E {s' with heap:=h'}
theorem pM
     (hcl:clausesOf e=g::gs) (hs:∀x,foldedSetIterable g.iter env x=pure x) (hclos:closureFor scope env=pure cl)
    (hkind:scope.kind=.function) (hnames:∀x∈scope.names,x.2=NameKind.local->scope.names.lookup x.1=some NameKind.local)
    (h:wpAny M A fst1 (λ x s₁=>wpAny M A (pyIter x) (λ it s₂=>wpAny M A newAcc (λ acc s₃=>
      wpAny M A (newFunctionEnv scope env.globals cl [] env.qual none .none (some env)) (λ cenv s₄=>
        codeAny M A (.compStart e 0 it acc {cenv with scope:=relabel scope env}) (zc M A E use Q acc {cenv with scope:=relabel scope env}) s₄) E s₃) E s₂) E s₁) E s) :
    wpAny M A (comprehension e scope env pos newAcc false fst1 use) Q E s:=by
  unfold comprehension;rw[hclos,hcl];refine f0 (u0 h (λ x s₁ h₁=>f0 (cA (f0 (ag (hs x) (f0 (B6 (u0 h₁ (λ it s₂ h₂=>
    wpAny_standIf (f0 (u0 h₂ (λ acc s₃ h₃=>f0 (f9 (f0 (u0 h₃ (λ cenv s₄ h₄=>?_) λ _ _ z=>z)))) λ _ _ z=>z)))
      λ _ _ z=>z))))))) λ _ _ z=>z)
  dsimp only;have rel:∀{l:ge (Str×Jy)},(∀x∈l,x∈scope.names)->∀x∈l,x.2=NameKind.local->Env.kindOf {cenv with scope:=relabel scope env} x.1=some NameKind.local:=λ hl x hx hq=>lookup_relabel_local (hnames x (hl x hx) hq)
  have in0:∀x∈(scope.names.filter λ x=>(x.2==NameKind.local||x.2==NameKind.cell)&&x.1 != (".0" : Str)).reverse,x∈scope.names:=λ x hx=>(B8.mp (V7.mp hx)).1;have hv:=rel in0;have hv':=rel (l:=(scope.names.filter λ x=>(x.2==NameKind.local||x.2==NameKind.cell)&&x.1 != (".0" : Str)).reverse.drop 1++(scope.names.filter λ x=>(x.2==NameKind.local||x.2==NameKind.cell)&&x.1 != (".0" : Str)).reverse.take 1) λ x hx=>
    (D7.mp hx).elim (λ z=>in0 x (eK z)) λ z=>in0 x (eL z)
  refine B6 (f0 (Q7 (B6 (wpAny_run (N4 h₄ λ r s' hr=>?_)))));cases r with
  | ok f=>
    cases use with
    | none=>
      obtain⟨m,hn,hr⟩:=hr;exact f0 (B6 (jf (cenv:={cenv with scope:=relabel scope env}) hkind _ s' m hv hn λ h' m' _ hs'=>f9 (hr h' hs')))
    | some u=>
      refine f0 (bf (f0 (B6 (u0 hr (λ _ s'' ⟨m,hn,hr'⟩=>?_) λ _ _ z=>z))));exact f0 (jf (cenv:={cenv with scope:=relabel scope env}) hkind _ s'' m hv' hn λ h' m' _ hs'=>f9 (hr' h' hs'))
  | error x=>
    have hr':∃m,s'.heap.Ns cenv.locals m/\∀h',Heap.SameBut cenv.locals s'.heap h'->wpAny M A (passOn jU x {cenv with scope:=relabel scope env}:Sem Jj) (λ _ _=>False) E {s' with heap:=h'}:=by cases use<;>exact hr
    obtain⟨m,hn,hr⟩:=hr';exact f0 (B6 (jf (cenv:={cenv with scope:=relabel scope env}) hkind _ s' m hv hn λ h' m' _ hs'=>u0 (hr h' hs') (λ _ _ f=>f.elim) λ _ _ y=>y))
def jW(fr:ge (Ji Nat))(wi:TI)(g:TG)(tc:TT)(te:TE):TE:=λ σ H Q=>wi σ H λ J H1=>jV J g tc te (λ ys H'=>∀p,H' p=none->Q (.ref p) (upd H' p (Kx ys))) (inner fr σ) H1
theorem zd{U:XK->TE}(S:KY u)(hc:Lb)(Z:fQ X E)(hi:PI X tg i wi)
  (hg:∀C a c d f p,PG (r3 X scope u C a c d f p) tg g) (ht:∀C a c d f p,PTs (r3 X scope u C a c d f p) r W) (he:∀C a c d f p,PE (r3 X scope u C a c d f p) elt (U p))
  (hs:∀x,foldedSetIterable i X.env x=pure x:=by intro _;rfl):PE X (.ListComp elt [⟨tg,i,r,0⟩] scope pos) (λ k=>jW fr wi g W (U (E k)) k):=by
 intro l s k H Q I h;rw[eval_ListComp];refine pM rfl hs (fO (λ y hy hk=>I.ok.has y.1 (S.out y hy hk))) S.kind (λ x Z hl=>W5 S.snd Kz) (thn (hi l s k H _ I h) λ v s1 h1=>thn h1 λ itv s2 h2=>?_);obtain⟨it,f,tn,J,H2,e,I2,T,B,f2,w⟩:=h2;subst e;refine pL S hc (λ C a c d f=>hg C a c d f (E k)) (λ C a c d f=>ht C a c d f (E k)) (λ C a c d f=>he C a c d f (E k)) I2 T B f2 w (λ a C e Y hC z=>?_) ?_
 ·refine u0 (Z scope u a C l k H2 s2 f e Y I2 f2 hC z) (λ _ F ⟨m,n,q⟩=>⟨m,n,λ A j=>q A j _ rfl rfl⟩) λ e' F ⟨m,n,q⟩=>⟨m,n,λ A j=>q A j _ rfl rfl⟩
 intro D C a H' Y m ys I' hD K N P L O M R;exact⟨m,K,λ A j=>⟨.ref D,_,I'.turned (λ b o hb e=>(j.2 b hb).trans e) N P (.inr L) O M,rfl,R D hD⟩⟩
theorem ze{te:XK->TE}(S:KY M)(hc:Lb)(hx:fQ X E)(hN:X.N.Nodup)(Y:X.N[i]? = some y)
  (N:X.env.scope.names.lookup y=some .local) (hi:PI X tg j wi)
  (hg:∀C c d f k F,PG (r3 X scope M C c d f k F) tg g) (ht:∀C c d f k F,PTs (r3 X scope M C c d f k F) B tc) (he:∀C c d f k F,PE (r3 X scope M C c d f k F) elt (te F))
  (R:swapsWith (.ListComp elt [⟨tg,j,B,0⟩] scope pos) (some (.Name y py)) r.line X.env=pure true:=by rfl)
  (hs:∀x,foldedSetIterable j X.env x=pure x:=by intro _;rfl):PS X (.Assign [.Name y py] (.ListComp elt [⟨tg,j,B,0⟩] scope pos) r) (tAsg (λ p=>jW fr wi g tc (te (E p)) p) (cL i)):=by
 intro u s p H Dn I h;rw[exec_Assign_Name_used _ _ _ _ R];refine f0 (cA (f0 ?_));show wpAny _ _ _ _ _ s;refine f0 (u0 (pM rfl hs (fO (λ y N hk=>I.ok.has y.1 (S.out y N hk))) S.kind (λ x hx hl=>W5 S.snd Kz)
  (thn (hi u s p H _ I h) λ v s1 h1=>thn h1 λ itv s2 h2=>?_)) (λ _ Q hq=>f9 (f9 hq)) λ _ _ e=>e)
 obtain⟨it,k,tn,J,H2,e,I2,T,P,f2,w⟩:=h2;subst e;refine pL S hc (λ C c d f k=>hg C c d f k (E p)) (λ C c d f k=>ht C c d f k (E p)) (λ C c d f k=>he C c d f k (E p)) I2 T P f2 w (λ c C e Q hC z=>?_) ?_
 ·refine u0 (hx scope M c C u p H2 s2 k e Q I2 f2 hC z) (λ _ A ⟨m,n,q⟩=>⟨m,n,λ O l=>q O l _ rfl rfl⟩) λ e' A ⟨m,n,q⟩=>⟨m,n,λ O l=>q O l _ rfl rfl⟩
 intro D C c H' Q m ys I' hD W a1 L Z K a0 a2;refine wpAny_assign_Name (oE (v:=.ref D) I' hN Y (Or.inl N) rfl (λ A a3 ⟨a,U,ha⟩=>⟨m,W.sameBut U ?_,λ O l=>⟨_,_,a3.turned (λ b o hb e=>(l.2 b hb).trans e) a1 L (.inr Z) K a0,a2 D hD⟩⟩) (.inr N));rcases ha with z | z
 ·rw[z];exact L
 ·exact Ne.symm (K y a z)
theorem Un.flown{B:Jm}(u:Un fs ex H r g k)(cov:∀b o,g.get? b=some o->b∉fs->b∉ex->∃f,B.get? b=some f)(s1:∀b o,B.get? b=some o->k.get? b=some o)(m:∀b o,B.get? b=some o->h.get? b=some o)
  (w:k.UpToSlots h) (fd:∀b∈fs,b∉ex/\H b=none/\∀o,g.get? b=some o->∀v,o.data ≠ .fields v):Un fs ex H r g h:=by
 have keep:∀b o,g.get? b=some o->H b=none->b∉fs->b∉ex->h.get? b=some o:=λ b o e n a d=>by have l:=u.keep b o e n a d;obtain⟨f,q⟩:=cov b o e a d;have p:=s1 b f q;rw[l]at p;cases p;exact m b o q
 have c:∀b o,g.get? b=some o->H b=none->b∈fs->b∉ex->∃j,h.get? b=some {o with slots:=j}:=λ b o e n a d=>by obtain⟨j,l⟩:=u.slot b o e n a d;obtain⟨i,x⟩:=w b _ l ((fd b a).2.2 o e);exact⟨i,x⟩
 refine⟨keep,c,u.free,λ b o e d=>?_,u.tups,u.frzs,u.tbls⟩;by_cases a:b∈fs
 ·obtain⟨j,q⟩:=c b o e (fd b a).2.1 a d;exact⟨_,q⟩
 ·obtain⟨f,q⟩:=cov b o e a d;exact⟨f,m b f q⟩
theorem Inv.frameData(I:JI pins):∀b∈X.fs,b∉X.ex/\X.H₀ b=none/\∀o,X.s₀.heap.get? b=some o->∀f,o.data ≠ .fields f:=λ b a=>by
 refine⟨λ z=>I.ok.exfs b z a,I.ok.frf.1 b a,λ o e=>?_⟩;obtain⟨_,o',c,d⟩:=I.ok.funs.mem a
 rw[e]at c;cases c;exact d
theorem Inv.notStk(I:JI pins)(e:X.s₀.heap.get? b=some o)(a:b∉X.fs):b∉frs X.stack:=λ z=>by
 rcases h8.mp (I.stkSub b z)with q | q
 ·exact absurd (r9 (j9 e) I.ok.above) Kz
 ·exact a q
theorem Inv.flown{X:Cx}{pins:ge (Jl×Obj)}{σ:St}{H:Hp}{s:Jk}{h':Jm}{t':Nat}{l:ge Env}{ea:Jl}{C:Jj}{B:Jm}(I:JI pins)(F:Fly X.prog X.w X.base l ea C H B s.heap)(cov:∀b o,X.s₀.heap.get? b=some o->b∉frs X.stack->b∉X.ex->∃o',B.get? b=some o')
  (pc:∀p∈X.pn++pins,∃o',B.get? p.1=some o') (st:∀b o,B.get? b=some o->h'.get? b=some o) (up:s.heap.UpToSlots h'):Inv X pins σ H {s with heap:=h',toks:=t'}:=by
 have cellK:∀c v,s.heap.IsCell c v->h'.IsCell c v:=λ c v ⟨o,ho,hd⟩=>by obtain⟨sl,q⟩:=up c o ho (λ vs z=>by rw[hd]at z;cases z);exact⟨_,q,hd⟩
 refine⟨I.ok,I.os,I.bare,I.base.flown (λ b o e hb hx=>cov b o e (I.notStk e hb) hx) F.stays st up I.frameData,?_,λ x c e=>?_,I.free,I.freeC,λ p hp=>?_,F.hok.kept st,I.len⟩
 ·obtain⟨m,hn,hl⟩:=I.loc;refine⟨m,up.ns hn,λ i x v e1 e2 e3=>?_⟩;obtain⟨u,r,l⟩:=hl i x v e1 e2 e3;refine⟨u,r,?_⟩;rcases l with l | ⟨k,c,e,z⟩
  ·exact .inl l
  ·exact .inr ⟨k,c,e,cellK c _ z⟩
 ·obtain⟨v,z⟩:=I.cell x c e;exact⟨v,cellK c v z⟩
 ·obtain⟨e,n,ne,nf,d⟩:=I.pin p hp;obtain⟨o',q⟩:=pc p hp;have q1:=F.stays _ _ q;rw[e]at q1;cases q1;exact⟨st _ _ q,n,ne,nf,d⟩
section
variable {P:Jq} {w:Jp} {K:Ju} {mg:Str->Ji Jj} {base:Jm} {N:ge Str} {qual:Str} {scope:Jv} {f:Jl} {cd:Jj} {A:Jr} {outer:ge Env} {s:Jk} {H:Hp} {E:XK}
abbrev cxD(P:Jq)(w:Jp)(K:Ju)(mg:Str->Ji Jj)(base:Jm)(N:ge Str)(qual:Str)(scope:Jv)(f:Jl)(cd:Jj)(A:Jr)(outer:ge Env)(s:Jk)(H:Hp)(E:XK):Cx:=
 cxOf (CXx P w base) P w K mg base N qual scope f cd A outer s H E
theorem zf(I:Inv JO k σ r s1)(x:Heap.MadeExcOf s1.heap h' p C vs)(O:E C none r) :
  (JO).xe (.ref p) {s1 with heap:=h'}:=by
 have c:=I.stack;have y:∀i∈(cxD P w K mg base N qual scope f cd A outer s H E).stack,∀a,i.frame=some a->a∈frs (JO).stack:=λ i L b g=>aQ.mpr ⟨i,L,g⟩;have m:∀b o,(PySem.W.hideAll s1.heap (frs (JO).stack)).get? b=some o->s1.heap.get? b=some o:=λ b o q=>PySem.W.of_hideAll _ q;have l:∀b u,r b≠none->s1.heap.get? b=some u->(PySem.W.hideAll s1.heap (frs (JO).stack)).get? b=some u:=λ b u g q=>eM _ q λ z=>g (I.stkFree b z);refine u0 ((pH _ _).any (wpAny_leaves_madeW (Q:=λ _ B=>∃j t,B = {s1 with heap:=j} /\ Heap.FlyingW (PySem.W.hideAll s1.heap (frs (JO).stack)) outer p C (.ref t) j/\h'.UpToSlots j) (E:=λ _ _=>False) (base:=PySem.W.hideAll s1.heap (frs (JO).stack)) (h:=s1.heap) I.ok.frames rfl m (PySem.W.funFrames_hide c y) x λ j t n tup nt v=>⟨j,t,rfl,n,v⟩)) (λ _ B ⟨⟨j,t,S,n,v⟩,st⟩=>?_) (λ _ _ q=>q.1.elim);subst S;have d:∀b o,s.heap.get? b=some o->b∉frs outer->∃J,(PySem.W.hideAll s1.heap (frs (JO).stack)).get? b=some J:=λ b o e g=>by obtain⟨F,R⟩:=I.base.there b o e (by intro z;exact nomatch z);exact⟨F,eM _ R (I.notStk e g)⟩
 refine⟨p,C,r,_,rfl,I.os,I.bare,I.base.flown (λ b o e g _=>d b o e g) m n.1 ((Heap.UpToSlots.of_keeps x.keeps).trans v) I.frameData,⟨⟨_,n⟩,λ b o e=>?_,λ a o q=>?_,(Ctxd.made x).st st⟩,d,O⟩
 ·refine eM _ (I.bk b o e) λ z=>?_;have q:base.get? b=none:=(c.mem z).1;rw[q]at e;cases e
 ·refine(I.hok a o q).stay (λ b u M e=>l b u ?_ e) (λ _ z=>z) (λ _ _ z=>z) (λ _ _ z=>z) λ _ _ _ _ _ z=>z;rcases M with z | z
  ·subst z;rw[q];intro z;cases z
  ·rw[z];intro z;cases z
theorem zg(I:Inv JO g σ i s1)(F:Fly P w base (JO).stack h C i B s1.heap)
  (cov:∀b o,s.heap.get? b=some o->b∉frs (JO).stack->∃m,B.get? b=some m) (n:E C none i):(JO).xe (.ref h) s1:=by
 obtain⟨u,p⟩:=F.fly;refine u0 ((pH _ _).any (wpAny_leaves_onW (Q:=λ _ l=>∃d,l = {s1 with heap:=d} /\ Heap.FlyingW B outer h C u d/\s1.heap.UpToSlots d) (E:=λ _ _=>False) I.ok.frames rfl p λ d a j=>⟨d,rfl,a,j⟩)) (λ _ l ⟨⟨d,r,a,j⟩,st⟩=>?_) (λ _ _ q=>q.1.elim);subst r;have c:=λ b o e k=>cov b o e (I.notStk e k)
 exact⟨h,C,i,B,rfl,I.os,I.bare,I.base.flown (λ b o e k _=>c b o e k) F.stays a.1 j I.frameData,⟨⟨_,a⟩,F.bas,F.hok,F.ctx.st st⟩,c,n⟩
theorem zh:jJ (CXx P w base) JO E:=by
 intro g σ H0 s0 e s' I c;obtain⟨ea,C,H',B,rfl,h,a,un,F,cov,j⟩:=c;refine zg (I.call' h un (F.hok.kept F.stays) a λ b d=>nomatch d) F (λ b o e d=>?_) j;obtain⟨i,k⟩:=I.base.there b o e (by intro z;exact nomatch z);exact cov b i k d
end
noncomputable def excO(ea:Jl)(C:Jj):HO:=.ext λ h=>∃oe vs,h.get? ea=some oe/\oe.cls=C/\oe.data=.fields vs
theorem zi(x:∃a b,h.get? f=some a/\a.cls=C/\a.data=.fields b):t9 P w H h f (excO f C):=by
 refine⟨x,?_,λ h1 h2 p k=>?_⟩
 ·obtain⟨a,_,e,_⟩:=x;exact⟨a,e⟩
 ·obtain⟨a,b,e,c,d⟩:=p;exact⟨a,b,k a e,c,d⟩
def XP(X:Cx)(pins:Kk)(E:St->Jj->Hp->Prop)(e:Jj)(s':Jk):Prop:=∃(ea:Jl) (C:Jj) (σ':St) (H':Hp) (B:Jm),e=.ref ea/\Inv X pins σ' H' s'/\Fly X.prog X.w X.base X.stack ea C H' B s'.heap /\
 (∀b o,X.s₀.heap.get? b=some o->b∉frs X.stack->b∉X.ex->∃o',B.get? b=some o')/\(∀p∈X.pn++pins,∃o',B.get? p.1=some o')/\E σ' C H'
abbrev Cx.tryIn(X:Cx)(pins:Kk)(E:St->Jj->Hp->Prop):Cx:={X with pn:=X.pn++pins,xe:=XP X pins E}
abbrev Cx.inExc(X:Cx)(ea:Jl):Cx:={X with A:=X.A.mark (some (JR ea)),calm:=false,xe:=λ _ _=>False}
theorem Cx.Ok.tryIn{X:Cx}(k:X.Ok):(X.tryIn pins E).Ok:=⟨k.mod,k.kind,k.glob,k.blt,k.above,k.inj,k.has,k.cab,k.hd,k.frames,k.stk,k.exf,k.bs,k.bsz,k.noex,k.exfs,k.funs,k.frf⟩
theorem Cx.Ok.untry{X:Cx}(k:(X.tryIn pins E).Ok):X.Ok:=⟨k.mod,k.kind,k.glob,k.blt,k.above,k.inj,k.has,k.cab,k.hd,k.frames,k.stk,k.exf,k.bs,k.bsz,k.noex,k.exfs,k.funs,k.frf⟩
theorem Cx.Ok.inExc{X:Cx}(k:X.Ok):(X.inExc ea).Ok:=⟨k.mod,k.kind,k.glob,k.blt,k.above,k.inj,k.has,k.cab,nofun,k.frames,k.stk,k.exf,k.bs,k.bsz,k.noex,k.exfs,k.funs,k.frf⟩
theorem Inv.tryIn(I:JI (a++pins')):Inv (X.tryIn a E) pins' σ H s:=
 ⟨I.ok.tryIn,I.os,I.bare,I.base,I.loc,I.cell,I.free,I.freeC,λ p b=>I.pin p (by have b:=b;rw[T7]at b;exact b),I.hok,I.len⟩
theorem Inv.untry(I:Inv (X.tryIn pins E) pins' σ H s):Inv X (pins++pins') σ H s:=
 ⟨I.ok.untry,I.os,I.bare,I.base,I.loc,I.cell,I.free,I.freeC,λ p hp=>I.pin p Kz,I.hok,I.len⟩
theorem Inv.inExc(I:JI a):Inv (X.inExc b) a σ H s:=⟨I.ok.inExc,I.os,I.bare,I.base,I.loc,I.cell,I.free,I.freeC,I.pin,I.hok,I.len⟩
theorem Inv.unExc(I:Inv (X.inExc b) a σ H s)(k:X.Ok):Inv X a σ H s:=⟨k,I.os,I.bare,I.base,I.loc,I.cell,I.free,I.freeC,I.pin,I.hok,I.len⟩
theorem Inv.track(I:JI pins)(f:H a=none)(k:X.s₀.heap.get? a=none)(j:a≠X.env.locals)(i:∀x c,X.env.cells.lookup x=some c->c≠a)(h:∀p∈X.pn++pins,p.1≠a)(new:t9 X.prog X.w (upd H a o) s.heap a o) :
  Inv X pins σ (upd H a o) s:=
 ⟨I.ok,I.os,I.bare,I.base.track f k,I.loc,I.cell,by rw[i9 j.symm];exact I.free,λ x c e=>by rw[i9 (i x c e)];exact I.freeC x c e,λ p b=>by
  obtain⟨e,n,ne,g,d⟩:=I.pin p b;exact⟨e,by rwa [i9 (h p b)],ne,g,d⟩,I.hok.track f new,I.len⟩
theorem fR(I:JI g)(hN:X.N.Nodup)(O:X.N[i]? = some x)(l:X.env.scope.names.lookup x=some .local)
  (h:∀N,Inv X g (σ.set i none) H N->Q () N):wpAny M A (do bindName X.env x .none;unbindBehindTheSuite X.env x pos) Q EE s:=by
 obtain⟨m,hn,hl⟩:=id I.loc;have w:(X.env.scope.kind == .class||(X.env.scope.kind == .module&&X.env.locals != X.env.globals))=false:=by rw[I.ok.kind];rfl
 have u:i<σ.length:=by rw[I.len];exact(v4.mp O).1
 have cne:=I.cne;have a:∀{C:Jm},Heap.SameBut X.env.locals s.heap C->HOk X.prog X.w H C:=λ {C} f b W e=>by
  refine(I.hok b W e).stay (λ c L B q=>(f.2 c ?_).trans q) (λ _ q=>q) (λ _ _ q=>q) (λ _ _ q=>q) λ _ _ _ _ _ q=>q
  rintro rfl
  rcases B with rfl | B
  ·rw[I.free]at e;cases e
  ·rw[I.free]at B;cases B
 refine wpAny_nameGoes_keeps l hn w λ C v F f=>?_;refine h _ ⟨I.ok,I.os,I.bare,⟨λ b o e n K l=>?_,λ b o e n K l=>?_,I.base.free,λ b o e l=>?_,I.base.tups,I.base.frzs,I.base.tbls⟩,⟨_,F,λ j y P r E e3=>?_⟩,λ y c e=>?_,I.free,I.freeC,λ p hp=>?_,a f,by simpa using I.len⟩
 ·exact(Lw).trans (I.base.keep b o e n K l)
 ·obtain⟨S,r⟩:=I.base.slot b o e n K l;exact⟨S,(Lw).trans r⟩
 ·obtain⟨Y,r⟩:=I.base.there b o e l;exact⟨Y,(Lw).trans r⟩
 ·by_cases J:j=i
  ·subst J;rw[F5 u]at E;cases E
  ·rw[u5 (Ld J)]at E;obtain⟨R,U,q⟩:=hl j y P r E e3;refine⟨R,U,?_⟩;rcases q with⟨k,e⟩ | ⟨k,c,e,z⟩
   ·refine .inl ⟨k,?_⟩;have:y≠x:=λ e=>J (fC hN r (e▸O));simp[this,e]
   ·exact .inr ⟨k,c,e,z.sameBut f (cne y c e)⟩
 ·obtain⟨L,z⟩:=I.cell y c e;exact⟨L,z.sameBut f (cne y c e)⟩
 ·obtain⟨e,n,ne,Z,d⟩:=I.pin p hp;exact⟨(f.2 p.1 ne).trans e,n,ne,Z,d⟩
def W6(CX:CXT)(X:Cx)(E:St->XK):Prop:=∀(pins:Kk) (σ:St) (H:Hp) (s:Jk) (e:Jj) (s':Jk),Inv X pins σ H s->CX X.stack H s (E σ) e s'->X.xe e s'
theorem jJ.s(h:jJ b X E):W6 b X λ _=>E:=λ a c H s e d I q=>h a c H s e d I q
theorem zj{X:Cx}:W6 (CXx X.prog X.w X.base) (X.tryIn a E) (λ f C _ H=>E f C H):=by
 intro g f H0 s0 e s' I i;obtain⟨u,C,x,B,rfl,k,c,un,F,cov,r⟩:=i;have w:=I.call' k un (F.hok.kept F.stays) c λ b j=>nomatch j
 have J:=w.untry;refine⟨u,C,f,x,B,rfl,J.pins_of λ p h=>J.pin p (x3 _ (D6 _ h)),F,λ b o e j q=>?_,λ p h=>?_,r⟩
 ·obtain⟨l,v⟩:=I.base.there b o e q;exact cov b l v j
 ·obtain⟨e,n,ne,m,d⟩:=I.pin p (D6 _ h);exact cov p.1 p.2 e λ z=>(h8.mp (I.stkSub _ z)).elim ne m
section
variable {X:Cx} {CX:CXT} {k:Nat} {f C:Jl} {fd:Jt} {ps:ge Str} {sp:Sp} {dvs:ge V} {ds:ge Jj} {E:St->XK} {x m:Str} {p pos apos:Pos} {e o:Jn} {es:ge Jn} {ta:TE} {t:TA}
theorem pN(F:FnOk X.prog X.w X.K X.mg X.base CX k f fd ps sp)(j:Room k X.A)(n:L9 X.K fd ps ds)(m:Vals dvs ds)(i:W6 CX X E)
  (I:JI a) (r:Vals vs b) (h:sp (vs++dvs) H Q (E σ)):wpAny JE X.A (call (.ref f) b) (EP X a σ Q) X.xe s:=by
 have d:=r.append m;have l:(b++ds).length=ps.length:=by rw[←d.length];exact F.len _ _ _ _ h
 refine cI (N4 (F.run X.A X.stack s H ⟨b,[]⟩ _ _ Q (E σ) j I.env0 (n s b I.kIn l) d h) λ r g c=>?_);cases r with
 | error e=>exact i a σ H s e g I c
 | ok o=>
  cases o with
  | ret u=>exact I.after c
  | next=>exact False.elim c
  | brk=>exact False.elim c
  | cont=>exact False.elim c
noncomputable def jX(sp:Sp)(dvs:ge V)(E:St->XK)(t:TA):TE:=λ σ H Q=>t σ H λ vs H1=>sp (vs++dvs) H1 Q (E σ)
theorem zk(F:FnOk X.prog X.w X.K X.mg X.base CX k f fd ps sp)(j:Room k X.A)(n:Gl X x)(l:X.mg x=some (.ref f))(m:PySem.W.keepIn X.K (.ref f)=true)(v:L9 X.K fd ps ds)(u:Vals dvs ds)(i:W6 CX X E)
  (w:PA X (e::es) t) (c:Kn=false:=by decide) (o:starEach (e::es) X.env=(Ly e)::starEach es X.env:=by rfl) (b:(KO pos es).any (·.1)=false:=by rfl) :
  PE X (Kj x) (jX sp dvs E t):=by
 intro a s g H Q I h;refine Z6 (fE I n l ?_ c);refine PySem.W.callWith_K I.ok.mod.kin m (thn (w pos a s g H _ I h) λ us s1 ⟨vs,H1,d,r,q⟩=>⟨d.kIn,?_⟩) o b;exact pN F j v u i d r q
end
def tTry(K:Ju)(cv:Jj)(i:Nat)(tb:(St->Jj->Hp->Prop)->TS)(ts:TS):TS:=λ D σ H=>
 tb (λ σ' C H'=>PySem.W.exmOne K C cv=some true/\∀ea,H' ea=none->ts {nx:=λ σ2 H2=>D.nx (σ2.set i none) H2,rt:=D.rt,bk:=λ σ2 H2=>D.bk (σ2.set i none) H2,ct:=λ σ2 H2=>D.ct (σ2.set i none) H2} (σ'.set i (some (JR ea))) (upd H' ea (excO ea C))) D σ H
theorem zm(a1:X.stack=X.env::X.outer)(b4:X.env.frame=some X.env.locals)(b5:X.ex=[])(b3:Gl X c)(hm:X.mg c=some cv)
  (hN:X.N.Nodup) (hi:X.N[i]? = some n) (Z:X.env.scope.names.lookup n=some .local) (hb:∀a E,PSs (X.tryIn a E) body (tb E)) (hs:∀g,PSs (X.inExc g) (N::r) ts) (hd:(c==("__debug__" : Str))=false:=by decide) :
  PS X (.Try body [.ExceptHandler (some (.Name c np)) (some n) (N::r) a2] [] [] pos) (tTry X.K cv i tb ts):=by
 intro a s σ H D I h;refine wpAny_Try_except ?_;have un:∀{b:St} {k:Hp} {s1:Jk} {E:St->Jj->Hp->Prop},Inv (X.tryIn a E) [] b k s1->Inv X a b k s1:=λ {b k s1 E} J=>by have q:=J.untry;rw[E4]at q;exact q
 refine u0 (hb a _ [] s σ H D (Inv.tryIn (pins':=[]) (by rw[E4];exact I)) h) (λ f s1 q=>?_) (λ e s1 q=>?_)
 ·cases f with
  | next=>obtain⟨b,k,A,Q⟩:=q;exact cf ⟨b,k,un A,Q⟩
  | brk=>obtain⟨b,k,A,Q⟩:=q;exact⟨b,k,un A,Q⟩
  | cont=>obtain⟨b,k,A,Q⟩:=q;exact⟨b,k,un A,Q⟩
  | ret u=>obtain⟨v,b,k,A,r1,Q⟩:=q;exact⟨v,b,k,un A,r1,Q⟩
 ·obtain⟨g,C,b,k,B,rfl,A,F,cov,pc,hE,L⟩:=q;obtain⟨a0,fl⟩:=F.fly;have b6:Heap.FlyingW B (X.env::X.outer) g C a0 s1.heap:=by rw[←a1];exact fl
  refine wpAny_looks_onW (by rw[←a1];exact A.ok.frames) b4 b6 λ h4 a4 b0=>?_;refine wpAny_landsW a4 λ h5 S a9=>?_;have up:=b0.trans a9;have I5:Inv X a b k {s1 with heap:=h5}:=A.flown (t':=s1.toks) F cov pc S.1 up;have J5:Inv (X.inExc g) a b k {s1 with heap:=h5}:=I5.inExc;obtain⟨oe,ws,b2,a3,b7,b8⟩:=S.first
  refine wpAny_handleBy_cons (codeAny_handlers_test ?_) (by intro q;cases q);refine fE J5 b3 hm ?_ hd;have LT:PySem.W.Looks JE h5 (typeOf (.ref g)) C:=a3▸(PySem.W.Looks.ld b2).andThen .now;refine(PySem.W.exm_one (M:=model X.prog X.w) (K:=X.K) (h:=h5) J5.kIn LT hE).here ?_;show codeAny _ _ _ _ _;refine codeAny_handlers_suite_as ?_;refine lands_againW S λ h6 a5 a8=>?_;have I6:Inv X a b k {s1 with heap:=h6}:=A.flown (t':=s1.toks) F cov pc a5.1 (up.trans a8);obtain⟨b1,a7,l,R,j,_⟩:=a5.first
  have hn:k g=none:=F.untr;have h0:X.s₀.heap.get? g=none:=by
   cases q:X.s₀.heap.get? g with
   | none=>rfl
   | some o=>
    exfalso;by_cases hf:g∈frs X.stack
    ·obtain⟨_,o',e',d⟩:=I6.stack.mem hf;have a6:h6.get? g=some o':=e';rw[l]at a6;cases a6;exact d _ j
    ·obtain⟨o',z⟩:=cov g o q hf (by rw[b5];intro z;exact nomatch z);rw[F.newE]at z;cases z
  have hL:g≠X.env.locals:=λ z=>by
   obtain⟨m,⟨o,es,ep,ho,y,_⟩,_⟩:=I6.loc;have w:h6.get? g=some o:=by rw[z];exact ho
   rw[l]at w;cases w;rw[j]at y;cases y
  have hc:∀x c,X.env.cells.lookup x=some c->c≠g:=λ x c e z=>by
   obtain⟨v,o,ho,y⟩:=I6.cell x c e;have w:h6.get? g=some o:=by rw[←z];exact ho
   rw[l]at w;cases w;rw[j]at y;cases y
  have hp:∀p∈X.pn++a,p.1≠g:=λ p hp z=>by obtain⟨o',q⟩:=pc p hp;rw[z,F.newE]at q;cases q
  refine fD (X:=X.inExc g) (i:=i) (v:=.ref g) ((I6.track hn h0 hL hc hp (zi ⟨b1,a7,l,R,j⟩)).inExc) hN hi (Or.inl Z) rfl (λ s7 I7=>?_) (.inr Z);refine u0 (hs g a s7 _ _ _ I7 (L g hn)) (λ f s8 q=>?_) λ _ _ z=>z.elim;cases f with
  | next=>obtain⟨O,Y,W,P⟩:=q;exact fR (W.unExc I.ok) hN hi Z λ s9 U=>⟨_,Y,U,P⟩
  | brk=>obtain⟨O,Y,W,P⟩:=q;exact fR (W.unExc I.ok) hN hi Z λ s9 U=>⟨_,Y,U,P⟩
  | cont=>obtain⟨O,Y,W,P⟩:=q;exact fR (W.unExc I.ok) hN hi Z λ s9 U=>⟨_,Y,U,P⟩
  | ret u=>obtain⟨v,O,Y,W,r8,P⟩:=q;exact fR (W.unExc I.ok) hN hi Z λ s9 U=>⟨v,_,Y,U,r8,P⟩
theorem zn{K:Ju}(X:K.In b)(g:mg x=some (.ref C))(q:PySem.W.excIn K C f a=true):OwnCls x C f a mg b:=by
 refine⟨g,?_⟩;unfold PySem.W.excIn at q;split at q
 ·rename_i F H i A;split at q
  ·rename_i C' I p o m k n j g hs;simp[f7,g9,t8]at q;obtain⟨⟨⟨⟨⟨rfl,rfl⟩,c⟩,z⟩,d⟩,e⟩:=q;obtain⟨w,bs,y,v,u,B,r,sub,J,col,E⟩:=H;dsimp at g c d e;subst g c;have h:i = #[p,o,m,k,some (.builtin n),j]:=by obtain⟨l⟩:=i;simp at hs;rw[hs]
   subst h;exact⟨I,v,w,u,bs,B,r,sub,J,col,F,p,o,m,k,j,_,X _ _ A,.of_isNs (PySem.W.isNs_of_in X d),PySem.W.nsMap_none_of_in X d e,PySem.W.tail_of_in X z⟩
  ·cases q
 ·cases q
def fT(X:Cx)(E:St->XK):Prop:=∀(pins:Kk) (σ:St) (H:Hp) (s:Jk) (h':Jm) (ea:Jl) (C:Jj) (vs:ge Jj),Inv X pins σ H s->Heap.MadeExcOf s.heap h' ea C vs->E σ C none H->X.xe (JR ea) {s with heap:=h'}
theorem zo{P:Jq}{w:Jp}{K:Ju}{mg:Str->Ji Jj}{base:Jm}{N:ge Str}{qual:Str}{scope:Jv}{f:Jl}{cd:Jj}{A:Jr}{outer:ge Env}{s:Jk}{H:Hp}{E:XK} :
  fT JO λ _=>E:=λ pins σ H1 s1 h' ea C vs I hx hE=>zf I hx hE
noncomputable def zp(C:Jl)(E:St->XK)(t:TA):TS:=λ _ σ H=>t σ H λ vs H1=>vs.length<=sizeLine/\E σ (.ref C) none H1
theorem zq{rest:ge Jn}(u:ExcBaseFacts B b c i)(S:Lb)(Q:Gl X x)(p:X.mg x=some (.ref C))(O:PySem.W.excIn X.K C i b=true)
  (W:fT X E) (U:PA X (a::rest) t) (R:Kn=false:=by decide) (r:starEach (a::rest) X.env=(Ly a)::starEach rest X.env:=by rfl) (k:(KO cpos rest).any (·.1)=false:=by rfl) :
  PS X (.Raise (some (.Call (.Name x np) (a::rest) [] cpos)) none pos) (zp C E t):=by
 intro d s n H D I h;obtain⟨tl,N,z,q,bs,g,w,sub,ab,col,dd,M,L,K,J,F,A,hC,Y,l,T⟩:=(zn I.mod.kin p O).obj;refine wpAny_Raise_call_subT (nm:=z) (q:=q) (N:=N) (bs:=bs) (hdct:=g) (sn:=w) (sub:=sub) (ab:=ab) (col:=col) (dd:=dd) (k0:=M) (k1:=L) (k2:=K) (k3:=J) (k5:=F)
  u (T.hasType u.hasBase) (I.ok.hd S) (by rw[r];show(false||(backTo cpos _).any (·.1))=false;rw[k];rfl) l (fE I Q p ⟨rfl,?_⟩ R)
 have o:=U cpos d s n H _ I h;rw[r]at o ⊢;exact eJ (thn o λ v f ⟨xs,H2,j,y,P,Z⟩=>⟨rfl,by show v.length<=sizeLine;rw[←y.length];exact P,j.bk _ _ hC,Y.keeps j.bk,T.keeps j.bk,λ h' e m=>W d n H2 f h' e _ _ j m Z⟩)
open PySem.W PySem.Calls PySem.Builtin PySem.Builtin.ObjectAttr PySem.Builtin.Getset_descriptor
def W7(x D:Jl)(h:Jm):Prop:=∃o,h.get? x=some o/\o.cls=.ref D
section
variable {prog:Jq} {w:Jp} {K:Frag} {x D:Jl} {M:Model} {h:Jm}
theorem W7.ty(p:W7 x D h):Looks M h (typeOf (.ref x)) (.ref D):=by
 obtain⟨o,e,c⟩:=p;exact c▸(Looks.ld e).andThen .now
theorem zr(X:K.In h)(d:findIn K (.ref D) n=some (some a))(c:specialIn K a "__get__" = some (some g))(b:takesIn K a=some true):Looks M h (find (.ref x) (.ref D) n) (.bind g a):=by
 have T:Looks M h (dataDescriptor? (some a) (some g)) _:=(looks_takesIn X b).andThen .now;exact(looks_findIn X d).andThen ((looks_specialIn X c).andThen (T.andThen (Looks.tag .now)))
structure ClsK(K:Frag)(D:Addr):Prop where
 ga:findIn K (.ref D) "__getattribute__" = some (some (.builtin "BaseException.__getattribute__"))
 gt:findIn K (.ref D) "__getattr__" = some none
 mb:mroIn K D (.type "BaseException")=some true
 hd:hasDictIn K D=true
 fc:findIn K (.ref D) "__class__" = some (some (.builtin "object.__class__"))
 sg:specialIn K (.builtin "object.__class__") "__get__" = some (some (.builtin "getset_descriptor.__get__"))
 tk:takesIn K (.builtin "object.__class__")=some true
 mo:mroIn K D (.type "object")=some true
theorem zt(X:K.In s.heap)(p:W7 x D s.heap)(b:mroIn K D (.type "object")=some true)(q:R (.ok (.ret (.ref D))) s) :
  codeAny JG A (.call (.builtin "getset_descriptor.__get__") ⟨[.builtin "object.__class__",.ref x,a],[]⟩) R s:=by
 obtain⟨h0,g0,d0,t0,o0⟩:=s;have T0:=p.ty (M:=model prog w);have T1:=looks_mroIn (M:=model prog w) X b;refine iQ KF.slot_gs.plain KF.entry_gs (KF.slot_gs.check _ _ _ _ _ _ _ _ KF.type_class (KF.args_gs _ _ _) ?_);unfold Builtin.«getset_descriptor.__get__»;unfold descrGet;rw[dga_obj];refine f0 (f9 ?_);unfold descrGetter;unfold descrCheckInstance;unfold descrNameAndClass;unfold isInstance;simp only[KF.owner_class]
 repeat lk
 refine⟨Code.quiet_builtin _ KA,Q6 KF.entry_class ?_⟩;unfold Builtin.«object.__class__»;unfold shownTypeOf
 repeat lk
 exact q
theorem zu(C:ClsK K D)(X:K.In s.heap)(p:W7 x D s.heap)(q:Q () s):wpAny JG A (checkBuiltinCall "BaseException.__getattribute__" ⟨[.ref x,nm],[]⟩) Q E s:=by
 obtain⟨h0,g0,d0,t0,o0⟩:=s;have b:builtinKind "BaseException.__getattribute__" = some .slot:=by decide +kernel
 have a:splitId "BaseException.__getattribute__" = some ("BaseException","__getattribute__"):=by decide +kernel
 have c:=looks_mroIn (M:=model prog w) X C.mb;have ha:=F.args_bexc_ga (.ref x) nm;simp[checkBuiltinCall,b,a];refine f0 (((p.ty).andThen c).at ?_)
 repeat (any_goals (first | assumption | wp_step))
theorem zv(C:ClsK K D)(X:K.In s.heap)(p:W7 x D s.heap)(q:Q (.done (.ret (.ref D))) s):wpAny JG A (Builtin.«object.__getattribute__» ⟨[.ref x,.str "__class__" tk],[]⟩) Q E s:=by
 obtain⟨h0,g0,d0,t0,o0⟩:=s;unfold Builtin.«object.__getattribute__»
 repeat (any_goals (first | assumption | with_reducible refine (p.ty).at ?_ | with_reducible refine (zr X C.fc C.sg C.tk).at ?_ | wp_step))
 refine zt X p C.mo ?_
 repeat (any_goals (first | assumption | wp_step))
theorem zw(C:ClsK K D)(X:K.In s.heap)(p:W7 x D s.heap)(q:Q (KP D) {s with toks:=s.toks+1}):wpAny JG A (getAttr? (.ref x) "__class__") Q E s:=by
 obtain⟨h0,g0,d0,t0,o0⟩:=s;have f3:=F.attr_ValueError.ga.bind (.ref x);unfold getAttr?;unfold getAttrBy?;unfold getAttrBy;refine f0 (jx (f0 (Q7 (B6 (f0 ((p.ty).at (f0 ((looks_findIn X C.ga).at ?_))))))));dsimp only;have ne:(onTheHeap (Value.ref D)&&Value.builtin "BaseException.__getattribute__" == Value.builtin "object.__getattribute__")=false:=(by rw[show(Value.builtin "BaseException.__getattribute__" == Value.builtin "object.__getattribute__")=false by decide +kernel,jq]);rw[g7 Kz];unfold getAttrByItsOwn;unfold hookBefore;rw[f8 (show onTheHeap _=true from rfl)];refine f0 ((looks_findIn X C.gt).at ?_);refine f0 (Q7 (B6 ?_));unfold callGetattribute;rw[g7 JB]
 repeat (any_goals (first | assumption | wp_step))
 refine iQ F.attr_ValueError.ga.plain F.entry_bexc_ga (zu C X p (zv C X p ?_));exact handed_on rfl (f9 q)
theorem zx(C:ClsK K D):KitX K (.ref x) (.ref D) (W7 x D) where
 ty:=λ _ _ _ p=>p.ty
 it:=λ M h X _=>by
  obtain⟨i,e,_⟩:=any_some C.hd;unfold clsIn at e;split at e
  ·rename_i a;intro A1 Q1 E1 s1 c b;unfold isType;unfold loadHead;exact f0 (wpAny_loadPart (c _ _ (X _ _ a)) (f9 b))
  ·cases e
 ne:=λ h tp dd d n sl X f=>by
  obtain⟨i,e,_⟩:=any_some C.hd;rw[Bool.eq_false_iff];intro z;have g:=Value.ref.inj (g9.mp z);subst g;unfold clsIn at e;split at e
  ·rename_i a;cases(X _ _ a).symm.trans f
  ·cases e
 ca:=λ X p k=>zw C X p k
theorem zy(C:ClsK K D)(X:K.In s.heap)(p:W7 x D s.heap)(e:kitOne K (.ref D) c=some b)(q:∀a,Q (.bool b) {s with toks:=a}):wpAny JG A (call (.builtin "isinstance") [.ref x,c]) Q E s:=
 kia_one (zx C) X p e nofun q
end
structure Src(P:Program)(w:World)(ia la:Addr)(vs:Array Value)(S:Nat->Heap->Prop):Prop where
 keep:∀k h h',S k h->(∀o,h.get? ia=some o->h'.get? ia=some o)->(∀o,h.get? la=some o->h'.get? la=some o)->S k h'
 there:∀k h,S k h->∃o xs,h.get? ia=some o/\o.data=.fields xs
 step:∀{A:Around} {E:Value->Shared->Prop} {s:Shared} {Q:Value->Shared->Prop} (k:Nat) (x:Value),S k s.heap->vs[k]? = some x->(∀h',S (k+1) h'->Heap.SameBut ia s.heap h'->Q x {s with heap:=h'}) ->
  wpAny Lv A (Builtin.SmallTypes.nextOf (JR ia)) Q E s
 stop:∀{A:Around} {E:Value->Shared->Prop} {s:Shared} {Q:Value->Shared->Prop} (k:Nat),A.handled=none->S k s.heap->vs[k]? = none ->
  (∀h' e,Heap.ExtBut ia s.heap h'->(∃o,h'.get? e=some o/\o.cls=.type "StopIteration")->E (.ref e) {s with heap:=h'})->wpAny Lv A (Builtin.SmallTypes.nextOf (JR ia)) Q E s
noncomputable def sL(ia la:Jl)(vs:Jo Jj):Nat->Jm->Prop:=λ k h=>h.IsListIter ia la k/\h.IsList la vs
noncomputable def sT(ia la:Jl)(vs:Jo Jj):Nat->Jm->Prop:=λ k h=>h.IsTupleIter ia la k/\h.IsTuple la vs
theorem zA(ne:a≠b):Src P w b a vs (sL b a vs) where
 keep:=λ k h i ⟨p,q⟩ n m=>⟨p.at n,q.at m⟩
 there:=λ k h ⟨p,q⟩=>by obtain⟨o,e,_,d⟩:=p;exact⟨o,_,e,d⟩
 step:=λ k x ⟨p,q⟩ c f=>wpAny_nextOf_list_item p q c λ i j g=>f i ⟨j,q.extBut g.extBut ne⟩ g
 stop:=λ k l ⟨p,q⟩ c f=>wpAny_nextOf_list_end l p q c f
theorem zB(p:s.heap.IsTupleIter b a k)(q:s.heap.IsTuple a vs)(f:vs[k]? = some x)(g:∀e,e.IsTupleIter b a (k+1)->Heap.SameBut b s.heap e->Q x {s with heap:=e}) :
  wpAny Lv A (Builtin.SmallTypes.nextOf (.ref b)) Q E s:=by
 obtain⟨ob,d,j,c⟩:=id p;obtain⟨ot,i,_,nn,h⟩:=q;unfold Builtin.SmallTypes.nextOf;refine f0 (O4 p.typeIs dZ (G4 dZ p.typeIs nG ?_ (nF _)));show wpAny _ _ (field (.ref b) 0 >>= _) _ _ s;refine f0 (D9 d c (x:=.ref a) rfl ?_);show wpAny _ _ _ _ _ s;rw[g7 (show ¬((Value.ref a==Value.none)=true)from B5)];show wpAny _ _ (field (.ref b) 1 >>= _) _ _ s;refine f0 (D9 d c (x:=.int k 0) rfl ?_);show wpAny _ _ (seqItems? (.ref a) >>= _) _ _ s;refine f0 (af i h ?_);simp only[A8,f];refine f0 (W0 d c JL (f9 ⟨x,rfl,f9 (g _ ?_ (K9 ..))⟩));exact⟨_,V4 _ d (eE (aR c _)),(iY ..).trans j,by rw[aR c];simp[rawInt]⟩
theorem zC(g:KR)(p:s.heap.IsTupleIter b a k)(q:s.heap.IsTuple a vs)(h:vs[k]? = none)(i:∀c e,Heap.ExtBut b s.heap c->(∃o,c.get? e=some o/\o.cls=.type "StopIteration")->E (.ref e) {s with heap:=c}) :
  wpAny Lv A (Builtin.SmallTypes.nextOf (.ref b)) Q E s:=by
 obtain⟨ob,f,e2,d⟩:=id p;obtain⟨ot,l,_,nn,j⟩:=q;unfold Builtin.SmallTypes.nextOf;refine f0 (O4 p.typeIs dZ (G4 dZ p.typeIs nG ?_ (nF _)));show wpAny _ _ (field _ 0 >>= _) _ _ s;refine f0 (D9 f d (x:=.ref a) rfl ?_);show wpAny _ _ _ _ _ s;rw[g7 (show ¬((Value.ref a==Value.none)=true)from B5)];show wpAny _ _ _ _ _ s;refine f0 (D9 f d rfl ?_);show wpAny _ _ _ _ _ s;refine f0 (af l j ?_);simp only[A8,h];refine f0 (bf (f0 (W0 f d JL ?_)));show wpAny _ _ _ _ _ _;refine f0 ?_;simp only[newExc,newTuple];refine f0 (C3 ?_ (by size_fits));refine f0 (ag (by first | rfl | (simp only[firstArgMember];rfl)) ?_);refine C3 ?_ (by size_fits);refine f0 (ju ?_)
 first | rw[show A.in1.handled=none from g] | rw[g]
 refine f0 (f9 (wpAny_throw (i _ _ (((K9 ..).extBut.push _).push _) ⟨_,q0 _ rfl,rfl⟩)))
theorem zD(ne:a≠b):Src P w b a vs (sT b a vs) where
 keep:=λ k h i ⟨p,q⟩ n m=>⟨by obtain⟨o,e,r⟩:=p;exact⟨o,n o e,r⟩,by obtain⟨o,e,r⟩:=q;exact⟨o,m o e,r⟩⟩
 there:=λ k h ⟨p,q⟩=>by obtain⟨o,e,_,d⟩:=p;exact⟨o,_,e,d⟩
 step:=λ k x ⟨p,q⟩ c f=>zB p q c λ i j g=>f i ⟨j,q.extBut g.extBut ne⟩ g
 stop:=λ k l ⟨p,q⟩ c f=>zC l p q c f
theorem Src.ext{P:Jq}{w:Jp}{k:Nat}{ia la:Jl}{vs:Jo Jj}{S:Nat->Jm->Prop}{h h':Jm}{e:Jl}(R:Src P w ia la vs S)(q:S k h)(hs:Heap.ExtBut e h h')(n1:ia≠e)(n2:la≠e):S k h':=R.keep k h h' q (λ o z=>hs _ _ n1 z) (λ o z=>hs _ _ n2 z)
def SqK(t:Bool)(h:Jm)(l:Jl)(vs:Jo Jj):Prop:=match t with | false=>h.IsList l vs | true=>h.IsTuple l vs
def sK(t:Bool)(ia la:Jl)(vs:Jo Jj):Nat->Jm->Prop:=match t with | false=>sL ia la vs | true=>sT ia la vs
theorem pO(t:Bool)(ne:a≠b):Src P w b a vs (sK t b a vs):=by
 cases t
 ·exact zA ne
 ·exact zD ne
noncomputable def itN:Bool->Jz | false=>"list_iterator" | true=>"tuple_iterator"
abbrev itO(t:Bool)(l:Jl):Obj:={cls:=.type (itN t),data:=.fields #[.ref l,.int 0 0]}
abbrev zH1(h:Jm)(t1:Bool)(l1:Jl):Jm:=h.push (itO t1 l1)
theorem zE{t:Bool}{ia la:Jl}{vs:Jo Jj}{h h':Jm}(e:h'.get? ia=some (itO t la))(q:SqK t h la vs)(k:∀c o,h.get? c=some o->h'.get? c=some o):sK t ia la vs 0 h':=by
 cases t
 ·exact⟨⟨_,e,rfl,rfl⟩,Heap.IsList.at q λ o z=>k _ o z⟩
 ·exact⟨⟨_,e,rfl,rfl⟩,by obtain⟨o,z,r⟩:=q;exact⟨o,k _ o z,r⟩⟩
end L2
end
noncomputable section
namespace PySem.SeqAt
open AutoSeq1 (wpAny_loadPart')
open MeetsSeq MeetsSeq2 MeetsSeq3 SeqRoads2
theorem zF(f:Nat->β->Sem (ForInStep β))(I:ge Nat->β->Jk->Prop)(Q:β->Jk->Prop)
   (turn:∀x rest b s,I (x::rest) b s->wpAny M A (f x b) (λ r c=>match r with | .yield b'=>I rest b' c | .done b'=>Q b' c) E s)
  (fin:∀b s,I [] b s->Q b s) (h:I (List.range' 0 n 1) b s):wpAny M A (forIn [:n] b f) Q E s:=by
 rw[Std.Legacy.Range.forIn_eq_forIn_range'];have a:([:n]:Std.Legacy.Range).size=n:=by simp[Std.Legacy.Range.size]
 show wpAny M A _ Q E s;rw[a];exact wpAny_forIn_list f I Q turn fin _ b h
theorem zG(l:Jl)(items:Jo Jj)(n:Nat)(dd:Ji Jl)(v:Jo (Ji Jj))(x:Jj)(e:Jj->Bool)(j:Nat)(hj:j<items.size)
  (p:e items[j]=true) (o:∀m (f:m<items.size),m<j->e items[m]=false) :
  Meets (Builtin.«tuple.index» ⟨[.ref l,x],[]⟩)
   (λ A R s=>s.heap.get? l=some {cls:=.type "tuple",dict:=dd,data:=.seq items n,slots:=v} /\ (∀y,y∈items->EqAt A.in1 s y x (e y))/\R (.ok (.ret (.int j s.toks))) {s with toks:=s.toks+1}):=
 .of_wp λ c w A R s h=>by
  obtain⟨B,g,d,u,z⟩:=s;obtain⟨C,E,h⟩:=h
  wp_walk using bU C,zF _ (λ rest b k=>b.1=none/\k=⟨B,g,d,u,z⟩/\∃i,i<=j/\rest=List.range' i (items.size - i) 1) _
  case turn=>
   rintro i rest b k ⟨hb,rfl,r,hi',hr⟩
   obtain⟨m,f⟩:∃m,items.size - r=m+1:=⟨items.size - r - 1,by omega⟩;rw[f,List.range'_succ]at hr;obtain⟨rfl,rfl⟩:=fk hr;have a:i<items.size:=by omega
   rw[show items[i]? = some items[i] by simp[a]];refine f0 (E _ (Array.getElem_mem a) c w _ _ ?_);by_cases q:i=j
   ·subst q;rw[p]
    wp_walk
    exact⟨_,rfl,h⟩
   ·rw[o i a JA]
    wp_walk
    exact⟨rfl,rfl,i+1,by omega,by congr 1;omega⟩
  case fin=>
   rintro⟨b1,b2⟩ k ⟨hb,rfl,i,hi,hr⟩
   obtain⟨m,f⟩:∃m,items.size - i=m+1:=⟨items.size - i - 1,by omega⟩;rw[f,List.range'_succ]at hr;cases hr
  case h=>
   exact⟨rfl,rfl,0,E5 _,by simp⟩
theorem pP:∀(a:ge PyData) (b:ge Jj) (c:ge Jl),PyData.canLayAll0 a=true->ReadsAll h b a c->b.length=a.length/\∀m (i:m<b.length) (g:m<a.length),PyData.eqv (readOf h b[m]) d=PyData.eqv a[m] d:=by
 intro a b c f r;have e:=readsAll_map a b c f r;refine⟨(by rw[←e,g6]),λ m i g=>?_⟩
 congr 1
 subst e;rw[List.getElem_map]
theorem index_list_reads(B:Reads s.heap c (.list xs) O)(z:Reads s.heap x d bs)(a:PyData.canLayAll0 xs=true)(K:d.canLay0=true)
  (C:A.units+1+min (PyData.depthAll xs) d.depth<cLine) (J:j<xs.length) (b:(j:Int)<2^63 - 1) (i:PyData.eqv xs[j] d=true) (f:∀m (F:m<xs.length),m<j->PyData.eqv xs[m] d=false) (h:Q (.int j s.toks) {s with toks:=s.toks+1}):wpAny JG A (call (.builtin "list.index") [c,x]) Q E s:=by
 cases B with
 | list u r q p=>
  rename_i l o e n N;obtain⟨M,L,v,y⟩:=o;simp at r q;subst r q;obtain⟨I,k⟩:=pP xs e.toList _ a p;have H:e.size=xs.length:=by rw[←I];simp
  refine PySem.call_meets nW ⟨_,u,rfl⟩ PySem.F.entry_list_index (PySem.F.args_list_index_2 _ _)
   (list_indexAt l e _ L y x _ j JA b ?_ ?_) ⟨u,items_eqAt p z a K C,h⟩
  ·rw[←i];exact k j JA J
  ·intro m F g;rw[←f m JA g];exact k m JA JA
theorem index_tuple_reads(B:Reads s.heap c (.tuple xs) M)(z:Reads s.heap x d bs)(a:PyData.canLayAll0 xs=true)(J:d.canLay0=true)
  (C:A.units+1+min (PyData.depthAll xs) d.depth<cLine) (I:j<xs.length) (g:PyData.eqv xs[j] d=true) (e:∀m (i:m<xs.length),m<j->PyData.eqv xs[m] d=false) (h:Q (.int j s.toks) {s with toks:=s.toks+1}):wpAny JG A (call (.builtin "tuple.index") [c,x]) Q E s:=by
 cases B with
 | tuple u r q p=>
  rename_i l o b n;obtain⟨L,K,v,y⟩:=o;simp only at r q;subst r q;obtain⟨H,k⟩:=pP xs b.toList _ a p;have F:b.size=xs.length:=by rw[←H];simp
  refine PySem.call_meets nR ⟨_,u,rfl⟩ PySem.F.entry_tuple_index (PySem.F.args_tuple_index_2 _ _)
   (zG l b _ K y x _ j JA ?_ ?_) ⟨u,items_eqAt p z a J C,h⟩
  ·rw[←g];exact k j (by simpa using(by omega:j<b.size)) I
  ·intro m i f;rw[←e m JA f];exact k m (Kg i) JA
end PySem.SeqAt
end
noncomputable section
namespace L2
open PySem
set_option genInjectivity true in
inductive DKey where
 | i (n:Int) | s (x:Str) | t (l:List (Sum Int Str))
 deriving DecidableEq
inductive Bi where
 | len | min | max | sum | sset | int | tuple
 deriving DecidableEq
inductive Mt where
 | bitLength | index | get
 deriving DecidableEq
inductive Tg where
 | one (i:Nat) | many (is:List Nat)
inductive ME where
  | var (i:Nat) | int (i:Int) | bl (b:Bool) | str (x:Str) | non | glb (x:Str)
  | bin (op:Operator) (a b:ME) | neg (a:ME)  | not (a:ME)
  | cmp (op:CmpOp) (a b:ME) | chain (op op':CmpOp) (a b c:ME)
  | and (es:List ME) | or (es:List ME)
  | lst (es:List ME) | tup (es:List ME)
  | ix (a b:ME) | sl (a lo hi:ME) | slf (a lo:ME) | slt (a hi:ME)
   | call (f:Nat) (es:List ME)    | bi (f:Bi) (es:List ME) | isi (a:ME) (ts:List Str) | isx (a:ME) (t:Str) | meth (m:Mt) (a:ME) (es:List ME)
  | comp (elt:ME) (tg:Tg) (it:ME) (fr:List (Option Nat)) | compi (elt:ME) (tg:Tg) (it c:ME) (fr:List (Option Nat))
   | dix (a k:ME)
  | dgp (i:Nat) (k:ME)   | callv (i:Nat) (xs:List (Str×Nat)) (es:List ME)
  | mink (a:ME) (N:List Str) (np:Nat) (lb:ME) (fr:List Nat) | self (np nc:Nat) (es:List ME) | dc2 (x y:Str) (a b:ME) | rev (a:ME)
  | idx (a b:ME)
  | rng (es:List ME) | enu (a:ME)  | itm (a:ME)
structure LamD where
 N:List Str
 np:Nat
 body:ME
 fn:List Str
 bl:List Str
 cl:List Str
set_option genInjectivity true in
inductive DV where
 | non | bl (b:Bool) | int (i:Int) | str (x:Str) | tup (ds:List DV) | lst (ds:List DV) | dct (ks:List DKey) (vs:List DV)
 | exc (c:Str) | fn (x:Str)
 | lam (m:LamD) (ds:List DV)
 | scr (ns:List Int)
inductive Cl where
 | weak | top | strong | fresh
 deriving DecidableEq
set_option genInjectivity true in
inductive Re where
 | ok (d:DV) (c:Cl) | ex (c:Str)
inductive Rs where
 | ok (l:List (DV×Cl)) | ex (c:Str)
inductive Rt where
 | ok (b:Bool) | ex (c:Str)
inductive Sv where
 | no | val (d:DV) | own (d:DV)
 | od (d:DV)
inductive Ou where
 | v (d:DV) (fr:Bool) | x (c:Str)
inductive Out where
 | nx (δ:List Sv) | rt (d:DV) (fr:Bool) | ex (c:Str) (δ:List Sv)
inductive MS where
 | set (i:Nat) (own:Bool) (e:ME)
 | app (i:Nat) (e:ME) | ext (i:Nat) (e:ME) | seti (i:Nat) (k e:ME)
 | exp (e:ME) | ret (e:ME)  | iff (c:ME) (a b:List MS) | fo (tg:Tg) (it:ME) (body:List MS) | wh (c:ME) (body:List MS)
  | retd (i:Nat)
 | sep (i:Nat) | dpp (i:Nat) (ks:List ME) (e:ME)
 | rse (c:Str) (e:ME) | tryc (body:List MS) (c:Str) (ie ic:Nat)
 | dfr (i:Nat) (fr:List Nat) (es:List ME)
structure CloD where
 N:List Str
 np:Nat
 nc:Nat
 body:List MS
structure FD where
 n:Nat
 np:Nat
 clo:Option CloD:=none
 body:List MS
noncomputable def Re.thn(r:Ji Re)(k:DV->Cl->Ji Re):Ji Re:=match r with
 | none=>none
 | some (.ex c)=>some (.ex c)
 | some (.ok d c)=>k d c
def Rs.thn(r:Ji Rs)(k:ge (DV×Cl)->Ji Re):Ji Re:=match r with
 | none=>none
 | some (.ex c)=>some (.ex c)
 | some (.ok l)=>k l
noncomputable def Re.thnT(r:Ji Re)(k:DV->Cl->Ji Rt):Ji Rt:=match r with
 | none=>none
 | some (.ex c)=>some (.ex c)
 | some (.ok d c)=>k d c
mutual
noncomputable def DV.immut:DV->Bool
 | .non=>true | .bl _=>true | .int _=>true | .str _=>true | .exc _=>true | .fn _=>true | .scr _=>true
 | .tup ds=>DV.immuts ds
 | .lst _=>false
 | .lam _ _=>false
 | .dct _ vs=>DV.immuts vs
noncomputable def DV.immuts:ge DV->Bool
 | []=>true
 | d::r=>d.immut&&DV.immuts r
end
mutual
noncomputable def DV.nolam:DV->Bool
 | .lam _ _=>false
 | .tup ds=>DV.nolams ds
 | .lst ds=>DV.nolams ds
 | .dct _ vs=>DV.nolams vs
 | _=>true
noncomputable def DV.nolams:ge DV->Bool
 | []=>true
 | d::r=>d.nolam&&DV.nolams r
end
def stro(d:DV):Cl->Bool
 | .strong=>true | .fresh=>true | _=>d.immut
def stros(l:ge (DV×Cl)):Bool:=l.all λ p=>stro p.1 p.2
noncomputable def Cl.item:Cl->Cl
 | .weak=>.weak | _=>.strong
noncomputable def Cl.anew:Cl->Cl->Cl
 | .weak,_=>.weak | _,.weak=>.weak | _,_=>.fresh
noncomputable def Cl.notF:Cl->Cl
 | .fresh=>.strong | c=>c
def o4:Nat:=1000000
mutual
noncomputable def deq:DV->DV->Bool
 | .non,.non=>true
 | .bl a,.bl b=>a==b
 | .bl a,.int j=>(if a then 1 else 0)==j
 | .int i,.bl b=>i==(if b then 1 else 0)
 | .int i,.int j=>i==j
 | .str a,.str b=>decide (a=b)
 | .tup a,.tup b=>deqs a b
 | .lst a,.lst b=>deqs a b
 | _,_=>false
noncomputable def deqs:ge DV->ge DV->Bool
 | [],[]=>true
 | a::r,b::s=>deq a b&&deqs r s
 | _,_=>false
end
mutual
noncomputable def DV.plain:Nat->DV->Bool
 | _,.non=>true | _,.bl _=>true | _,.int _=>true
 | _,.str x=>x.cps.all (· < 0x110000)
 | 0,_=>false
 | n+1,.tup ds=>DV.plains n ds | n+1,.lst ds=>DV.plains n ds
 | _,_=>false
noncomputable def DV.plains:Nat->ge DV->Bool
 | _,[]=>true
 | n,d::r=>d.plain n&&DV.plains n r
end
noncomputable def K2:DV->Ji Bool
 | .non=>some false
 | .bl b=>some b
 | .int i=>some (i != 0)
 | .str x=>some (x.cps.size != 0)
 | .tup ds=>some (!ds.isEmpty)
 | .lst ds=>some (!ds.isEmpty)
 | _=>none
noncomputable def C6(n:Nat)(i:Int):Ji Nat:=if 0<=i then(if i<n then some i.toNat else none)else if -(n:Int)<=i then some (i+n).toNat else none
def atD(ds:ge DV)(i:Int):Ji DV:=(C6 ds.length i).bind λ j=>ds[j]?
noncomputable def E6(k:DKey):ge DKey->ge DV->Ji DV
 | k'::ks,v::vs=>if k'=k then some v else E6 k ks vs
 | _,_=>none
noncomputable def putD(k:DKey)(d:DV)(ks:ge DKey)(vs:ge DV):ge DKey×ge DV:=
 if k∈ks then(ks,(ks.zip vs).map λ p=>if p.1=k then d else p.2)else(ks++[k],vs++[d])
def ixD(a b:DV):Ji DV:=match a,b with
 | .scr ns,.int i=>((C6 ns.length i).bind λ j=>ns[j]?).map DV.int
 | .lst ds,.int i=>atD ds i
 | .tup ds,.int i=>atD ds i
 | _,_=>none
noncomputable def slIx(n d:Nat):Ji Int->Nat
 | none=>d
 | some v=>if v<0 then(v+(n:Int)).toNat else min v.toNat n
def cutD(ds:ge DV)(lo hi:Ji Int):ge DV:=(ds.drop (slIx ds.length 0 lo)).take (slIx ds.length ds.length hi - slIx ds.length 0 lo)
def slD(a:DV)(lo hi:Ji Int):Ji DV:=match a with
 | .scr ns=>some (Kx (cutD (ns.map DV.int) lo hi))
 | .lst ds=>some (Kx (cutD ds lo hi))
 | .tup ds=>if slIx ds.length 0 lo=0/\slIx ds.length ds.length hi=ds.length then none else some (.tup (cutD ds lo hi))
 | _=>none
def slCl(a:DV)(c:Cl):Cl:=match a with
 | .scr _=>.fresh
 | .lst _=>Cl.anew c c
 | _=>c.item
noncomputable def P3(i j:Int):Bool:=(decide (-(2^64)<i)&&decide (i<2^64))||(decide (-(2^64)<j)&&decide (j<2^64))||(decide (i.natAbs<2^2000)&&decide (j.natAbs<2^2000))
noncomputable def asI:DV->Ji Int
 | .int i=>some i
 | _=>none
noncomputable def asL:DV->Ji (ge DV)
 | .lst i=>some i
 | _=>none
noncomputable def asTp:DV->Ji (ge DV)
 | .tup i=>some i
 | _=>none
def binD(op:Operator)(a b:DV)(ca cb:Cl):Ji Re:=match op with
 | .Add=>match a with
  | .int i=>(asI b).bind λ j=>some (JT (.int (i+j)))
  | .lst x=>(asL b).bind λ y=>if x.length+y.length<=o4 then some (.ok (Kx (x++y)) (Cl.anew ca cb))else none
  | .tup x=>(asTp b).bind λ y=>if x.length+y.length<=o4/\x≠[]then some (.ok (.tup (x++y)) (Cl.anew ca cb).notF)else none
  | _=>none
 | .Sub=>(asI a).bind λ i=>(asI b).bind λ j=>some (JT (.int (i - j)))
 | .Mult=>match a with
  | .int i=>(asI b).bind λ j=>if P3 i j then some (JT (.int (i*j)))else none
  | .lst x=>(asI b).bind λ k=>if x.length*k.toNat<=o4 /\ -(2^63)<=k/\k<2^63 then some (.ok (.lst (List.replicate k.toNat x).flatten) (Cl.anew ca ca))else none
  | _=>none
 | .Mod=>(asI a).bind λ i=>(asI b).bind λ j=>if 0<j then some (JT (.int (i%j)))else if j≠0 then some (JT (.int (i.fmod j)))else none
 | .FloorDiv=>(asI a).bind λ i=>(asI b).bind λ j=>if 0<j/\j<2^200 then some (JT (.int (i/j)))else none
 | .LShift=>(asI a).bind λ i=>(asI b).bind λ j=>if 0<=j/\j<=1000000/\i.natAbs<2^64 then some (JT (.int (i*2^j.toNat)))else none
 | .RShift=>(asI a).bind λ i=>(asI b).bind λ j=>if 0<=j then some (JT (.int (i/2^j.toNat)))else none
 | .BitAnd=>(asI a).bind λ i=>(asI b).bind λ j=>some (JT (.int (Builtin.bitAnd i j)))
 | _=>none
noncomputable def isN:DV->Bool
 | .non=>true
 | _=>false
def cmpD(op:CmpOp)(a b:DV):Ji Bool:=match op with
 | .Lt=>(asI a).bind λ i=>(asI b).bind λ j=>some (decide (i<j))
 | .LtE=>(asI a).bind λ i=>(asI b).bind λ j=>some (decide (i<=j))
 | .GtE=>(asI a).bind λ i=>(asI b).bind λ j=>some (decide (j<=i))
 | .Eq=>if a.plain 60&&b.plain 60 then some (deq a b)else none
 | .NotEq=>if a.plain 60&&b.plain 60 then some (!deq a b)else none
 | .Is=>match b with
  | .non=>some (isN a)
  | _=>none
 | .NotIn=>match b with
  | .lst ds=>if a.plain 60&&DV.plains 60 ds then some (!ds.any λ d=>deq d a)else none
  | .tup ds=>if a.plain 60&&DV.plains 60 ds then some (!ds.any λ d=>deq d a)else none
  | _=>none
 | _=>none
noncomputable def ints?:ge DV->Ji (ge Int)
 | []=>some []
 | .int i::r=>(ints? r).map (i :: ·)
 | _=>none
noncomputable def minI:Int->ge Int->Int
 | m,[]=>m
 | m,x::r=>minI (if x<m then x else m) r
noncomputable def maxI:Int->ge Int->Int
 | m,[]=>m
 | m,x::r=>maxI (if m<x then x else m) r
noncomputable def insI(x:Int):ge Int->ge Int
 | []=>[x]
 | y::r=>if x<y then x::y::r else y::insI x r
def J0:ge Int->ge Int
 | []=>[]
 | x::r=>insI x (J0 r)
noncomputable def dk(σ:ge Int)(k:Int):ge Int:=if k∈σ then σ else σ++[k]
noncomputable def bp(i:Int):Int:=if i=0 then 0 else(i.natAbs.log2:Int)+1
noncomputable def lenD:ge (DV×Cl)->Ji Re
 | [(.lst ds,_)]=>some (JT (.int ds.length))
 | [(.tup ds,_)]=>some (JT (.int ds.length))
 | [(.scr ns,_)]=>some (JT (.int ns.length))
 | _=>none
def minD:ge (DV×Cl)->Ji Re
 | [(.int i,_),(.int j,_)]=>some (JT (.int (if j<i then j else i)))
 | [(.lst ds,c)]=>match ints? ds with
  | some (n::r)=>some (JT (.int (minI n r)))
  | _=>none
 | [(.tup ds,_)]=>match ints? ds with
  | some (n::r)=>some (JT (.int (minI n r)))
  | _=>none
 | _=>none
def maxD:ge (DV×Cl)->Ji Re
 | [(.int i,_),(.int j,_)]=>some (JT (.int (if j>i then j else i)))
 | [(.lst ds,_)]=>match ints? ds with
  | some (n::r)=>some (JT (.int (maxI n r)))
  | _=>none
 | [(.tup ds,_)]=>match ints? ds with
  | some (n::r)=>some (JT (.int (maxI n r)))
  | _=>none
 | _=>none
def fU:ge (DV×Cl)->Ji Re
 | [(.lst ds,_)]=>match ints? ds with
  | some ns=>if ns.length<4000/\(ns.foldl dk []).length<64 then some (.ok (Kx ((J0 (ns.foldl dk [])).map DV.int)) .fresh)else none
  | none=>none
 | _=>none
def sumD:ge (DV×Cl)->Ji Re
 | [(.lst ds,_)]=>(ints? ds).map λ ns=>.ok (Ke ns.sum) .strong
 | _=>none
noncomputable def intD:ge (DV×Cl)->Ji Re
 | [(.int i,_)]=>some (JT (.int i))
 | [(.bl b,_)]=>some (JT (.int (if b then 1 else 0)))
 | _=>none
def cQ:ge (DV×Cl)->Ji Re
 | [(.lst ds,c)]=>some (.ok (.tup ds) c.item)
 | [(.tup ds,c)]=>some (.ok (.tup ds) c)
 | _=>none
def biD(f:Bi)(l:ge (DV×Cl)):Ji Re:=match f with
 | .len=>lenD l
 | .min=>minD l
 | .max=>maxD l
 | .int=>intD l
 | .tuple=>cQ l
 | .sset=>fU l
 | .sum=>sumD l
noncomputable def biOk:Bi->Bool
 | .len=>true | .min=>true | .max=>true | .int=>true | .tuple=>true | .sset=>true | .sum=>true
def mtD(m:Mt)(a:DV):Ji Re:=match m,a with
 | .bitLength,.int i=>some (JT (.int (bp i)))
 | _,_=>none
structure Gs where
 con:List (Str×DV)
 cls:List (Str×List Str)
 fnl:List Str:=[]
 bll:List Str:=[]
 cll:List Str:=[]
 clo:Option CloD:=none
noncomputable def P4(G:Gs)(c c':Str):Bool:=c==c'||((G.cls.lookup c).getD []).contains c'
def isxD(G:Gs)(d:DV)(t:Str):Ji Bool:=match d with
 | .exc c=>if(G.cls.lookup c).isSome then some (P4 G c t)else none
 | _=>none
noncomputable def tyOf:DV->ge Str
 | .non=>["NoneType"]
 | .bl _=>["bool","int"]
 | .int _=>["int"]
 | .str _=>["str"]
 | .tup _=>["tuple"]
 | .lst _=>["list"]
 | .dct _ _=>["dict"]
 | _=>[]
noncomputable def W8:ge Str:=["int","bool","str","list","tuple","dict"]
def isiD(G:Gs)(d:DV)(ts:ge Str):Ji Bool:=match d with
 | .scr _=>none
 | .exc _=>none
 | .fn _=>none
 | .lam _ _=>none
 | d=>match ts with
  | [t]=>if W8.contains t then some ((tyOf d).contains t)else none
  | _=>none
noncomputable def upTo(lo:Int)(n:Nat):ge DV:=(JY n).map λ (i:Nat)=>DV.int (lo+i)
noncomputable def G6(i:Int):Bool:=decide (-(2^62)<=i)&&decide (i<2^62)
def N5(y:DV):ge DV->Ji Nat
 | []=>none
 | d::r=>if deq d y then some 0 else(N5 y r).map (· + 1)
noncomputable def seqB:DV->Bool
 | .lst _=>true | .tup _=>true | _=>false
def idxD(x y:DV):Ji DV:=match x with
 | .lst ds=>if y.plain 60&&DV.plains 60 ds&&decide (ds.length<=o4)then(N5 y ds).map λ (j:Nat)=>DV.int (j:Int)else none
 | .tup ds=>if y.plain 60&&DV.plains 60 ds&&decide (ds.length<=o4)then(N5 y ds).map λ (j:Nat)=>DV.int (j:Int)else none
 | _=>none
def rngD(l:ge (DV×Cl)):Ji (ge DV):=match l with
 | [(.int j,_)]=>if G6 j&&decide (j<=o4)then some (upTo 0 j.toNat)else none
 | [(.int i,_),(.int j,_)]=>if G6 i&&G6 j&&decide (j - i<=o4)then some (upTo i (j - i).toNat)else none
 | _=>none
noncomputable def enuD:Nat->ge DV->ge DV
 | _,[]=>[]
 | k,d::r=>.tup [.int k,d]::enuD (k+1) r
def Cl.meet:Cl->Cl->Cl
 | .weak,_=>.weak | _,.weak=>.weak | .top,_=>.top | _,.top=>.top | _,_=>.strong
noncomputable def aj:DV->Ji (Bool×ge DV)
 | .lst ds=>some (false,ds)
 | .tup ds=>some (true,ds)
 | _=>none
def fV(x:DV)(c:Cl):Ji Re:=match aj x with
 | some (_,xs)=>some (.ok (Kx (enuD 0 xs)) (Cl.meet c c))
 | _=>none
noncomputable def kvp?:ge DKey->ge DV->Ji (ge ((Int×Int)×Int))
 | [],[]=>some []
 | .t [.inl a,.inl b]::ks,.int v::vs=>(kvp? ks vs).map (((a,b),v) :: ·)
 | _,_=>none
def itmD(x:DV)(c:Cl):Ji Re:=match x with
 | .dct ks vs=>if c=.strong/\ks.isEmpty=false then(kvp? ks vs).map (λ l=>.ok (Kx (l.map λ p=>.tup [.tup [.int p.1.1,.int p.1.2],.int p.2])) .strong)else none
 | _=>none
def dixD(x y:DV):Ji Re:=match x,y with
 | .dct ks vs,.int k=>(match E6 (.i k) ks vs with
  | some (.int v)=>some (JT (.int v))
  | _=>none)
 | .dct ks vs,.tup [.int a,.int b]=>(match E6 (.t [.inl a,.inl b]) ks vs with
  | some (.int v)=>some (JT (.int v))
  | _=>none)
 | _,_=>none
noncomputable def asDc:DV->Ji (ge DKey×ge DV)
 | .dct ks vs=>some (ks,vs)
 | _=>none
def dixC(x:DV)(c:Cl)(y:DV):Ji Re:=match y with
 | .str k=>if c=.strong then(asDc x).bind λ p=>(E6 (.s k) p.1 p.2).map λ d=>.ok d .strong else none
 | y=>dixD x y
def dgpD(ks:ge DKey)(vs:ge DV)(y:DV):Ji Re:=match y with
 | .tup [.int a,.int b]=>(match E6 (.t [.inl a,.inl b]) ks vs with
  | some (.int v)=>some (JT (.int v))
  | _=>none)
 | _=>none
def dppD(i:Nat)(δ:ge Sv)(ks:ge DKey)(vs:ge DV)(l:ge (DV×Cl))(d:DV):Ji (ge Sv):=match l,d with
 | [(.int a,_),(.int b,_)],.int z=>if ks.length<o4 then some (δ.set i (.od (.tup [.dct (putD (.t [.inl a,.inl b]) (.int z) ks vs).1 (putD (.t [.inl a,.inl b]) (.int z) ks vs).2])))else none
 | _,_=>none
noncomputable def unT:DV->DV
 | .tup [d]=>d
 | d=>d
noncomputable def isDc:DV->Bool
 | .dct _ _=>true
 | .tup [_]=>true
 | _=>false
noncomputable def seqD:DV->Ji (ge DV)
 | .scr ns=>some (ns.map DV.int)
 | .lst ds=>some ds
 | .tup ds=>some ds
 | _=>none
noncomputable def bq(δ:ge Sv):ge Nat->ge DV->Ji (ge Sv)
 | [],[]=>some δ
 | i::is,d::ds=>bq (δ.set i (.val d)) is ds
 | _,_=>none
def Tg.bind(tg:Tg)(d:DV)(δ:ge Sv):Ji (ge Sv):=match tg with
 | .one i=>some (δ.set i (.val d))
 | .many is=>match d with
  | .tup ds=>bq δ is ds
  | _=>none
noncomputable def w4(fr:ge (Ji Nat))(δ:ge Sv):ge Sv:=fr.map λ o=>match o with
 | some i=>δ.getD i .no
 | none=>.no
inductive Rc where
 | skip | item (d:DV)
def x5(g:DV->Ji Rc):ge DV->Ji (ge DV)
 | []=>some []
 | d::r=>match g d with
  | none=>none
  | some .skip=>x5 g r
  | some (.item x)=>match x5 g r with
   | none=>none
   | some xs=>some (x::xs)
noncomputable def X0(r:Ji (ge DV)):Ji Re:=match r with
 | none=>none
 | some xs=>some (.ok (Kx xs) .fresh)
noncomputable def fW(r:Ji (ge DV)):Ji Re:=match r with
 | none=>none
 | some xs=>some (.ok (Kx xs) .weak)
def Rc.of(r:Ji Re):Ji Rc:=match r with
 | some (.ok d c)=>if stro d c then some (.item d)else none
 | _=>none
noncomputable def Rc.test(t:Ji Rt)(r:Ji Rc):Ji Rc:=match t with
 | some (.ok true)=>r
 | some (.ok false)=>some .skip
 | _=>none
inductive Ri where
 | ok (ds:List DV) (c:Cl) | ex (c:Str)
def Ri.thn(r:Ji Ri)(k:ge DV->Cl->Ji Re):Ji Re:=match r with
 | none=>none
 | some (.ex c)=>some (.ex c)
 | some (.ok ds c)=>k ds c
noncomputable def Re.thnI(r:Ji Re)(k:DV->Cl->Ji Ri):Ji Ri:=match r with
 | none=>none
 | some (.ex c)=>some (.ex c)
 | some (.ok d c)=>k d c
def zH(d:DV)(c:Cl):Ji Ri:=(seqD d).map λ ds=>.ok ds c
def imL:DV->Bool
 | .lst ds=>DV.immuts ds
 | _=>false
def J1(F:Ku)(f:Nat)(l:ge (DV×Cl)):Ji Re:=match F f (l.map (·.1))with
 | none=>none
 | some (.x c)=>some (.ex c)
 | some (.v d fr)=>some (.ok d (if l.all λ p=>p.2 == .strong||p.2 == .fresh then(if fr then .fresh else .strong)else if fr&&imL d then .fresh else .weak))
def z7:Nat:=1001
def capD(δ:ge Sv):ge Nat->Ji (ge DV)
 | []=>some []
 | i::r=>match δ[i]?,capD δ r with
  | some (.val d),some ds=>if d.nolam then some (d::ds)else none
  | _,_=>none
noncomputable def tT:DV->Ji (ge DV) | .tup l=>some l | _=>none
noncomputable def fX(F:Ku)(m:LamD)(cs:ge DV)(l:ge (DV×Cl)):Ji Re:=if Ko=true then(match F z7 (.lam m cs::l.map (·.1))with
 | some (.v d false)=>some (JT d)
 | _=>none)else none
noncomputable def R5(F:Ku)(m:DV):ge DV->Ji (ge Int)
 | []=>some []
 | d::r=>match F z7 [m,d]with
  | some (.v (.int k) false)=>(R5 F m r).map (k :: ·)
  | _=>none
noncomputable def N6(ks:ge Int):Ji Nat:=(JY ks.length).find? λ i=>(JY ks.length).all λ j=>decide (ks.getD i 0<=ks.getD j 0)&&(decide (i<=j)||decide (ks.getD i 0<ks.getD j 0))
def mnkL(F:Ku)(m:DV)(x:DV)(c:Cl):Ji Re:=match x with
 | .lst ds=>if(c == .strong||c == .fresh||c == .top)=true then(R5 F m ds).bind λ ks=>(N6 ks).bind λ i=>ds[i]?.map λ d=>.ok d .strong else none
 | _=>none
def fY(G:Gs)(F:Ku)(ra:Ji Re)(N:ge Str)(np:Nat)(lb:ME)(o:Ji (ge DV)):Ji Re:=match o with
  | some cs=>if G.fnl.isEmpty then none else Re.thn (ra) λ x cx=>mnkL F (.lam ⟨N,np,lb,G.fnl,G.bll,G.cll⟩ cs) x cx
  | none=>none
def A5:Nat:=1003
def n7:Str:="plan_of"
def P5(F:Ku)(np:Nat)(cs:ge DV)(l:ge (DV×Cl)):Ji Re:=if Ko=true/\l.length=np then(match F A5 (l.map (·.1)++cs)with
 | some (.v d false)=>if d.nolam then some (JT d)else none
 | _=>none)else none
def cR(G:Gs)(F:Ku)(np nc:Nat)(rs:Ji Rs)(o:Ji (ge DV)):Ji Re:=match G.clo with
  | some C=>if C.np=np/\C.nc=nc then o.bind λ cs=>Rs.thn rs λ l=>P5 F np cs l else none
  | none=>none
def dc2D(x y:Str)(a b:DV)(ca cb:Cl):Ji Re:=if stro a ca=true/\stro b cb=true/\x≠y then some (JT (.dct [.s x,.s y] [a,b]))else none
def revD(x:DV)(c:Cl):Ji Re:=match x with
 | .tup ds=>some (.ok (.tup ds.reverse) c.item)
 | _=>none
def andD(x:DV)(c:Cl)(r:Ji Re):Ji Re:=match K2 x with
 | none=>none
 | some true=>r
 | some false=>some (.ok x c)
def orD(x:DV)(c:Cl)(r:Ji Re):Ji Re:=match K2 x with
 | none=>none
 | some true=>some (.ok x c)
 | some false=>r
def tstD(r:Ji Re):Ji Rt:=Re.thnT r λ x _=>(K2 x).map Rt.ok
def r6(r:Ji Re):Ji Ri:=Re.thnI r λ x c=>zH x c
def varE(o:Ji Sv):Ji Re:=match o with
  | some (.val d)=>some (JT d)
  | some (.own d)=>some (.ok d .top)
  | _=>none
def fZ(G:Gs)(F:Ku)(xs:ge (Str×Nat))(rs:Ji Rs)(o:Ji Sv):Ji Re:=match o with
  | some (.val (.fn x))=>(match xs.lookup x with
   | some f=>Rs.thn (rs) λ l=>J1 F f l
   | none=>none)
  | some (.val (.lam m cs))=>if m.fn=G.fnl/\m.bl=G.bll/\m.cl=G.cll/\G.fnl.isEmpty=false then Rs.thn (rs) λ l=>fX F m cs l else none
  | _=>none
mutual
def evE(G:Gs)(F:Ku):ME->ge Sv->Ji Re
 | .var i,δ=>varE δ[i]?
 | .int i,_=>some (JT (.int i))
 | .bl i,_=>some (JT (.bl i))
 | .str i,_=>some (JT (.str i))
 | .non,_=>some (.ok .non .strong)
 | .glb x,_=>(G.con.lookup x).map λ d=>.ok d .strong
 | .bin op a b,δ=>Re.thn (JP a) λ x cx=>Re.thn (JP b) λ y cy=>binD op x y cx cy
 | .neg a,δ=>Re.thn (JP a) λ x _=>match x with | .int i=>some (JT (.int (-i))) | _=>none
 | .not a,δ=>Re.thn (JP a) λ x _=>(K2 x).map λ k=>.ok (.bl (!k)) .strong
 | .cmp op a b,δ=>Re.thn (JP a) λ x _=>Re.thn (JP b) λ y _=>(cmpD op x y).map λ k=>.ok (.bl k) .strong
 | .chain op op' a b c,δ=>Re.thn (JP a) λ x _=>Re.thn (JP b) λ y _=>match cmpD op x y with
  | none=>none
  | some false=>some (JT (.bl false))
  | some true=>Re.thn (JP c) λ z _=>(cmpD op' y z).map λ k=>.ok (.bl k) .strong
 | .and es,δ=>U5 G F es δ
 | .or es,δ=>evOr G F es δ
 | .lst es,δ=>Rs.thn (evEs G F es δ) λ l=>if l.length<=o4 then some (.ok (.lst (l.map (·.1))) (if stros l then .fresh else .weak))else none
 | .tup es,δ=>Rs.thn (evEs G F es δ) λ l=>if l.length<=o4 then some (.ok (.tup (l.map (·.1))) (if stros l then .strong else .weak))else none
 | .ix a b,δ=>Re.thn (JP a) λ x cx=>Re.thn (JP b) λ y _=>(ixD x y).map λ d=>.ok d cx.item
 | .sl a lo hi,δ=>Re.thn (JP a) λ x cx=>Re.thn (JP lo) λ l _=>match l with
  | .int l=>Re.thn (JP hi) λ h _=>(match h with
   | .int h=>(slD x (some l) (some h)).map λ d=>.ok d (slCl x cx)
   | _=>none)
  | _=>none
 | .slf a lo,δ=>Re.thn (JP a) λ x cx=>Re.thn (JP lo) λ l _=>match l with
  | .int l=>(slD x (some l) none).map λ d=>.ok d (slCl x cx)
  | _=>none
 | .slt a hi,δ=>Re.thn (JP a) λ x cx=>Re.thn (JP hi) λ h _=>match h with
  | .int h=>(slD x none (some h)).map λ d=>.ok d (slCl x cx)
  | _=>none
 | .call f es,δ=>Rs.thn (evEs G F es δ) λ l=>J1 F f l
 | .bi f es,δ=>if biOk f then Rs.thn (evEs G F es δ) λ l=>biD f l else none
 | .isi a ts,δ=>Re.thn (JP a) λ x _=>(isiD G x ts).map λ k=>.ok (.bl k) .strong
 | .isx a t,δ=>Re.thn (JP a) λ x _=>(isxD G x t).map λ k=>.ok (.bl k) .strong
 | .meth m a _,δ=>if m=.bitLength then Re.thn (JP a) λ x _=>mtD m x else none
 | .comp elt tg it fr,δ=>Ri.thn (r6 (JP it)) λ ds c=>if c=.weak\/o4<ds.length then(if c=.weak/\ds.length<=o4 then fW (x5 (λ d=>(tg.bind d (w4 fr [])).bind λ δ'=>Rc.of (evE G F elt δ')) ds)else none)else X0 (x5 (λ d=>(tg.bind d (w4 fr δ)).bind λ δ'=>Rc.of (evE G F elt δ')) ds)
 | .compi elt tg it cd fr,δ=>Ri.thn (r6 (JP it)) λ ds c=>if c=.weak\/o4<ds.length then none else X0 (x5 (λ d=>(tg.bind d (w4 fr δ)).bind λ δ'=>Rc.test (tstD (evE G F cd δ')) (Rc.of (evE G F elt δ'))) ds)
 | .idx a b,δ=>Re.thn (JP a) λ x _=>if seqB x then Re.thn (JP b) λ y _=>(idxD x y).map λ d=>.ok d .strong else none
 | .rng es,δ=>Rs.thn (evEs G F es δ) λ l=>(rngD l).map λ ds=>.ok (Kx ds) .fresh
 | .enu a,δ=>Re.thn (JP a) λ x c=>fV x c
 | .itm a,δ=>Re.thn (JP a) λ x c=>itmD x c
 | .dix a k,δ=>Re.thn (JP a) λ x c=>Re.thn (JP k) λ y _=>dixC x c y
 | .dgp i k,δ=>match δ[i]? with
  | some (.od (.tup [.dct ks vs]))=>Re.thn (JP k) λ y _=>dgpD ks vs y
  | _=>none
 | .callv i xs es,δ=>fZ G F xs (evEs G F es δ) δ[i]?
 | .mink a N np lb fr,δ=>fY G F (JP a) N np lb (capD δ fr)
 | .self np nc es,δ=>cR G F np nc (evEs G F es δ) (capD δ (List.range' np nc))
 | .dc2 x y a b,δ=>Re.thn (JP a) λ d c=>Re.thn (JP b) λ d' c'=>dc2D x y d d' c c'
 | .rev a,δ=>Re.thn (JP a) λ d c=>revD d c
def evEs(G:Gs)(F:Ku):ge ME->ge Sv->Ji Rs
 | [],_=>some (.ok [])
 | e::es,δ=>match evE G F e δ with
  | none=>none
  | some (.ex c)=>some (.ex c)
  | some (.ok d c)=>match evEs G F es δ with
   | none=>none
   | some (.ex c)=>some (.ex c)
   | some (.ok l)=>some (.ok ((d,c)::l))
def U5(G:Gs)(F:Ku):ge ME->ge Sv->Ji Re
 | [],_=>none
 | e::es,δ=>if es.isEmpty then evE G F e δ else Re.thn (JP e) λ x c=>andD x c (U5 G F es δ)
def evOr(G:Gs)(F:Ku):ge ME->ge Sv->Ji Re
 | [],_=>none
 | e::es,δ=>if es.isEmpty then evE G F e δ else Re.thn (JP e) λ x c=>orD x c (evOr G F es δ)
end
def gb:Nat:=1000
noncomputable def Re.thnS(δ:ge Sv)(r:Ji Re)(k:DV->Cl->Ji Out):Ji Out:=match r with
 | none=>none
 | some (.ex c)=>some (.ex c δ)
 | some (.ok d c)=>k d c
def Rs.thnS(δ:ge Sv)(r:Ji Rs)(k:ge (DV×Cl)->Ji Out):Ji Out:=match r with
 | none=>none
 | some (.ex c)=>some (.ex c δ)
 | some (.ok l)=>k l
def Rt.thnS(δ:ge Sv)(r:Ji Rt)(k:Bool->Ji Out):Ji Out:=match r with
 | none=>none
 | some (.ex c)=>some (.ex c δ)
 | some (.ok b)=>k b
def Ri.thnS(δ:ge Sv)(r:Ji Ri)(k:ge DV->Cl->Ji Out):Ji Out:=match r with
 | none=>none
 | some (.ex c)=>some (.ex c δ)
 | some (.ok ds c)=>k ds c
def B9(tg:Tg)(body:ge Sv->Ji Out):ge DV->ge Sv->Ji Out
 | [],δ=>some (.nx δ)
 | d::r,δ=>match tg.bind d δ with
  | none=>none
  | some δ1=>match body δ1 with
   | some (.nx δ2)=>B9 tg body r δ2
   | o=>o
def M0(test:ge Sv->Ji Rt)(body:ge Sv->Ji Out):Nat->ge Sv->Ji Out
 | 0,_=>none
 | n+1,δ=>match test δ with
  | none=>none
  | some (.ex c)=>some (.ex c δ)
  | some (.ok false)=>some (.nx δ)
  | some (.ok true)=>match body δ with
   | some (.nx δ2)=>M0 test body n δ2
   | o=>o
def frD:DV->Cl->Bool
 | .lst _,.fresh=>true | .lst _,.top=>true
 | _,_=>false
noncomputable def noOt(i:Nat)(δ:ge Sv):Bool:=(JY δ.length).all λ j=>j==i||(match δ[j]? with | some (.od _)=>false | _=>true)
noncomputable def cS(i:Nat)(δ:ge Sv)(d:DV)(c:Cl):Ji Out:=match c with
 | .fresh=>some (.nx (δ.set i (.own d)))
 | _=>match d with
  | .non=>some (.nx (δ.set i (.val .non)))
  | _=>none
def retD(d:DV)(c:Cl):Out:=.rt d (frD d c)
def tryD(G:Gs)(c:Str)(ie ic:Nat)(r:Ji Out):Ji Out:=match r with
 | some (.ex c' δ')=>if(G.cls.lookup c').isSome/\P4 G c' c/\ie<δ'.length/\ie≠ic then some (.nx ((δ'.set ic (.val (.exc c'))).set ie .no))else none
 | o=>o
def appS(δ:ge Sv)(i:Nat)(re:Ji Re)(o:Ji Sv):Ji Out:=match o with
  | some (.own (.lst ds))=>Re.thnS δ (re) λ d c=>if stro d c/\ds.length<o4 then some (.nx (δ.set i (.own (Kx (ds++[d])))))else none
  | _=>none
def pQ(δ:ge Sv)(i:Nat)(rk re:Ji Re)(o:Ji Sv):Ji Out:=match o with
  | some (.own (.lst ds))=>Re.thnS δ (re) λ d c=>Re.thnS δ (rk) λ k _=>(match k with
   | .int k=>(match C6 ds.length k with
    | some j=>if stro d c then some (.nx (δ.set i (.own (Kx (ds.set j d)))))else none
    | none=>none)
   | _=>none)
  | _=>none
noncomputable def noB:Ji Sv->Bool
 | some .no=>true
 | _=>false
def dfrS(G:Gs)(F:Ku)(fr:ge Nat)(rs:Ji Rs)(o:Ji (ge DV))(oi:Ji Sv):Ji Out:=match G.clo with
  | some C=>if C.nc=fr.length/\noB oi=true/\G.fnl.isEmpty=false then o.bind λ cs=>(Rs.thn rs λ l=>P5 F C.np cs l).bind λ r=>(match r with
   | .ok d _=>some (.rt d false)
   | .ex _=>none)else none
  | none=>none
mutual
def evS(G:Gs)(F:Ku)(fu:Nat):MS->ge Sv->Ji Out
 | .set i own e,δ=>Re.thnS δ (JP e) λ d c=>if own then cS i δ d c else(LK c)
 | .app i e,δ=>appS δ i (JP e) δ[i]?
 | .ext i e,δ=>match δ[i]? with
  | some (.own (.lst ds))=>Re.thnS δ (JP e) λ d c=>if c=.strong\/c=.fresh then(match aj d with
   | some (_,ys)=>if ds.length+ys.length<=o4 then some (.nx (δ.set i (.own (Kx (ds++ys)))))else none
   | none=>none)else none
  | _=>none
 | .seti i k e,δ=>pQ δ i (JP k) (JP e) δ[i]?
 | .exp e,δ=>Re.thnS δ (JP e) λ _ _=>some (.nx δ)
 | .ret e,δ=>Re.thnS δ (JP e) λ d c=>some (retD d c)
 | .iff c a b,δ=>Rt.thnS δ (tstD (JP c)) λ k=>if k then evSs G F fu a δ else evSs G F fu b δ
 | .fo tg it body,δ=>Ri.thnS δ (r6 (JP it)) λ ds c=>if c=.strong\/c=.fresh then B9 tg (λ δ'=>evSs G F fu body δ') ds δ else none
 | .wh c body,δ=>M0 (λ δ'=>tstD (evE G F c δ')) (λ δ'=>evSs G F fu body δ') fu δ
 | .retd i,δ=>match δ[i]? with
  | some (.od d)=>if isDc d then some (.rt (unT d) false)else none
  | _=>none
 | .sep i,δ=>if noOt i δ then some (.nx (δ.set i (.od (.tup [.dct [] []]))))else none
 | .dpp i ks e,δ=>match δ[i]? with
  | some (.od (.tup [.dct kk vs]))=>Re.thnS δ (JP e) λ d _=>Rs.thnS δ (evEs G F ks δ) λ l=>(dppD i δ kk vs l d).map Out.nx
  | _=>none
 | .rse c e,δ=>if(G.cls.lookup c).isSome then Re.thnS δ (JP e) λ _ _=>some (.ex c δ)else none
 | .tryc body c ie ic,δ=>tryD G c ie ic (evSs G F fu body δ)
 | .dfr i fr es,δ=>dfrS G F fr (evEs G F es δ) (capD δ fr) δ[i]?
def evSs(G:Gs)(F:Ku)(fu:Nat):ge MS->ge Sv->Ji Out
 | [],δ=>some (.nx δ)
 | s::r,δ=>match evS G F fu s δ with
  | some (.nx δ')=>evSs G F fu r δ'
  | o=>o
end
noncomputable def m7(n:Nat)(ds:ge DV):ge Sv:=ds.map Sv.val++List.replicate (n - ds.length) .no
def Ou.of(o:Ji Out):Ji Ou:=match o with
 | some (.nx _)=>some (.v .non false)
 | some (.rt d fr)=>some (.v d fr)
 | some (.ex c _)=>some (.x c)
 | none=>none
def cloR(G:Gs)(ev:ge MS->ge Sv->Ji Out)(ds:ge DV):Ji Ou:=G.clo.bind λ C=>if ds.length=C.np+C.nc/\DV.nolams ds=true then(match ev C.body (m7 C.N.length ds)with
  | some (.rt d false)=>if d.nolam then some (.v d false)else none
  | _=>none)else none
def lamR(ev:ME->ge Sv->Ji Re)(ds:ge DV):Ji Ou:=match ds with
 | .lam m cs::args=>if args.length=m.np/\args.length+cs.length=m.N.length/\DV.nolams args=true/\DV.nolams cs=true then(match ev m.body ((args++cs).map Sv.val)with
  | some (.ok d .strong)=>if d.nolam then some (.v d false)else none
  | _=>none)else none
 | _=>none
def run(G:Gs)(T:ge FD)(fu:Nat):Nat->Nat->ge DV->Ji Ou
 | 0,_,_=>none
 | k+1,f,ds=>match T[f]? with
  | none=>if f=z7 then lamR (evE G (JX k)) ds else if f=A5 then cloR G (evSs G (JX k) fu) ds else none
  | some fd=>if ds.length=fd.np then Ou.of (evSs G (JX k) fu fd.body (m7 fd.n ds))else none
theorem B3:Re.thn (some (.ok d c)) k=k d c:=rfl
theorem cT:Rs.thn (some (.ok l)) k=k l:=rfl
theorem cU:Ri.thn (some (.ok ds c)) k=k ds c:=rfl
theorem pR:Re.thnS δ (some (.ok d c)) k=k d c:=rfl
theorem zI(h:evS G F fu m δ=some (.nx a)):evSs G F fu (m::r) δ=evSs G F fu r a:=by
 rw[show evSs G F fu _ δ=(match evS G F fu m δ with | some (.nx a)=>evSs G F fu r a | o=>o)from rfl,h]
theorem zJ(h:evS G F fu m δ=some (.rt d fr)):evSs G F fu (m::r) δ=some (.rt d fr):=by
 rw[show evSs G F fu _ δ=(match evS G F fu m δ with | some (.nx δ')=>evSs G F fu r δ' | o=>o)from rfl,h]
theorem p7(h:T[f]? = some fd)(a:ds.length=fd.np):run G T fu (k+1) f ds=Ou.of (evSs G (JX k) fu fd.body (m7 fd.n ds)):=by
 show(match T[f]? with | none=>if f=z7 then lamR _ ds else if f=A5 then cloR G _ ds else none | some fd=>if ds.length=fd.np then Ou.of (evSs G _ fu fd.body _)else none)=_;rw[h];exact f8 a
end L2
namespace L2
open PySem
theorem jY{I:ge Sv->Prop}:∀{ds:ge DV} {δ:ge Sv},(∀d∈ds,∀δ,I δ->∃b a,tg.bind d δ=some b/\body b=some (.nx a)/\I a)->I δ->∃c,B9 tg body ds δ=some (.nx c)/\I c
 | [],δ,_,i=>⟨δ,rfl,i⟩
 | d::r,δ,h,i=>by obtain⟨b,a,l,k,f⟩:=h d (n9 ..) δ i;obtain⟨c,j,e⟩:=jY (λ d g=>h d (n6 _ g)) f;refine⟨c,?_,e⟩;show(match tg.bind d δ with | none=>none | some b=>(match body b with | some (.nx a)=>B9 tg body r a | o=>o))=_;rw[l];show(match body b with | some (.nx a)=>B9 tg body r a | o=>o)=_;rw[k];exact j
theorem pS:∀{a:ge DV},(∀d∈a,g d=some (if p d then .item d else .skip))->x5 g a=some (a.filter p)
 | [],_=>rfl
 | d::r,h=>by
  have b:=pS (λ d e=>h d (n6 _ e));unfold x5;rw[(h d (n9 ..))];cases c:p d with
  | false=>rw[ej Kz];exact b
  | true=>
   rw[bR c];show(match x5 g r with | none=>none | some xs=>some _)=_;rw[b]
theorem jZ:∀{a:ge DV},(∀d∈a,g d=some (.item (f d)))->x5 g a=some (a.map f)
 | [],_=>rfl
 | d::r,h=>by unfold x5;rw[(h d (n9 ..))];show(match x5 g r with | none=>none | some xs=>some _)=_;rw[(jZ (λ d b=>h d (n6 _ b)))];rfl
theorem pT(h:d∈upTo a n):∃j:Nat,j<n/\d=.int (a+j):=by
 unfold upTo at h;rw[i4]at h;obtain⟨j,b,rfl⟩:=h;exact⟨j,q9.mp b,rfl⟩
end L2
namespace L2
open PySem
theorem t4(h:evSs G F fu r δ=some (.rt d fr)):Ou.of (evSs G F fu r δ)=some (.v d fr):=by rw[h];rfl
theorem ke(h:evSs G F fu r δ=some (.nx a)):Ou.of (evSs G F fu r δ)=some (.v .non false):=by rw[h];rfl
theorem k8(h:evS G F fu m δ=some (.nx δ'))(a:evSs G F fu r δ'=o):evSs G F fu (m::r) δ=o:=(zI h).trans a
theorem p8(h:evS G F fu m δ=some (.rt d fr)):evSs G F fu (m::r) δ=some (.rt d fr):=zJ h
theorem cV(d:tstD (JP c)=some (.ok bb)):evS G F fu (.iff c a b) δ=if bb then evSs G F fu a δ else evSs G F fu b δ:=by
 show Rt.thnS δ _ _=_;rw[d];rfl
theorem R6(d:tstD (JP c)=some (.ok true))(h:evSs G F fu a δ=some (.nx δ'))(e:evSs G F fu r δ'=o):evSs G F fu (.iff c a b::r) δ=o:=k8 ((cV d).trans h) e
theorem gc(d:tstD (JP c)=some (.ok false))(h:evSs G F fu b δ=some (.nx δ'))(e:evSs G F fu r δ'=o):evSs G F fu (.iff c a b::r) δ=o:=k8 ((cV d).trans h) e
theorem gf(e:tstD (JP c)=some (.ok true))(h:evSs G F fu a δ=some (.rt d fr)):evSs G F fu (.iff c a b::r) δ=some (.rt d fr):=p8 ((cV e).trans h)
theorem v5(b:tstD (JP c)=some (.ok false))(d:evSs G F fu r δ=o):evSs G F fu (.iff c a []::r) δ=o:=gc b rfl d
theorem X1(b:r6 (JP it)=some (.ok ds cl))(c:cl=.strong\/cl=.fresh)(h:B9 tg (λ δ'=>evSs G F fu body δ') ds δ=some (.nx δ'))(d:evSs G F fu r δ'=o):evSs G F fu (.fo tg it body::r) δ=o:=by
 refine k8 ?_ d;show Ri.thnS δ _ _=_;rw[b];show(if cl=.strong\/cl=.fresh then B9 tg _ ds δ else none)=_
 rwa [f8 c]
theorem o9(h:Kh e (.ok d cl))(hs:stro d cl=true):evS G F fu (.set i false e) δ=some (.nx (δ.set i (.val d))):=by
 show Re.thnS δ _ _=_;rw[h];show(if stro d cl then some _ else none)=_;rw[f8 hs]
theorem kf(h:Kh e (.ok d .fresh)):evS G F fu (.set i true e) δ=some (.nx (δ.set i (.own d))):=by
 show Re.thnS δ _ _=_;rw[h];rfl
theorem v3(h:Kh e (.ok d cl)):evS G F fu (.ret e) δ=some (.rt d (frD d cl)):=by
 show Re.thnS δ _ _=_;rw[h];rfl
theorem kg(h:Kh e (.ok d cl)):evS G F fu (.exp e) δ=some (.nx δ):=by
 show Re.thnS δ _ _=_;rw[h];rfl
theorem k6(a:Li)(hs:Ko=true)(h:F f (l.map (·.1))=some (.v d fr)):evE G F (.call f es) δ=some (.ok d (if fr then .fresh else .strong)):=by
 show Rs.thn _ _=_;rw[a];show J1 F f l=_;unfold J1;rw[h,hs];rfl
theorem o6(h:JC e cl (.bl x)):tstD (JP e)=some (.ok x):=by rw[h];rfl
theorem R7(h:JC e cl (.bl x)):evE G F (.not e) δ=some (.ok (.bl (!x)) .strong):=by
 show Re.thn _ _=_;rw[h];rfl
end L2
namespace L2
open PySem
theorem K3(d:Kh a (.ok x cx))(c:Kh b (.ok y cy))(h:binD op x y cx cy=r):evE G F (.bin op a b) δ=r:=by
 show Re.thn _ _=_;rw[d,B3,c,B3,h]
theorem G0(d:Kh a (.ok x cx))(c:Kh b (.ok y cy))(h:cmpD op x y=some t):evE G F (.cmp op a b) δ=some (.ok (.bl t) .strong):=by
 show Re.thn _ _=_;rw[d,B3,c,B3,h];rfl
theorem q5(e:Kh a (.ok x cx))(c:Kh b (.ok y cy))(h:ixD x y=some d):evE G F (.ix a b) δ=some (.ok d cx.item):=by
 show Re.thn _ _=_;rw[e,B3,c,B3,h];rfl
theorem k9:evEs G F [] δ=some (.ok []):=rfl
theorem g8(b:Kh a (.ok x cx))(h:Li):evEs G F (a::es) δ=some (.ok ((x,cx)::l)):=by
 unfold evEs;rw[b,h]
end L2
namespace L2
open PySem
theorem zK(c:δ[i]? = some (.own (Kx ds)))(h:Kh e (.ok d cl))(a:stro d cl=true)(b:ds.length<o4):evS G F fu (.app i e) δ=some (.nx (δ.set i (.own (Kx (ds++[d]))))):=by
 show appS δ i _ δ[i]? = _;rw[c];show Re.thnS δ _ _=_;rw[h];exact f8 ⟨a,b⟩
theorem zL(f:δ[i]? = some (.own (Kx ds)))(h:Kh e (.ok d cl))(b:JC k cx (.int n))(a:stro d cl=true)(c:C6 ds.length n=some j):evS G F fu (.seti i k e) δ=some (.nx (δ.set i (.own (Kx (ds.set j d))))):=by
 show pQ δ i _ _ δ[i]? = _;rw[f];show Re.thnS δ _ _=_;rw[h,pR,b,pR];show(match C6 ds.length n with | some j=>if stro d cl then some (Out.nx _)else none | none=>none)=_;rw[c];exact f8 a
theorem zM(h:test δ=some (.ok false)):M0 test body (n+1) δ=some (.nx δ):=by
 unfold M0;rw[h]
theorem zN(h:test δ=some (.ok true))(a:body δ=some (.nx δ'))(hr:M0 test body n δ'=o):M0 test body (n+1) δ=o:=by
 unfold M0
 rwa [h,a]
theorem zO(h:M0 (λ δ'=>tstD (evE G F c δ')) (λ δ'=>evSs G F fu body δ') fu δ=some (.nx δ'))(b:evSs G F fu r δ'=o):evSs G F fu (.wh c body::r) δ=o:=k8 h b
end L2
namespace L2
open PySem
theorem br{I:Nat->ge Sv->Prop}:∀(n:Nat) (c:Int) {δ:ge Sv},(∀j<n,∀δ,I j δ->∃b,body (δ.set i (Kb (c+j)))=some (.nx b)/\I (j+1) b)->I 0 δ->∃d,B9 (.one i) body (upTo c n) δ=some (.nx d)/\I n d
 | 0,_,δ,_,g=>⟨δ,rfl,g⟩
 | n+1,c,δ,h,g=>by
  have e:upTo c (n+1)=.int c::upTo (c+1) n:=by
   unfold upTo;rw[ol,A4,p9]
   congr 1
   ·congr 1;omega
   ·apply L0;intro a _;show DV.int _=DV.int _
    congr 1
    push_cast
    omega
  obtain⟨b,k,r⟩:=h 0 JA δ g;rw[show c+_=c by omega]at k;obtain⟨d,u,p⟩:=br n (c+1) (λ j hj δ q=>by
   obtain⟨f,m,l⟩:=h (j+1) JA δ q;refine⟨f,?_,l⟩;rw[show c+1+_=c+((j+1:Nat):Int) by push_cast;omega];exact m) r
  refine⟨d,?_,p⟩;rw[e];show(match body (δ.set i _)with | some (.nx b)=>B9 _ body _ b | o=>o)=_;rw[k];exact u
theorem zP(b:r6 (JP it)=some (.ok ds cl))(hc:cl ≠ .weak)(hl:ds.length<=o4)
  (h:∀d∈ds,∃a,tg.bind d (w4 fr δ)=some a/\tstD (evE G F cd a)=some (.ok (p d))/\evE G F elt a=some (JT d)):evE G F (.compi elt tg it cd fr) δ=some (.ok (Kx (ds.filter p)) .fresh):=by
 show Ri.thn _ _=_;rw[b,cU,g7 Kz,pS (λ d c=>?_)]
 ·rfl
 ·obtain⟨a,g,f,e⟩:=h d c;rw[g,N0,f,e];cases p d<;>rfl
theorem zQ(hw:r6 (JP it)=some (.ok ds cl))(b:cl ≠ .weak)(hl:ds.length<=o4)
  (h:∀d∈ds,∃a,tg.bind d (w4 fr δ)=some a/\evE G F elt a=some (JT (f d))):evE G F (.comp elt tg it fr) δ=some (.ok (Kx (ds.map f)) .fresh):=by
 show Ri.thn _ _=_;rw[hw,cU,g7 (by rintro(z | z);exact b z;omega),jZ (λ d hd=>?_)]
 ·rfl
 ·obtain⟨a,e,c⟩:=h d hd;rw[e,N0,c];rfl
theorem zR{l:ge Int}(h:j<l.length):ixD (Kx (l.map DV.int)) (.int j)=some (.int l[j]):=by
 have a:(j:Int)<((l.map DV.int).length:Int):=by rw[g6];exact_mod_cast h
 simp only[ixD,atD,C6,f8 (E8 j),f8 a,N0,A8,p5,k7 h,N2]
theorem pU{l:ge Int}{i:Int}(a:0<=i)(h:i<l.length):∃v,ixD (Kx (l.map DV.int)) (.int i)=some (.int v):=by
 obtain⟨j,rfl⟩:=Int.eq_ofNat_of_zero_le a;exact⟨_,zR JA⟩
end L2
namespace L2
open PySem
theorem zS{J:ge Sv->Prop}(hw:r6 (JP it)=some (.ok ds cl))(b:cl=.strong\/cl=.fresh)(lp:∃a,B9 tg (λ a=>evSs G F fu body a) ds δ=some (.nx a)/\J a)(c:∀a,J a->evSs G F fu r a=o):evSs G F fu (.fo tg it body::r) δ=o:=by
 obtain⟨a,h,j⟩:=lp;exact X1 hw b h (c a j)
end L2
namespace L2
open PySem
theorem i5:evE G F (.int i) δ=some (.ok (.int i) .strong):=rfl
theorem f6(h:δ[n]? = some (.val d)):evE G F (.var n) δ=some (.ok d .strong):=congrArg varE h
theorem pV(h:δ[n]? = some (.own d)):evE G F (.var n) δ=some (.ok d .top):=congrArg varE h
theorem M1(d:JC a cx (.int i))(c:JC b cy (.int j)):evE G F (.bin .Add a b) δ=some (.ok (Ke (i+j)) .strong):=K3 d c rfl
theorem bt(d:JC a cx (.int i))(c:JC b cy (.int j)):evE G F (.bin .Sub a b) δ=some (.ok (Ke (i - j)) .strong):=K3 d c rfl
theorem bu(d:JC a cx (.int i))(c:JC b cy (.int j))(h:P3 i j=true):evE G F (.bin .Mult a b) δ=some (.ok (Ke (i*j)) .strong):=K3 d c (f8 h)
theorem E2(d:JC a cx (.int i))(c:JC b cy (.int j))(h:0<j):evE G F (.bin .Mod a b) δ=some (.ok (Ke (i%j)) .strong):=K3 d c (f8 h)
theorem kh(d:JC a cx (.int i))(c:JC b cy (.int j))(h:0<j/\j<1073741824):evE G F (.bin .FloorDiv a b) δ=some (.ok (Ke (i/j)) .strong):=K3 d c (f8 ⟨h.1,Int.lt_trans h.2 JB⟩)
theorem b_eq(d:JC a cx (.int i))(c:JC b cy (.int j)):evE G F (.cmp .Eq a b) δ=some (.ok (.bl (i==j)) .strong):=G0 d c rfl
theorem b_lt(d:JC a cx (.int i))(c:JC b cy (.int j)):evE G F (.cmp .Lt a b) δ=some (.ok (.bl (decide (i<j))) .strong):=G0 d c rfl
end L2
namespace L2
open PySem
theorem M2:evE G F (.str x) δ=some (.ok (.str x) .strong):=rfl
theorem U6(h:Li)(b:l.length<=o4)(a:stros l=true):evE G F (.tup es) δ=some (.ok (.tup (l.map (·.1))) .strong):=by
 show Rs.thn _ _=_;rw[h,cT,f8 b,a];rfl
def Rise(xs:Jo Nat):Prop:=∀(i k x y:Nat),i<k->xs[i]? = some x->xs[k]? = some y->x<y
theorem pW(v:Rise xs):∀(c b a:Nat),b<=a->a<=xs.size->a - b<=c ->
  (∀i x,i<b->xs[i]? = some x->x<j)->(∀i x,a<=i->xs[i]? = some x->j<=x) ->
  (∀i x,i<SetTable.below.go xs j c b a->xs[i]? = some x->x<j)/\(∀i x,SetTable.below.go xs j c b a<=i->xs[i]? = some x->j<=x):=by
 intro c
 induction c with
 | zero=>
  intro b a z w y l k;have:b=a:=by omega
  subst this;exact⟨l,k⟩
 | succ n u=>
  intro b a z w y l k;unfold SetTable.below.go;by_cases g:b<a
  ·rw[f8 g];have hm:(b+a)/2<a:=by omega
   have o:b<=(b+a)/2:=by omega
   have m:(b+a)/2<xs.size:=by omega
   have h:=T4 m;have r:xs.getD ((b+a)/2) j=xs[(b+a)/2]:=(by rw[aM,h];rfl);dsimp only;rw[r];by_cases f:xs[(b+a)/2]<j
   ·rw[f8 f];refine u _ _ JA w JA (λ i x p d=>?_) k;rcases W1 i ((b+a)/2)with q | q
    ·exact cD (v i _ x _ q d h) f
    ·have e:i=(b+a)/2:=by omega
     subst e;rw[h]at d;cases d;exact f
   ·rw[g7 f];refine u _ _ o JA JA l λ i x p d=>?_
    rcases W1 ((b+a)/2) i with q | q
    ·exact i7 (je f) (U0 (v _ i _ x q h d))
    ·have e:i=(b+a)/2:=by omega
     subst e;rw[h]at d;cases d;exact je f
  ·rw[g7 g];have:b=a:=by omega
   subst this;exact⟨l,k⟩
theorem ki(b:Rise xs)(h:i<SetTable.below xs j)(a:xs[i]? = some x):x<j:=
 (pW b xs.size 0 xs.size (E5 _) (i8 _) JA (λ i x h=>by omega) λ i x h a=>by
  rw[T5 h]at a;cases a).1 i x h a
theorem gh(b:Rise xs)(h:SetTable.below xs j<=i)(a:xs[i]? = some x):j<=x:=
 (pW b xs.size 0 xs.size (E5 _) (i8 _) JA (λ i x h=>by omega) λ i x h a=>by
  rw[T5 h]at a;cases a).2 i x h a
theorem zT:∀(a c b:Nat),c<=b->SetTable.below.go xs j a c b<=b:=by
 intro a
 induction a with
 | zero=>intro c b h;exact h
 | succ n d=>
  intro c b h;unfold SetTable.below.go;dsimp;split
  ·split
   ·exact d _ _ JA
   ·exact i7 (d _ _ JA) JA
  ·exact h
theorem pX:SetTable.below xs j<=xs.size:=zT _ _ _ (E5 _)
theorem zU(d:Rise xs)(c:xs[i]? = some x):SetTable.below xs (x+1)=i+1:=by
 have hi:i<xs.size:=by
  rcases W1 i xs.size with h | h
  ·exact h
  ·rw[T5 h]at c;cases c
 rcases Nat.lt_trichotomy _ _ with h | h | h
 ·have:=gh d (j:=x+1) (Nat.le_of_lt_succ h) c;omega
 ·exact h
 ·have h2:SetTable.below xs (x+1)<=xs.size:=pX;have f:i+1<xs.size:=by omega
  have e:=T4 f;have a:=ki d h e;have b:=d i _ x _ (O9 _) c e;omega
theorem zV(b:Rise xs):SetTable.below xs 0=0:=by
 rcases iT _ with h | h
 ·exact h
 ·have h2:SetTable.below xs 0<=xs.size:=pX;have a:=ki b h (T4 JA);omega
theorem Rise.empty:Rise #[]:=λ i k x y _ a=>by simp at a
theorem Rise.range(n:Nat):Rise (Array.range n):=λ i k x y h b a=>by
 rw[Array.getElem?_range]at b a;split at b
 ·split at a
  ·cases b;cases a;exact h
  ·cases a
 ·cases b
theorem pY{l:ge Nat}(h:l.Pairwise (· < ·)):Rise l.toArray:=λ i k x y a c b=>by
 obtain⟨e,g⟩:=v4.mp (Kg c);obtain⟨d,f⟩:=v4.mp (Kg b);rw[←g,←f];exact nM.mp h i k e d a
theorem zW(h:Rise xs):xs.toList.Pairwise (· < ·):=by
 refine nM.mpr λ i k c b a=>?_;exact h i k _ _ a (by rw[←J7];exact k7 c) (by rw[←J7];exact k7 b)
structure Tab(t:SetTable)(b:Bool):Prop where
 rise:Rise t.place
 dum:t.dummies = #[]
 led:t.led=b
theorem Tab.fresh(b:Bool):Tab (SetTable.fresh 0 0 b) b:=⟨Rise.empty,rfl,rfl⟩
theorem Tab.standIn(h:Tab t b)(n:Nat):Tab (t.standIn n) b:=⟨Rise.range n,rfl,h.led⟩
theorem pZ(j:Nat):SetTable.has #[] j=false:=by
 unfold SetTable.has;simp
theorem zX(h:Tab t b)(f:Nat->Int)(z:Int):∀(a:Nat) (p:SetTable.Probe) (j:Nat) (d:Ji Nat),p.dummy=none->SetTable.probe.go t f z a p=some (.empty j d)->d=none/\t.slot j=.empty:=by
 intro a
 induction a with
 | zero=>intro p j d c e;cases e
 | succ n g=>
  intro p j d c e;unfold SetTable.probe.go at e;cases hs:t.slot p.j with
  | empty=>rw[hs]at e;cases e;exact⟨c,hs⟩
  | dummy=>
   unfold SetTable.slot at hs;rw[h.dum,pZ]at hs;dsimp at hs;split at hs
   ·cases hs
   ·cases hs
  | live i=>
   rw[hs]at e;dsimp at e;split at e
   ·cases e
   ·refine g _ j d ?_ e;unfold SetTable.advance;split
    ·exact c
    ·exact c
theorem zY(h:Tab t b)(e:t.freeSlot z=some (j,w)):t.slot j=.empty:=by
 unfold SetTable.freeSlot at e;split at e
 ·rename_i j' d a;obtain⟨c,hs⟩:=zX h _ _ _ _ _ _ rfl a;subst c;cases e;exact hs
 ·cases e
theorem Tab.put(h:Tab t b)(hs:t.slot j=.empty):Tab (t.put j).1 b:=by
 have m:t.place[SetTable.below t.place j]? ≠ some j:=λ z=>by unfold SetTable.slot at hs;dsimp only at hs;rw[z]at hs;simp at hs
 refine⟨?_,?_,h.led⟩
 ·show Rise _;have g:=zW h.rise;have:(SetTable.insertAt t.place (SetTable.below t.place j) j).toList.Pairwise (· < ·):=by
   rw[(SetTable.toList_insertAt _ _ _),List.pairwise_append];refine⟨g.sublist (eT _ _),L3.mpr ⟨λ y f=>?_,g.sublist (List.drop_sublist _ _)⟩,λ x l y f=>?_⟩
   ·obtain⟨i,d⟩:=eF.mp f;rw[Z7,J7]at d;rcases Nat.lt_or_eq_of_le (gh h.rise (eW _ _) d)with q | q
    ·exact q
    ·exfalso;subst q;rcases iT i with z | z
     ·subst z;exact m d
     ·have n:SetTable.below t.place j<t.place.size:=by
       rcases W1 (SetTable.below t.place j+i) t.place.size with q | q
       ·omega
       ·rw[T5 q]at d;cases d
      have k:=T4 n;have a:=gh h.rise (i8 _) k;have c:=h.rise _ _ _ _ JA k d;omega
   ·have e:x<j:=by
     obtain⟨i,d⟩:=eF.mp l;rw[List.getElem?_take]at d;split at d
     ·rw[J7]at d;exact ki h.rise JA d
     ·cases d
    rcases h8.mp f with q | q
    ·rw[q];exact e
    ·obtain⟨i,d⟩:=eF.mp q;rw[Z7,J7]at d;exact r9 e (gh h.rise (eW _ _) d)
  have r:=pY this
  rwa [Array.toArray_toList]at r
 ·show(if SetTable.has t.dummies j then _ else t.dummies) = #[];rw[h.dum,pZ];rfl
theorem Tab.orStandIn(h:Tab t b)(n:Nat):Tab (t.orStandIn n) b:=by
 unfold SetTable.orStandIn;split
 ·exact h
 ·exact h.standIn n
theorem Tab.layNew{t:Jx}{b:Bool}(h:Tab t b)(es:Jo (Int×Jj))(z:Int)(x:Jj):Tab (layNew t es z x).2.1 b:=by
 unfold PySem.layNew;split
 ·rename_i j w e;exact(h.put (zY h e)).orStandIn _
 ·exact h.standIn _
theorem qa{f:Nat->Ji Nat}:∀{l:ge Nat},l.Pairwise (· < ·)->((l.filterMap λ j=>(f j).map (j,·)).map (·.1)).Pairwise (· < ·)
 | [],_=>.nil
 | a::l,h=>by
  obtain⟨o,n⟩:=L3.mp h;have d:=qa (f:=f) n;rw[aO];cases e:f a with
  | none=>exact d
  | some c=>
   refine L3.mpr ⟨λ y i=>?_,d⟩;obtain⟨p,k,rfl⟩:=i4.mp i;obtain⟨j,m,b⟩:=aQ.mp k;cases g:f j with
   | none=>rw[g]at b;cases b
   | some c2=>rw[g]at b;cases b;exact o j m
theorem Tab.relayAll{t:Jx}{b:Bool}(h:Tab t b)(es:Jo (Int×Jj))(n:Nat):Tab (relayAll t es n).2.1 b:=by
 unfold PySem.relayAll;split
 ·rename_i t' order e;dsimp only;split
  ·show Tab t' b;unfold SetTable.relaid SetTable.laid at e;cases hl:SetTable.layClean (SetTable.sizeAbove n - 1) (es.map (·.1))with
   | none=>rw[hl]at e;cases e
   | some owner=>
    rw[hl]at e;cases e;exact⟨pY (qa (iM)),rfl,h.led⟩
  ·exact h.standIn _
 ·exact h.standIn _
theorem kj{b:Type}{x:b}:∀{l:ge b} {i:Nat} (h:i<l.length),l[i]=x->(x::l.eraseIdx i).Perm l
 | [],i,h,_=>by cases h
 | a::l,0,_,e=>by have e:=e;subst e;exact .rfl
 | a::l,i+1,h,e=>by rw[List.eraseIdx_cons_succ];exact(List.Perm.swap a x _).trans (List.Perm.cons a (kj (Kg h) (Kg e)))
theorem Aa(d:Nat->Nat):∀(c k:Nat) (b:ge i) (f:Jo i),b.length<=c->(pickOrder.go d c k b f).toList.Perm (f.toList++b):=by
 intro c
 induction c with
 | zero=>
  intro k b f h;have:b=[]:=Z3.mp JA;subst this;unfold pickOrder.go;rw[E4]
 | succ n j=>
  intro k b f h;unfold pickOrder.go;cases e:b[d k%b.length]? with
  | none=>
   have:b=[]:=by
    cases b with
    | nil=>rfl
    | cons a r=>
     have g:d k%(a::r).length<(a::r).length:=Nat.mod_lt _ JL;rw[k7 g]at e;cases e
   subst this;rw[E4]
  | some x=>
   obtain⟨g,l⟩:=v4.mp e;refine(j _ _ _ ((by rw[List.length_eraseIdx,f8 g];omega))).trans ?_;rw[Array.toList_push,T7];refine List.Perm.append_left _ ?_;exact kj g l
theorem qb(a:Nat->Nat)(xs:Jo b):(pickOrder a xs).toList.Perm xs.toList:=by
 unfold pickOrder;exact(Aa a xs.size 0 xs.toList #[] JL).trans JL
noncomputable def N7:Jj->Int
 | .int n _=>n
 | _=>0
noncomputable def C7(w:Jp):Bool:=w.params.followText "set-order"
def SetI(prog:Jq)(w:Jp)(h:Jm)(a:Jl)(ks:ge Int):Prop:=
 ∃o es ep t,h.get? a=some o/\o.ExactSet/\o.data=.set es ep t/\ElemsOf (intKind prog w) es.toList/\(es.toList.map λ e=>N7 e.2).Perm ks/\es.size<scanBound/\t.fits es.size=true/\Tab t (!C7 w)
theorem qc(h:ElemsOf (intKind prog w) es)(b:e∈es):∃t,e.2=.int (N7 e.2) t:=by
 obtain⟨⟨k,a,_⟩,_⟩:=h e b;obtain⟨t,q⟩:=Value.isInt_shape a;exact⟨t,by rw[q];rfl⟩
theorem qd(h:ElemsOf (intKind prog w) es)(a:e∈es)(k:Int):(intKind prog w).is k e.2=true↔N7 e.2=k:=by
 obtain⟨t,q⟩:=qc h a;rw[q];show Value.isInt k (.int _ t)=true↔_;simp[Value.isInt,N7]
theorem SetI.at{prog:Jq}{w:Jp}{a:Jl}{ks:ge Int}{h h':Jm}(x:SetI prog w h a ks)(k:∀o,h.get? a=some o->h'.get? a=some o):SetI prog w h' a ks:=by
 obtain⟨o,es,ep,t,ho,r⟩:=x;exact⟨o,es,ep,t,k o ho,r⟩
theorem qe{h:Jm}(c:h.get? a=some o)(b:o.data=.set es ep t) :
  (h.update a (Obj.putSet es' t')).get? a=some {o with data:=.set es' (ep+1) t'}:=by
 have q:=V4 (Obj.putSet es' t') c (by rw[putSet_of es' t' b];rfl)
 rwa [putSet_of es' t' b]at q
theorem Ab{prog:Jq}{w:Jp}{A:Jr}{E:Jj->Jk->Prop}{s:Jk}{a:Jl}{ks:ge Int}{k:Int}{tk:Tok}{Q:Ji Bool->Jk->Prop}{o:Obj}{es:Jo (Int×Jj)}{ep:Nat}{t:Jx}(ho:s.heap.get? a=some o)(hx:o.ExactSet)(hd:o.data=.set es ep t)
  (hel:ElemsOf (intKind prog w) es.toList) (hp:(es.toList.map λ e=>N7 e.2).Perm ks) (hb:es.size+1<scanBound) (ht:Tab t (!C7 w))
  {es1:Jo (Int×Jj)} {t1:Jx} (p1:es1.toList.Perm (es.toList++[(hashInt k,Value.int k tk)])) (f1:t1.fits es1.size=true) (g1:Tab t1 (!C7 w)) (wd:Bool) {g:Bool->Sem Unit}
  (hg:∀(b:Bool) (s₁:Jk) (Q':Unit->Jk->Prop),Q' () s₁->wpAny JG A (g b) Q' E s₁)
  (h:∀h',Heap.SameBut a s.heap h'->SetI prog w h' a (ks++[k])->Q (some true) {s with heap:=h'}) :
  wpAny JG A (do
   storeSet a es1 t1
   if(!wd&&t1.tooFull)=true then do
    g (relayAll t1 es1 (SetTable.grown es1.size)).2.2
    storeSet a (relayAll t1 es1 (SetTable.grown es1.size)).1 (relayAll t1 es1 (SetTable.grown es1.size)).2.1
    pure (some true)
   else pure (some true)) Q E s:=by
 have z1:es1.size=es.size+1:=(by have:=p1.length_eq;rw[t5,A3,A3]at this;exact this);have e1:ElemsOf (intKind prog w) es1.toList:=(hel.push (intKind_is prog w k tk) rfl).perm p1;have m1:(es1.toList.map λ e=>N7 e.2).Perm (ks++[k]):=(by refine(p1.map _).trans ?_;rw[C4];exact hp.append_right _);have b1:es1.size<scanBound:=by omega
 refine f0 (wpAny_storeSet_of ho hd ?_ (iZ b1));have o1:=qe (es':=es1) (t':=t1) ho hd;have sb:=K9 s.heap a (Obj.putSet es1 t1);split
 ·have p2:=relayAll_perm t1 es1 (SetTable.grown es1.size);have f2:=relayAll_fits t1 es1 (SetTable.grown es1.size);have g2:=g1.relayAll es1 (SetTable.grown es1.size);generalize relayAll t1 es1 (SetTable.grown es1.size)=R at p2 f2 g2 ⊢;have z2:R.1.size=es1.size:=by
   have:=p2.length_eq
   rwa [A3,A3]at this
  have b2:R.1.size<scanBound:=by omega
  refine f0 (hg _ _ _ ?_);refine f0 (wpAny_storeSet_of o1 rfl ?_ (iZ b2));refine f9 (h _ (sb.trans (K9 _ a _)) ?_);exact⟨_,R.1,_,R.2.1,qe o1 rfl,hx,rfl,e1.perm p2,(p2.map _).trans m1,b2,f2,g2⟩
 ·refine f9 (h _ sb ?_);exact⟨_,es1,_,t1,o1,hx,rfl,e1,m1,b1,f1,g1⟩
theorem Ac(Z:SetI prog w s.heap a ks)(hr:ks.length+1<scanBound)
  (h:∀n b,Heap.SameBut a s.heap n->SetI prog w n a (dk ks k)->Q b {s with heap:=n}) :
  wpAny JG A (setAddHashed a (.int k tk) (hashInt k)) Q E s:=by
 obtain⟨o,es,ep,t,B,W,F,f,u,Y,P,K⟩:=id Z;have hz:es.size=ks.length:=by
  have:=u.length_eq
  rwa [g6,A3]at this
 have M:∀(b:Bool) (d:Jk) (H:Unit->Jk->Prop),H () d->wpAny JG A (match b with | true=>rule "set.scan.the-table-gave-way" | false=>pure ()) H E d:=λ b d H q=>by
  cases b with
  | true=>exact bf q
  | false=>exact f9 q
 unfold setAddHashed setAddHashedIn;refine B6 (f0 (aU B F P ?_));dsimp only;rw[byScan_of rfl Y f,f8 rfl];unfold setAddByScan;refine f0 (f0 (bf (f0 ?_)));refine wpAny_setScan_of (intKind_is prog w k tk) B F P f ?_;cases O:es.toList.findIdx? _ with
 | some j=>
  obtain⟨N,X,_⟩:=List.findIdx?_eq_some_iff_getElem.mp O;have C:=u.mem_iff.mp (i4.mpr ⟨es.toList[j],P0 N,(qd f (P0 N) k).mp X⟩);have m:dk ks k=ks:=by unfold dk;rw[f8 C]
  refine f9 (f9 ?_);have:=h s.heap false (Heap.SameBut.refl a s.heap) Kz;exact this
 | none=>
  have C:k∉ks:=λ z=>by obtain⟨e,R,q⟩:=i4.mp (u.mem_iff.mpr z);have:=List.findIdx?_eq_none_iff.mp O e R;rw[(qd f R k).mpr q]at this;cases this
  have m:dk ks k=ks++[k]:=(by unfold dk;rw[g7 C]);rw[m]at h;dsimp only;have p1:=layNew_perm t es (hashInt k) (.int k tk);have y:=layNew_fits t es (hashInt k) (.int k tk);have v:=K.layNew es (hashInt k) (.int k tk);show wpAny _ _ _ _ _ _
  change wpAny _ A (match layNew t es (hashInt k) (.int k tk)with | _=>_) _ _ _
  generalize layNew t es _ _=L at p1 y v ⊢;obtain⟨c,J,I,gv⟩:=L;rw[Array.toList_push]at p1;dsimp only at p1 y v ⊢;refine f0 (M gv _ _ ?_);have p:∀g:Jx,g.fits c.size=true->Tab g (!C7 w)->wpAny JG A (do
   storeSet a c g
   if(!I&&g.tooFull)=true then do
    (λ b:Bool=>match b with | true=>rule "set.scan.the-table-gave-way" | false=>pure ()) (relayAll g c (SetTable.grown c.size)).2.2
    storeSet a (relayAll g c (SetTable.grown c.size)).1 (relayAll g c (SetTable.grown c.size)).2.1
    pure (some true)
   else pure (some true)) (λ r U=>wpAny JG A (match r with | some l=>pure l | none=>setAddHashedIn a (.int k tk) (hashInt k) 99999) Q E U) E s:=λ g f2 g2=>
   Ab B W F f u JA K p1 f2 g2 I M λ n S S'=>f9 (h n true S S')
  split
  ·refine f0 ?_;rw[hashByValue_scannable 8 rfl];refine f9 ?_;exact p J y v
  ·refine f0 (f9 ?_);exact p J y v
open PySem.Spec PyProof.Rows
def fm(val:Nat->Int)(i:Nat):ge Int:=((JY i).map val).foldl dk []
theorem qf(a:Nat->Int)(i:Nat):fm a (i+1)=dk (fm a i) (a i):=by
 unfold fm;rw[jm,C4,List.foldl_append];rfl
theorem gj(σ:ge Int)(k:Int):(dk σ k).length<=σ.length+1:=by
 unfold dk;split
 ·exact fy _
 ·rw[t5];exact i8 _
theorem qg(a:Nat->Int):∀i,(fm a i).length<=i
 | 0=>i8 _
 | i+1=>by rw[qf];exact i7 (gj _ _) (Nat.succ_le_succ (qg a i))
theorem SetI.moved(x:SetI prog w s.heap S ks)(b:Moved wr G s a)(c:S∉wr):SetI prog w a.heap S ks:=x.at λ o e=>b.heap S o c e
theorem Ad{prog:Jq}{w:Jp}{A:Jr}{I:Jl}{n:Nat}{St:Nat->Jk->Prop}(W:WalksS prog w A.in1 I fp f G n P St)(S:Jl)(j:S∉fp)(val:Nat->Int)(g:∀i v,P i v->∃t,v=.int (val i) t)(d:n+1<scanBound) :
  ∀(k i:Nat) (s:Jk),i+k=n->St i s->SetI prog w s.heap S (fm val i) ->
   (∀a,Moved (S::f) G s a->SetI prog w a.heap S (fm val n)->R (.ok (.ret .none)) a)->codeAny JG A (.builtin "set.update.loop" ⟨[.ref S,.ref I],[]⟩) R s:=by
 have u:S∉f:=λ z=>j (W.sub S z);have r:∀b∈f,b∈S::f:=λ b z=>n6 S z;intro k
 induction k with
 | zero=>
  intro i s e st hs q;have e:i=n:=e;subst e;refine Q6 nX ?_;rw[V5 iK];show wpAny JG A.in1 (pyNext (.ref I) >>= _) _ _ s;refine f0 (W.done s _ _ st λ a h=>?_);show wpAny JG A.in1 (ret Value.none) _ _ a;exact f9 (q a (h.mono r) (hs.moved h u))
 | succ k C=>
  intro i s e st hs q;have H:i<n:=by omega
  refine Q6 nX ?_;rw[V5 iK];show wpAny JG A.in1 (pyNext (.ref I) >>= _) _ _ s;refine f0 (W.item i s _ _ H st λ v a J l h=>?_);obtain⟨t,E⟩:=g i v J;subst E;have m:=hs.moved h u;show wpAny JG A.in1 _ _ _ a;refine f0 (B6 ?_);unfold setAdd;refine B6 (f0 ((intKind prog w).pyHash (k:=val i) (intKind_is prog w (val i) t) ?_));have hl:=qg val i;refine Ac (s:={a with toks:=a.toks+1}) (k:=val i) (tk:=t) m JA λ x b y L=>?_;have c:∀b o,b≠S->a.heap.get? b=some o->x.get? b=some o:=λ b o d e=>by rw[y.2 b d];exact e
  refine f9 ⟨T9 iK _,C (i+1) _ JA (W.frame (i+1) a x _ l (fy _) λ b d o e=>c b o (λ z=>j (z▸d)) e) (by rw[qf];exact L) λ B p K=>?_⟩;refine q B (Moved.trans W.gtrans ((h.mono r).then_heap (fy _) λ b o d e=>c b o (λ z=>d (z▸n9)) e) p) K
noncomputable def set0(w:Jp):Obj:={cls:=.type "set",dict:=none,data:=.set #[] 0 (.fresh 0 0 (!C7 w))}
theorem Ae(e:h.get? a=some (set0 w)):SetI prog w h a []:=
 ⟨_,#[],0,_,e,⟨rfl,rfl,rfl⟩,rfl,λ _ z=>by simp at z,by simp,by decide,by rfl,Tab.fresh _⟩
theorem Af(v:Jj)(h:Q (JR s.heap.objs.size) {s with heap:=s.heap.push (set0 w)}) :
  codeAny JG A (.call (.builtin "set.__new__") ⟨[.type "set",v],[]⟩) (wants Q E) s:=by
 refine codeAny_of_tree ?_;show wpAny _ A.in1 _ _ _ s;refine f0 (ag (F.newCall_set_1 v) ?_);refine f9 ⟨T9 F.plain_set_new _,Q6 F.entry_set_new ?_⟩;rw[V5 F.plain_set_new];unfold Builtin.«set.__new__» Builtin.Frozenset.newClass;have q:=sub_set_self;obtain⟨h0,g0,d0,t0,o0⟩:=s
 wp_walk
 refine aV (f9 ?_);simp[newObj];exact f0 (wpAny_alloc (f9 (f9 h)))
theorem Ag{prog:Jq}{w:Jp}{A:Jr}{E:Jj->Jk->Prop}{s:Jk}{l:Jl}{items:Jo Jj}{ns:ge Int}{Q:Jj->Jk->Prop}(hh:KR)(hl:s.heap.IsList l items)(hi:IntsAre items.toList ns)(hb:items.size+1<scanBound)
  (h:∀h' tk,SetI prog w h' s.heap.objs.size (fm (λ i=>ns.getD i 0) items.size)->(∀b o,s.heap.get? b=some o->h'.get? b=some o)->Q (JR s.heap.objs.size) {s with heap:=h',toks:=tk}) :
  wpAny JG A (call (.type "set") [.ref l]) Q E s:=by
 have m0:=F.called_set.mro;obtain⟨c0,r0,m1⟩:=m0;have m2:=F.called_set.made;have m3:=F.called_set.sub;have m4:=F.called_set.notType;have m5:=F.called_set.canCreate;have m6:=F.typeCall_set_1 (.ref l);refine cI (codeAny_of_tree ?_);show wpAny JG _ (callAny (.type "set") _) _ _ _;refine f9 ⟨Code.quiet_builtin _ KA,Q6 F.entry_type_call ?_⟩;rw[Around.under_plain (weight_type_call_type "set" [.ref l] []) rfl]
 repeat (any_goals (first | assumption | wp_step))
 refine N4 (Af (.ref l) (E:=E) (Q:=λ v s1=>v=.ref s.heap.objs.size/\s1 = {s with heap:=s.heap.push (set0 w)}) ⟨rfl,rfl⟩) λ r s1 q=>?_;cases r with
 | error e=>exact q
 | ok f=>
  cases f with
  | ret v=>
   obtain⟨e1,e2⟩:=q;subst e1;subst e2;have g0:(s.heap.push (set0 w)).get? s.heap.objs.size=some (set0 w):=q0 _ rfl;have ty:Shared.TypeIs {s with heap:=s.heap.push (set0 w)} (JR s.heap.objs.size) "set":=⟨_,g0,rfl⟩;have n1:=F.called_set.init.lookup;have n2:=F.called_set.init.bind (JR s.heap.objs.size)
   repeat (any_goals (first | assumption | wp_step))
   refine N4 (iQ (R:=wants (λ v s2=>v=.none/\∃h' tk,s2 = {s with heap:=h',toks:=tk} /\ SetI prog w h' s.heap.objs.size (fm (λ i=>ns.getD i 0) items.size) /\
     ∀b o,s.heap.get? b=some o->h'.get? b=some o) E) F.called_set.init.plain F.entry_set_init (check_set_init_1 ty ?_)) λ r2 s2 q2=>?_
   ·obtain⟨⟨k1,k2,k3,k4⟩,kl,kc,kn,kd⟩:=hl;dsimp only at kc kd;subst kc;subst kd;have kl':(s.heap.push (set0 w)).get? l=some {cls:=.type "list",dict:=k2,data:=.seq items kn,slots:=k4}:=i3 _ kl;have il:(s.heap.push (set0 w)).IsList l items:=⟨_,kl',rfl,kn,rfl⟩;have p1:=F.sub_list_set;have p2:=F.sub_list_frozenset;have p3:(Value.type "list" == Value.type "dict")=false:=by decide
    unfold Builtin.«set.__init__» noKeywords Builtin.Frozenset.updateFrom;generalize hP:pyIter=PI
    wp_walk
    subst hP;refine iW il (f0 (wpAny_runValue ?_));have l0:l<s.heap.objs.size:=j9 kl;have z1:(s.heap.push (set0 w)).objs.size=s.heap.objs.size+1:=F7 _ _;have a1:l≠(s.heap.push (set0 w)).objs.size:=by rw[z1];exact p6 (L4 l0)
    have a2:s.heap.objs.size∉[(s.heap.push (set0 w)).objs.size,l]:=by
     rw[z1];intro z;rcases h8.mp z with z | z
     ·exact absurd z (p6 (O9 _))
     ·exact absurd (u7.mp z) (Q8 l0)
    refine Ad ((fB (by show A.handled=none;exact hh) _ l a1 items).toS) s.heap.objs.size a2 (λ i=>ns.getD i 0) (λ i v e=>IntsAre.int_at hi i v (by rw[J7];exact e)) hb
     items.size 0 _ (jy _) ⟨⟨_,q0 _ rfl,rfl,rfl⟩,il.push _⟩ (Ae (i3 _ g0)) λ s3 hm S3=>?_
    obtain⟨h3,g3,d3,t3,o3⟩:=s3;have b1:g3=s.gens:=hm.gens;have b2:d3=s.drawn:=hm.drawn;have b3:o3=s.os:=hm.os;subst b1;subst b2;subst b3;show wpAny JG _ _ _ _ _;refine f9 ?_;show wpAny JG _ (ret Value.none) _ _ _;refine f9 ⟨rfl,h3,t3,rfl,S3,λ b o e=>?_⟩;have b4:=j9 e;refine hm.heap b o (λ z=>?_) (i3 _ (i3 _ e));rcases h8.mp z with z | z
    ·exact absurd z (p6 b4)
    ·have:=u7.mp z;rw[z1]at this;exact absurd this (p6 (L4 b4))
   ·cases r2 with
    | error e=>exact q2
    | ok f2=>
     cases f2 with
     | ret v2=>
      obtain⟨c1,h',tk,c2,c3,c4⟩:=q2;subst c1;subst c2
      repeat (any_goals (first | assumption | wp_step))
      exact h h' tk c3 c4
     | _=>exact q2.elim
  | _=>exact q.elim
def E7(h:Jm)(I a:Jl)(f:Jj)(i n ep:Nat):Prop:=∃o,h.get? I=some o/\o.cls=.type "set_iterator" /\ o.data=.fields #[f,.int i 0,.ref a,.int n 0,.int ep 0]
def G7(h:Jm)(a:Jl)(es:Jo (Int×Jj))(ep:Nat)(t:Jx):Prop:=∃o,h.get? a=some o/\o.ExactSet/\o.data=.set es ep t
theorem E7.typeIs{s:Jk}(x:E7 s.heap I a f i n ep):s.TypeIs (.ref I) "set_iterator":=let ⟨o,e,c,_⟩:=x;⟨o,e,c⟩
theorem E7.at{h h':Jm}{I a:Jl}{f:Jj}{i n ep:Nat}(x:E7 h I a f i n ep)(k:∀o,h.get? I=some o->h'.get? I=some o):E7 h' I a f i n ep:=let ⟨o,e,c⟩:=x;⟨o,k o e,c⟩
theorem G7.at{h h':Jm}{a:Jl}{es:Jo (Int×Jj)}{ep:Nat}{t:Jx}(x:G7 h a es ep t)(k:∀o,h.get? a=some o->h'.get? a=some o):G7 h' a es ep t:=let ⟨o,e,c⟩:=x;⟨o,k o e,c⟩
theorem G7.typeIs{s:Jk}(x:G7 s.heap a es ep t):s.TypeIs (.ref a) "set":=let ⟨o,e,c,_⟩:=x;⟨o,e,c.1⟩
theorem P6:Slot "set_iterator" "__next__" "set_iterator.__next__":=
 .of (owner:="set_iterator") (n:="__next__") (by rw[typeLookup_type,oB];kernel_rfl) KA KA KA
  (by first | exact .inl (by decide +kernel) | exact .inr (by decide +kernel)) (by rw[jr];kernel_rfl)
theorem gk:entryFor table "set_iterator.__next__" = some Builtin.«set_iterator.__next__»:=entryFor_of_tree LB
theorem gl(v:Jj):argsOk "set_iterator.__next__" ⟨[v],[]⟩:=by unfold argsOk;kernel_rfl
theorem Ah:entryFor table "set.__iter__" = some Builtin.«frozenset.__iter__»:=entryFor_alias (id':="frozenset.__iter__") LB rfl KA LB
theorem qh{ep:Nat}{h:Jm}{i:Nat}{n:Nat}(e:h.get? I=some o)(c:o.cls=.type "set_iterator")(d:o.data=.fields #[f,.int i 0,.ref a,.int n 0,.int ep 0]) :
  E7 (h.update I (Obj.mapFields (·.setIfInBounds 1 (rawInt ((i:Int)+1))))) I a f (i+1) n ep:=by
 refine⟨_,V4 _ e (eE (aR d _)),(iY ..).trans c,?_⟩;rw[aR d];simp[rawInt]
theorem qk{ep:Nat}{h:Jm}(g:Jj){i:Nat}{n:Nat}(e:h.get? I=some o)(c:o.cls=.type "set_iterator")(d:o.data=.fields #[f,.int i 0,.ref a,.int n 0,.int ep 0]) :
  E7 (h.update I (Obj.mapFields (·.setIfInBounds 0 g))) I a g i n ep:=by
 refine⟨_,V4 _ e (eE (aR d _)),(iY ..).trans c,?_⟩;rw[aR d];simp
theorem ql{prog:Jq}{w:Jp}{A:Jr}{E:Jj->Jk->Prop}{s:Jk}{I a:Jl}{es:Jo (Int×Jj)}{ep:Nat}{t:Jx}{Q:Ji Jj->Jk->Prop}{slot i j:Nat}{x:Jj}(hI:E7 s.heap I a (.int slot 0) i es.size ep)(hS:G7 s.heap a es ep t)(hf:LG)
  (hn:∀(A:Jr) (E':Jj->Jk->Prop) (Q':Ji (Jj×Nat)->Jk->Prop),Q' (some (x,j)) s->wpAny JG A (setNext a slot i ep) Q' E' s)
  (hQ:∀h',E7 h' I a (.int j 0) (i+1) es.size ep->Heap.SameBut I s.heap h'->Q (some x) {s with heap:=h'}):wpAny JG A (pyNext (.ref I)) Q E s:=by
 obtain⟨o,ho,hc,hd⟩:=id hI;obtain⟨p,hp,hx,hq⟩:=id hS;unfold pyNext;refine f0 (Q7 (O4 (name:=Str.ofString "__next__") hI.typeIs P6 (G4 P6 hI.typeIs gk ?_ (gl _))));unfold Builtin.«set_iterator.__next__»;refine f0 (f9 ?_);dsimp only;refine f0 (cu ho hd ?_);dsimp only;refine f0 (bW hp hq hf ?_);rw[show(((es.size:Nat):Int) != ((es.size:Nat):Int))=false by simp,g7 B5];simp only[A8];refine f0 (hn _ _ _ ?_);dsimp only;refine f0 (W0 ho hd JL ?_);have I1:=qk (ep:=ep) (rawInt j) ho hc hd;obtain⟨o1,ho1,hc1,hd1⟩:=id I1;refine f0 (W0 ho1 hd1 JL (f9 ⟨x,rfl,f9 (hQ _ (qh ho1 hc1 hd1) ?_)⟩));exact(K9 ..).trans (K9 ..)
theorem qm{prog:Jq}{w:Jp}{A:Jr}{E:Jj->Jk->Prop}{s:Jk}{I a:Jl}{es:Jo (Int×Jj)}{ep:Nat}{t:Jx}{Q:Ji Jj->Jk->Prop}{slot i:Nat}(hh:KR)(hI:E7 s.heap I a (.int slot 0) i es.size ep)(hS:G7 s.heap a es ep t)(hf:LG)
  (hn:∀(A:Jr) (E':Jj->Jk->Prop) (Q':Ji (Jj×Nat)->Jk->Prop),Q' none s->wpAny JG A (setNext a slot i ep) Q' E' s)
  (hQ:∀h',Heap.ExtBut I s.heap h'->Q none {s with heap:=h'}):wpAny JG A (pyNext (.ref I)) Q E s:=by
 obtain⟨o,ho,hc,hd⟩:=id hI;obtain⟨p,hp,hx,hq⟩:=id hS;unfold pyNext;refine f0 (Q7 (O4 (name:=Str.ofString "__next__") hI.typeIs P6 (G4 P6 hI.typeIs gk ?_ (gl _))));unfold Builtin.«set_iterator.__next__»;refine f0 (f9 ?_);dsimp only;refine f0 (cu ho hd ?_);dsimp only;refine f0 (bW hp hq hf ?_);rw[show(((es.size:Nat):Int) != ((es.size:Nat):Int))=false by simp,g7 B5];simp only[A8];refine f0 (hn _ _ _ ?_);dsimp only;refine f0 (W0 ho hd JL ?_);refine f0 ?_;simp only[newExc,newTuple];refine f0 (C3 ?_ (by size_fits));refine f0 (m:=firstArgMember _ _) (ag (a:=Value.none) (by first | rfl | (simp only[firstArgMember];rfl)) ?_);refine C3 ?_ (by size_fits);simp only[raiseNew];refine f0 (ju ?_);rw[show A.in1.handled=none from hh];refine f0 (f9 (wpAny_throw ?_));refine f0 (bZ (T:="StopIteration") (b:=true) ⟨_,q0 _ rfl,rfl⟩ fg ?_);exact f9 (hQ _ (((K9 ..).extBut.push _).push _))
theorem Ai{k:Nat}(f:E7 s.heap I a (.ref q) i es.size ep)(B:G7 s.heap a es ep t)(l:LG)(r:IsTup s.heap q ps)(u:ps[i]? = some (.int k 0))(n:es[k]? = some (z,x))
  (C:∀g,E7 g I a (.ref q) (i+1) es.size ep->Heap.SameBut I s.heap g->Q (some x) {s with heap:=g}):wpAny JG A (pyNext (.ref I)) Q E s:=by
 obtain⟨o,c,y,e⟩:=id f;obtain⟨p,j,m,h⟩:=id B;unfold pyNext;refine f0 (Q7 (O4 f.typeIs P6 (G4 P6 f.typeIs gk ?_ (gl _))));unfold Builtin.«set_iterator.__next__»;refine f0 (f9 ?_);refine f0 (cu c e ?_);refine f0 (bW j h l ?_);rw[show(_ != _)=false by simp,g7 B5];simp[A8];obtain⟨oq,b,v,nq,d⟩:=r;refine f0 (af b d ?_);dsimp only;rw[u];unfold setNextDrawn;simp only[A8];refine f0 (f0 (aU j h l ?_));rw[show(ep != ep)=false by simp,g7 B5];rw[n];refine f9 ?_;refine f0 (W0 c e JL (f9 ⟨x,rfl,f9 (C _ (qh c y e) (K9 ..))⟩))
theorem Aj(v:KR)(j:E7 s.heap I a (.ref q) i es.size ep)(C:G7 s.heap a es ep t)(x:LG)(l:IsTup s.heap q ps)(u:ps[i]? = none)
  (F:∀k,Heap.ExtBut I s.heap k->Q none {s with heap:=k}):wpAny JG A (pyNext (.ref I)) Q E s:=by
 obtain⟨o,e,B,h⟩:=id j;obtain⟨p,r,hx,n⟩:=id C;unfold pyNext;refine f0 (Q7 (O4 j.typeIs P6 (G4 P6 j.typeIs gk ?_ (gl _))));unfold Builtin.«set_iterator.__next__»;refine f0 (f9 ?_);dsimp only;refine f0 (cu e h ?_);dsimp only;refine f0 (bW r n x ?_);rw[show(((es.size:Nat):Int) != ((es.size:Nat):Int))=false by simp,g7 B5];simp only[A8];obtain⟨oq,c,y,nq,f⟩:=l;refine f0 (af c f ?_);dsimp only;rw[u];dsimp only;refine f0 (W0 e h JL ?_);obtain⟨o1,d,z,g⟩:=qk (ep:=ep) (rawInt 0) e B h;refine f0 (W0 d g JL ?_);refine f0 ?_;simp only[newExc,newTuple];refine f0 (C3 ?_ (by size_fits));refine f0 (m:=firstArgMember _ _) (ag (a:=Value.none) (by first | rfl | (simp only[firstArgMember];rfl)) ?_);refine C3 ?_ (by size_fits);simp only[raiseNew];refine f0 (ju ?_);rw[show A.in1.handled=none from v];refine f0 (f9 (wpAny_throw ?_));refine f0 (bZ (T:="StopIteration") (b:=true) ⟨_,q0 _ rfl,rfl⟩ fg ?_);exact f9 (F _ ((((K9 ..).trans (K9 ..)).extBut.push _).push _))
section
variable {prog:Jq} {w:Jp} {A:Jr} {E:Jj->Jk->Prop} {s:Jk} {I a:Jl} {es:Jo (Int×Jj)} {ep:Nat} {t:Jx}
theorem qo(d:C7 w=true)(g:G7 s.heap a es ep t)(f:LG)
  (h:Q (((pickOrder (w.params.setOrder a ep) es)[i]?).map λ e=>(e.2,slot)) s):wpAny JG A (setNext a slot i ep) Q E s:=by
 obtain⟨p,c,hx,b⟩:=id g;unfold setNext;refine f0 (aU c b f ?_);dsimp only;unfold setsByText;refine f0 (f0 (aV (f9 ?_)));show wpAny _ A (if C7 w=true then _ else _) Q E s;rw[f8 d];rw[show(ep != ep)=false by simp,g7 B5];refine f0 ?_;unfold setWalk;refine f0 (aU c b f ?_);dsimp only;unfold setsByText;refine f0 (f0 (aV (f9 ?_)));show wpAny JG A (if C7 w=true then _ else _) _ E s;rw[f8 d];exact f0 (aV (f9 (f9 h)))
theorem qp(d:C7 w=false)(g:(!t.plain&&decide (es.size>1))=false)(e:t.led=true)(k:G7 s.heap a es ep t)(f:LG)
  (h:Q (match es[SetTable.below t.place slot]?,t.place[SetTable.below t.place slot]? with | some (_,x),some j=>some (x,j+1) | _,_=>none) s):wpAny JG A (setNext a slot i ep) Q E s:=by
 obtain⟨p,c,hx,b⟩:=id k;unfold setNext;refine f0 (aU c b f ?_);dsimp only;unfold setsByText;refine f0 (f0 (aV (f9 ?_)));show wpAny _ A (if C7 w=true then _ else _) Q E s;rw[g7 (by rw[d];exact B5)];show wpAny _ A (if(!t.plain&&decide (es.size>1))=true then _ else _) Q E s;rw[g,g7 B5];refine f0 ?_;show wpAny JG A (if(!t.led && !es.isEmpty)=true then _ else _) _ E s;rw[e];exact f9 (f9 h)
theorem Ak:∀(n:Nat) (a:ge e) (s:Jk),a.length=n->(∀l d,l.Perm a->Q l {s with drawn:=d})->wpAny JG A (drawOrder n a) Q E s:=by
 intro n
 induction n generalizing Q with
 | zero=>
  intro a s c h;have:=Z3.mp c;subst this;exact f9 (h [] s.drawn .rfl)
 | succ n g=>
  intro a s c h;cases a with
  | nil=>cases c
  | cons y r=>
   show wpAny _ A _ Q E s;have b:∀i,i<(y::r).length->wpAny _ A (match _[i]? with
     | some x=>do return x::(←drawOrder n ((y::r).eraseIdx i))
     | none=>unsupported "internal:drawOrder") Q E {s with drawn:=s.drawn.bump .order}:=λ i f=>by
    rw[(k7 f)];refine f0 (g _ _ Kz λ l d p=>f9 (h _ d ?_));exact(List.Perm.cons _ p).trans (kj f rfl)
   refine f0 λ Γ p j=>⟨by simp,?_⟩;exact b _ (Nat.mod_lt _ JL)
noncomputable def gm(f:Jj)(a:Jl)(n ep:Nat):Obj:={cls:=.type "set_iterator",data:=.fields #[f,.int 0 0,.ref a,.int n 0,.int ep 0]}
noncomputable def gn(l:ge Nat):Obj:={cls:=.type "tuple",data:=.seq (l.map λ (i:Nat)=>Value.int i 0).toArray}
theorem kq{h:Jm}:E7 (h.push (gm f a n ep)) h.objs.size a f 0 n ep:=⟨_,q0 _ rfl,rfl,rfl⟩
theorem Al(h:G7 s.heap a es ep t)(f:LG)(hb:es.size<=sizeLine)
  (m:(!C7 w&&(!t.plain&&decide (es.size>1)))=false->Q (JR s.heap.objs.size) {s with heap:=s.heap.push (gm (.int 0 0) a es.size ep)})
  (k:∀l d,C7 w=false->l.Perm (JY es.size)->Q (JR (s.heap.objs.size+1)) {s with heap:=(s.heap.push (gn l)).push (gm (JR s.heap.objs.size) a es.size ep),drawn:=d}) :
  wpAny JG A (pyIter (.ref a)) Q E s:=by
 obtain⟨p,c,hx,b⟩:=id h;refine ja h.typeIs F.slot_set_iter (G4 F.slot_set_iter h.typeIs Ah ?_ (F.args_set_iter_1 _));unfold Builtin.«frozenset.__iter__» Builtin.Frozenset.slot0 slotArgs;simp only[jg,Bool.not_true,aS,↓reduceIte,bind_assoc,jn,eV];unfold Builtin.Frozenset.addrOf Builtin.Frozenset.sizeOf;refine f0 (f9 ?_)
 try refine f0 (f9 ?_)
 refine f0 (f0 (bW c b f (f9 ?_)));unfold setDrawn;refine f0 (f0 (aU c b f ?_));unfold setsByText;refine f0 (f0 (aV (f9 (f9 ?_))));show wpAny _ _ (if(!C7 w&&(!t.plain&&decide _))=true then _ else _) _ _ _;by_cases g:(!C7 w&&(!t.plain&&decide (es.size>1)))=true
 ·rw[f8 g];have j:C7 w=false:=by
   cases e:C7 w with
   | false=>rfl
   | true=>rw[e]at g;cases g
  refine f0 (Ak es.size _ s (B7) λ l d i=>?_);have hl:l.length=es.size:=by rw[i.length_eq,B7]
  unfold newTuple;refine f0 (C3 ?_ (by show(l.map _).toArray.size<=_;simp;omega));refine f0 (wpAny_setEpoch_of (i3 _ c) b f ?_);refine f0 (C3 (f9 ⟨_,rfl,"set_iterator",_,⟨_,q0 _ rfl,rfl⟩,P6.lookup,?_⟩));have:=k l d j i;rw[←(F7 _ _)]at this;exact this
 ·rw[g7 g];refine f0 (f9 ?_);refine f0 (wpAny_setEpoch_of c b f ?_);refine f0 (C3 (f9 ⟨_,rfl,"set_iterator",_,⟨_,q0 _ rfl,rfl⟩,P6.lookup,?_⟩));exact m Kz
end
section
variable {prog:Jq} {w:Jp} {A:Jr} {E:Jj->Jk->Prop} {s:Jk} {I a:Jl} {es:Jo (Int×Jj)} {ep:Nat} {t:Jx}
abbrev Nx(prog:Jq)(w:Jp)(I:Jl)(fp:ge Jl)(n:Nat)(ws:ge Jj)(St:Nat->Jm->Prop):Prop:=
 ∀A:Jr,A.handled=none->WalksS prog w A I fp [I] (λ a b=>b=a) n (λ i v=>ws[i]? = some v) (λ i s=>St i s.heap)
theorem kr {fp : ge Jl} {n : Nat} {ws : ge Jj} {St : Nat -> Jm -> Prop} (hI : I ∈ fp) (hz : ws.length = n)
    (fr : ∀ i h h', St i h -> (∀ b ∈ fp, ∀ o, h.get? b = some o -> h'.get? b = some o) -> St i h')
    (it : ∀ (A : Jr) (E : Jj -> Jk -> Prop) (Q : Ji Jj -> Jk -> Prop) (s : Jk) i v, A.handled = none -> ws[i]? = some v -> St i s.heap -> (∀ h', St (i + 1) h' -> Heap.SameBut I s.heap h' -> Q (some v) { s with heap := h' }) -> wpAny JG A (pyNext (.ref I)) Q E s)
    (dn : ∀ (A : Jr) (E : Jj -> Jk -> Prop) (Q : Ji Jj -> Jk -> Prop) (s : Jk), A.handled = none -> St n s.heap -> (∀ h', Heap.ExtBut I s.heap h' -> Q none { s with heap := h' }) -> wpAny JG A (pyNext (.ref I)) Q E s)
    (sf : ∀ (A : Jr) (E : Jj -> Jk -> Prop) (Q : Jj -> Jk -> Prop) (s : Jk) i, St i s.heap -> Q (.ref I) s -> wpAny JG A (pyIter (.ref I)) Q E s) : Nx prog w I fp n ws St := λ A hh =>
  { sub := λ b hb => by rw [u7.mp hb]; exact hI
    grefl := λ _ => rfl
    gtrans := λ _ _ _ h1 h2 => h2.trans h1
    frame := λ i s h' tk st _ k => fr i s.heap h' st k
    item := λ i s Q E hi st hQ => by have hg : ws[i]? = some ws[i] := k7 JA;exact it A E Q s i _ hh hg st λ h' st' sb => hQ _ _ hg st' ⟨λ b o hb e => sb.extBut b o (λ z => hb (u7.mpr z)) e, rfl, rfl, rfl, i8 _⟩
    done := λ s Q E st hQ => dn A E Q s hh st λ h' eb => hQ _ ⟨λ b o hb e => eb b o (λ z => hb (u7.mpr z)) e, rfl, rfl, rfl, i8 _⟩
    self := λ i s Q E st hQ => sf A E Q s i st hQ }
theorem gp{h h':Jm}{b:Jl}(sb:Heap.SameBut I h h')(hb:b≠I):∀o,h.get? b=some o->h'.get? b=some o:=λ o e=>sb.extBut b o hb e
theorem qr:Slot "set_iterator" "__iter__" "set_iterator.__iter__":=
 .of (owner:="set_iterator") (n:="__iter__") (by rw[typeLookup_type,oB];kernel_rfl) KA KA KA
  (by first | exact .inl (by decide +kernel) | exact .inr (by decide +kernel)) (by rw[jr];kernel_rfl)
theorem Am:entryFor table "set_iterator.__iter__" = some Builtin.«dict_keyiterator.__iter__»:=entryFor_alias (id':="dict_keyiterator.__iter__") LB rfl KA LB
theorem An(v:Jj):argsOk "set_iterator.__iter__" ⟨[v],[]⟩:=by unfold argsOk;kernel_rfl
theorem kt(b:E7 s.heap I a f i n ep)(h:Q (.ref I) s):wpAny JG A (pyIter (.ref I)) Q E s:=by
 refine ja b.typeIs qr (G4 qr b.typeIs Am ?_ (An _));show wpAny _ _ _ _ _ s;exact f9 ⟨_,rfl,"set_iterator",_,b.typeIs,P6.lookup,h⟩
theorem Ao(l:C7 w=true)(c:LG)(f:a≠I) :
  Nx prog w I [I,a] es.size ((pickOrder (w.params.setOrder a ep) es).toList.map (·.2)) (λ i h=>E7 h I a (.int (0:Nat) 0) i es.size ep/\G7 h a es ep t):=by
 have hz:(pickOrder (w.params.setOrder a ep) es).size=es.size:=by
  have:=(qb (w.params.setOrder a ep) es).length_eq
  rwa [A3,A3]at this
 refine kr JL Kz (λ i h n st k=>⟨st.1.at (k I JL),st.2.at (k a JL)⟩) (λ A E Q s i v m b st g=>?_) (λ A E Q s m st g=>?_) λ A E Q s i st h=>kt st.1 h
 ·obtain⟨e,he,hev⟩:∃e,(pickOrder (w.params.setOrder a ep) es)[i]? = some e/\e.2=v:=by
   rw[p5,J7]at b;cases q:(pickOrder _ es)[i]? with
   | none=>rw[q]at b;cases b
   | some e=>rw[q]at b;cases b;exact⟨e,rfl,rfl⟩
  refine ql st.1 st.2 c (λ A p o q=>qo l st.2 c (by rwa [he,N2,hev])) λ n d j=>?_;exact g n ⟨d,st.2.at (gp j f)⟩ j
 ·refine qm m st.1 st.2 c (λ A p o q=>qo l st.2 c Kz) g
noncomputable def cW(t:Jx):Nat->Nat
 | 0=>0
 | i+1=>t.place.getD i 0+1
theorem qt(a:Rise t.place):∀{i:Nat},i<=t.place.size->SetTable.below t.place (cW t i)=i
 | 0,_=>zV a
 | i+1,h=>by have b:t.place[i]? = some t.place[i]:=T4 JA;show SetTable.below t.place (t.place.getD i 0+1)=i+1;rw[aM,b];exact zU a b
theorem Ap(g:C7 w=false)(y:(!t.plain&&decide (es.size>1))=false)(f:Tab t (!C7 w))(b:LG)(l:a≠I) :
  Nx prog w I [I,a] es.size (es.toList.map (·.2)) (λ i h=>E7 h I a (.int (cW t i:Nat) 0) i es.size ep/\G7 h a es ep t/\i<=es.size):=by
 have p:t.led=true:=by rw[f.led,g];rfl
 have hz:t.place.size=es.size:=(by unfold SetTable.fits at b;rw[f7]at b;exact g9.mp b.1);refine kr JL (by rw[g6,A3]) (λ i h B st k=>⟨st.1.at (k I JL),st.2.1.at (k a JL),st.2.2⟩) (λ A E Q s i v r c st n=>?_) (λ A E Q s r st n=>?_) λ A E Q s i st h=>kt st.1 h
 ·obtain⟨z,he⟩:∃z,es[i]? = some (z,v):=by
   rw[p5,J7]at c;cases q:es[i]? with
   | none=>rw[q]at c;cases c
   | some e=>rw[q]at c;cases c;exact⟨e.1,rfl⟩
  have F:i<es.size:=by
   rcases W1 i es.size with h | h
   ·exact h
   ·rw[T5 h]at he;cases he
  have u:t.place[i]? = some t.place[i]:=T4 JA;have m:=qt f.rise (i:=i) JA;have C:cW t (i+1)=t.place[i]+1:=(by show t.place.getD i 0+1=_;rw[aM,u];rfl);refine ql (slot:=cW t i) (j:=cW t (i+1)) (x:=v) st.1 st.2.1 b (λ A J H q=>qp g y p st.2.1 b (by rw[m,he,u];rw[C]at q;exact q)) λ B d o=>?_;exact n B ⟨d,st.2.1.at (gp o l),F⟩ o
 ·have m:=qt f.rise (i:=es.size) JA;refine qm r st.1 st.2.1 b (λ A J H q=>qp g y p st.2.1 b (by rw[m,T5 (i8 _)];exact q)) n
theorem Aq{l:ge Nat}(n:l.Perm (JY es.size))(u:LG)(g:a≠I)(B:q≠I) :
  Nx prog w I [I,a,q] es.size (l.map λ i=>(es.getD i (0,.none)).2) (λ i h=>E7 h I a (.ref q) i es.size ep/\G7 h a es ep t/\IsTup h q (l.map λ (i:Nat)=>Value.int i 0).toArray):=by
 have hl:l.length=es.size:=by rw[n.length_eq,B7]
 refine kr JL Kz (λ i h z st k=>⟨st.1.at (k I JL),st.2.1.at (k a JL),let ⟨o,e,r⟩:=st.2.2;⟨o,k q JL o e,r⟩⟩) (λ A E Q s i v p b st m=>?_) (λ A E Q s p st m=>?_) λ A E Q s i st h=>kt st.1 h
 ·obtain⟨k,hk,hkv⟩:∃k,l[i]? = some k/\(es.getD k _).2=v:=by
   rw[p5]at b;cases q:l[i]? with
   | none=>rw[q]at b;cases b
   | some k=>rw[q]at b;cases b;exact⟨k,rfl,rfl⟩
  have j:=(by have:=n.mem_iff.mp (eF.mpr ⟨i,hk⟩);exact q9.mp this);have y:=T4 j;have f:es[k].2=v:=(by rw[←hkv,aM,y];rfl);refine Ai (x:=v) st.1 st.2.1 u st.2.2 (by rw[←J7,List.toList_toArray,p5,hk];rfl) (by rw[y,←f]) λ z c d=>?_;exact m z ⟨c,st.2.1.at (gp d g),let ⟨o,e,r⟩:=st.2.2;⟨o,gp d B o e,r⟩⟩ d
 ·refine Aj p st.1 st.2.1 u st.2.2 (T5 Kz) m
end
section
variable {prog:Jq} {w:Jp} {A:Jr} {E:Jj->Jk->Prop} {s:Jk} {I a:Jl} {es:Jo (Int×Jj)} {ep:Nat} {t:Jx} {ks:ge Int}
theorem Ar(d:s.TypeIs (.ref a) "set")(h:Q false s):wpAny JG A (Builtin.List.listLengthHint (.ref a)) Q E s:=by
 unfold Builtin.List.listLengthHint;refine f0 (wpAny_specialOf d F.slot_set_len.lookup ?_);generalize c:("set.__len__" : Jz)=id0
 wp_delta
 rw[show splitId id0=some ("set","__len__")from by subst c;decide +kernel];subst c;refine f0 (bZ (b:=true) d (by rw[jr];kernel_rfl) ?_);refine jo (λ z=>absurd z JB) λ _=>?_
 refine jo (λ _=>?_) λ z=>absurd KA z;exact f0 (cC d (f9 h))
theorem qu{S:Jl}{fp:ge Jl}{n c0:Nat}{ws:ge Jj}{St:Nat->Jm->Prop}{c:Bool->Bool}{s1:Jk}{res:Jj}{R:Result->Jk->Prop}{EE:Jj->Jk->Prop}(W:Nx prog w I fp n ws St)(hh:KR)(hn:n<=sizeLine)(hSf:S∉fp)
  (hT:s1.TypeIs (.ref a) "set") (st:St 0 s1.heap) (hS:s1.heap.get? S=some {cls:=.type "list",data:=.seq #[] c0})
  (hR:∀h' tk acc c',(∀b o,b≠S->b≠I->s1.heap.get? b=some o->h'.get? b=some o)->h'.get? S=some {cls:=.type "list",dict:=none,data:=.seq acc c',slots:=#[]} -> acc.toList=ws->R (.ok (.ret res)) {s1 with heap:=h',toks:=tk}) (hw:ws.length=n) :
  wpAny JG A.in1 (do
   let room ←holding [Value.ref I] (Builtin.List.listLengthHint (.ref a))
   if c room=true then do
    rule "list.extend.makes-room"
    Builtin.List.listTouch (.ref S)
    again (.builtin "list.extend.loop" ⟨[.ref S,.ref I,res],[]⟩)
   else again (.builtin "list.extend.loop" ⟨[.ref S,.ref I,res],[]⟩))
   (λ fin s'=>match fin with | .done f=>R (.ok f) s' | .again c'=>c'.quiet=true/\codeAny JG A c' R s') EE s1:=by
 have loop:∀(h:Jm) (c1 tk:Nat),St 0 h->(∀b o,b≠S->s1.heap.get? b=some o->h.get? b=some o)->h.get? S=some {cls:=.type "list",data:=.seq #[] c1} ->
   codeAny JG A (.builtin "list.extend.loop" ⟨[.ref S,.ref I,res],[]⟩) R {s1 with heap:=h,toks:=tk}:=λ h c1 tk st1 k e=>by
  refine codeAny_extend_loopS (W A.in1 hh) hn S hSf res n 0 _ #[] c1 rfl (E5 _) st1 e (ItemsOf.nil _) λ s' acc c' hm e' ac=>?_;have b1:s' = {s1 with heap:=s'.heap,toks:=s'.toks}:=(by have q1:s'.gens=s1.gens:=hm.gens;have q2:s'.drawn=s1.drawn:=hm.drawn;have q3:s'.os=s1.os:=hm.os;obtain⟨h',g',d',t',o'⟩:=s';dsimp only at q1 q2 q3;subst q1;subst q2;subst q3;rfl);rw[b1];refine hR s'.heap s'.toks acc c' (λ b o hb hi q=>hm.heap b o (λ z=>?_) (k b o hb q)) e' ?_
  ·rcases h8.mp z with z | z
   ·exact hb z
   ·exact hi (u7.mp z)
  ·refine jb λ j=>?_;by_cases hj:j<n
   ·have hj':j<acc.size:=by rw[ac.1];exact hj
    have q1:acc[j]? = some acc[j]:=T4 hj';rw[J7,q1];exact(ac.2 j _ q1).symm
   ·rw[Z5 (by rw[A3,ac.1];omega),Z5 JA]
 refine f0 (B6 (Ar hT ?_));refine jo (λ _=>?_) λ _=>f9 ⟨T9 F.plain_extend_loop _,loop s1.heap c0 s1.toks st (λ b o _ e=>e) hS⟩;refine f0 (bf (f0 ?_));show wpAny JG A.in1 (updateSeq S (·.push .none) >>= λ _=>updateSeq S (·.pop)) _ _ _;refine f0 (cj hS rfl ?_);have e2:=V4 (Obj.mapSeq (·.push Value.none)) hS rfl;refine cj (hz:=by seq_fits) e2 rfl ?_;have e3:=V4 (Obj.mapSeq (·.pop)) e2 rfl;have oth:∀b o,b≠S->s1.heap.get? b=some o->((s1.heap.update S (Obj.mapSeq (·.push Value.none))).update S (Obj.mapSeq (·.pop))).get? b=some o:=λ b o hb e=>
  (bS _ _ (Ld hb)).trans ((bS _ _ (Ld hb)).trans e)
 refine f9 ⟨T9 F.plain_extend_loop _,loop _ _ s1.toks ?_ oth e3⟩;exact(W A.in1 hh).frame 0 s1 _ s1.toks st (i8 _) λ b hb o e=>oth b o (λ z=>hSf (z▸hb)) e
def EndC(s:Jk)(a:Jl)(ws:ge Jj)(I:Jl)(d:Drawn)(r:Result)(s':Jk):Prop:=
 ∃h' tk acc c',r=.ok (.ret (JR s.heap.objs.size))/\s' = {s with heap:=h',toks:=tk,drawn:=d} /\ h'.get? s.heap.objs.size=some {cls:=.type "list",dict:=none,data:=.seq acc c',slots:=#[]} /\ acc.toList=ws /\
  ∀b o,b≠s.heap.objs.size->b≠I->s.heap.get? b=some o->h'.get? b=some o
theorem As(hh:KR)(hS:SetI prog w s.heap a ks)
  (h:∀K m g d,IntsAre K (K.map N7)->(K.map N7).Perm ks->(∀b o,s.heap.get? b=some o->m.get? b=some o)->s.heap.objs.size<m.objs.size->Q K {s with heap:=m,toks:=g,drawn:=d}):wpAny JG A (collect (.ref a)) Q E s:=by
 obtain⟨o,es,P,t,ho,hx,hd,a2,hp,hb,hf,ht⟩:=id hS;have hz:es.size<=sizeLine:=iZ hb;have M:∀K:ge Jj,K.Perm (es.toList.map (·.2))->IntsAre K (K.map N7)/\(K.map N7).Perm ks:=λ K p=>by
  refine⟨?_,(p.map _).trans (by rw[p9];exact hp)⟩;have all:∀v∈K,∃g,v=.int (N7 v) g:=λ v hv=>by obtain⟨e,he,q⟩:=i4.mp (p.mem_iff.mp hv);obtain⟨g,y⟩:=qc a2 he;exact⟨g,by rw[←q];exact y⟩
  clear p
  induction K with
  | nil=>exact .nil
  | cons v r ih=>
   obtain⟨g,e⟩:=all v (n9 ..);rw[A4];have q:=ih λ u hu=>all u (n6 _ hu)
   generalize hn:N7 v=n at e;subst e;exact .cons n g q
 have L:a<s.heap.objs.size:=j9 ho;unfold collect;refine f0 (wpAny_runValue (Q6 F.entry_proto_collect ?_));rw[V5 F.plain_proto_collect];show wpAny JG A.in1 _ _ _ s;refine f0 (C3 ?_);refine f9 ⟨T9 F.plain_list_iadd _,Q6 F.entry_list_iadd ?_⟩;rw[V5 F.plain_list_iadd];have a0:(JD).get? s.heap.objs.size=some {cls:=.type "list",data:=.seq ([]:ge Jj).toArray}:=q0 _ rfl;have O:G7 JD a es P t:=⟨o,i3 _ ho,hx,hd⟩;show wpAny JG A.in1 (Builtin.List.listExtendWith (JR s.heap.objs.size) (.ref a) (JR s.heap.objs.size)) _ _ _;unfold Builtin.List.listExtendWith;refine f0 (cC (T:="set") ⟨o,i3 _ ho,hx.1⟩ ?_);have h1:Builtin.List.listSameRef (JR s.heap.objs.size) (.ref a)=false:=(by unfold Builtin.List.listSameRef;exact z8.mpr (Q8 L));have h2:(Value.type "set" == Value.type "list")=false:=by decide
 have h3:(Value.type "set" == Value.type "tuple")=false:=by decide
 simp only[h1,h2,h3,Bool.or_false,aS,if_false];refine f0 (Al (t:=t) O hf hz ?_ ?_)
 ·intro a1;have N:a≠(JD).objs.size:=by rw[F7];exact p6 (L4 L)
  have X:s.heap.objs.size∉[(JD).objs.size,a]:=λ z=>by
   rw[F7]at z;rcases h8.mp z with z | z
   ·exact absurd z (p6 (O9 _))
   ·exact absurd (u7.mp z) (Q8 L)
  obtain⟨S,St,p,W,st⟩:∃S St,S.Perm (es.toList.map (·.2))/\Nx prog w (s.heap.push {cls:=.type "list",data:=.seq ([]:ge Jj).toArray}).objs.size _ es.size S St /\
    St 0 _:=by
   by_cases I:C7 w=true
   ·exact⟨_,_,(qb _ es).map _,Ao (t:=t) (ep:=P) I hf N,kq,O.at λ _=>i3 _⟩
   ·have I:C7 w=false:=by simpa using I
    rw[I]at a1;exact⟨_,_,.rfl,Ap (ep:=P) I Kz ht hf N,kq,O.at λ _=>i3 _,E5 _⟩
  refine u0 (qu (A:=A) (a:=a) (c0:=0) (R:=EndC s a S (JD).objs.size s.drawn)
   W hh hz X ⟨o,i3 _ (i3 _ ho),hx.1⟩ st (i3 _ a0) (λ m g c B k e Z=>⟨m,g,c,B,rfl,rfl,e,Z,λ b u h1 h2 q=>k b u h1 h2 (i3 _ (i3 _ q))⟩) (by rw[p.length_eq,g6,A3])) ?_ λ _ _ e=>e
  have x:∀r H,EndC s a S (JD).objs.size s.drawn r H->∃m g c B,r=.ok (.ret (JR s.heap.objs.size))/\H = {s with heap:=m,toks:=g} /\ m.get? s.heap.objs.size=some {cls:=.type "list",dict:=none,data:=.seq c B,slots:=#[]} /\ Q c.toList H:=λ r H ⟨m,g,c,B,J,y,e,Z,k⟩=>by obtain⟨q1,q2⟩:=M S p;refine⟨m,g,c,B,J,y,e,?_⟩;rw[Z,y];refine h S m g s.drawn q1 q2 (λ b u q=>k b u (p6 (j9 q)) ?_ q) (j9 e);rw[F7];exact p6 (L4 (j9 q))
  intro Y H C;cases Y with
  | done f=>
   obtain⟨m,g,c,B,J,y,e,U⟩:=x _ _ C;cases J;subst y;exact f0 (cH e (f9 U))
  | again B=>
   refine⟨C.1,N4 C.2 λ r H hr=>?_⟩;obtain⟨m,g,c,B,J,y,e,U⟩:=x _ _ hr;subst J;subst y;exact f0 (cH e (f9 U))
 ·intro l d I pl;have z1:(JD).objs.size=s.heap.objs.size+1:=F7 _ _;have hl:l.length=es.size:=by rw[pl.length_eq,B7]
  have p:(l.map λ i=>(es.getD i (0,.none)).2).Perm (es.toList.map (·.2)):=by
   refine(pl.map _).trans (List.Perm.of_eq ?_);refine jb λ j=>?_;have J:es.toList[j]? = es[j]?:=J7;rw[p5,p5,J];by_cases hj:j<es.size
   ·rw[eN hj,N2,aM,T4 hj];rfl
   ·have y:(JY es.size)[j]? = none:=Z5 Kz;rw[y,T5 JA];rfl
  have N:a≠(JD).objs.size+1:=by rw[z1];exact p6 (L4 (L4 L))
  have X:s.heap.objs.size∉[(JD).objs.size+1,a,(JD).objs.size]:=λ z=>by
   rw[z1]at z;rcases h8.mp z with z | z
   ·exact absurd z (p6 (L4 (O9 _)))
   ·rcases h8.mp z with z | z
    ·exact absurd z (Q8 L)
    ·exact absurd (u7.mp z) (p6 (O9 _))
  have W:=Aq (prog:=prog) (w:=w) (ep:=P) (t:=t) pl hf N (p6 (O9 _));have hI:E7 (((JD).push (gn l)).push (gm (.ref (JD).objs.size) a es.size P))
    ((JD).objs.size+1) a (.ref (JD).objs.size) 0 es.size P:=by
   have:=kq (a:=a) (ep:=P) (h:=(JD).push (gn l)) (f:=.ref (JD).objs.size) (n:=es.size);have z2:((JD).push (gn l)).objs.size=(JD).objs.size+1:=F7 _ _;rw[z2]at this;exact this
  refine u0 (qu (A:=A) (a:=a) (c0:=0) (R:=EndC s a (l.map λ i=>(es.getD i (0,.none)).2) ((JD).objs.size+1) d)
   W hh hz X ⟨o,i3 _ (i3 _ (i3 _ ho)),hx.1⟩ ⟨hI,O.at λ _ e=>i3 _ (i3 _ e),⟨_,i3 _ (q0 _ rfl),rfl,_,rfl⟩⟩ (i3 _ (i3 _ a0)) (λ m g c B k e Z=>⟨m,g,c,B,rfl,rfl,e,Z,λ b u h1 h2 q=>k b u h1 h2 (i3 _ (i3 _ (i3 _ q)))⟩) Kz) ?_ λ _ _ e=>e
  have x:∀r H,EndC s a (l.map λ i=>(es.getD i (0,.none)).2) ((JD).objs.size+1) d r H->∃m g c B,r=.ok (.ret (JR s.heap.objs.size))/\H = {s with heap:=m,toks:=g,drawn:=d} /\ m.get? s.heap.objs.size=some {cls:=.type "list",dict:=none,data:=.seq c B,slots:=#[]} /\ Q c.toList H:=λ r H ⟨m,g,c,B,J,y,e,Z,k⟩=>by obtain⟨q1,q2⟩:=M _ p;refine⟨m,g,c,B,J,y,e,?_⟩;rw[Z,y];refine h _ m g d q1 q2 (λ b u q=>k b u (p6 (j9 q)) ?_ q) (j9 e);rw[z1];exact p6 (L4 (L4 (j9 q)))
  intro Y H C;cases Y with
  | done f=>
   obtain⟨m,g,c,B,J,y,e,U⟩:=x _ _ C;cases J;subst y;exact f0 (cH e (f9 U))
  | again B=>
   refine⟨C.1,N4 C.2 λ r H hr=>?_⟩;obtain⟨m,g,c,B,J,y,e,U⟩:=x _ _ hr;subst J;subst y;exact f0 (cH e (f9 U))
theorem At(B:KR)(F:SetI prog w s.heap a ks)(H:ks.length<64)
  (h:∀k g d p c f e,(∀b o,s.heap.get? b=some o->k.get? b=some o)->s.heap.objs.size<=p->k.get? p=some (seqObj "list" c e)->IntsAre c.toList f->f.Perm ks->f.Pairwise (· <= ·)->Q (.ref p) {s with heap:=k,toks:=g,drawn:=d}) :
  wpAny JG A (call (.builtin "sorted") [.ref a]) Q E s:=by
 refine Calls.call_function_entry kind_sorted plain_sorted entry_sorted (args_sorted1 _) ?_
 unfold Builtin.«sorted»;refine f0 (f9 ?_);refine f0 (As (B) F λ c n g d y p1 l r=>?_);have z:c.length<64:=by have:=p1.length_eq;rw[g6]at this;omega
 refine f0 (wpAny_newList ?_ (by rw[cE];omega));have j:(n.push (seqObj "list" c.toArray 0)).get? n.objs.size=some _:=q0 _ rfl;refine f0 (B6 (G4 slot_list_sort ⟨_,j,rfl⟩ entry_list_sort (list_sort_tree j y z λ i f x v u=>⟨_,rfl,?_⟩) (args_list_sort _)));refine f9 ⟨_,rfl,?_⟩;obtain⟨e,C⟩:=sortedHeap_at j;refine h _ g d _ i f e (λ b o q=>?_) (U0 r) C x (v.trans p1) u;have m:=j9 (l b o q);rw[sortedHeap_old (p6 m) (by rw[size_push'];exact L4 m)];exact i3 _ (l b o q)
end
theorem gq{l:ge Int}(h:i<l.length):l.getD i 0∈l:=by
 rw[o8,k7 h];exact P0 h
theorem minL(u:KR)(f:s.heap.IsList l vs.toArray)(g:IntsAre vs c)(p:c≠[])
  (h:∀m M (t:Tok) tk,(∀b o,s.heap.get? b=some o->m.get? b=some o)->M∈c->(∀a∈c,M<=a)->Q (.int M t) {s with heap:=m,toks:=tk}):wpAny JG A (call (.builtin "min") [.ref l]) Q E s:=by
 obtain⟨d,e⟩:=g.allInts.items;have en:c=d.toList.map (·.1):=by rw[←g.numsOf,←cB,←e]
 have n:0<d.size:=by
  have q:=eO.mpr p
  rwa [en,g6,A3]at q
 rw[e]at f;refine min_intList u f n λ v x tk q k=>?_
 obtain⟨t,z⟩:=bc q;subst z;obtain⟨g1,y⟩:=argBest_lt (numAt d) (d.size - 1);refine h x _ t tk k ?_ λ a i=>?_
 ·rw[en,W3];exact gq (by rw[g6,A3];omega)
 ·rw[en]at i;obtain⟨j,r,B⟩:=mem_getD i;subst B;rw[g6,A3]at r;rw[←W3];exact y j JA
theorem maxL(r:KR)(f:s.heap.IsList l vs.toArray)(g:IntsAre vs c)(n:c≠[])
  (h:∀h' M (t:Tok) tk,(∀b o,s.heap.get? b=some o->h'.get? b=some o)->M∈c->(∀a∈c,a<=M)->Q (.int M t) {s with heap:=h',toks:=tk}):wpAny JG A (call (.builtin "max") [.ref l]) Q E s:=by
 obtain⟨d,e⟩:=g.allInts.items;have en:c=d.toList.map (·.1):=by rw[←g.numsOf,←cB,←e]
 have m:0<d.size:=by
  have q:=eO.mpr n
  rwa [en,g6,A3]at q
 rw[e]at f;refine max_intList r f m λ v u tk q k=>?_
 obtain⟨t,y⟩:=bc q;subst y;obtain⟨g1,x⟩:=argBest_gt (numAt d) (d.size - 1);refine h u _ t tk k ?_ λ a i=>?_
 ·rw[en,W3];exact gq (by rw[g6,A3];omega)
 ·rw[en]at i;obtain⟨j,p,z⟩:=mem_getD i;subst z;rw[g6,A3]at p;rw[←W3];exact x j JA
theorem extL(e:s.heap.get? l=some {cls:=.type "list",data:=.seq items n})(m:s.heap.IsList b new\/IsTup s.heap b new)(k:items.size+new.size<=sizeLine)
  (h:Q .none {s with heap:=s.heap.update l (Obj.mapSeq (· ++ new))}):wpAny JG A (call (.builtin "list.extend") [.ref l,.ref b]) Q E s:=by
 refine G4 F.slot_list_extend (⟨_,e,rfl⟩) F.entry_list_extend ?_ (F.args_list_extend_2 _ _);unfold Builtin.«list.extend»;refine f0 (f9 ?_);show wpAny _ _ _ _ _ _;unfold Builtin.List.listExtendWith;obtain⟨a,eb,T,hT,j,hd⟩:∃a,s.heap.get? b=some a/\∃T:Jz,(a.cls=.type T/\(T = "list" \/ T = "tuple"))/\∃j,a.data=.seq new j:=by
  rcases m with⟨o,i,g,f,d⟩ | ⟨o,i,g,f,d⟩
  ·exact⟨o,i,"list",⟨g,.inl rfl⟩,f,d⟩
  ·exact⟨o,i,"tuple",⟨g,.inr rfl⟩,f,d⟩
 refine f0 (cC ⟨a,eb,hT.1⟩ ?_);have c:(Builtin.List.listSameRef (.ref l) (.ref b)||Value.type T == .type "list" || Value.type T == .type "tuple")=true:=by
  rcases hT.2 with z | z<;>subst z
  ·rw[show(Value.type "list" == Value.type "list")=true by decide,Bool.or_true,Bool.true_or]
  ·rw[show(Value.type "tuple" == Value.type "tuple")=true by decide,Bool.or_true]
 rw[f8 c];refine f0 (listItems_at eb hd (f0 (listItems_at e rfl ?_)));rw[g7 (by rw[pD k,jq];exact B5)];refine f0 (listUpdate_at e rfl ?_ JA Kz);exact f9 ⟨_,rfl,h⟩
def Au(K:Ju):V->ge V->Hp->VK->Prop:=λ x vs H Q=>∃l b xs zs,x=.ref l/\vs=[.ref b]/\H l=some (Kx xs)/\(SqL K H b zs\/SqT K H b zs)/\xs.length+zs.length<=sizeLine/\Q .non (upd H l (Kx (xs++zs)))
theorem Av:MtM X "list.extend" (Au X.K):=by
 intro g s σ H x vs v us Q I k m h;obtain⟨l,b,xs,j,rfl,rfl,i,d,hz,q⟩:=h;cases k;obtain⟨u,rfl,o⟩:=m.one;cases o;obtain⟨z,p,n,r,hl,e⟩:=I.lstM i;obtain⟨a,c,ob⟩:∃a:ge Jj,Vals j a/\(s.heap.IsList b a.toArray\/IsTup s.heap b a.toArray):=by
  rcases d with d | d
  ·obtain⟨a,c,f,_⟩:=I.list d;exact⟨a,c,.inl f.isList⟩
  ·obtain⟨a,c,f,_⟩:=I.tuple d;exact⟨a,c,.inr f⟩
 have e2:=c.length;refine extL e ob Kz ?_;refine⟨.non,_,I.lset i e JL (r.append c) ?_,rfl,q⟩;rw[t5];omega
theorem ak:∀{b:ge Int} {a:ge Jj},Vals (b.map V.int) a->IntsAre a b
 | [],a,h=>by cases h;exact .nil
 | n::b,a,h=>by
  cases h with
  | cons r t=>
   obtain⟨c,rfl⟩:=r;exact .cons n c (ak t)
theorem qv:∀{a:ge Int} {us:ge Jj},IntsAre us a->Vals (a.map V.int) us
 | _,_,.nil=>.nil
 | _,_,.cons n t h=>.cons ⟨t,rfl⟩ (qv h)
theorem Aw(o:Lb):B2 X (.builtin "min") (λ c H Q=>∃(a:Jl) (b:ge Int),c=[.ref a]/\SqL X.K H a (b.map V.int)/\b≠[]/\∀M,M∈b->(∀x∈b,M<=x)->Q (.int M) H):=by
 intro d s σ H c us Q I r h;obtain⟨a,b,rfl,n,m,q⟩:=h;obtain⟨u,rfl,f⟩:=L7 r;cases f;obtain⟨l,e,g,_⟩:=I.list n;exact minL (I.ok.hd o) g.isList (ak e) m λ h' M t tk k j i=>⟨.int M,H,I.kept k,⟨t,rfl⟩,q M j i⟩
theorem Ax(m:Lb):B2 X (.builtin "max") (λ c H Q=>∃(a:Jl) (b:ge Int),c=[.ref a]/\SqL X.K H a (b.map V.int)/\b≠[]/\∀M,M∈b->(∀x∈b,x<=M)->Q (.int M) H):=by
 intro d s σ H c us Q I r h;obtain⟨a,b,rfl,l,j,q⟩:=h;obtain⟨u,rfl,r1⟩:=L7 r;cases r1;obtain⟨i,rv,e,_⟩:=I.list l;exact maxL (I.ok.hd m) e.isList (ak rv) j λ h' M t tk k g f=>⟨.int M,H,I.kept k,⟨t,rfl⟩,q M g f⟩
noncomputable def setO(P:Jq)(w:Jp)(a:Jl)(ks:ge Int):HO:=.ext λ h=>SetI P w h a ks
theorem Ay{P:Jq}{w:Jp}{H:Hp}{h:Jm}{a:Jl}{ks:ge Int}(x:SetI P w h a ks):t9 P w H h a (setO P w a ks):=
 ⟨x,let ⟨o,_,_,_,e,_⟩:=x;⟨o,e⟩,λ h1 h2 q k=>q.at k⟩
theorem Az(a:ge Int):fm (λ i=>a.getD i 0) a.length=a.foldl dk []:=by
 unfold fm
 congr 1
 refine jb λ j=>?_;rw[p5];by_cases b:j<a.length
 ·rw[eN b,N2,o8,k7 b];rfl
 ·rw[Z5 Kz,Z5 JA];rfl
theorem AA(n:Lb):B2 X (.type "set") (λ e H Q=>∃(a:Jl) (b:ge Int),e=[.ref a]/\SqL X.K H a (b.map V.int)/\b.length<4000/\∀p,H p=none->Q (.ref p) (upd H p (setO X.prog X.w p (b.foldl dk [])))):=by
 intro g s σ H e us Q I r h;obtain⟨a,b,rfl,m,hz,q⟩:=h;obtain⟨u,rfl,j⟩:=L7 r;cases j;obtain⟨c,f,l,_⟩:=I.list m;have i:c.length=b.length:=by rw[←f.length,g6]
 refine Ag (I.ok.hd n) l.isList (ak f) (by rw[u8,i];show _<4096;omega) λ h' tk S k=>?_;have d:c.toArray.size=b.length:=by rw[u8,i]
 rw[d,Az]at S;exact⟨.ref s.heap.objs.size,_,I.laid k (i8 _) (Ay S),rfl,q _ I.fresh⟩
theorem AB(z:Lb):B2 X (.builtin "sorted") (λ l H Q=>∃(p:Jl) (f:ge Int),l=[.ref p]/\H p=some (setO X.prog X.w p f)/\f.length<64/\∀(q:Jl) (i:ge Int),H q=none->i.Perm f->i.Pairwise (· <= ·)->Q (.ref q) (upd H q (Kx (i.map V.int)))):=by
 intro m s σ H l us Q I r h;obtain⟨p,f,rfl,A,x,q⟩:=h;obtain⟨u,rfl,w⟩:=L7 r;cases w;refine At (I.ok.hd z) ((I.hok p _ A).1) x λ B v d c o g e k n he y b j=>?_
 have hl:g.length<=sizeLine:=(by rw[b.length_eq,cE];omega);have ok:t9 X.prog X.w (upd H c (Kx (g.map V.int))) B c (.lst _):=⟨by rwa [g6],o.toList,e,(qv y),by rwa [Array.toArray_toList]⟩;have a:=I.laid (t':=v) k n ok;refine⟨.ref c,_,?_,rfl,q c g (I.hok.fresh n) b j⟩;exact⟨a.ok,a.os,a.bare,a.base,a.loc,a.cell,a.free,a.freeC,a.pin,a.hok,a.len⟩
open PySem.Calls PySem.W
theorem AC(p:KR)(f:s.heap.IsTuple t (intItems xs))(g:0<xs.size)
  (h:∀v d tk,(intItems xs)[argBest (λ i j=>decide (numAt xs i<numAt xs j)) (xs.size - 1)]? = some v->(∀b o,s.heap.get? b=some o->d.get? b=some o)->Q v {s with heap:=d,toks:=tk}) :
  wpAny JG A (call (.builtin "min") [.ref t]) Q E s:=by
 obtain⟨o,l,hc,n,hd⟩:=id f;have a:=j9 l;refine call_min_walk (aP f ?_);refine⟨_,_,_,_,_,_,_,rfl,Walks.tuple (A:=A.in1) p _ t (p6 a) (intItems xs),⟨⟨_,q0 _ rfl,rfl,rfl⟩,f.push _⟩,λ b c=>?_,by simpa[intItems]using g,CmpOf.ints_lt (numAt xs) (λ _ _=>bc),λ v d tk q m=>?_⟩
 ·show b<(s.heap.push _).objs.size;rw[F7];rcases h8.mp c with rfl | c
  ·exact O9 _
  ·rcases h8.mp c with rfl | c
   ·exact L4 a
   ·cases c
 ·refine h v d tk (by simpa[intItems]using q) λ b o e=>m b o (λ k=>?_) (i3 _ e);rcases h8.mp k with r | k
  ·exact absurd (r▸j9 e) (N3 _)
  ·cases k
theorem AD(m:KR)(d:s.heap.IsTuple t (intItems xs))(f:0<xs.size)
  (h:∀v h' tk,(intItems xs)[argBest (λ i j=>decide (numAt xs i>numAt xs j)) (xs.size - 1)]? = some v->(∀b o,s.heap.get? b=some o->h'.get? b=some o)->Q v {s with heap:=h',toks:=tk}) :
  wpAny JG A (call (.builtin "max") [.ref t]) Q E s:=by
 obtain⟨o,k,hc,n,hd⟩:=id d;have a:=j9 k;refine call_max_walk (aP d ?_);refine⟨_,_,_,_,_,_,_,rfl,Walks.tuple (A:=A.in1) m _ t (p6 a) _,⟨⟨_,q0 _ rfl,rfl,rfl⟩,d.push _⟩,λ b c=>?_,by simpa[intItems]using f,CmpOf.ints_gt _ (λ _ _=>bc),λ v h' tk p l=>?_⟩
 ·show b<(s.heap.push _).objs.size;rw[F7];rcases h8.mp c with rfl | c
  ·exact O9 _
  ·rcases h8.mp c with rfl | c
   ·exact L4 a
   ·cases c
 ·refine h v h' tk (by simpa[intItems]using p) λ b o e=>l b o (λ g=>?_) (i3 _ e);rcases h8.mp g with q | g
  ·exact absurd (q▸j9 e) (N3 _)
  ·cases g
def PrAt(h:Jm)(v:Jj)(p:Int×Int):Prop:=∃a o n t t',v=.ref a/\h.get? a=some o/\o.cls=.type "tuple" /\ o.data=.seq #[.int p.1 t,.int p.2 t'] n
theorem minT(x:KR)(g:s.heap.IsTuple l vs.toArray)(i:IntsAre vs c)(r:c≠[])
  (h:∀n M (t:Tok) f,(∀b o,s.heap.get? b=some o->n.get? b=some o)->M∈c->(∀a∈c,M<=a)->Q (.int M t) {s with heap:=n,toks:=f}):wpAny JG A (call (.builtin "min") [.ref l]) Q E s:=by
 obtain⟨d,e⟩:=i.allInts.items;have en:c=d.toList.map (·.1):=by rw[←i.numsOf,←cB,←e]
 have p:0<d.size:=by
  have q:=eO.mpr r
  rwa [en,g6,A3]at q
 rw[e]at g;refine AC x g p λ v y f q k=>?_
 obtain⟨t,B⟩:=bc q;subst B;obtain⟨g1,z⟩:=argBest_lt (numAt d) (d.size - 1);refine h y _ t f k ?_ λ a m=>?_
 ·rw[en,W3];exact gq Kz
 ·rw[en]at m;obtain⟨j,u,C⟩:=mem_getD m;subst C;rw[g6,A3]at u;rw[←W3];exact z j JA
theorem maxT(r:KR)(f:s.heap.IsTuple l vs.toArray)(g:IntsAre vs c)(n:c≠[])
  (h:∀h' M (t:Tok) tk,(∀b o,s.heap.get? b=some o->h'.get? b=some o)->M∈c->(∀a∈c,a<=M)->Q (.int M t) {s with heap:=h',toks:=tk}):wpAny JG A (call (.builtin "max") [.ref l]) Q E s:=by
 obtain⟨d,e⟩:=g.allInts.items;have en:c=d.toList.map (·.1):=by rw[←g.numsOf,←cB,←e]
 have m:0<d.size:=by
  have q:=eO.mpr n
  rwa [en,g6,A3]at q
 rw[e]at f;refine AD r f m λ v u tk q k=>?_
 obtain⟨t,y⟩:=bc q;subst y;obtain⟨g1,x⟩:=argBest_gt (numAt d) (d.size - 1);refine h u _ t tk k ?_ λ a i=>?_
 ·rw[en,W3];exact gq (by rw[g6,A3];omega)
 ·rw[en]at i;obtain⟨j,p,z⟩:=mem_getD i;subst z;rw[g6,A3]at p;rw[←W3];exact x j JA
theorem AE(o:Lb):B2 X (.builtin "min") (λ c H Q=>∃(a:Jl) (b:ge Int),c=[.ref a]/\SqT X.K H a (b.map V.int)/\b≠[]/\∀M,M∈b->(∀x∈b,M<=x)->Q (.int M) H):=by
 intro d s σ H c us Q I r h;obtain⟨a,b,rfl,n,m,q⟩:=h;obtain⟨u,rfl,f⟩:=L7 r;cases f;obtain⟨l,e,g,_⟩:=I.tuple n;exact minT (I.ok.hd o) g (ak e) m λ h' M t tk k j i=>⟨.int M,H,I.kept k,⟨t,rfl⟩,q M j i⟩
theorem AF(m:Lb):B2 X (.builtin "max") (λ c H Q=>∃(a:Jl) (b:ge Int),c=[.ref a]/\SqT X.K H a (b.map V.int)/\b≠[]/\∀M,M∈b->(∀x∈b,x<=M)->Q (.int M) H):=by
 intro d s σ H c us Q I r h;obtain⟨a,b,rfl,l,j,q⟩:=h;obtain⟨u,rfl,r1⟩:=L7 r;cases r1;obtain⟨i,rv,e,_⟩:=I.tuple l;exact maxT (I.ok.hd m) e (ak rv) j λ h' M t tk k g f=>⟨.int M,H,I.kept k,⟨t,rfl⟩,q M g f⟩
structure Ord(n:Nat)(c:Nat->Nat->Bool):Prop where
 tot:∀i j,i<n->j<n->i≠j->c i j=false->c j i=true
 asy:∀i j,i<n->j<n->c i j=true->c j i=false
 tr:∀i j k,i<n->j<n->k<n->c i j=true->c j k=true->c i k=true
theorem sumL(m:KR)(f:s.heap.IsList l vs.toArray)(g:IntsAre vs d)
  (h:∀a c t,(∀b o,s.heap.get? b=some o->a.get? b=some o)->Q (.int d.sum t) {s with heap:=a,toks:=c}):wpAny JG A (call (.builtin "sum") [.ref l]) Q E s:=by
 obtain⟨i,e⟩:=g.allInts.items;have en:d=i.toList.map (·.1):=by rw[←g.numsOf,←cB,←e]
 rw[e]at f;refine sum_intListG m f λ a c j k=>?_
 have:=h a c j k;rw[preSum_eq,eB JL];rw[en]at this;exact this
theorem AG(l:Lb):B2 X (.builtin "sum") (λ c H Q=>∃(a:Jl) (b:ge Int),c=[.ref a]/\SqL X.K H a (b.map V.int)/\Q (Ke b.sum) H):=by
 intro d s σ H c us Q I r h;obtain⟨a,b,rfl,j,q⟩:=h;obtain⟨u,rfl,f⟩:=L7 r;cases f;obtain⟨i,e,g,_⟩:=I.list j;exact sumL (I.ok.hd l) g.isList (ak e) λ h' tk t k=>⟨.int _,H,I.kept k,⟨t,rfl⟩,q⟩
noncomputable section
open PySem
structure Sg where
 N:List Str
 sc:List (Str×NameKind)
 fn:List Str
 bl:List Str
 cl:List Str
 top:Bool
 lp:Bool
 co:Arguments->List Stmt->Scope->List Str->Bool
noncomputable def noCo:Jw->ge Js->Jv->ge Str->Bool:=λ _ _ _ _=>false
noncomputable def qw:ge Str:=["ValueError"]
noncomputable def o7:Jn->Bool | .Starred _ _=>true | _=>false
noncomputable def U7:Jn->Bool | .Slice _ _ _ _=>true | _=>false
noncomputable def G8:Jn->Bool | .Set _ _ _=>true | _=>false
noncomputable def al:Jn->Bool | .ListComp _ _ _ _=>true | .SetComp _ _ _ _=>true | .DictComp _ _ _ _ _=>true | _=>false
noncomputable def any1{α:Type}(o:Ji α)(f:α->Bool):Bool:=o.rec false f
theorem z9(h:any1 o f=true):∃a,o=some a/\f a=true:=by
 cases o with
 | none=>cases h
 | some a=>exact⟨a,rfl,h⟩
@[elab_as_elim] theorem R8{o:Ji b}(h:any1 o f=true){C:Ji b->Prop}(k:∀a,f a=true->C (some a)):C o:=let ⟨_,q,h⟩:=z9 h;Eq.mpr (congrArg C q) (k _ h)
noncomputable def inNo{α:Type}(o:Ji α)(f:Bool):Bool:=o.rec f λ _=>false
@[elab_as_elim] theorem K4{o:Ji b}(h:inNo o f=true){C:Ji b->Prop}(k:f=true->C none):C o:=by
 cases o with
 | none=>exact k h
 | some a=>cases h
noncomputable def in0{α:Type}(l:ge α)(f:Bool):Bool:=l.rec f λ _ _ _=>false
@[elab_as_elim] theorem C8{l:ge b}(h:in0 l f=true){C:ge b->Prop}(k:f=true->C []):C l:=by
 cases l with
 | nil=>exact k h
 | cons a r=>cases h
noncomputable def inC{α:Type}(l:ge α)(f:α->ge α->Bool):Bool:=l.rec false λ a r _=>f a r
@[elab_as_elim] theorem qx{f:b->ge b->Bool}(h:inC l f=true){C:ge b->Prop}(k:∀a r,f a r=true->C (a::r)):C l:=by
 cases l with
 | nil=>cases h
 | cons a r=>exact k a r h
def in1{α:Type}(l:ge α)(f:α->Bool):Bool:=inC l λ a r=>in0 r (f a)
@[elab_as_elim] theorem M3{f:b->Bool}(h:in1 l f=true){C:ge b->Prop}(k:∀a,f a=true->C [a]):C l:=qx h λ a _ h=>C8 h (k a)
theorem AH(h:in1 l f=true):∃a,l=[a]/\f a=true:=M3 h λ a h=>⟨a,rfl,h⟩
def in2{α:Type}(l:ge α)(f:α->α->Bool):Bool:=inC l λ a r=>in1 r (f a)
@[elab_as_elim] theorem X2{f:c->c->Bool}(h:in2 l f=true){C:ge c->Prop}(k:∀a b,f a b=true->C [a,b]):C l:=qx h λ a _ h=>M3 h (k a)
noncomputable def qy(e:Jn):Ji {t:Str×Pos // e=.Name t.1 t.2}:=match e with | .Name x p=>some ⟨(x,p),rfl⟩ | _=>none
@[irreducible] def F1(e:Jn)(f:Str->Bool):Bool:=any1 (qy e) λ t=>f t.1.1
@[elab_as_elim] theorem J2(h:F1 e g=true){C:Jn->Prop}(k:∀x p,g x=true->C (.Name x p)):C e:=by
 unfold F1 at h;exact let ⟨t,_,h⟩:=z9 h;Eq.mpr Kq (k _ _ h)
noncomputable def AI(e:Jn):Ji {t:Const×Nat×Pos // e=.Constant t.1 t.2.1 t.2.2}:=match e with | .Constant x k p=>some ⟨(x,k,p),rfl⟩ | _=>none
noncomputable def qz(e:Jn):Ji {t:Jn×Operator×Jn×Pos // e=.BinOp t.1 t.2.1 t.2.2.1 t.2.2.2}:=match e with | .BinOp a o b p=>some ⟨(a,o,b,p),rfl⟩ | _=>none
@[irreducible] def ky(e:Jn)(f:Jn->Operator->Jn->Bool):Bool:=any1 (qz e) λ t=>f t.1.1 t.1.2.1 t.1.2.2.1
@[elab_as_elim] theorem qA(h:ky e g=true){C:Jn->Prop}(k:∀a o b p,g a o b=true->C (.BinOp a o b p)):C e:=by
 unfold ky at h;exact let ⟨t,_,h⟩:=z9 h;Eq.mpr Kq (k _ _ _ _ h)
noncomputable def AJ(e:Jn):Ji {t:UnaryOp×Jn×Pos // e=.UnaryOp t.1 t.2.1 t.2.2}:=match e with | .UnaryOp o a p=>some ⟨(o,a,p),rfl⟩ | _=>none
@[irreducible] def inUn(e:Jn)(f:UnaryOp->Jn->Bool):Bool:=any1 (AJ e) λ t=>f t.1.1 t.1.2.1
@[elab_as_elim] theorem gr(h:inUn e g=true){C:Jn->Prop}(k:∀o a p,g o a=true->C (.UnaryOp o a p)):C e:=by
 unfold inUn at h;exact let ⟨t,_,h⟩:=z9 h;Eq.mpr Kq (k _ _ _ h)
noncomputable def AK(e:Jn):Ji {t:Jn×(ge CmpOp)×(ge Jn)×Pos // e=.Compare t.1 t.2.1 t.2.2.1 t.2.2.2}:=match e with | .Compare a os bs p=>some ⟨(a,os,bs,p),rfl⟩ | _=>none
@[irreducible] def gu(e:Jn)(f:Jn->(ge CmpOp)->(ge Jn)->Bool):Bool:=any1 (AK e) λ t=>f t.1.1 t.1.2.1 t.1.2.2.1
@[elab_as_elim] theorem qB(h:gu e g=true){C:Jn->Prop}(k:∀a b bs p,g a b bs=true->C (.Compare a b bs p)):C e:=by
 unfold gu at h;exact let ⟨t,_,h⟩:=z9 h;Eq.mpr Kq (k _ _ _ _ h)
noncomputable def AL(e:Jn):Ji {t:BoolOp×(ge Jn)×Pos // e=.BoolOp t.1 t.2.1 t.2.2}:=match e with | .BoolOp o es p=>some ⟨(o,es,p),rfl⟩ | _=>none
@[irreducible] def gw(e:Jn)(f:BoolOp->(ge Jn)->Bool):Bool:=any1 (AL e) λ t=>f t.1.1 t.1.2.1
@[elab_as_elim] theorem gx(h:gw e g=true){C:Jn->Prop}(k:∀o a p,g o a=true->C (.BoolOp o a p)):C e:=by
 unfold gw at h;exact let ⟨t,_,h⟩:=z9 h;Eq.mpr Kq (k _ _ _ h)
noncomputable def AM(e:Jn):Ji {t:(ge Jn)×Pos // e=.List t.1 t.2}:=match e with | .List es p=>some ⟨(es,p),rfl⟩ | _=>none
@[irreducible] def kz(e:Jn)(f:(ge Jn)->Bool):Bool:=any1 (AM e) λ t=>f t.1.1
@[elab_as_elim] theorem qC(h:kz e g=true){C:Jn->Prop}(k:∀a p,g a=true->C (.List a p)):C e:=by
 unfold kz at h;exact let ⟨t,_,h⟩:=z9 h;Eq.mpr Kq (k _ _ h)
noncomputable def qD(e:Jn):Ji {t:(ge Jn)×Nat×Pos // e=.Tuple t.1 t.2.1 t.2.2}:=match e with | .Tuple es k p=>some ⟨(es,k,p),rfl⟩ | _=>none
@[irreducible] def gy(e:Jn)(f:(ge Jn)->Bool):Bool:=any1 (qD e) λ t=>f t.1.1
@[elab_as_elim] theorem kC(h:gy e g=true){C:Jn->Prop}(k:∀a k p,g a=true->C (.Tuple a k p)):C e:=by
 unfold gy at h;exact let ⟨t,_,h⟩:=z9 h;Eq.mpr Kq (k _ _ _ h)
noncomputable def AN(e:Jn):Ji {t:Jn×Jn×Pos // e=.Subscript t.1 t.2.1 t.2.2}:=match e with | .Subscript a b p=>some ⟨(a,b,p),rfl⟩ | _=>none
@[irreducible] def S0(e:Jn)(f:Jn->Jn->Bool):Bool:=any1 (AN e) λ t=>f t.1.1 t.1.2.1
@[elab_as_elim] theorem K5(h:S0 e g=true){C:Jn->Prop}(k:∀a b p,g a b=true->C (.Subscript a b p)):C e:=by
 unfold S0 at h;exact let ⟨t,_,h⟩:=z9 h;Eq.mpr Kq (k _ _ _ h)
noncomputable def AO(e:Jn):Ji {t:(Ji Jn)×(Ji Jn)×(Ji Jn)×Pos // e=.Slice t.1 t.2.1 t.2.2.1 t.2.2.2}:=match e with | .Slice a b c p=>some ⟨(a,b,c,p),rfl⟩ | _=>none
@[irreducible] def cX(e:Jn)(f:(Ji Jn)->(Ji Jn)->(Ji Jn)->Bool):Bool:=any1 (AO e) λ t=>f t.1.1 t.1.2.1 t.1.2.2.1
@[elab_as_elim] theorem kF(h:cX e g=true){C:Jn->Prop}(k:∀a b c p,g a b c=true->C (.Slice a b c p)):C e:=by
 unfold cX at h;exact let ⟨t,_,h⟩:=z9 h;Eq.mpr Kq (k _ _ _ _ h)
noncomputable def AQ(e:Jn):Ji {t:Jn×(ge Jn)×(ge Keyword)×Pos // e=.Call t.1 t.2.1 t.2.2.1 t.2.2.2}:=match e with | .Call f as ks p=>some ⟨(f,as,ks,p),rfl⟩ | _=>none
@[irreducible] def gz(e:Jn)(f:Jn->(ge Jn)->(ge Keyword)->Pos->Bool):Bool:=any1 (AQ e) λ t=>f t.1.1 t.1.2.1 t.1.2.2.1 t.1.2.2.2
@[elab_as_elim] theorem qE(h:gz e g=true){C:Jn->Prop}(k:∀f as a p,g f as a p=true->C (.Call f as a p)):C e:=by
 unfold gz at h;exact let ⟨t,_,h⟩:=z9 h;Eq.mpr Kq (k _ _ _ _ h)
noncomputable def AR(e:Jn):Ji {t:Jn×Str×Pos // e=.Attribute t.1 t.2.1 t.2.2}:=match e with | .Attribute a n p=>some ⟨(a,n,p),rfl⟩ | _=>none
@[irreducible] def X3(e:Jn)(f:Jn->Str->Pos->Bool):Bool:=any1 (AR e) λ t=>f t.1.1 t.1.2.1 t.1.2.2
@[elab_as_elim] theorem cY(h:X3 e g=true){C:Jn->Prop}(k:∀a n p,g a n p=true->C (.Attribute a n p)):C e:=by
 unfold X3 at h;exact let ⟨t,_,h⟩:=z9 h;Eq.mpr Kq (k _ _ _ h)
noncomputable def AS(e:Jn):Ji {t:Jn×(ge Comprehension)×Jv×Pos // e=.ListComp t.1 t.2.1 t.2.2.1 t.2.2.2}:=match e with | .ListComp x gs sc p=>some ⟨(x,gs,sc,p),rfl⟩ | _=>none
@[irreducible] def kG(e:Jn)(f:Jn->(ge Comprehension)->Jv->Bool):Bool:=any1 (AS e) λ t=>f t.1.1 t.1.2.1 t.1.2.2.1
@[elab_as_elim] theorem AT(h:kG e g=true){C:Jn->Prop}(k:∀x a sc p,g x a sc=true->C (.ListComp x a sc p)):C e:=by
 unfold kG at h;exact let ⟨t,_,h⟩:=z9 h;Eq.mpr Kq (k _ _ _ _ h)
noncomputable def AU(e:Jn):Ji {t:(ge (Ji Jn))×(ge Jn)×Pos // e=.Dict t.1 t.2.1 t.2.2}:=match e with | .Dict ks vs p=>some ⟨(ks,vs,p),rfl⟩ | _=>none
@[irreducible] def gA(e:Jn)(f:(ge (Ji Jn))->(ge Jn)->Bool):Bool:=any1 (AU e) λ t=>f t.1.1 t.1.2.1
@[elab_as_elim] theorem qF(h:gA e g=true){C:Jn->Prop}(k:∀ks vs p,g ks vs=true->C (.Dict ks vs p)):C e:=by
 unfold gA at h;exact let ⟨t,_,h⟩:=z9 h;Eq.mpr Kq (k _ _ _ h)
noncomputable def AV(e:Jn):Ji {t:Jw×Jn×Jv×Pos // e=.Lambda t.1 t.2.1 t.2.2.1 t.2.2.2}:=match e with | .Lambda pr bd sc p=>some ⟨(pr,bd,sc,p),rfl⟩ | _=>none
@[irreducible] def kH(e:Jn)(f:Jw->Jn->Jv->Pos->Bool):Bool:=any1 (AV e) λ t=>f t.1.1 t.1.2.1 t.1.2.2.1 t.1.2.2.2
@[elab_as_elim] theorem AW(h:kH e g=true){C:Jn->Prop}(k:∀a b sc p,g a b sc p=true->C (.Lambda a b sc p)):C e:=by
 unfold kH at h;exact let ⟨t,_,h⟩:=z9 h;Eq.mpr Kq (k _ _ _ _ h)
noncomputable def AX(e:Js):Ji {t:(ge Jn)×Jn×Pos // e=.Assign t.1 t.2.1 t.2.2}:=match e with | .Assign t v p=>some ⟨(t,v,p),rfl⟩ | _=>none
@[irreducible] def kJ(e:Js)(f:(ge Jn)->Jn->Pos->Bool):Bool:=any1 (AX e) λ t=>f t.1.1 t.1.2.1 t.1.2.2
@[elab_as_elim] theorem AY(h:kJ e g=true){C:Js->Prop}(k:∀t v p,g t v p=true->C (.Assign t v p)):C e:=by
 unfold kJ at h;exact let ⟨t,_,h⟩:=z9 h;Eq.mpr Kq (k _ _ _ h)
noncomputable def AZ(e:Js):Ji {t:Jn×Pos // e=.Expr t.1 t.2}:=match e with | .Expr v p=>some ⟨(v,p),rfl⟩ | _=>none
@[irreducible] def cZ(e:Js)(f:Jn->Pos->Bool):Bool:=any1 (AZ e) λ t=>f t.1.1 t.1.2
@[elab_as_elim] theorem kO(h:cZ e g=true){C:Js->Prop}(k:∀v p,g v p=true->C (.Expr v p)):C e:=by
 unfold cZ at h;exact let ⟨t,_,h⟩:=z9 h;Eq.mpr Kq (k _ _ h)
noncomputable def Ba(e:Js):Ji {t:(Ji Jn)×Pos // e=.Return t.1 t.2}:=match e with | .Return v p=>some ⟨(v,p),rfl⟩ | _=>none
@[irreducible] def kR(e:Js)(f:(Ji Jn)->Pos->Bool):Bool:=any1 (Ba e) λ t=>f t.1.1 t.1.2
@[elab_as_elim] theorem Bb(h:kR e g=true){C:Js->Prop}(k:∀v p,g v p=true->C (.Return v p)):C e:=by
 unfold kR at h;exact let ⟨t,_,h⟩:=z9 h;Eq.mpr Kq (k _ _ h)
noncomputable def Bc(e:Js):Ji {t:Jn×(ge Js)×(ge Js)×Pos // e=.If t.1 t.2.1 t.2.2.1 t.2.2.2}:=match e with | .If c a b p=>some ⟨(c,a,b,p),rfl⟩ | _=>none
@[irreducible] def kS(e:Js)(f:Jn->(ge Js)->(ge Js)->Pos->Bool):Bool:=any1 (Bc e) λ t=>f t.1.1 t.1.2.1 t.1.2.2.1 t.1.2.2.2
@[elab_as_elim] theorem Bd(h:kS e g=true){C:Js->Prop}(k:∀c a b p,g c a b p=true->C (.If c a b p)):C e:=by
 unfold kS at h;exact let ⟨t,_,h⟩:=z9 h;Eq.mpr Kq (k _ _ _ _ h)
noncomputable def Be(e:Js):Ji {t:Jn×Jn×(ge Js)×(ge Js)×Pos // e=.For t.1 t.2.1 t.2.2.1 t.2.2.2.1 t.2.2.2.2}:=match e with | .For t i b o p=>some ⟨(t,i,b,o,p),rfl⟩ | _=>none
@[irreducible] def kU(e:Js)(f:Jn->Jn->(ge Js)->(ge Js)->Pos->Bool):Bool:=any1 (Be e) λ t=>f t.1.1 t.1.2.1 t.1.2.2.1 t.1.2.2.2.1 t.1.2.2.2.2
@[elab_as_elim] theorem Bf(h:kU e g=true){C:Js->Prop}(k:∀t i b o p,g t i b o p=true->C (.For t i b o p)):C e:=by
 unfold kU at h;exact let ⟨t,_,h⟩:=z9 h;Eq.mpr Kq (k _ _ _ _ _ h)
noncomputable def Bg(e:Js):Ji {t:Jn×(ge Js)×(ge Js)×Pos // e=.While t.1 t.2.1 t.2.2.1 t.2.2.2}:=match e with | .While t b o p=>some ⟨(t,b,o,p),rfl⟩ | _=>none
@[irreducible] def inWh(e:Js)(f:Jn->(ge Js)->(ge Js)->Pos->Bool):Bool:=any1 (Bg e) λ t=>f t.1.1 t.1.2.1 t.1.2.2.1 t.1.2.2.2
@[elab_as_elim] theorem Bh(h:inWh e g=true){C:Js->Prop}(k:∀t b o p,g t b o p=true->C (.While t b o p)):C e:=by
 unfold inWh at h;exact let ⟨t,_,h⟩:=z9 h;Eq.mpr Kq (k _ _ _ _ h)
noncomputable def Bj(e:Js):Ji {t:(Ji Jn)×(Ji Jn)×Pos // e=.Raise t.1 t.2.1 t.2.2}:=match e with | .Raise v k p=>some ⟨(v,k,p),rfl⟩ | _=>none
@[irreducible] def kW(e:Js)(f:(Ji Jn)->(Ji Jn)->Pos->Bool):Bool:=any1 (Bj e) λ t=>f t.1.1 t.1.2.1 t.1.2.2
@[elab_as_elim] theorem Bk(h:kW e g=true){C:Js->Prop}(k:∀v k p,g v k p=true->C (.Raise v k p)):C e:=by
 unfold kW at h;exact let ⟨t,_,h⟩:=z9 h;Eq.mpr Kq (k _ _ _ h)
noncomputable def Bl(e:Js):Ji {t:(ge Js)×(ge ExceptHandler)×(ge Js)×(ge Js)×Pos // e=.Try t.1 t.2.1 t.2.2.1 t.2.2.2.1 t.2.2.2.2}:=match e with | .Try b hs o d p=>some ⟨(b,hs,o,d,p),rfl⟩ | _=>none
@[irreducible] def kX(e:Js)(f:(ge Js)->(ge ExceptHandler)->(ge Js)->(ge Js)->Pos->Bool):Bool:=any1 (Bl e) λ t=>f t.1.1 t.1.2.1 t.1.2.2.1 t.1.2.2.2.1 t.1.2.2.2.2
@[elab_as_elim] theorem Bm(h:kX e g=true){C:Js->Prop}(k:∀b a o d p,g b a o d p=true->C (.Try b a o d p)):C e:=by
 unfold kX at h;exact let ⟨t,_,h⟩:=z9 h;Eq.mpr Kq (k _ _ _ _ _ h)
def qG(e:Jn)(f:Jn->CmpOp->Jn->Bool):Bool:=gu e λ a os bs=>in1 os λ o=>in1 bs λ b=>f a o b
@[elab_as_elim] theorem qH(h:qG e f=true){C:Jn->Prop}(k:∀a o b p,f a o b=true->C (.Compare a [o] [b] p)):C e:=qB h λ a _ _ p h=>M3 h λ o h=>M3 h λ b h=>k a o b p h
def qI(e:Jn)(f:Jn->CmpOp->CmpOp->Jn->Jn->Bool):Bool:=gu e λ a os bs=>in2 os λ o o2=>in2 bs λ b c=>f a o o2 b c
@[elab_as_elim] theorem qK(h:qI e f=true){C:Jn->Prop}(k:∀a o d b c p,f a o d b c=true->C (.Compare a [o,d] [b,c] p)):C e:=qB h λ a _ _ p h=>X2 h λ o d h=>X2 h λ b c h=>k a o d b c p h
def qL(e:Jn)(f:Jn->Bool):Bool:=cX e λ a b c=>inNo b (inNo c (any1 a f))
@[elab_as_elim] theorem Bn(h:qL e f=true){C:Jn->Prop}(k:∀x p,f x=true->C (.Slice (some x) none none p)):C e:=kF h λ _ _ _ p h=>K4 h λ h=>K4 h λ h=>R8 h λ x h=>k x p h
def qM(e:Jn)(f:Jn->Bool):Bool:=cX e λ a b c=>inNo a (inNo c (any1 b f))
@[elab_as_elim] theorem Bo(h:qM e f=true){C:Jn->Prop}(k:∀x p,f x=true->C (.Slice none (some x) none p)):C e:=kF h λ _ _ _ p h=>K4 h λ h=>K4 h λ h=>R8 h λ x h=>k x p h
def qN(e:Jn)(f:Jn->Jn->Bool):Bool:=cX e λ a b c=>inNo c (any1 a λ x=>any1 b (f x))
@[elab_as_elim] theorem Bp(h:qN e f=true){C:Jn->Prop}(k:∀x y p,f x y=true->C (.Slice (some x) (some y) none p)):C e:=kF h λ _ _ _ p h=>K4 h λ h=>R8 h λ x h=>R8 h λ y h=>k x y p h
def inCl(e:Jn)(f:Jn->ge Jn->Pos->Bool):Bool:=gz e λ g as ks p=>in0 ks (f g as p)
@[elab_as_elim] theorem K6(h:inCl e f=true){C:Jn->Prop}(k:∀g as p,f g as p=true->C (.Call g as [] p)):C e:=qE h λ g as _ p h=>C8 h (k g as p)
def kY(e:Jn)(f:Jn->Pos->Bool):Bool:=inCl e λ g as p=>in0 as (f g p)
@[elab_as_elim] theorem kZ(h:kY e f=true){C:Jn->Prop}(k:∀g p,f g p=true->C (.Call g [] [] p)):C e:=K6 h λ g _ p h=>C8 h (k g p)
def bv(e:Jn)(f:Jn->Jn->Pos->Bool):Bool:=inCl e λ g as p=>in1 as λ a=>f g a p
@[elab_as_elim] theorem bw(h:bv e f=true){C:Jn->Prop}(k:∀g a p,f g a p=true->C (.Call g [a] [] p)):C e:=K6 h λ g _ p h=>M3 h λ a h=>k g a p h
def lg(e:Jn)(f:Jn->Jn->Jn->Pos->Bool):Bool:=inCl e λ g as p=>in2 as λ a b=>f g a b p
@[elab_as_elim] theorem gB(h:lg e f=true){C:Jn->Prop}(k:∀g a b p,f g a b p=true->C (.Call g [a,b] [] p)):C e:=K6 h λ g _ p h=>X2 h λ a b h=>k g a b p h
def qO(e:Jn)(f:Bool):Bool:=gA e λ ks vs=>in0 ks (in0 vs f)
@[elab_as_elim] theorem Bq(h:qO e f=true){C:Jn->Prop}(k:∀p,f=true->C (.Dict [] [] p)):C e:=qF h λ _ _ p h=>C8 h λ h=>C8 h λ h=>k p h
def qP(e:Jn)(f:Jn->Jn->Jn->Jn->Bool):Bool:=gA e λ ks vs=>in2 ks λ a b=>any1 a λ a=>any1 b λ b=>in2 vs λ c d=>f a b c d
@[elab_as_elim] theorem qQ(h:qP e f=true){C:Jn->Prop}(k:∀a b c d p,f a b c d=true->C (.Dict [some a,some b] [c,d] p)):C e:=qF h λ _ _ p h=>X2 h λ _ _ h=>R8 h λ a h=>R8 h λ b h=>X2 h λ c d h=>k a b c d p h
noncomputable def Br(e:Jn):Ji {t:Jn×Nat×Pos×Pos×Pos×Pos // e=.Subscript t.1 (.Slice none none (some (.UnaryOp .USub (.Constant (.int 1) t.2.1 t.2.2.1) t.2.2.2.1)) t.2.2.2.2.1) t.2.2.2.2.2}:=match e with | .Subscript a (.Slice none none (some (.UnaryOp .USub (.Constant (.int 1) j p) q)) r) s=>some ⟨(a,j,p,q,r,s),rfl⟩ | _=>none
@[irreducible] def lh(e:Jn)(f:Jn->Bool):Bool:=any1 (Br e) λ t=>f t.1.1
@[elab_as_elim] theorem qR(h:lh e g=true){C:Jn->Prop}(k:∀a j p q r s,g a=true->C (.Subscript a (.Slice none none (some (.UnaryOp .USub (.Constant (.int 1) j p) q)) r) s)):C e:=by
 unfold lh at h;exact let ⟨t,_,h⟩:=z9 h;Eq.mpr Kq (k _ _ _ _ _ _ h)
noncomputable def Bs(e:Js):Ji {t:Str×Jw×ge Js×Jv×Str×Pos // e=.FunctionDef t.1 t.2.1 t.2.2.1 [] none [] t.2.2.2.1 none t.2.2.2.2.1 t.2.2.2.2.2}:=match e with | .FunctionDef n a b [] none [] sc none bd p=>some ⟨(n,a,b,sc,bd,p),rfl⟩ | _=>none
@[irreducible] def inFd(e:Js)(f:Str->Jw->ge Js->Jv->Str->Bool):Bool:=any1 (Bs e) λ t=>f t.1.1 t.1.2.1 t.1.2.2.1 t.1.2.2.2.1 t.1.2.2.2.2.1
@[elab_as_elim] theorem Bt(h:inFd e g=true){C:Js->Prop}(k:∀n a b sc bd p,g n a b sc bd=true->C (.FunctionDef n a b [] none [] sc none bd p)):C e:=by
 unfold inFd at h;exact let ⟨t,_,h⟩:=z9 h;Eq.mpr Kq (k _ _ _ _ _ _ h)
def qU(e:Jn)(f:Jn->ge Jn->Ji Str->Jn->Bool):Bool:=gz e λ g as ks p=>in1 ks λ w=>f g as w.arg w.value
@[elab_as_elim] theorem Bu(h:qU e f=true){C:Jn->Prop}(k:∀g b a v q p,f g b a v=true->C (.Call g b [⟨a,v,q⟩] p)):C e:=qE h λ g b _ p h=>M3 h λ ⟨a,v,q⟩ h=>k g b a v q p h
def inCk(e:Jn)(f:Jn->Jn->Ji Str->Jn->Bool):Bool:=qU e λ g as a v=>in1 as λ b=>f g b a v
@[elab_as_elim] theorem qV(h:inCk e f=true){C:Jn->Prop}(k:∀g b a v q p,f g b a v=true->C (.Call g [b] [⟨a,v,q⟩] p)):C e:=Bu h λ g _ a v q p h=>M3 h λ b h=>k g b a v q p h
def am(e:Js)(f:Jn->Jn->Pos->Bool):Bool:=kJ e λ ts v p=>in1 ts λ t=>f t v p
@[elab_as_elim] theorem da(h:am e f=true){C:Js->Prop}(k:∀t v p,f t v p=true->C (.Assign [t] v p)):C e:=AY h λ _ v p h=>M3 h λ t h=>k t v p h
def gC(e:Js)(f:Jn->Pos->Bool):Bool:=kR e λ o p=>any1 o λ v=>f v p
@[elab_as_elim] theorem li(h:gC e f=true){C:Js->Prop}(k:∀v p,f v p=true->C (.Return (some v) p)):C e:=Bb h λ _ p h=>R8 h λ v h=>k v p h
def qW(e:Js)(f:Jn->Jn->ge Js->Pos->Bool):Bool:=kU e λ t i b o p=>in0 o (f t i b p)
@[elab_as_elim] theorem Bv(h:qW e f=true){C:Js->Prop}(k:∀t i b p,f t i b p=true->C (.For t i b [] p)):C e:=Bf h λ t i b _ p h=>C8 h (k t i b p)
def qX(e:Js)(f:Jn->ge Js->Pos->Bool):Bool:=inWh e λ t b o p=>in0 o (f t b p)
@[elab_as_elim] theorem Bw(h:qX e f=true){C:Js->Prop}(k:∀t b p,f t b p=true->C (.While t b [] p)):C e:=Bh h λ t b _ p h=>C8 h (k t b p)
def qY(e:Js)(f:Jn->Pos->Bool):Bool:=kW e λ v k p=>inNo k (any1 v λ v=>f v p)
@[elab_as_elim] theorem Bx(h:qY e f=true){C:Js->Prop}(k:∀v p,f v p=true->C (.Raise (some v) none p)):C e:=Bk h λ _ _ p h=>K4 h λ h=>R8 h λ v h=>k v p h
def qZ(e:Js)(f:ge Js->ExceptHandler->Pos->Bool):Bool:=kX e λ b hs o d p=>in1 hs λ h=>in0 o (in0 d (f b h p))
@[elab_as_elim] theorem By(h:qZ e f=true){C:Js->Prop}(k:∀b x p,f b x p=true->C (.Try b [x] [] [] p)):C e:=Bm h λ b _ _ _ p h=>M3 h λ x h=>C8 h λ h=>C8 h (k b x p)
def rg(e:ExceptHandler)(f:Jn->Str->Jn->Jn->Bool):Bool:=match e with | .ExceptHandler t n b _=>any1 t λ t=>any1 n λ n=>in1 b λ s=>am s λ a b _=>f t n a b
@[elab_as_elim] theorem Bz(h:rg e f=true){C:ExceptHandler->Prop}(k:∀t n a b p q,f t n a b=true->C (.ExceptHandler (some t) (some n) [.Assign [a] b p] q)):C e:=by
 obtain⟨x,y,z,q⟩:=e;exact R8 h λ t h=>R8 h λ n h=>M3 h λ s h=>da h λ a b p h=>k t n a b p q h
def F3(e:Jn):Ji Str:=(qy e).map λ t=>t.1.1
def U8(e:Jn):Ji Const:=(AI e).map λ t=>t.1.1
def P7(e:Jn):Ji (ge Jn):=(qD e).map λ t=>t.1.1
def rh(e:Jn):Ji (Jn×Operator×Jn):=(qz e).map λ t=>(t.1.1,t.1.2.1,t.1.2.2.1)
theorem mpd{o:Ji d}(h:o.map f=some b):∃a,f a=b:=by
 cases o with
 | none=>cases h
 | some a=>cases h;exact⟨a,rfl⟩
theorem M4(h:F3 e=some x):∃p,e=.Name x p:=let ⟨t,h⟩:=mpd h;⟨_,h▸t.2⟩
theorem gD(h:U8 e=some x):∃k p,e=.Constant x k p:=let ⟨t,h⟩:=mpd h;⟨_,_,h▸t.2⟩
theorem lj{e:Jn}{es:ge Jn}(h:P7 e=some es):∃k p,e=.Tuple es k p:=let ⟨t,h⟩:=mpd h;⟨_,_,h▸t.2⟩
theorem BA(h:rh e=some (a,o,b)):∃p,e=.BinOp a o b p:=by
 obtain⟨⟨⟨_,_,_,p⟩,z⟩,h⟩:=mpd h;cases h;exact⟨p,z⟩
structure CParts where
 elt:Expr
 tg:Expr
 it:Expr
 ifs:List Expr
 sc:Scope
def inCp(e:Jn)(f:CParts->Bool):Bool:=kG e λ x gs sc=>in1 gs λ g=>decide (g.is_async=0)&&f ⟨x,g.target,g.iter,g.ifs,sc⟩
@[elab_as_elim] theorem gE(h:inCp e f=true){C:Jn->Prop}(k:∀c p,f c=true->C (.ListComp c.elt [⟨c.tg,c.it,c.ifs,0⟩] c.sc p)):C e:=by
 refine AT h λ x gs d p h=>M3 h λ ⟨b,g,a,w⟩ h=>?_;obtain⟨i,h⟩:=K0.mp h;obtain rfl:=jc i;exact k ⟨x,b,g,a,d⟩ p h
noncomputable def visB(sg:Sg)(x:Str):Bool:=sg.sc.lookup x==some .local||sg.sc.lookup x==some .cell||sg.sc.lookup x==some .free
noncomputable def gloB(sg:Sg)(x:Str):Bool:=sg.sc.lookup x==some .globalImplicit
noncomputable def locB(sg:Sg)(x:Str):Bool:=sg.sc.lookup x==some .local||sg.sc.lookup x==some .cell
def N9(sg:Sg)(i:Nat)(x:Str):Bool:=sg.N[i]? == some x&&visB sg x&&x != "__debug__" && x != "__classdict__"
def bltB(sg:Sg)(x:Str)(f:Jn):Bool:=F3 f==some x&&gloB sg x&&sg.bl.contains x
noncomputable def BB:Bi->Str
 | .len=>"len" | .min=>"min" | .max=>"max" | .sum=>"sum" | .sset=>"sorted" | .int=>"int" | .tuple=>"tuple"
noncomputable def rj:Mt->Str
 | .bitLength=>"bit_length" | .index=>"index" | .get=>"get"
noncomputable def G9(sg:Sg)(tn:ge Str)(fr:ge (Ji Nat)):ge Str:=tn++(fr.drop tn.length).map λ o=>match o with | some i=>sg.N.getD i "" | none=>""
def rm:Tg->Jn->Ji (ge Str)
 | .one _,e=>(F3 e).map λ x=>[x]
 | .many is,e=>match P7 e with
  | some es=>if es.length=is.length then es.mapM F3 else none
  | none=>none
def tgOk(sg:Sg):Tg->Jn->Bool
 | .one i,e=>match F3 e with
  | some x=>sg.N[i]? == some x&&locB sg x
  | none=>false
 | .many is,e=>match P7 e with
  | some es=>es.length==is.length&&2<=es.length&&(is.zip es).all λ p=>match F3 p.2 with
   | some x=>sg.N[p.1]? == some x&&locB sg x
   | none=>false
  | none=>false
noncomputable def O0:ge Str->Bool
 | []=>true
 | x::r=>!r.contains x&&O0 r
noncomputable def ao:Tg->ge Nat
 | .one i=>[i]
 | .many is=>is
def X4(sg:Sg)(N':ge Str)(fr:ge (Ji Nat))(sc:Jv)(tg:Tg):Bool:=(ao tg).all (λ i=>fr[i]? == some none) &&
 sc.kind == .function&&O0 N'&&O0 (sc.names.map (·.1))&&fr.length==N'.length &&
 (fr.zip N').all (λ p=>match p.1 with | some i=>sg.N[i]? == some p.2&&sc.names.contains (p.2,.free) | none=>true) &&
 sc.names.all λ y=>if y.2 == .free then sg.sc.lookup y.1==some .cell||sg.sc.lookup y.1==some .free else true
def BC(p:Jw)(ps:ge Str):Bool:=match p with | ⟨po,ar,va,ko,kd,kw,df⟩=>in0 po (in2 ar λ a b=>inNo va (in0 ko (in0 kd (inNo kw (in0 df (a.arg == "r" && b.arg == "c" && ps==(["r","c"]:ge Str)))))))
def BD(p:Jw)(ps:ge Str):Bool:=match p with | ⟨po,ar,va,ko,kd,kw,df⟩=>in0 po (in1 ar λ a=>inNo va (in0 ko (in0 kd (inNo kw (in0 df ((["way","entry","word"]:ge Str).contains a.arg&&ps==[a.arg]))))))
def db(p:Jw)(ps:ge Str):Bool:=BC p ps||BD p ps
@[elab_as_elim] theorem rn(h:db p ps=true){C:Jw->ge Str->Prop}(k:∀x y z w,C ⟨[],[⟨"r",x,y⟩,⟨"c",z,w⟩],none,[],[],none,[]⟩ ["r","c"])
  (k1:∀a x y,a∈(["way","entry","word"]:ge Str)->C ⟨[],[⟨a,x,y⟩],none,[],[],none,[]⟩ [a]):C p ps:=by
 obtain⟨po,ar,va,ko,kd,kw,df⟩:=p;rcases Bool.or_eq_true_iff.mp h with h | h
 ·refine C8 h λ h=>X2 h λ ⟨x,b,p1⟩ ⟨y,c,p2⟩ h=>K4 h λ h=>C8 h λ h=>C8 h λ h=>K4 h λ h=>C8 h λ h=>?_;simp only[f7,g9]at h;obtain⟨⟨rfl,rfl⟩,rfl⟩:=h;exact k b p1 c p2
 ·refine C8 h λ h=>M3 h λ ⟨x,b,p1⟩ h=>K4 h λ h=>C8 h λ h=>C8 h λ h=>K4 h λ h=>C8 h λ h=>?_;simp only[f7,g9,J8]at h;obtain⟨d,rfl⟩:=h;exact k1 x b p1 d
def ro(sg:Sg)(kd:Jy)(N:ge Str)(np:Nat)(fr:ge Nat)(pr:Jw)(sc:Jv):Bool:=db pr (N.take np)&&sc.kind == .function && !sc.isCoroutine && !sc.isGenerator&&O0 N&&O0 (sc.names.map (·.1))&&decide (N.length=np+fr.length) &&
 (N.take np).all (λ x=>sc.names.lookup x==some .local)&&sc.names.all (λ y=>y.2 != .cell)&&(N.drop np).all (λ x=>sc.names.lookup x==some .free)&&(fr.zip (N.drop np)).all (λ p=>sg.N[p.1]? == some p.2) &&
 sg.sc.lookup n7 != some .cell&&sc.names.all λ y=>if y.2 == .free then sg.sc.lookup y.1==some kd else true
def de(p:Jw)(ps:ge Str):Bool:=match p with | ⟨po,ar,va,ko,kd,kw,df⟩=>in0 po (in2 ar λ a b=>inNo a.annotation (inNo b.annotation (inNo va (in0 ko (in0 kd (inNo kw (in0 df (a.arg == "rows" && b.arg == "columns" && ps==(["rows","columns"]:ge Str)))))))))
@[elab_as_elim] theorem rq(h:de p ps=true){C:Jw->ge Str->Prop}(k:∀x y,C ⟨[],[⟨"rows",none,x⟩,⟨"columns",none,y⟩],none,[],[],none,[]⟩ ["rows","columns"]):C p ps:=by
 obtain⟨po,ar,va,ko,kd,kw,df⟩:=p;refine C8 h λ h=>X2 h λ ⟨x,b,p1⟩ ⟨y,a,p2⟩ h=>K4 (o:=b) h λ h=>K4 (o:=a) h λ h=>K4 h λ h=>C8 h λ h=>C8 h λ h=>K4 h λ h=>C8 h λ h=>?_
 simp only[f7,g9]at h;obtain⟨⟨rfl,rfl⟩,rfl⟩:=h;exact k p1 p2
def ll(sg:Sg)(i:Nat)(fr:ge Nat)(ss:ge Js)(f:ge Jn->Bool):Bool:=sg.top&&sg.sc.lookup n7==some .cell&&(in2 ss λ a b=>inFd a λ n pr bd sc x=>n==n7&&x==n7&&sg.N[i]? == some n7&&sg.co pr bd sc (fr.map λ j=>sg.N.getD j "")&&fr.all (λ j=>decide (j<sg.N.length)) &&
 (sc.names.all λ y=>if y.2 == .free then sg.sc.lookup y.1==some .cell else true)&&(gC b λ v _=>inCl v λ ef es _=>(F1 ef λ x=>x==n7) && !es.isEmpty&&f es))
noncomputable def rr:ME->Bool
 | .comp _ _ _ _=>true
 | .compi _ _ _ _ _=>true
 | _=>false
noncomputable def isZp:ME->Bool
 | .enu _=>true
 | .itm _=>true
 | _=>false
mutual
def corE(sg:Sg)(w:Bool):ME->Jn->Bool
 | .var i,e=>F1 e λ x=>N9 sg i x
 | .int i,e=>U8 e==some (.int i)
 | .bl i,e=>U8 e==some (.bool i)
 | .str x,e=>U8 e==some (.str x)&&decide (x.length<=1000)
 | .non,e=>U8 e==some .none
 | .glb x,e=>F3 e==some x&&gloB sg x&&x != "__debug__"
 | .bin op a b,e=>ky e λ ea o eb=>o==op&&corE sg false a ea&&corE sg false b eb
 | .neg a,e=>inUn e λ o ea=>o == .USub&&corE sg false a ea
 | .not a,e=>inUn e λ o ea=>o == .Not&&corE sg false a ea
 | .cmp op a b,e=>qG e λ ea o eb=>o==op&&corE sg false a ea&&corE sg false b eb && !G8 eb
 | .chain op op' a b c,e=>qI e λ ea o o' eb ec=>o==op&&o'==op'&&corE sg false a ea&&corE sg false b eb&&corE sg false c ec && !G8 ec
 | .and ms,e=>gw e λ o es=>o == .And&&u3 sg ms es
 | .or ms,e=>gw e λ o es=>o == .Or&&u3 sg ms es
 | .lst ms,e=>kz e λ es=>u3 sg ms es
 | .tup ms,e=>gy e λ es=>u3 sg ms es
 | .ix a b,e=>S0 e λ ea eb=>corE sg false a ea&&corE sg false b eb && !U7 eb
 | .sl a lo hi,e=>S0 e λ ea es=>(qN es λ el eh=>corE sg false a ea&&corE sg false lo el&&corE sg false hi eh)
 | .slf a lo,e=>S0 e λ ea es=>(qL es λ el=>corE sg false a ea&&corE sg false lo el)
 | .slt a hi,e=>S0 e λ ea es=>(qM es λ eh=>corE sg false a ea&&corE sg false hi eh)
 | .call f ms,e=>inCl e λ ef es _=>(F1 ef λ x=>sg.fn[f]? == some x&&gloB sg x&&x != "__debug__") && !es.isEmpty&&u3 sg ms es
 | .bi f ms,e=>inCl e λ ef es _=>bltB sg (BB f) ef && !es.isEmpty&&(match f with
   | .sset=>(in1 es λ e1=>inCl e1 λ ef' es' _=>bltB sg "set" ef'&&es'.length==1&&u3 sg ms es')
   | _=>u3 sg ms es)
 | .isi a ts,e=>lg e λ ef ea et _=>bltB sg "isinstance" ef&&corE sg false a ea && !o7 ea && !o7 et&&(match ts with
   | [t]=>F3 et==some t&&gloB sg t&&sg.bl.contains t&&W8.contains t
   | _=>false)
 | .isx a t,e=>lg e λ ef ea et _=>bltB sg "isinstance" ef&&corE sg false a ea && !o7 ea && !o7 et&&F3 et==some t&&gloB sg t&&((sg.cl.contains t&&t != "__debug__")||(sg.bl.contains t&&qw.contains t))
 | .meth m a ms,e=>kY e λ ef pos=>(X3 ef λ ea n apos=>n==rj m&&corE sg false a ea&&((F3 ea).isSome||(rh ea).isSome)&&apos.endLine==pos.line&&ms.isEmpty)
 | .comp elt tg it fr,e=>inCp e λ c=>c.ifs.isEmpty&&(corE sg true it c.it&&(!isZp it||(P7 c.tg).isSome)) && !G8 c.it&&(any1 (rm tg c.tg) λ tn=>X4 sg (G9 sg tn fr) fr c.sc tg&&tgOk KN tg c.tg&&corE KN false elt c.elt)
 | .compi elt tg it cd fr,e=>inCp e λ c=>(corE sg true it c.it&&(!isZp it||(P7 c.tg).isSome)) && !G8 c.it&&(any1 (rm tg c.tg) λ tn=>in1 c.ifs λ ec=>X4 sg (G9 sg tn fr) fr c.sc tg&&tgOk KN tg c.tg&&corE KN false elt c.elt&&corE KN false cd ec)
 | .idx a b,e=>bv e λ ef eb pos=>(X3 ef λ ea n apos=>n == "index" && corE sg false a ea&&(F3 ea).isSome&&apos.endLine==pos.line&&corE sg false b eb && !o7 eb)
 | .rng ms,e=>w&&(inCl e λ ef es _=>bltB sg "range" ef&&u3 sg ms es&&decide (es.length<=2))
 | .enu a,e=>w&&(bv e λ ef ea _=>bltB sg "enumerate" ef&&corE sg false a ea && !o7 ea)
 | .itm a,e=>w&&(kY e λ ef pos=>(X3 ef λ o n apos=>n == "items" && corE sg false a o&&apos.endLine==pos.line&&(F3 o).isSome))
 | .dix a k,e=>S0 e λ ea eb=>corE sg false a ea&&corE sg false k eb && !U7 eb
 | .dgp i k,e=>S0 e λ o ek=>(F1 o λ x=>N9 sg i x)&&corE sg false k ek && !U7 ek
 | .callv i xs ms,e=>inCl e λ ef es _=>(F1 ef λ x=>N9 sg i x)&&(xs.all λ p=>sg.fn[p.2]? == some p.1) && !es.isEmpty&&u3 sg ms es
 | .mink a N np lb fr,e=>(sg.lp && !sg.top)&&(inCk e λ ef ea kn el=>bltB sg "min" ef&&kn==some "key" && corE sg false a ea && !o7 ea&&(kH el λ pr bd sc _=>ro sg .free N np fr pr sc&&corE ⟨N,sc.names,sg.fn,sg.bl,sg.cl,false,false,noCo⟩ false lb bd))
 | .self _ _ ms,e=>(sg.lp && !sg.top)&&(inCl e λ ef es _=>(F1 ef λ x=>x==n7) && !es.isEmpty&&u3 sg ms es)
 | .dc2 x y a b,e=>qP e λ ka kb ea eb=>U8 ka==some (.str x)&&U8 kb==some (.str y)&&x != y&&corE sg false a ea&&corE sg false b eb
 | .rev a,e=>lh e λ ea=>corE sg false a ea
def u3(sg:Sg):ge ME->ge Jn->Bool
 | [],[]=>true
 | m::ms,e::es=>corE sg false m e && !o7 e&&u3 sg ms es
 | _,_=>false
end
mutual
def corS (sg : Sg) : MS -> Js -> Bool
 | .set i _ e, s => am s λ t v pos => (F1 t λ x => sg.N[i]? == some x && locB sg x && corE sg false e v && (!al v || rr e))
 | .app i e, s => cZ s λ v _ => (bv v λ ef ea pos => (X3 ef λ o n apos => n == "append" && (F1 o λ x => N9 sg i x) && corE sg false e ea && !o7 ea && apos.endLine == pos.line))
 | .ext i e, s => cZ s λ v _ => (bv v λ ef ea pos => (X3 ef λ o n apos => n == "extend" && (F1 o λ x => N9 sg i x) && corE sg false e ea && !o7 ea && apos.endLine == pos.line))
 | .seti i k e, s => am s λ t v _ => (S0 t λ o ek => (F1 o λ x => N9 sg i x) && corE sg false k ek && !U7 ek && corE sg false e v)
 | .exp e, s => cZ s λ v _ => corE sg false e v && !al v
 | .ret e, s => gC s λ v _ => corE sg false e v
 | .iff c a b, s => kS s λ ec ea eb _ => corE sg false c ec && G1 sg a ea && G1 sg b eb
 | .fo tg it body, s => qW s λ t i b _ => sg.lp && tgOk sg tg t && (corE sg true it i && (!isZp it || (P7 t).isSome)) && !G8 i && G1 sg body b
 | .wh c body, s => qX s λ t b _ => sg.lp && corE sg false c t && G1 sg body b
 | .sep i, s => am s λ t v _ => (F1 t λ x => (qO v (sg.N[i]? == some x && locB sg x)))
 | .dpp i ks e, s => am s λ t v _ => (S0 t λ o ek => (F1 o λ x => N9 sg i x) && (gy ek λ es => u3 sg ks es) && corE sg false e v && !al v)
 | .retd i, s => gC s λ v _ => (F1 v λ x => N9 sg i x)
 | .rse c e, s => qY s λ v _ => (bv v λ ef ea _ => sg.top && F3 ef == some c && gloB sg c && c != "__debug__" && corE sg false e ea && !o7 ea)
 | .tryc body c ie ic, s => qZ s λ b h _ => sg.top && G1 ⟨sg.N, sg.sc, sg.fn, sg.bl, sg.cl, false, false, noCo⟩ body b && (rg h λ t n t2 v2 => F3 t == some c && gloB sg c && c != "__debug__" && sg.cl.contains c && sg.N[ie]? == some n && sg.sc.lookup n == some .local && n != "__debug__" && n != "__classdict__" &&
     F3 v2 == some n && (F1 t2 λ x => sg.N[ic]? == some x && locB sg x) && ie != ic)
 | .dfr _ _ _, _ => false
def G1(sg:Sg):ge MS->ge Js->Bool
 | [],[]=>true
 | .dfr i fr es::ms,ss=>ll sg i fr ss (u3 sg es)&&ms.isEmpty
 | m::ms,s::ss=>corS sg m s&&G1 sg ms ss
 | _,_=>false
end
def X5(C:CloD)(fn bl cl:ge Str)(pr:Jw)(bd:ge Js)(sc:Jv)(cap:ge Str):Bool:=de pr (C.N.take C.np)&&sc.kind == .function && !sc.isCoroutine && !sc.isGenerator&&O0 C.N&&decide (C.np+C.nc<=C.N.length)&&O0 (sc.names.map (·.1)) &&
 (C.N.take C.np).all (λ x=>sc.names.lookup x==some .local)&&sc.names.all (λ y=>y.2 != .cell)&&(cap==(C.N.drop C.np).take C.nc)&&cap.all (λ x=>sc.names.lookup x==some .free)&&sc.names.lookup n7==some .free&&G1 ⟨C.N,sc.names,fn,bl,cl,false,true,noCo⟩ C.body bd
end
end L2
end
noncomputable section
namespace L2
open PySem PySem.Spec PyProof.Rows
def O1(H:Hp)(q:Str)(params:Jw)(body:Jn)(scope:Jv)(cl:ge (Str×Jl))(f:Jl):Prop:=
 ∃c' oc u vs t pm ctv,H f=some (.frz (PySem.W.kla_obj "<lambda>" q params body scope cl pm c' ctv) (.own f))/\H c'=some (.frz oc u)/\oc.data=.fields vs/\vs[1]? = some (.str q t)
theorem O1.mono(e:Same H c)(h:O1 H q a body scope cl f):O1 c q a body scope cl f:=by
 obtain⟨l,i,u,d,t,g,b,k,j,r⟩:=h;exact⟨l,i,u,d,t,g,b,e _ _ k,e _ _ j,r⟩
structure LamScope(N ps:List Str)(sc:Scope)(cl:List (Str×Addr))(l:List Addr):Prop where
 kind:sc.kind=.function
 co:sc.isCoroutine=false
 gen:sc.isGenerator=false
 nd:N.Nodup
 pre:N.take ps.length=ps
 par:∀x∈ps,sc.names.lookup x=some .local
 nocell:∀y∈sc.names,y.2 ≠ .cell
 fre:∀i x,ps.length<=i->N[i]? = some x->sc.names.lookup x=some .free
 has:∀x,sc.names.lookup x=some .free->∃c,cl.lookup x=some c
 inj:∀x y c,cl.lookup x=some c->cl.lookup y=some c->x=y
 mem:∀x c,cl.lookup x=some c->c∈l
def dg(H:Hp)(N:ge Str)(np:Nat)(cl:ge (Str×Jl))(l:ge Jl)(ws:ge V):Prop:=N.length=np+ws.length/\(∀c∈l,∃o v,H c=some LL/\o.data=.cell v) /\
 ∀(i:Nat) x v,N[np+i]? = some x->ws[i]? = some v->∃c o u,cl.lookup x=some c/\H c=some LL/\o.data=.cell (some u)/\RelV v u
theorem dg.mono(e:Same H d)(h:dg H N np cl l ws):dg d N np cl l ws:=
 ⟨h.1,λ c f=>by obtain⟨o,v,b,a⟩:=h.2.1 c f;exact⟨o,v,e _ _ b,a⟩,λ i x v j g=>by obtain⟨c,o,u,b,a,r⟩:=h.2.2 i x v j g;exact⟨c,o,u,b,e _ _ a,r⟩⟩
noncomputable def aq(m:LamD)(params:Jw)(body:Jn)(scope:Jv):Bool:=db params (m.N.take m.np)&&corE ⟨m.N,scope.names,m.fn,m.bl,m.cl,false,false,noCo⟩ false m.body body
theorem BE(h:db c ps=true)(d:e.length=ps.length):bindArgs (PySem.W.kla_fn "<lambda>" q c b sc cl pm cd g) ⟨e,[]⟩=pure (ps.zip e):=by
 revert d;refine rn h (λ x y z w d=>?_) λ a x y f d=>?_
 ·obtain⟨u,v,rfl⟩:∃u v,e=[u,v]:=by
   cases e with
   | nil=>cases d
   | cons u r=>cases r with
    | nil=>cases d
    | cons v r=>cases r with
     | nil=>exact⟨u,v,rfl⟩
     | cons _ _=>cases d
  rfl
 ·obtain⟨u,rfl⟩:∃u,e=[u]:=by
   cases e with
   | nil=>cases d
   | cons u r=>cases r with
    | nil=>exact⟨u,rfl⟩
    | cons _ _=>cases d
  simp only[h8,T8,U2]at f;rcases f with z | z | z<;>(subst z;rfl)
structure Dm where
 K:PySem.W.Frag
 mg:Str->Option Value
abbrev Cx.D(X:Cx):Dm:=⟨X.K,X.mg⟩
def SqS(K:Ju)(H:Hp)(a:Jl)(xs:ge V):Prop:=(∃o,H a=some (.frz o (Kx xs))) \/
 ∃(o:Obj) (its:Jo Jj) (n:Nat),K.lookup a=some o/\o.cls=.type "list" /\ o.dict=none/\o.data=.seq its n/\its.size<=sizeLine/\Vals xs its.toList
theorem SqS.sq{K:Ju}(h:SqS K H a xs):SqL K H a xs:=by
 rcases h with h | h
 ·exact .inl (.inr h)
 ·exact .inr h
theorem SqS.of{K:Ju}(b:Only H)(h:SqL K H a xs):SqS K H a xs:=by
 rcases h with(h | h) | h
 ·rcases b a with z | z
  ·rw[h]at z;cases z
  ·rcases z with⟨o,ys,z⟩ | ⟨q,z⟩<;>(rw[h]at z;cases z)
 ·exact .inl h
 ·exact .inr h
theorem Same.sqs{K:Ju}(e:Same H b)(h:SqS K H a xs):SqS K b a xs:=by
 rcases h with⟨o,h⟩ | h
 ·exact .inl ⟨o,e _ _ h⟩
 ·exact .inr h
noncomputable def dKey:Key->DKey
 | .inl i=>.i i
 | .inr x=>.s x
noncomputable def mutO:HO->Bool
 | .lst _=>true
 | .dK _=>true
 | .dT _=>true
 | _=>false
mutual
def Rep(D:Dm)(H:Hp):DV->V->Prop
 | .non,v=>v=.non
 | .bl b,v=>v=.bl b
 | .int i,v=>v=.int i
 | .str x,v=>v=.str x/\x.length<=sizeLine
 | .tup ds,v=>∃a xs,v=.ref a/\SqT D.K H a xs/\RepL D H ds xs
 | .lst ds,v=>∃a xs,v=.ref a/\H a=some (Kx xs)/\RepL D H ds xs
 | .dct ks vs,v=>(∃a o kvs,v=.ref a/\H a=some (.frz o (.dK kvs))/\kvs.map (λ p=>dKey p.1)=ks/\RepL D H vs (kvs.map (·.2)))\/∃a o kvs,v=.ref a/\H a=some (.frz o (.dT kvs))/\kvs.map (λ p=>DKey.t p.1)=ks/\RepL D H vs (kvs.map (·.2))
 | .exc c,v=>∃a C,v=.ref a/\D.mg c=some C/\H a=some (excO a C)
 | .fn x,v=>∃f,v=.ref f/\D.mg x=some (.ref f)
 | .lam m cs,v=>∃f pr bd sc q cl l ws,v=.ref f/\O1 H q pr bd sc cl f/\aq m pr bd sc=true/\LamScope m.N (m.N.take m.np) sc cl l/\RepL D H cs ws/\dg H m.N m.np cl l ws
 | .scr ns,v=>∃a,v=.ref a/\SqS D.K H a (ns.map V.int)
def RepL(D:Dm)(H:Hp):ge DV->ge V->Prop
 | [],xs=>xs=[]
 | d::ds,xs=>∃v vs,xs=v::vs/\Rep D H d v/\RepL D H ds vs
end
theorem Same.tseq{K:Ju}(e:Same H b)(h:SqT K H a xs):SqT K b a xs:=by
 rcases h with(h | ⟨o,h⟩) | h
 ·exact .inl (.inl (e _ _ h))
 ·exact .inl (.inr ⟨o,e _ _ h⟩)
 ·exact .inr h
mutual
theorem Rep.mono{D:Dm}{H H':Hp}(e:Same H H'):∀{d:DV} {v:V},Rep D H d v->Rep D H' d v
 | .non,_,h=>by unfold Rep at h ⊢;exact h
 | .bl _,_,h=>by unfold Rep at h ⊢;exact h
 | .int _,_,h=>by unfold Rep at h ⊢;exact h
 | .str _,_,h=>by unfold Rep at h ⊢;exact h
 | .tup ds,_,h=>by unfold Rep at h ⊢;obtain⟨a,xs,e1,e2,e3⟩:=h;exact⟨a,xs,e1,e.tseq e2,RepL.mono e e3⟩
 | .lst ds,_,h=>by unfold Rep at h ⊢;obtain⟨a,xs,e1,e2,e3⟩:=h;exact⟨a,xs,e1,e _ _ e2,RepL.mono e e3⟩
 | .dct _ _,_,h=>by
  unfold Rep at h ⊢;rcases h with⟨a,o,kvs,e1,e2,e3,e4⟩ | ⟨a,o,kvs,e1,e2,e3,e4⟩
  ·exact .inl ⟨a,o,kvs,e1,e _ _ e2,e3,RepL.mono e e4⟩
  ·exact .inr ⟨a,o,kvs,e1,e _ _ e2,e3,RepL.mono e e4⟩
 | .exc C,_,h=>by unfold Rep at h ⊢;obtain⟨a,C,e1,e2,e3⟩:=h;exact⟨a,C,e1,e2,e _ _ e3⟩
 | .fn _,_,h=>by unfold Rep at h ⊢;exact h
 | .lam m cs,_,h=>by unfold Rep at h ⊢;obtain⟨f,pr,bd,sc,q,cl,l,ws,e1,e2,e3,e4,e5,e6⟩:=h;exact⟨f,pr,bd,sc,q,cl,l,ws,e1,e2.mono e,e3,e4,RepL.mono e e5,e6.mono e⟩
 | .scr _,_,h=>by unfold Rep at h ⊢;obtain⟨a,e1,e2⟩:=h;exact⟨a,e1,e.sqs e2⟩
theorem RepL.mono{D:Dm}{H H':Hp}(e:Same H H'):∀{ds:ge DV} {xs:ge V},RepL D H ds xs->RepL D H' ds xs
 | [],_,h=>by unfold RepL at h ⊢;exact h
 | d::ds,_,h=>by unfold RepL at h ⊢;obtain⟨v,vs,e1,e2,e3⟩:=h;exact⟨v,vs,e1,Rep.mono e e2,RepL.mono e e3⟩
end
theorem A2:Rep D H (.int i) v↔v=.int i:=by unfold Rep;exact L5
theorem au:Rep D H (.bl i) v↔v=.bl i:=by unfold Rep;exact L5
theorem bx:Rep D H (.str i) v↔(v=.str i/\i.length<=sizeLine):=by unfold Rep;exact L5
theorem X6:Rep D H .non v↔v=.non:=by unfold Rep;exact L5
theorem F4:Rep D H (.tup ds) v↔∃a b,v=.ref a/\SqT D.K H a b/\RepL D H ds b:=by unfold Rep;exact L5
theorem J3:Rep D H (Kx ds) v↔∃a b,v=.ref a/\H a=some (.lst b)/\RepL D H ds b:=by unfold Rep;exact L5
theorem lm:Rep D H (.exc c) v↔∃a C,v=.ref a/\D.mg c=some C/\H a=some (excO a C):=by unfold Rep;exact L5
theorem dh:Rep D H (.lam m cs) v↔∃f pr c a q cl l b,v=.ref f/\O1 H q pr c a cl f/\aq m pr c a=true/\LamScope m.N (m.N.take m.np) a cl l/\RepL D H cs b/\dg H m.N m.np cl l b:=by unfold Rep;exact L5
theorem lq:Rep D H (.fn x) v↔∃f,v=.ref f/\D.mg x=some (.ref f):=by unfold Rep;exact L5
theorem X7:Rep D H (.scr b) v↔∃a,v=.ref a/\SqS D.K H a (b.map V.int):=by unfold Rep;exact L5
theorem P8:Rep D H (.dct ks vs) v↔((∃a o b,v=.ref a/\H a=some (.frz o (.dK b))/\b.map (λ p=>dKey p.1)=ks/\RepL D H vs (b.map (·.2)))\/∃a o b,v=.ref a/\H a=some (.frz o (.dT b))/\b.map (λ p=>DKey.t p.1)=ks/\RepL D H vs (b.map (·.2))):=by unfold Rep;exact L5
theorem C2{D:Dm}{H:Hp}{xs:ge V}:RepL D H [] xs↔xs=[]:=by unfold RepL;exact L5
theorem v6:RepL D H (d::ds) xs↔∃v a,xs=v::a/\Rep D H d v/\RepL D H ds a:=by
 constructor
 ·intro h;exact h
 ·intro h;exact h
theorem RepL.length:∀{a:ge DV} {xs:ge V},RepL D H a xs->xs.length=a.length
 | [],_,h=>by rw[C2.mp h];rfl
 | d::a,_,h=>by obtain⟨v,vs,c,_,b⟩:=v6.mp h;rw[c,x9,x9,RepL.length b]
theorem RepL.get:∀{ds:ge DV} {xs:ge V} {i:Nat} {d:DV},RepL D H ds xs->ds[i]? = some d->∃v,xs[i]? = some v/\Rep D H d v
 | [],_,_,_,_,e=>by simp at e
 | d::ds,_,i,d',h,e=>by
  obtain⟨v,vs,c,b,a⟩:=v6.mp h;subst c;cases i with
  | zero=>simp at e;subst e;exact⟨v,rfl,b⟩
  | succ i=>simpa using RepL.get a (Kg e)
theorem RepL.append:∀{a es:ge DV} {xs ys:ge V},RepL D H a xs->RepL D H es ys->RepL D H (a++es) (xs++ys)
 | [],_,_,_,h,b=>by rwa [C2.mp h]
 | d::a,_,_,_,h,b=>by obtain⟨v,vs,f,e,c⟩:=v6.mp h;subst f;exact v6.mpr ⟨v,_,rfl,e,RepL.append c b⟩
theorem RepL.one(h:Rep D H d v):RepL D H [d] [v]:=v6.mpr ⟨v,[],rfl,h,C2.mpr rfl⟩
theorem RepL.take:∀{a:ge DV} {xs:ge V} (n:Nat),RepL D H a xs->RepL D H (a.take n) (xs.take n)
 | _,_,0,_=>C2.mpr rfl
 | [],_,n+1,h=>by rw[C2.mp h];exact C2.mpr rfl
 | d::a,_,n+1,h=>by obtain⟨v,vs,e,c,b⟩:=v6.mp h;subst e;exact v6.mpr ⟨v,_,rfl,c,RepL.take n b⟩
theorem RepL.drop:∀{a:ge DV} {xs:ge V} (n:Nat),RepL D H a xs->RepL D H (a.drop n) (xs.drop n)
 | _,_,0,h=>h
 | [],_,n+1,h=>by rw[C2.mp h];exact C2.mpr rfl
 | d::a,_,n+1,h=>by obtain⟨v,vs,c,e2,b⟩:=v6.mp h;subst c;exact RepL.drop n b
theorem RepL.set(q:Rep D H d v):∀{a:ge DV} {xs:ge V} (n:Nat),RepL D H a xs->RepL D H (a.set n d) (xs.set n v)
 | [],_,n,h=>by rw[C2.mp h];exact C2.mpr rfl
 | _::a,_,0,h=>by obtain⟨v,f,c,e,b⟩:=v6.mp h;subst c;exact v6.mpr ⟨_,_,rfl,q,b⟩
 | _::a,_,n+1,h=>by obtain⟨v,f,c,e,b⟩:=v6.mp h;subst c;exact v6.mpr ⟨_,_,rfl,e,RepL.set q n b⟩
theorem RepL.rep{D:Dm}{H:Hp}{ds:ge DV}{xs:ge V}(h:RepL D H ds xs):∀k:Nat,RepL D H (List.replicate k ds).flatten (List.replicate k xs).flatten
 | 0=>C2.mpr rfl
 | k+1=>by rw[V6,V6,Z9,Z9];exact h.append (RepL.rep h k)
theorem gF:∀(a:ge Int),RepL D H (a.map DV.int) (a.map V.int)
 | []=>C2.mpr rfl
 | n::a=>v6.mpr ⟨_,_,rfl,A2.mpr rfl,gF a⟩
noncomputable def wo(O:ge Jl)(H:Hp):Hp:=λ b=>if b∈O then none else H b
theorem X8(h:b∈O):wo O H b=none:=f8 h
theorem i6(h:b∉O):wo O H b=H b:=g7 h
theorem A6(h:wo O H b=some o):b∉O/\H b=some o:=by
 by_cases a:b∈O
 ·rw[X8 a]at h;cases h
 ·rw[i6 a]at h;exact⟨a,h⟩
theorem Same.wo{O:ge Jl}{H H':Hp}(e:Same H H'):Same (wo O H) (wo O H'):=λ b o h=>by
 obtain⟨hb,h⟩:=A6 h;rw[i6 hb];exact e b o h
theorem x8:Same (JZ O) H:=λ b o h=>(A6 h).2
theorem M5(h:∀b∈a,b∈O):Same (JZ O) (L2.wo a H):=λ b o e=>by
 obtain⟨c,e⟩:=A6 e
 rwa [i6 λ z=>c (h b z)]
theorem t6(h:H p=none):Same H (upd H p o):=λ b u q=>by rwa [i9 (y9 q h)]
structure Hid(O W:List Addr)(H0 H:Hp):Prop where
 ot:∀a∈O++W,H0 a≠none
 same:Same H0 H
 wl:∀a∈W,∃o,H0 a=some o/\mutO o=true
 dj:∀a∈W,a∉O
 om:∀a∈O,∃o,H0 a=some o/\mutO o=true
def Hdn(O:ge Jl)(H:Hp):Prop:=∀a∈O,∃o,H a=some o/\mutO o=true
theorem Hdn.ne(h:Hdn O H):∀a∈O,H a≠none:=λ a b q=>by obtain⟨o,e,_⟩:=h a b;rw[q]at e;cases e
theorem Hid.omS(h:KM b)(e:Same b c):Hdn O c:=λ a d=>by obtain⟨o,q,m⟩:=h.om a d;exact⟨o,e _ _ q,m⟩
theorem Hid.omW(h:KM b)(c:p∈W):Hdn O (upd b p x):=λ a d=>by
 obtain⟨o,q,m⟩:=h.om a d;exact⟨o,by rw[i9 λ z=>h.dj p c Kz];exact q,m⟩
theorem Hid.hdO(h:KM a):Hdn O H:=h.omS h.same
theorem Hid.hdA(h:KM c):Hdn (O++W) H:=λ a b=>by
 rcases D7.mp b with z | z
 ·exact h.hdO a z
 ·obtain⟨o,q,m⟩:=h.wl a z;exact⟨o,h.same _ _ q,m⟩
theorem Hid.mono(h:KM a)(e:Same H b):Hid O W a b:=⟨h.ot,h.same.trans e,h.wl,h.dj,h.om⟩
theorem Hid.newOut(h:KM b)(a:H p=none):p∉O++W:=λ z=>h.ot p z (h.same.free a)
mutual
theorem Rep.immut{D:Dm}{O W:ge Jl}{H:Hp}(hw:∀a∈W,∃o,H a=some o/\mutO o=true):∀{d:DV} {v:V},d.immut=true->Rep D (JZ O) d v->Rep D (JZ (O++W)) d v
 | .non,_,_,h=>by unfold Rep at h ⊢;exact h
 | .bl _,_,_,h=>by unfold Rep at h ⊢;exact h
 | .int _,_,_,h=>by unfold Rep at h ⊢;exact h
 | .str _,_,_,h=>by unfold Rep at h ⊢;exact h
 | .tup ds,_,m,h=>by
  unfold Rep at h ⊢;obtain⟨a,xs,e1,e2,e3⟩:=h;have m':DV.immuts ds=true:=by unfold DV.immut at m;exact m
  refine⟨a,xs,e1,?_,RepL.immut hw m' e3⟩;rcases e2 with(h | ⟨o,h⟩) | h
  ·obtain⟨ha,h⟩:=A6 h;refine .inl (.inl ?_);rw[i6 λ z=>?_]
   ·exact h
   ·rcases D7.mp z with z | z
    ·exact ha z
    ·obtain⟨ys,q,m⟩:=hw a z;rw[h]at q;cases q;cases m
  ·obtain⟨ha,h⟩:=A6 h;refine .inl (.inr ⟨o,?_⟩);rw[i6 λ z=>?_]
   ·exact h
   ·rcases D7.mp z with z | z
    ·exact ha z
    ·obtain⟨ys,q,m⟩:=hw a z;rw[h]at q;cases q;cases m
  ·exact .inr h
 | .lst ds,_,m,_=>by unfold DV.immut at m;cases m
 | .dct ks vs,_,m,h=>by
  have m':DV.immuts vs=true:=by unfold DV.immut at m;exact m
  have ou:∀{a:Jl} {o:Obj} {u:HO},L2.wo O H a=some (.frz o u)->L2.wo (O++W) H a=some (.frz o u):=λ {a o u} e=>by
   obtain⟨ha,h⟩:=A6 e;rw[i6 λ z=>?_]
   ·exact h
   ·rcases D7.mp z with z | z
    ·exact ha z
    ·obtain⟨ys,q,m⟩:=hw a z;rw[h]at q;cases q;cases m
  rcases P8.mp h with⟨a,o,kvs,e1,e2,e3,e4⟩ | ⟨a,o,kvs,e1,e2,e3,e4⟩
  ·exact P8.mpr (.inl ⟨a,o,kvs,e1,ou e2,e3,RepL.immut hw m' e4⟩)
  ·exact P8.mpr (.inr ⟨a,o,kvs,e1,ou e2,e3,RepL.immut hw m' e4⟩)
 | .exc C,_,_,h=>by
  unfold Rep at h ⊢;obtain⟨a,C,e1,e2,e3⟩:=h;obtain⟨ha,h⟩:=A6 e3;refine⟨a,C,e1,e2,?_⟩;rw[i6 λ z=>?_]
  ·exact h
  ·rcases D7.mp z with z | z
   ·exact ha z
   ·obtain⟨ys,q,m⟩:=hw a z;rw[h]at q;cases q;cases m
 | .fn _,_,_,h=>by unfold Rep at h ⊢;exact h
 | .lam _ _,_,m,_=>by unfold DV.immut at m;cases m
 | .scr ns,_,_,h=>by
  unfold Rep at h ⊢;obtain⟨a,e1,e2⟩:=h;refine⟨a,e1,?_⟩;rcases e2 with⟨o,h⟩ | h
  ·obtain⟨ha,h⟩:=A6 h;refine .inl ⟨o,?_⟩;rw[i6 λ z=>?_]
   ·exact h
   ·rcases D7.mp z with z | z
    ·exact ha z
    ·obtain⟨ys,q,m⟩:=hw a z;rw[h]at q;cases q;cases m
  ·exact .inr h
theorem RepL.immut{D:Dm}{O W:ge Jl}{H:Hp}(hw:∀a∈W,∃o,H a=some o/\mutO o=true):∀{ds:ge DV} {xs:ge V},DV.immuts ds=true->RepL D (JZ O) ds xs->RepL D (JZ (O++W)) ds xs
 | [],_,_,h=>by unfold RepL at h ⊢;exact h
 | d::ds,_,m,h=>by unfold RepL at h ⊢;obtain⟨v,vs,e1,e2,e3⟩:=h;unfold DV.immuts at m;rw[f7]at m;exact⟨v,vs,e1,Rep.immut hw m.1 e2,RepL.immut hw m.2 e3⟩
end
def RepT(D:Dm)(W:ge Jl)(Ht H:Hp)(d:DV)(v:V):Prop:=match d with
 | .lst ds=>∃a xs,v=.ref a/\a∈W/\Ht a=some (Kx xs)/\RepL D H ds xs
 | d=>Rep D H d v
theorem RepT.mono(k:Same g f)(e:Same H i)(h:RepT D W g H d v):RepT D W f i d v:=by
 cases d with
 | lst ds=>obtain⟨a,j,n,o,m,l⟩:=h;exact⟨a,j,n,o,k _ _ m,l.mono e⟩
 | non=>exact Rep.mono e h
 | bl b=>exact Rep.mono e h
 | int b=>exact Rep.mono e h
 | str b=>exact Rep.mono e h
 | tup b=>exact Rep.mono e h
 | dct b c=>exact Rep.mono e h
 | exc b=>exact Rep.mono e h
 | fn b=>exact Rep.mono e h
 | lam b c=>exact Rep.mono e h
 | scr b=>exact Rep.mono e h
theorem RepT.rep(e:Same H f)(h:RepT D W f H d v):Rep D f d v:=by
 cases d with
 | lst ds=>obtain⟨a,g,k,e0,j,i⟩:=h;exact J3.mpr ⟨a,g,k,j,i.mono e⟩
 | non=>exact Rep.mono e h
 | bl b=>exact Rep.mono e h
 | int b=>exact Rep.mono e h
 | str b=>exact Rep.mono e h
 | tup b=>exact Rep.mono e h
 | dct b c=>exact Rep.mono e h
 | exc b=>exact Rep.mono e h
 | fn b=>exact Rep.mono e h
 | lam b c=>exact Rep.mono e h
 | scr b=>exact Rep.mono e h
def Got(D:Dm)(O W:ge Jl)(H0 H:Hp)(d:DV)(c:Cl)(v:V):Prop:=match c with
 | .weak=>Rep D (JZ O) d v
 | .top=>RepT D W (JZ O) (JZ (O++W)) d v
 | .strong=>Rep D (JZ (O++W)) d v
 | .fresh=>∃p xs ds,v=.ref p/\d=.lst ds/\H0 p=none/\H p=some (Kx xs)/\RepL D (JZ (p::(O++W))) ds xs
section
variable {D:Dm} {O W:ge Jl} {H0 H H':Hp} {d:DV} {ds:ge DV} {c:Cl} {v:V}
theorem bz:∀b∈O,b∈O++W:=λ _ h=>D6 _ h
theorem Got.mono(h:Got D O W H0 H d c v)(e:Same H H'):Got D O W H0 H' d c v:=by
 cases c with
 | weak=>exact Rep.mono e.wo h
 | top=>exact RepT.mono e.wo e.wo h
 | strong=>exact Rep.mono e.wo h
 | fresh=>
  obtain⟨p,a,k,j,i,g,f,b⟩:=h;exact⟨p,a,k,j,i,g,e _ _ f,b.mono e.wo⟩
theorem Got.since(h:Got D O W a H d c v)(e:Same H0 a):Got D O W H0 H d c v:=by
 cases c with
 | weak=>exact h
 | top=>exact h
 | strong=>exact h
 | fresh=>
  obtain⟨p,b,l,k,j,i,g,f⟩:=h;exact⟨p,b,l,k,j,e.free i,g,f⟩
theorem Got.strong(h:Got D O W H0 H d .fresh v)(c:KM H0):Rep D (JZ (O++W)) d v:=by
 obtain⟨p,a,ds,j,i,g,e4,f⟩:=h;rw[i];exact J3.mpr ⟨p,a,j,by rwa [i6 (λ z=>c.ot p z g)],f.mono (M5 λ b e=>n6 _ e)⟩
theorem Got.weak(h:Got D O W H0 H d c v)(hd:KM H0):Rep D (JZ O) d v:=by
 cases c with
 | weak=>exact h
 | top=>exact RepT.rep (M5 bz) h
 | strong=>exact Rep.mono (M5 bz) h
 | fresh=>exact Rep.mono (M5 bz) (h.strong hd)
theorem Got.all(h:Got D O W H0 H d c v)(a:KM H0):Rep D H d v:=Rep.mono x8 (h.weak a)
theorem Got.stro(h:Got D O W H0 H d c v)(hd:KM H0)(g:L2.stro d c=true):Rep D (JZ (O++W)) d v:=by
 cases c with
 | strong=>exact h
 | fresh=>exact h.strong hd
 | weak=>exact Rep.immut (λ a f=>by obtain⟨b,e,m⟩:=hd.wl a f;exact⟨b,hd.same _ _ e,m⟩) g (h.weak hd)
 | top=>exact Rep.immut (λ a f=>by obtain⟨b,e,m⟩:=hd.wl a f;exact⟨b,hd.same _ _ e,m⟩) g (h.weak hd)
theorem Got.items(h:Got D O W H0 H (Kx ds) c v)(hd:KM H0)(f:c ≠ .weak):∃a xs,v=.ref a/\H a=some (Kx xs)/\RepL D (JZ (O++W)) ds xs:=by
 cases c with
 | weak=>exact absurd rfl f
 | top=>
  obtain⟨a,xs,e,e0,d,b⟩:=h;exact⟨a,xs,e,x8 _ _ d,b⟩
 | strong=>
  obtain⟨a,xs,e,d,b⟩:=J3.mp h;exact⟨a,xs,e,x8 _ _ d,b⟩
 | fresh=>
  obtain⟨a,xs,e,d,b⟩:=J3.mp (h.strong hd);exact⟨a,xs,e,x8 _ _ d,b⟩
theorem Got.itemsT(h:Got D O W H0 H (.tup f) c v)(hd:KM H0)(g:c ≠ .weak):∃a xs,v=.ref a/\SqT D.K H a xs/\RepL D (JZ (O++W)) f xs:=by
 cases c with
 | weak=>exact absurd rfl g
 | top=>
  obtain⟨a,xs,e,b,d⟩:=F4.mp (h);exact⟨a,xs,e,x8.tseq b,d⟩
 | strong=>
  obtain⟨a,xs,e,b,d⟩:=F4.mp h;exact⟨a,xs,e,x8.tseq b,d⟩
 | fresh=>
  obtain⟨p,xs,f,e,b,d,e4,e5⟩:=h;cases b
theorem Got.lst(h:Got D O W H0 H (Kx ds) c v)(d:KM H0):∃a b,v=.ref a/\H a=some (.lst b)/\RepL D (JZ O) ds b:=by
 obtain⟨a,b,g,f,e⟩:=J3.mp (h.weak d);exact⟨a,b,g,x8 _ _ f,e⟩
theorem Got.tup(h:Got D O W H0 H (.tup ds) c v)(d:KM H0):∃a b,v=.ref a/\SqT D.K H a b/\RepL D (JZ O) ds b:=by
 obtain⟨a,b,g,f,e⟩:=F4.mp (h.weak d);exact⟨a,b,g,x8.tseq f,e⟩
noncomputable def K7(O W:ge Jl):Cl->ge Jl
 | .weak=>O
 | _=>O++W
theorem Got.lstC(h:Got D O W H0 H (Kx ds) c v)(hd:KM H0):∃a xs,v=.ref a/\H a=some (Kx xs)/\RepL D (JZ (K7 O W c)) ds xs:=by
 cases c with
 | weak=>exact h.lst hd
 | top=>exact h.items hd JH
 | strong=>exact h.items hd JH
 | fresh=>exact h.items hd JH
theorem Got.tupC(h:Got D O W H0 H (.tup ds) c v)(hd:KM H0):∃a xs,v=.ref a/\SqT D.K H a xs/\RepL D (JZ (K7 O W c)) ds xs:=by
 cases c with
 | weak=>exact h.tup hd
 | top=>exact h.itemsT hd JH
 | strong=>exact h.itemsT hd JH
 | fresh=>exact h.itemsT hd JH
theorem Got.item(h:Rep D (JZ (K7 O W c)) d v):Got D O W H0 H d c.item v:=by
 cases c<;>exact h
theorem w5(a:c ≠ .fresh:=by intro z;cases z):Got D O W H0 H (.int i) c (.int i):=by
 have q:∀H,Rep D H _ (.int i):=λ H=>A2.mpr rfl;cases c with
 | fresh=>exact absurd rfl a
 | weak=>exact q (JZ O)
 | strong=>exact q (JZ (O++W))
 | top=>exact q (JZ (O++W))
theorem X9:Got D O W H0 H (.bl i) .strong (.bl i):=(au.mpr rfl:Rep D (JZ (O++W)) _ _)
theorem BF:Got D O W H0 H .non .strong .non:=(X6.mpr rfl:Rep D (JZ (O++W)) .non .non)
theorem Got.int(h:Got D O W H0 H (.int i) c v)(a:KM H0):v=.int i:=A2.mp (h.weak a)
theorem Got.bl(h:Got D O W H0 H (.bl i) c v)(a:KM H0):v=.bl i:=au.mp (h.weak a)
theorem Y0(c:KM H0)(a:H p=none)(r:RepL D (JZ (O++W)) ds xs):Got D O W H0 (upd H p (Kx xs)) (Kx ds) .fresh (.ref p):=by
 refine⟨p,xs,ds,rfl,rfl,c.same.free a,u9,r.mono λ b o e=>?_⟩;obtain⟨hb,e⟩:=A6 e
 rwa [i6 Kz,i9 (y9 e a)]
theorem lr(b:KM H0)(a:H p=none)(r:RepL D (JZ O) ds xs):Got D O W H0 (upd H p (Kx xs)) (Kx ds) .weak (.ref p):=by
 exact J3.mpr ⟨p,xs,rfl,by rw[i6 (λ z=>b.newOut a (D6 _ z))];exact u9,r.mono (t6 a).wo⟩
theorem rx(hd:KM H0)(a:H p=none)(r:RepL D (JZ (K7 O W c)) ds xs):Got D O W H0 (upd H p (Kx xs)) (Kx ds) (Cl.anew c c) (.ref p):=by
 cases c with
 | weak=>exact lr hd a r
 | top=>exact Y0 hd a r
 | strong=>exact Y0 hd a r
 | fresh=>exact Y0 hd a r
theorem di(b:KM H0)(a:H p=none)(r:RepL D (JZ (O++W)) ds xs):Got D O W H0 (upd H p (.tup xs)) (.tup ds) .strong (.ref p):=
 F4.mpr ⟨p,xs,rfl,SqT.of (by rw[i6 (b.newOut a)];exact u9),r.mono (t6 a).wo⟩
theorem ls(b:KM H0)(a:H p=none)(r:RepL D (JZ O) ds xs):Got D O W H0 (upd H p (.tup xs)) (.tup ds) .weak (.ref p):=
 F4.mpr ⟨p,xs,rfl,SqT.of (by rw[i6 λ z=>b.newOut a (D6 _ z)];exact u9),r.mono (t6 a).wo⟩
theorem lu(hd:KM H0)(a:H p=none)(r:RepL D (JZ (K7 O W c)) ds xs):Got D O W H0 (upd H p (.tup xs)) (.tup ds) c.item (.ref p):=by
 cases c with
 | weak=>exact ls hd a r
 | top=>exact di hd a r
 | strong=>exact di hd a r
 | fresh=>exact di hd a r
end
inductive GotL (D:Dm) (O W:List Addr) (H0 H:Hp):List (DV×Cl)->List V->Prop where
 | nil:GotL D O W H0 H [] []
 | cons {d:DV} {c:Cl} {v:V} {l:List (DV×Cl)} {vs:List V}:Got D O W H0 H d c v->GotL D O W H0 H l vs->GotL D O W H0 H ((d,c)::l) (v::vs)
theorem GotL.repL(h:GotL D O W H0 H l vs)(b:KM H0):RepL D (JZ O) (l.map (·.1)) vs:=by
 induction h with
 | nil=>exact C2.mpr rfl
 | cons h _ a=>exact v6.mpr ⟨_,_,rfl,h.weak b,a⟩
theorem GotL.stros(h:GotL D O W H0 H l vs)(b:KM H0)(hs:L2.stros l=true):RepL D (JZ (O++W)) (l.map (·.1)) vs:=by
 induction h with
 | nil=>exact C2.mpr rfl
 | cons h _ a=>
  unfold L2.stros at hs;rw[List.all_cons,f7]at hs;exact v6.mpr ⟨_,_,rfl,h.stro b hs.1,a hs.2⟩
theorem GotL.length(h:GotL D O W H0 H l vs):vs.length=l.length:=by
 induction h with
 | nil=>rfl
 | cons _ _ a=>rw[x9,x9,a]
theorem GotL.strong(h:GotL D O W H0 H l vs)(b:KM H0)(hs:Ko=true):RepL D (JZ (O++W)) (l.map (·.1)) vs:=by
 refine h.stros b ?_;unfold L2.stros;rw[F6]at hs ⊢;intro p a;have:=hs p a;unfold L2.stro;cases e:p.2<;>rw[e]at this<;>first | rfl | cases this
theorem GotL.one(h:GotL D O W H0 H [(d,c)] vs):∃v,vs=[v]/\Got D O W H0 H d c v:=by
 cases h with
 | cons h t=>cases t;exact⟨_,rfl,h⟩
theorem GotL.two(h:GotL D O W H0 H [(d,c),(b,f)] vs):∃v a,vs=[v,a]/\Got D O W H0 H d c v/\Got D O W H0 H b f a:=by
 cases h with
 | cons h t=>obtain⟨a,e,g⟩:=t.one;subst e;exact⟨_,_,rfl,h,g⟩
noncomputable def oeD(L:ge ((Int×Int)×Int)):DV:=.dct (L.map λ p=>.t [.inl p.1.1,.inl p.1.2]) (LM p.2)
noncomputable def oeK(L:ge ((Int×Int)×Int)):ge (ge Key×V):=L.map λ p=>([.inl p.1.1,.inl p.1.2],.int p.2)
noncomputable def dicO:HO->Bool
 | .dK _=>true
 | .dT _=>true
 | _=>false
def OdOk(d:DV)(_:Jl)(o:HO):Prop:=∃L,d=.tup [oeD L]/\o=.dT (oeK L)
theorem OdOk.dic(h:OdOk d a o):dicO o=true:=by obtain⟨L,_,e⟩:=h;rw[e];rfl
theorem OdOk.mut(h:OdOk d a o):mutO o=true:=by obtain⟨L,_,e⟩:=h;rw[e];rfl
def OdAt(H:Hp)(σ:St)(δ:ge Sv)(W:ge Jl):Prop:=∀(i:Nat) d,δ[i]? = some (.od d)->(∃a o,OdOk d a o/\σ[i]? = some (KP a)/\a∈W/\H a=some o)/\∀(j:Nat) d',δ[j]? = some (.od d')->j=i
theorem OdAt.step(h:OdAt H σ δ W)(hδ:∀(j:Nat) d,c[j]? = some (.od d)->δ[j]? = some (.od d)/\b[j]? = σ[j]?)(r:∀a∈W,(∃o,H a=some o/\dicO o=true)->a∈l)(v:∀a o,a∈W->H a=some o->dicO o=true->m a=some o):OdAt m b c l:=λ i d q=>by
 obtain⟨p,n⟩:=hδ i d q;obtain⟨⟨a,L,e,e1,g,f⟩,u⟩:=h i d p;exact⟨⟨a,L,e,by rwa [n],r a g ⟨_,f,e.dic⟩,v a _ g f e.dic⟩,λ j k z=>u j k (hδ j k z).1⟩
theorem gG{σ:St}{δ:ge Sv}(x:Ji V)(c:∀d,X ≠ .od d):∀(j:Nat) d,(δ.set i X)[j]? = some (.od d)->δ[j]? = some (.od d)/\(σ.set i x)[j]? = σ[j]?:=λ j d h=>by
 have b:j≠i:=λ z=>by
  subst z;have a:j<δ.length:=by have:=(v4.mp h).1;rw[B1]at this;exact this
  rw[F5 a]at h;exact c d (B0 h)
 rw[u5 b.symm]at h ⊢;exact⟨h,rfl⟩
theorem BG{σ:St}{δ:ge Sv}(a:∀d,X ≠ .od d):∀(j:Nat) d,(δ.set i X)[j]? = some (.od d)->δ[j]? = some (.od d)/\σ[j]? = σ[j]?:=λ j d h=>⟨(gG (σ:=σ) none a j d h).1,rfl⟩
structure RSt(D:Dm)(H:Hp)(σ:St)(δ:List Sv)(O W:List Addr):Prop where
 val:∀(i:Nat) d,δ[i]? = some (.val d)->∃v,σ[i]? = some (some v)/\Rep D (JZ (O++W)) d v
 own:∀(i:Nat) d,δ[i]? = some (.own d)->∃a xs ds,d=.lst ds/\σ[i]? = some (KP a)/\a∈W/\H a=some (Kx xs)/\RepL D (JZ (O++W)) ds xs
 inj:∀(i j:Nat) a d d',δ[i]? = some (.own d)->δ[j]? = some (.own d')->σ[i]? = some (KP a)->σ[j]? = some (KP a)->i=j
 od:OdAt H σ δ W
 len:σ.length=δ.length
 hid:Hid O W H H
theorem Hid.later(h:Hid O W H H)(e:Same H c):Hid O W c c:=⟨λ a b q=>h.ot a b (e.free q),Same.refl _,λ a b=>by obtain⟨d,q,m⟩:=h.wl a b;exact⟨d,e _ _ q,m⟩,h.dj,h.omS e⟩
theorem RSt.mono(R:La D)(e:Same H g):RSt D g σ δ O W where
 val:=λ i d h=>by obtain⟨v,c,b⟩:=R.val i d h;exact⟨v,c,b.mono e.wo⟩
 own:=λ i f h=>by obtain⟨a,k,f,o,c,b,n,m⟩:=R.own i f h;exact⟨a,k,f,o,c,b,e _ _ n,m.mono e.wo⟩
 inj:=R.inj
 od:=R.od.step (λ j d h=>⟨h,rfl⟩) (λ _ h _=>h) (λ a l _ h _=>e _ _ h)
 len:=R.len
 hid:=R.hid.later e
noncomputable def Post(D:Dm)(E:St->XK)(σ:St)(O W:ge Jl)(H0 H:Hp)(Q:VK):Re->Prop
 | .ok d c=>∀v H',Same H H'->Got D O W H0 H' d c v->Q v H'
 | .ex c=>∀H' C,D.mg c=some C->Same H H'->E σ C none H'
def dE(D:Dm)(E:St->XK)(δ:ge Sv)(r:Re):TE:=λ σ H Q=>∃O W,RSt D H σ δ O W/\Post D E σ O W H H Q r
noncomputable def BH(D:Dm)(E:St->XK)(σ:St)(O W:ge Jl)(H0 H:Hp)(Q:ge V->Hp->Prop):Rs->Prop
 | .ok l=>∀vs H',Same H H'->GotL D O W H0 H' l vs->Q vs H'
 | .ex c=>∀H' C,D.mg c=some C->Same H H'->E σ C none H'
def dA(D:Dm)(E:St->XK)(δ:ge Sv)(r:Rs):TA:=λ σ H Q=>∃O W,RSt D H σ δ O W/\BH D E σ O W H H Q r
noncomputable def gH(D:Dm)(E:St->XK)(σ:St)(H:Hp)(Q:Bool->Hp->Prop):Rt->Prop
 | .ok b=>∀H',Same H H'->Q b H'
 | .ex c=>∀H' C,D.mg c=some C->Same H H'->E σ C none H'
def dT(D:Dm)(E:St->XK)(δ:ge Sv)(r:Rt):TT:=λ σ H Q=>∃O W,RSt D H σ δ O W/\gH D E σ H Q r
theorem Post.step(h:Post D E σ O W f H Q r)(e:Same H b):Post D E σ O W f b Q r:=by
 cases r with
 | ok d c=>exact λ v a s g=>h v a (e.trans s) g
 | ex c=>exact λ a C m s=>h a C m (e.trans s)
theorem Post.later(h:Post D E σ O W f H Q r)(e:Same H a)(i:Same f a):Post D E σ O W a a Q r:=by
 cases r with
 | ok d c=>exact λ v b s g=>h v b (e.trans s) (g.since i)
 | ex c=>exact λ b C m s=>h b C m (e.trans s)
theorem GotL.since(h:GotL D O W a H l vs)(e:Same b a):GotL D O W b H l vs:=by
 induction h with
 | nil=>exact .nil
 | cons g _ c=>exact .cons (g.since e) c
theorem gH.later(h:gH D E σ H Q r)(e:Same H d):gH D E σ d Q r:=by
 cases r with
 | ok b=>exact λ a s=>h a (e.trans s)
 | ex c=>exact λ a C m s=>h a C m (e.trans s)
theorem PE.weak(h:PE X e t)(k:∀a H Q,t' a H Q->t a H Q):PE X e t':=λ b s a H Q I q=>h b s a H Q I (k a H Q q)
theorem PT.weak(h:PT X e t)(k:∀a H Q,t' a H Q->t a H Q):PT X e t':=λ b s a H Q I q=>h b s a H Q I (k a H Q q)
theorem PW.weak(h:PW X e t)(k:∀b H Q,t' b H Q->t b H Q):PW X e t':=λ a c s b H Q I q=>h a c s b H Q I (k b H Q q)
theorem PA.weak(h:PA X e t)(k:∀a H Q,t' a H Q->t a H Q):PA X e t':=λ c b s a H Q I q=>h c b s a H Q I (k a H Q q)
theorem PS.weak(h:PS X e t)(k:∀D a H,t' D a H->t D a H):PS X e t':=λ b s a H D I q=>h b s a H D I (k D a H q)
theorem PSs.weak(h:PSs X e t)(k:∀D a H,t' D a H->t D a H):PSs X e t':=λ b s a H D I q=>h b s a H D I (k D a H q)
theorem gI:PW X e (λ _ _ _=>False):=λ _ _ _ _ _ _ _ h=>h.elim
theorem M6:PE X e (λ _ _ _=>False):=λ _ _ _ _ _ _ h=>h.elim
theorem ry:PA X e (λ _ _ _=>False):=λ _ _ _ _ _ _ _ h=>h.elim
theorem S2(h:n<=o4):n<=sizeLine:=i7 h JB
theorem rA(d:∀n,PE X a n->PE X e (tUn r n))(u:∀q,l=some q->PE X a JK)(h:Re.thn l k=some g)
  (o:∀O W m H x Q i j f,k i j=some g->Hid O W m H->Got X.D O W m H i j x->Post X.D E f O W m H Q g->r x H Q):PE X e (dE X.D E δ g):=by
 cases b:l with
 | none=>rw[b]at h;cases h
 | some q=>
  rw[b]at h;have A:=u q b;cases q with
  | ex c=>
   cases h;exact(d _ A).weak λ f H Q ⟨O,W,R,p⟩=>Kr
  | ok i j=>
   exact(d _ A).weak λ f H Q ⟨O,W,R,p⟩=>⟨O,W,R,λ x w s1 v=>o O W H w x Q i j f h JS v (p.step s1)⟩
theorem rC{X:Cx}{a b:Jn}{r:R2}{k:DV->Cl->DV->Cl->Ji Re}{g:Re}(I:∀q,o=some q->PE X a JK)(F:∀q,rb=some q->PE X b JK)
  (h:(Re.thn o λ x cx=>Re.thn rb λ y cy=>k x cx y cy)=some g)
  (z:∀O W l H x y Q j cx i cy σ,k j cx i cy=some g->Hid O W l H->Got X.D O W l H j cx x->Got X.D O W l H i cy y->Post X.D E σ O W l H Q g->r x y H Q) :
  ∃v u,PE X a v/\PE X b u/\∀σ H Q,dE X.D E δ g σ H Q->tOp r v u σ H Q:=by
 cases e:o with
 | none=>rw[e]at h;cases h
 | some q=>
  rw[e]at h;have A:=I q e;cases q with
  | ex c=>
   cases h;exact⟨_,_,A,M6,λ σ H Q ⟨O,W,R,p⟩=>Kr⟩
  | ok j cx=>
   have f:=h;cases d:rb with
   | none=>rw[d]at f;cases f
   | some q=>
    rw[d]at f;have B:=F q d;cases q with
    | ex c=>
     cases f;exact⟨_,_,A,B,λ σ H Q ⟨O,W,R,p⟩=>⟨O,W,R,λ x L s1 w=>⟨O,W,R.mono s1,λ M C m s=>p M C m (Lu s)⟩⟩⟩
    | ok i cy=>
     exact⟨_,_,A,B,λ σ H Q ⟨O,W,R,p⟩=>⟨O,W,R,λ x L s1 w=>⟨O,W,R.mono s1,λ y K n J=>
      z O W H K x y Q j cx i cy σ f ((JS).mono n) (w.mono n) (J.since s1) (p.step (Lu n))⟩⟩⟩
theorem lv{k:DV->Cl->DV->Cl->Ji Re}(l:∀j i,PE X a j->PE X b i->PE X e (tOp r j i))(w:∀q,m=some q->PE X a JK)(v:∀q,rb=some q->PE X b JK)
  (h:(Re.thn m λ x f=>Re.thn rb λ y d=>k x f y d)=some c)
  (u:∀O W g H x y Q o f n d p,k o f n d=some c->Hid O W g H->Got X.D O W g H o f x->Got X.D O W g H n d y->Post X.D E p O W g H Q c->r x y H Q):PE X e (dE X.D E δ c):=by
 obtain⟨j,i,A,B,q⟩:=rC w v h u;exact(l _ _ A B).weak q
theorem dm(b:∀t,PA X es t->PE X e (tCB r t))(n:∀q,i=some q->PA X es Ll)(h:Rs.thn i k=some g)
  (m:∀O W j H f Q l d,k l=some g->Hid O W j H->GotL X.D O W j H l f->Post X.D E d O W j H Q g->r f H Q):PE X e (dE X.D E δ g):=by
 cases a:i with
 | none=>rw[a]at h;cases h
 | some q=>
  rw[a]at h;have A:=n q a;cases q with
  | ex c=>
   cases h;exact(b _ A).weak λ d H Q ⟨O,W,R,p⟩=>Kr
  | ok l=>
   exact(b _ A).weak λ d H Q ⟨O,W,R,p⟩=>⟨O,W,R,λ f u s1 o=>m O W H u f Q l d h JS o (p.step s1)⟩
theorem BI{i:Nat}(g:X.N[i]? = some x)(hv:Vis X.env.scope x)(hd:Kn=false)(c:(x==("__classdict__" : Str))=false)
  (h:varE δ[i]? = some r):PE X (.Name x pos) (dE X.D E δ r):=
 (Q9 g hv hd c).weak λ σ H Q ⟨O,W,R,p⟩=>by
  unfold varE at h;split at h
  ·rename_i d q;cases h;obtain⟨v,e,b⟩:=R.val i d q;exact⟨v,e,p v H Kc b⟩
  ·rename_i d q;cases h;obtain⟨a,f,ds,l,e,b,k,j⟩:=R.own i d q;subst l;refine⟨.ref a,e,p _ H Kc ⟨a,f,rfl,b,?_,j⟩⟩;rw[i6 (R.hid.dj a b)];exact k
  ·cases h
theorem BJ:PE X (.Constant (.int i) j pos) (dE X.D E δ (JT (.int i))):=oF.weak λ σ H Q ⟨O,W,R,p⟩=>p _ H Kc w5
theorem BK:PE X (.Constant (.bool i) j pos) (dE X.D E δ (JT (.bl i))):=wY.weak λ σ H Q ⟨O,W,R,p⟩=>p _ H Kc X9
theorem BL(h:i.length<=sizeLine):PE X (.Constant (.str i) j pos) (dE X.D E δ (JT (.str i))):=jB.weak λ σ H Q ⟨O,W,R,p⟩=>p _ H Kc (bx.mpr ⟨rfl,h⟩:Rep X.D (JZ (O++W)) _ _)
theorem BM:PE X (.Constant .none j pos) (dE X.D E δ (.ok .non .strong)):=wZ.weak λ σ H Q ⟨O,W,R,p⟩=>p _ H Kc BF
section
variable {X:Cx} {E:St->XK} {δ:ge Sv} {a b c e:Jn} {pos:Pos} {ra rb:Ji Re} {re:Re}
theorem bA{a:Hp}(b:KM a)(e:Got D O W a H (.int i) h x)(d:Got D O W a H (.int j) f y)(c:C i j)(q:Q (g i j) H):rI C g x y H Q:=
 ⟨i,j,e.int b,d.int b,c,q⟩
theorem lw{a:Hp}{e:Cl}(b:KM a)(d:Got D O W a H (.int i) f x)(c:Got D O W a H (.int j) e y)(q:Q (g i j) H):rI0 g x y H Q:=
 ⟨i,j,d.int b,c.int b,q⟩
theorem rD{b a:Cl}(h:b ≠ .weak)(c:a ≠ .weak):Cl.anew b a=.fresh:=by
 cases b<;>cases a<;>first | rfl | exact absurd rfl h | exact absurd rfl c
def gJ(i j:Int):Prop:=CMul i j\/(i.natAbs<2^2000/\j.natAbs<2^2000)
theorem rE(h:i.natAbs<2^n):Builtin.Int.intBits i<=n:=by
 unfold Builtin.Int.intBits;by_cases a:i=0
 ·subst a;exact E5 n
 ·rw[g7 Kz];have:=λ z=>a (Int.natAbs_eq_zero.mp z)
  exact(fz this).mpr h
theorem gJ.ok(h:gJ i j):IntMulOk i j:=by
 rcases h with h | ⟨h1,h2⟩
 ·exact h.ok
 ·unfold IntMulOk;have b1:=rE h1;have b2:=rE h2;have:Builtin.Int.intTooBig ((Builtin.Int.intBits i:Int)+(Builtin.Int.intBits j:Int))=false:=by
   unfold Builtin.Int.intTooBig;rw[E3];have:((bitsLine:Nat):Int)=134217728:=by decide
   omega
  rw[this,jq];exact B5
theorem BN:OpR X (binaryOp .Mult) (rI gJ λ i j=>.int (i*j)):=opI λ _ _ _ _ _ _ _ a q=>mul_int q a.ok
theorem BO:OpR X (binaryOp .FloorDiv) (rI (λ _ j=>0<j/\j<2^200) λ i j=>.int (i/j)):=opI λ i j _ _ _ _ _ a q=>by
 have h1:=a.1;have b:j.natAbs<2^200:=by have:=a.2;omega
 refine floordiv_int JA (by rw[nL i JA];exact q) (.inl (PyProof.noPylong_of_log2 ?_));exact r9 ((fz JA).mpr b) JB
def binR(X:Cx):Operator->R2
 | .Add=>λ x y H Q=>rI0 (λ i j=>.int (i+j)) x y H Q\/rCat x y H Q\/pv X.K x y H Q
 | .Sub=>rI0 λ i j=>.int (i - j)
 | .Mult=>λ x y H Q=>rI gJ (λ i j=>.int (i*j)) x y H Q\/rRep x y H Q
 | .Mod=>λ x y H Q=>rI (λ _ j=>0<j) (λ i j=>.int (i%j)) x y H Q\/rI (λ _ j=>j≠0) (λ i j=>.int (i.fmod j)) x y H Q
 | .FloorDiv=>rI (λ _ j=>0<j/\j<2^200) λ i j=>.int (i/j)
 | .LShift=>rI CPow λ i j=>.int (i*2^j.toNat)
 | .RShift=>rI (λ _ j=>0<=j) λ i j=>.int (i/2^j.toNat)
 | .BitAnd=>rI0 λ i j=>.int (Builtin.bitAnd i j)
 | _=>λ _ _ _ _=>False
theorem BP{a:Operator}:OpR X (binaryOp a) (binR X a):=by
 cases a with
 | Add=>exact xF.or (yE.or yl)
 | Sub=>exact xG
 | Mult=>exact BN.or yG
 | Mod=>exact xH.or xI
 | FloorDiv=>exact BO
 | LShift=>exact xJ
 | RShift=>exact xK
 | BitAnd=>exact xL
 | BitOr=>exact λ _ _ _ _ _ _ _ _ _ _ _ _ h=>h.elim
 | BitXor=>exact λ _ _ _ _ _ _ _ _ _ _ _ _ h=>h.elim
 | MatMult=>exact λ _ _ _ _ _ _ _ _ _ _ _ _ h=>h.elim
 | Div=>exact λ _ _ _ _ _ _ _ _ _ _ _ _ h=>h.elim
 | Pow=>exact λ _ _ _ _ _ _ _ _ _ _ _ _ h=>h.elim
theorem C9(h:asI d=some i):d=.int i:=by cases d<;>cases h;rfl
theorem BQ(h:asL d=some i):d=.lst i:=by cases d<;>cases h;rfl
theorem BR(h:asTp d=some i):d=.tup i:=by cases d<;>cases h;rfl
theorem BS(h:binD C J I cx cy=some re)(hd:KM w)(c:Got X.D O W w H J cx x)(e:Got X.D O W w H I cy y)
  (p:Post X.D E σ O W w H Q re):binR X C x y H Q:=by
 unfold binD at h;cases C
 case Add=>
  dsimp only at h;split at h
  ·rename_i o
   replace h:=v9.mp h
   obtain⟨n,a,h⟩:=h;have a:=C9 a;subst a;cases h;exact .inl (lw hd c e (p _ H Kc w5))
  ·rename_i F
   replace h:=v9.mp h
   obtain⟨B,a,h⟩:=h;have a:=BQ a;subst a;split at h
   ·rename_i m;cases h;by_cases g:cx ≠ .weak/\cy ≠ .weak
    ·obtain⟨j,i,b,l,r1⟩:=c.items hd g.1;obtain⟨u,r,a,v,f⟩:=e.items hd g.2;refine .inr (.inl ⟨j,u,i,r,b,a,l,v,by rw[r1.length,f.length];exact S2 m,λ q d=>p _ _ (t6 d) ?_⟩);rw[rD g.1 g.2];exact Y0 hd d (r1.append f)
    ·obtain⟨j,i,b,l,r1⟩:=c.lst hd;obtain⟨u,r,a,v,f⟩:=e.lst hd;refine .inr (.inl ⟨j,u,i,r,b,a,l,v,by rw[r1.length,f.length];exact S2 m,λ q d=>p _ _ (t6 d) ?_⟩);have:Cl.anew cx cy=.weak:=(by cases cx<;>cases cy<;>first | rfl | exact absurd ⟨(by intro z;cases z),JH⟩ g);rw[this];exact lr hd d (r1.append f)
   ·cases h
  ·rename_i F
   replace h:=v9.mp h
   obtain⟨B,a,h⟩:=h;have a:=BR a;subst a;split at h
   ·rename_i m;cases h;by_cases g:cx ≠ .weak/\cy ≠ .weak
    ·obtain⟨j,i,b,l,r1⟩:=c.itemsT hd g.1;obtain⟨u,r,a,v,f⟩:=e.itemsT hd g.2;have cl:(Cl.anew cx cy).notF=.strong:=by rw[rD g.1 g.2];rfl
     rw[cl]at p;refine .inr (.inr ⟨j,u,i,r,b,a,l,v,λ z=>m.2 (by have:=r1.length;rw[z]at this;exact Z3.mp this.symm),by rw[r1.length,f.length];exact S2 m.1,λ z=>?_,λ _ q d=>p _ _ (t6 d) (di hd d (r1.append f))⟩);refine p _ _ (Same.refl _) ?_;have A:B=[]:=by have:=f.length;rw[z]at this;exact Z3.mp this.symm
     subst A;rw[E4];cases cx with
     | weak=>exact absurd rfl g.1
     | top=>rw[←b];exact c
     | strong=>rw[←b];exact c
     | fresh=>obtain⟨_,_,_,_,q,_⟩:=c;cases q
    ·obtain⟨j,i,b,l,r1⟩:=c.tup hd;obtain⟨u,r,a,v,f⟩:=e.tup hd;have cl:(Cl.anew cx cy).notF=.weak:=(by cases cx<;>cases cy<;>first | rfl | exact absurd ⟨(by intro z;cases z),JH⟩ g);rw[cl]at p;refine .inr (.inr ⟨j,u,i,r,b,a,l,v,λ z=>m.2 (by have:=r1.length;rw[z]at this;exact Z3.mp this.symm),by rw[r1.length,f.length];exact S2 m.1,λ z=>?_,λ _ q d=>p _ _ (t6 d) (ls hd d (r1.append f))⟩);refine p _ _ (Same.refl _) ?_;have A:B=[]:=by have:=f.length;rw[z]at this;exact Z3.mp this.symm
     subst A;rw[E4,←b];exact c.weak hd
   ·cases h
  ·cases h
 case Sub=>
  dsimp only at h
  replace h:=v9.mp h
  obtain⟨o,b,h⟩:=h
  replace h:=v9.mp h
  obtain⟨n,a,h⟩:=h;have b:=C9 b;have a:=C9 a;subst b a;cases h;exact lw hd c e (p _ H Kc w5)
 case Mult=>
  dsimp only at h;split at h
  ·rename_i o
   replace h:=v9.mp h
   obtain⟨n,a,h⟩:=h;have a:=C9 a;subst a;split at h
   ·rename_i m;cases h;refine .inl (bA hd c e ?_ (p _ H Kc w5));unfold P3 at m;simp only[D8,f7,A9]at m;exact m
   ·cases h
  ·rename_i F
   replace h:=v9.mp h
   obtain⟨k,a,h⟩:=h;have a:=C9 a;subst a;split at h
   ·rename_i m;cases h;obtain⟨j,i,b,l,r1⟩:=c.lstC hd;refine .inr ⟨j,k,i,b,e.int hd,l,m.2.1,m.2.2,by rw[r1.length];exact S2 m.1,λ q d=>p _ _ (t6 d) (rx hd d (r1.rep _))⟩
   ·cases h
  ·cases h
 case Mod=>
  dsimp only at h
  replace h:=v9.mp h
  obtain⟨o,b,h⟩:=h
  replace h:=v9.mp h
  obtain⟨n,a,h⟩:=h;have b:=C9 b;have a:=C9 a;subst b a;split at h
  ·rename_i m;cases h;exact .inl (bA hd c e m (p _ H Kc w5))
  ·split at h
   ·rename_i m;cases h;exact .inr (bA hd c e m (p _ H Kc w5))
   ·cases h
 case FloorDiv=>
  dsimp only at h
  replace h:=v9.mp h
  obtain⟨o,b,h⟩:=h
  replace h:=v9.mp h
  obtain⟨n,a,h⟩:=h;have b:=C9 b;have a:=C9 a;subst b a;split at h
  ·rename_i m;cases h;exact bA hd c e m (p _ H Kc w5)
  ·cases h
 case LShift=>
  dsimp only at h
  replace h:=v9.mp h
  obtain⟨o,b,h⟩:=h
  replace h:=v9.mp h
  obtain⟨n,a,h⟩:=h;have b:=C9 b;have a:=C9 a;subst b a;split at h
  ·rename_i m;cases h;exact bA hd c e m (p _ H Kc w5)
  ·cases h
 case RShift=>
  dsimp only at h
  replace h:=v9.mp h
  obtain⟨o,b,h⟩:=h
  replace h:=v9.mp h
  obtain⟨n,a,h⟩:=h;have b:=C9 b;have a:=C9 a;subst b a;split at h
  ·rename_i m;cases h;exact bA hd c e m (p _ H Kc w5)
  ·cases h
 case BitAnd=>
  dsimp only at h
  replace h:=v9.mp h
  obtain⟨o,b,h⟩:=h
  replace h:=v9.mp h
  obtain⟨n,a,h⟩:=h;have b:=C9 b;have a:=C9 a;subst b a;cases h;exact lw hd c e (p _ H Kc w5)
 all_goals (dsimp only at h;cases h)
theorem BU(g:∀q,ra=some q->PE X a JK)(f:∀q,rb=some q->PE X b JK)(h:(Re.thn ra λ x d=>Re.thn rb λ y c=>binD op x y d c)=some re):PE X (.BinOp a op b pos) (dE X.D E δ re):=
 lv (λ _ _=>xC BP) g f h λ O W H0 H x y Q dx d dy c σ k e j i p=>BS k e j i p
theorem BV(c:∀q,ra=some q->PE X a JK)(h:(Re.thn ra λ x _=>match x with | .int i=>some (JT (.int (-i))) | _=>none)=some re):PE X (.UnaryOp .USub a pos) (dE X.D E δ re):=
 rA (λ _=>oQ oR) c h λ O W H0 H x Q dx cx σ k b d p=>by
  split at k
  ·cases k;exact⟨_,d.int b,p _ H Kc w5⟩
  ·cases k
theorem BW:atD ds i=L2.atI ds i:=rfl
theorem RepL.atI(h:RepL D H ds xs)(e:atD ds i=some d):∃v,L2.atI xs i=some v/\Rep D H d v:=by
 rw[BW]at e;unfold L2.atI at e ⊢;rw[h.length];cases q:ixN ds.length i with
 | none=>rw[q]at e;cases e
 | some j=>
  rw[q]at e;exact h.get e
theorem BX(h:((ixD C B).map λ d=>Re.ok d cx.item)=some re)(e:KM l)(w:Got X.D O W l H C cx x)(u:Got X.D O W l H B cy y)
  (p:Post X.D E σ O W l H Q re):rIx X.K x y H Q:=by
 obtain⟨d,f,K⟩:=w6.mp h;cases K;unfold ixD at f;split at f
 ·rename_i c i;obtain⟨a,k,g⟩:=X7.mp (w.all e);obtain⟨n,J,I⟩:=w6.mp f;cases I;have q:L2.atI (c.map V.int) i=some (.int n):=by
   unfold L2.atI;rw[g6];have b:((ixN c.length i).bind λ j=>c[j]?)=some n:=J;cases z:ixN c.length i with
   | none=>rw[z]at b;cases b
   | some j=>
    rw[z]at b;have F:c[j]? = some n:=b;show(c.map V.int)[j]? = _;rw[p5,F];rfl
  refine .inl ⟨a,_,i,_,k,u.int e,g.sq,q,p _ H Kc ?_⟩;cases cx<;>exact w5
 ·obtain⟨a,m,k,g,A⟩:=w.lstC e;obtain⟨v,r,o⟩:=A.atI f;exact .inl ⟨a,m,_,v,k,u.int e,SqL.of g,r,p _ H Kc (Got.item o)⟩
 ·obtain⟨a,m,k,g,A⟩:=w.tupC e;obtain⟨v,r,o⟩:=A.atI f;exact .inr (.inl ⟨a,m,_,v,k,u.int e,g,r,p _ H Kc (Got.item o)⟩)
 ·cases f
theorem BY(g:∀q,ra=some q->PE X a JK)(f:∀q,rb=some q->PE X b JK)(hs:U7 b=false)(h:(Re.thn ra λ x c=>Re.thn rb λ y _=>(ixD x y).map λ d=>.ok d c.item)=some re):PE X (.Subscript a b pos) (dE X.D E δ re):=
 lv (λ _ _ j i=>yn yu j i (by cases b<;>first | (intro _ _;rfl) | cases hs)) g f h λ O W H0 H x y Q dx c dy cy σ k e m l p=>BX k e m l p
theorem gK(n d:Nat)(o:Ji Int):slIx n d o=HT.sIx n d o:=by cases o<;>rfl
theorem RepL.cut(h:RepL D H ds xs)(a b:Ji Int):RepL D H (cutD ds a b) (cutV xs a b):=by
 unfold cutD cutV;rw[gK,gK,←h.length];exact(h.drop _).take _
theorem lx{e:Ji Int}(h:((slD o e f).map λ d=>Re.ok d (slCl o cx))=some re)(g:KM r)(n:Got X.D O W r H o cx x)
  (p:Post X.D E σ O W r H Q re):rSlL X.K x e f H Q\/rSlT X.K x e f H Q:=by
 obtain⟨d,c,v⟩:=w6.mp h;cases v;unfold slD at c;split at c
 ·rename_i u;cases c;obtain⟨a,j,i⟩:=X7.mp (n.all g);exact .inl ⟨a,_,j,i.sq,λ q b=>p _ _ (t6 b) (Y0 g b ((gF u).cut e f))⟩
 ·cases c;obtain⟨a,l,j,i,k⟩:=n.lstC g;exact .inl ⟨a,l,j,SqL.of i,λ q b=>p _ _ (t6 b) (rx g b (k.cut e f))⟩
 ·rename_i ds;split at c
  ·cases c
  ·rename_i m;cases c;obtain⟨a,l,j,i,k⟩:=n.tupC g;refine .inr ⟨a,l,j,i,?_,λ q b=>p _ _ (t6 b) (lu g b (k.cut e f))⟩;rw[gK,gK,←k.length]at m;exact m
 ·cases c
theorem S4:SlR X (λ x a b H Q=>rSlL X.K x a b H Q\/rSlT X.K x a b H Q):=yA.or yk
theorem dr(h:PE X b (dE X.D E δ (.ok (.int i) cl))):PO X (some b) (λ d H Q=>∃O W,RSt X.D H d δ O W/\∀c,Same H c->Q (some i) c):=λ a s d H Q I ⟨O,W,R,p⟩=>
 pq h a s d H Q I ⟨O,W,R,λ v c s1 g=>⟨i,g.int JS,p c s1⟩⟩
theorem gL{c:Str}(h:PE X b (dE X.D E δ (.ex c))):PO X (some b) (λ d H Q=>∃O W,RSt X.D H d δ O W/\Post X.D E d O W H H (λ _ _=>False) (.ex c)):=λ a s d H Q I ⟨O,W,R,p⟩=>
 pq h a s d H Q I Kr
theorem dt:PO X o (λ _ _ _=>False):=λ _ _ _ _ _ _ h=>h.elim
theorem BZ(u:∀q,ra=some q->PE X a JK)(r:∀q,rb=some q->PE X b JK)(h:(Re.thn ra λ x j=>Re.thn rb λ l _=>match l with
  | .int l=>(slD x (some l) none).map λ d=>.ok d (slCl x j) | _=>none)=some re):PE X (.Subscript a (.Slice (some b) none none p2) pos) (dE X.D E δ re):=by
 cases f:ra with
 | none=>rw[f]at h;cases h
 | some q=>
  rw[f]at h;have A:=u q f;cases q with
  | ex c=>cases h;exact(R4 S4 A dt bn).weak λ k H Q ⟨O,W,R,p⟩=>Kr
  | ok o j=>
   cases e:rb with
   | none=>rw[e]at h;cases h
   | some q=>
    rw[e]at h;have B:=r q e;cases q with
    | ex c=>cases h;exact(R4 S4 A (gL B) bn).weak λ k H Q ⟨O,W,R,p⟩=>⟨O,W,R,λ x w s1 n=>⟨O,W,R.mono s1,λ y C m s=>p y C m (Lu s)⟩⟩
    | ok v cy=>
     have i:(match(generalizing:=false) v with | .int l=>(slD o _ none).map λ d=>Re.ok d _ | _=>none)=some re:=h;split at i
     ·rename_i l;exact(R4 S4 A (dr B) bn).weak λ k H Q ⟨O,W,R,p⟩=>⟨O,W,R,λ x w s1 n=>⟨O,W,R.mono s1,λ H2 g=>lx i ((JS).mono g) (n.mono g) (p.step (Lu g))⟩⟩
     ·cases i
theorem Ca(u:∀q,ra=some q->PE X a JK)(r:∀q,rb=some q->PE X b JK)(h:(Re.thn ra λ x j=>Re.thn rb λ l _=>match l with
  | .int l=>(slD x none (some l)).map λ d=>.ok d (slCl x j) | _=>none)=some re):PE X (.Subscript a (.Slice none (some b) none p2) pos) (dE X.D E δ re):=by
 cases f:ra with
 | none=>rw[f]at h;cases h
 | some q=>
  rw[f]at h;have A:=u q f;cases q with
  | ex c=>cases h;exact(R4 S4 A bn dt).weak λ k H Q ⟨O,W,R,p⟩=>Kr
  | ok o j=>
   cases e:rb with
   | none=>rw[e]at h;cases h
   | some q=>
    rw[e]at h;have B:=r q e;cases q with
    | ex c=>cases h;exact(R4 S4 A bn (gL B)).weak λ k H Q ⟨O,W,R,p⟩=>⟨O,W,R,λ x w s1 n=>⟨O,W,R.mono s1,λ y C m s=>p y C m (Lu s)⟩⟩
    | ok v cy=>
     have i:(match(generalizing:=false) v with | .int l=>(slD o none (some l)).map λ d=>Re.ok d (slCl o j) | _=>none)=some re:=h;split at i
     ·rename_i l;exact(R4 S4 A bn (dr B)).weak λ k H Q ⟨O,W,R,p⟩=>⟨O,W,R,λ x w s1 n=>⟨O,W,R.mono s1,λ H2 g=>lx i ((JS).mono g) (n.mono g) (p.step (Lu g))⟩⟩
     ·cases i
theorem Cb(K:∀q,ra=some q->PE X a JK)(J:∀q,rb=some q->PE X b JK)(I:∀q,k=some q->PE X c JK)(h:(Re.thn ra λ x o=>Re.thn rb λ l _=>match l with
  | .int l=>Re.thn k λ u _=>(match u with
   | .int u=>(slD x (some l) (some u)).map λ d=>.ok d (slCl x o) | _=>none) | _=>none)=some re):PE X (.Subscript a (.Slice (some b) (some c) none p2) pos) (dE X.D E δ re):=by
 cases i:ra with
 | none=>rw[i]at h;cases h
 | some q=>
  rw[i]at h;have A:=K q i;cases q with
  | ex c=>cases h;exact(R4 S4 A dt dt).weak λ r H Q ⟨O,W,R,p⟩=>Kr
  | ok n o=>
   cases g:rb with
   | none=>rw[g]at h;cases h
   | some q=>
    rw[g]at h;have B:=J q g;cases q with
    | ex c=>cases h;exact(R4 S4 A (gL B) dt).weak λ r H Q ⟨O,W,R,p⟩=>⟨O,W,R,λ x F s1 y=>⟨O,W,R.mono s1,λ z C m s=>p z C m (Lu s)⟩⟩
    | ok M cy=>
     have j:(match(generalizing:=false) M with | .int l=>Re.thn k λ u _=>(match u with | .int u=>(slD n (some l) (some u)).map λ d=>Re.ok d _ | _=>none) | _=>none)=some re:=h;split at j
     ·rename_i l;cases f:k with
      | none=>rw[f]at j;cases j
      | some q=>
       rw[f]at j;have C:=I q f;cases q with
       | ex c'=>
        cases j;exact(R4 S4 A (dr B) (gL C)).weak λ r H Q ⟨O,W,R,p⟩=>⟨O,W,R,λ x F s1 y=>⟨O,W,R.mono s1,λ N e=>⟨O,W,(Lk).mono e,λ z C m s=>p z C m (Lu (e.trans s))⟩⟩⟩
       | ok L cz=>
        have w:(match(generalizing:=false) L with | .int u=>(slD n (some l) (some u)).map λ d=>Re.ok d _ | _=>none)=some re:=j;split at w
        ·rename_i u;exact(R4 S4 A (dr B) (dr C)).weak λ r H Q ⟨O,W,R,p⟩=>⟨O,W,R,λ x F s1 y=>⟨O,W,R.mono s1,λ N e=>⟨O,W,(Lk).mono e,λ H3 v=>lx w (((JS).mono e).mono v) ((y.mono e).mono v) (p.step (Lu (e.trans v)))⟩⟩⟩
        ·cases w
     ·cases j
end
mutual
noncomputable def toP:DV->PyData
 | .non=>.none | .bl b=>.bool b | .int i=>.int i | .str x=>.str x
 | .tup ds=>.tuple (toPs ds) | .lst ds=>.list (toPs ds)
 | _=>.none
noncomputable def toPs:ge DV->ge PyData
 | []=>[]
 | d::r=>toP d::toPs r
end
mutual
theorem du:∀(n m:Nat) (d e:DV),d.plain n=true->e.plain m=true->PyData.eqv (toP d) (toP e)=deq d e
 | n,m,.non,e,_,h=>by cases e<;>first | (cases m<;>simp[DV.plain]at h;done) | (simp only[toP,PyData.eqv,deq])
 | n,m,.bl _,e,_,h=>by cases e<;>first | (cases m<;>simp[DV.plain]at h;done) | (simp only[toP,PyData.eqv,deq])
 | n,m,.int _,e,_,h=>by cases e<;>first | (cases m<;>simp[DV.plain]at h;done) | (simp only[toP,PyData.eqv,deq])
 | n,m,.str x,e,_,h=>by
  cases e with
  | str y=>simp only[toP,PyData.eqv,deq];rfl
  | non=>simp only[toP,PyData.eqv,deq]
  | bl _=>simp only[toP,PyData.eqv,deq]
  | int _=>simp only[toP,PyData.eqv,deq]
  | tup _=>simp only[toP,PyData.eqv,deq]
  | lst _=>simp only[toP,PyData.eqv,deq]
  | dct _ _=>cases m<;>simp[DV.plain]at h
  | exc _=>cases m<;>simp[DV.plain]at h
  | fn _=>cases m<;>simp[DV.plain]at h
  | lam _ _=>cases m<;>simp[DV.plain]at h
  | scr _=>cases m<;>simp[DV.plain]at h
 | 0,_,.tup _,_,h,_=>by simp[DV.plain]at h
 | 0,_,.lst _,_,h,_=>by simp[DV.plain]at h
 | n+1,m,.tup ds,e,h,h'=>by
  cases e with
  | tup es=>
   cases m with
   | zero=>simp[DV.plain]at h'
   | succ m=>
    simp only[toP,PyData.eqv,deq];exact ly n m ds es (KS h) (KS h')
  | non=>simp only[toP,PyData.eqv,deq]
  | bl _=>simp only[toP,PyData.eqv,deq]
  | int _=>simp only[toP,PyData.eqv,deq]
  | str _=>simp only[toP,PyData.eqv,deq]
  | lst _=>simp only[toP,PyData.eqv,deq]
  | dct _ _=>cases m<;>simp[DV.plain]at h'
  | exc _=>cases m<;>simp[DV.plain]at h'
  | fn _=>cases m<;>simp[DV.plain]at h'
  | lam _ _=>cases m<;>simp[DV.plain]at h'
  | scr _=>cases m<;>simp[DV.plain]at h'
 | n+1,m,.lst ds,e,h,h'=>by
  cases e with
  | lst es=>
   cases m with
   | zero=>simp[DV.plain]at h'
   | succ m=>
    simp only[toP,PyData.eqv,deq];exact ly n m ds es (KS h) (KS h')
  | non=>simp only[toP,PyData.eqv,deq]
  | bl _=>simp only[toP,PyData.eqv,deq]
  | int _=>simp only[toP,PyData.eqv,deq]
  | str _=>simp only[toP,PyData.eqv,deq]
  | tup _=>simp only[toP,PyData.eqv,deq]
  | dct _ _=>cases m<;>simp[DV.plain]at h'
  | exc _=>cases m<;>simp[DV.plain]at h'
  | fn _=>cases m<;>simp[DV.plain]at h'
  | lam _ _=>cases m<;>simp[DV.plain]at h'
  | scr _=>cases m<;>simp[DV.plain]at h'
 | n,_,.dct _ _,_,h,_=>by cases n<;>simp[DV.plain]at h
 | n,_,.exc _,_,h,_=>by cases n<;>simp[DV.plain]at h
 | n,_,.fn _,_,h,_=>by cases n<;>simp[DV.plain]at h
 | n,_,.lam _ _,_,h,_=>by cases n<;>simp[DV.plain]at h
 | n,_,.scr _,_,h,_=>by cases n<;>simp[DV.plain]at h
theorem ly:∀(n m:Nat) (ds es:ge DV),DV.plains n ds=true->DV.plains m es=true->PyData.eqvAll (toPs ds) (toPs es)=deqs ds es
 | _,_,[],[],_,_=>by simp only[toPs,PyData.eqvAll,deqs]
 | _,_,[],_::_,_,_=>by simp only[toPs,PyData.eqvAll,deqs]
 | _,_,_::_,[],_,_=>by simp only[toPs,PyData.eqvAll,deqs]
 | n,m,d::ds,e::es,h,h'=>by simp only[DV.plains,f7]at h h';simp only[toPs,PyData.eqvAll,deqs,du n m d e h.1 h'.1,ly n m ds es h.2 h'.2]
end
mutual
theorem bB:∀(n:Nat) (d:DV),d.plain n=true->(toP d).canLay0=true/\(toP d).depth<=n
 | n,.non,_=>by simp[toP,PyData.canLay0,PyData.depth]
 | n,.bl _,_=>by simp[toP,PyData.canLay0,PyData.depth]
 | n,.int _,_=>by simp[toP,PyData.canLay0,PyData.depth]
 | n,.str x,h=>by
  have h':(x.cps.all (· < 0x110000))=true:=by cases n<;>simpa[DV.plain]using h
  simp only[toP,PyData.canLay0,PyData.depth];exact⟨h',E5 _⟩
 | 0,.tup _,h=>by simp[DV.plain]at h
 | 0,.lst _,h=>by simp[DV.plain]at h
 | n+1,.tup ds,h=>by have q:=av n ds (KS h);simp only[toP,PyData.canLay0,PyData.depth,q.1,true_and];have:=q.2;omega
 | n+1,.lst ds,h=>by have q:=av n ds (KS h);simp only[toP,PyData.canLay0,PyData.depth,q.1,true_and];have:=q.2;omega
 | n,.dct _ _,h=>by cases n<;>simp[DV.plain]at h
 | n,.exc _,h=>by cases n<;>simp[DV.plain]at h
 | n,.fn _,h=>by cases n<;>simp[DV.plain]at h
 | n,.lam _ _,h=>by cases n<;>simp[DV.plain]at h
 | n,.scr _,h=>by cases n<;>simp[DV.plain]at h
theorem av:∀(n:Nat) (ds:ge DV),DV.plains n ds=true->PyData.canLayAll0 (toPs ds)=true/\PyData.depthAll (toPs ds)<=n
 | _,[],_=>by simp[toPs,PyData.canLayAll0,PyData.depthAll]
 | n,d::ds,h=>by simp only[DV.plains,f7]at h;have q:=bB n d h.1;have q':=av n ds h.2;simp only[toPs,PyData.canLayAll0,PyData.depthAll,q.1,q'.1,Bool.and_self,true_and];have a:=q.2;have b:=q'.2;omega
end
section
variable {X:Cx} {pins:ge (Jl×Obj)} {σ:St} {H:Hp} {s:Jk}
mutual
theorem M7(I:JI pins):∀(n:Nat) {d:DV} {v:V} {u:Jj},d.plain n=true->Rep X.D H d v->RelV v u->∃as,Reads s.heap u (toP d) as
 | _,.non,_,_,_,h,r=>by rw[X6.mp h]at r;cases r;exact⟨_,Reads.none⟩
 | _,.bl b,_,_,_,h,r=>by rw[au.mp h]at r;cases r;exact⟨_,Reads.bool b⟩
 | _,.int i,_,_,_,h,r=>by rw[A2.mp h]at r;obtain⟨t,rfl⟩:=r;exact⟨_,Reads.int i t⟩
 | _,.str x,_,_,_,h,r=>by rw[(bx.mp h).1]at r;obtain⟨t,rfl⟩:=r;exact⟨_,Reads.str x t⟩
 | 0,.tup _,_,_,p,_,_=>by simp[DV.plain]at p
 | 0,.lst _,_,_,p,_,_=>by simp[DV.plain]at p
 | n+1,.tup ds,_,_,p,h,r=>by obtain⟨a,xs,e1,e2,e3⟩:=F4.mp h;rw[e1]at r;cases r;obtain⟨its,rv,⟨o,h1,h2,k,h3⟩,_⟩:=I.tuple e2;obtain⟨as,q⟩:=lz I n (KS p) e3 rv;rw[toP];exact⟨as,Reads.tuple h1 h2 h3 (Kg q)⟩
 | n+1,.lst ds,_,_,p,h,r=>by obtain⟨a,xs,e1,e2,e3⟩:=J3.mp h;rw[e1]at r;cases r;obtain⟨_,its,k,rv,_,h1⟩:=I.lstM e2;obtain⟨as,q⟩:=lz I n (KS p) e3 rv;rw[toP];exact⟨_,Reads.list h1 rfl rfl (Kg q)⟩
 | n,.dct _ _,_,_,h,_,_=>by cases n<;>simp[DV.plain]at h
 | n,.exc _,_,_,h,_,_=>by cases n<;>simp[DV.plain]at h
 | n,.fn _,_,_,h,_,_=>by cases n<;>simp[DV.plain]at h
 | n,.lam _ _,_,_,h,_,_=>by cases n<;>simp[DV.plain]at h
 | n,.scr _,_,_,h,_,_=>by cases n<;>simp[DV.plain]at h
theorem lz(I:JI pins):∀(n:Nat) {ds:ge DV} {vs:ge V} {us:ge Jj},DV.plains n ds=true->RepL X.D H ds vs->Vals vs us->∃as,ReadsAll s.heap us (toPs ds) as
 | _,[],_,_,_,h,r=>by rw[C2.mp h]at r;cases r;exact⟨_,ReadsAll.nil⟩
 | n,d::ds,_,_,p,h,r=>by
  simp only[DV.plains,f7]at p;obtain⟨v,vs,e1,e2,e3⟩:=v6.mp h;subst e1;cases r with
  | cons r1 r2=>
   obtain⟨as,q⟩:=M7 I n p.1 e2 r1;obtain⟨bs,q'⟩:=lz I n p.2 e3 r2;rw[toPs];exact⟨_,ReadsAll.cons q q'⟩
end
theorem gM(h:d.plain 60=true):SeqAt.shaped (toP d)=true:=by
 have q:=bB 60 d h;unfold SeqAt.shaped;rw[q.1,fq];exact C5 (i7 q.2 JB)
theorem lA(h:d.plain 60=true):∀(a:ge DV),DV.plains 60 a=true->((toPs a).any λ y=>PyData.eqv y (toP d))=a.any λ x=>deq x d
 | [],_=>rfl
 | e::a,p=>by simp[DV.plains,f7]at p;rw[toPs,F8,F8,du 60 60 e d p.1 h,lA h a p.2]
end
section
variable {X:Cx} {E:St->XK} {δ:ge Sv} {a b c e:Jn} {pos:Pos} {ra rb rc:Ji Re} {re:Re}
def cmpR(X:Cx)(op:CmpOp):R2:=λ x y H Q=>∃dx dy k,cmpD op dx dy=some k/\Rep X.D H dx x/\Rep X.D H dy y/\Q (.bl k) H
theorem Cc(r:Rep D H d v):decide (v=.non)=isN d:=by
 cases d with
 | non=>rw[X6.mp r];rfl
 | bl _=>rw[au.mp r];rfl
 | int _=>rw[A2.mp r];rfl
 | str _=>rw[(bx.mp r).1];rfl
 | tup _=>obtain⟨a,c,e,_⟩:=F4.mp r;rw[e];rfl
 | lst _=>obtain⟨a,c,e,_⟩:=J3.mp r;rw[e];rfl
 | exc _=>obtain⟨a,C,e,_⟩:=lm.mp r;rw[e];rfl
 | fn _=>obtain⟨a,e,_⟩:=lq.mp r;rw[e];rfl
 | lam _ _=>obtain⟨a,_,_,_,_,_,_,_,e,_⟩:=dh.mp r;rw[e];rfl
 | scr _=>obtain⟨a,e,_⟩:=X7.mp r;rw[e];rfl
 | dct _ _=>rcases P8.mp r with⟨a,o,b,e,_⟩ | ⟨a,o,b,e,_⟩<;>rw[e]<;>rfl
theorem bC(E:X.A.units+64<cLine):OpR X (compareOp w) (cmpR X w):=by
 intro b s n H x y v u Q I j i h;obtain⟨dx,dy,k,a,r1,l,q⟩:=h;have g:∀{z:Bool},z=k->EP X b n Q _ s:=λ {z} e=>⟨.bl z,H,I,rfl,by rw[e];exact q⟩
 unfold cmpD at a;cases w
 case Lt=>
  dsimp only at a
  replace a:=v9.mp a
  obtain⟨C,d,a⟩:=a
  replace a:=v9.mp a
  obtain⟨B,c,a⟩:=a;have d:=C9 d;have c:=C9 c;subst d c;cases a;exact xN b s n H x y v u Q I j i ⟨_,_,A2.mp r1,A2.mp l,q⟩
 case LtE=>
  dsimp only at a
  replace a:=v9.mp a
  obtain⟨C,d,a⟩:=a
  replace a:=v9.mp a
  obtain⟨B,c,a⟩:=a;have d:=C9 d;have c:=C9 c;subst d c;cases a;exact xO b s n H x y v u Q I j i ⟨_,_,A2.mp r1,A2.mp l,q⟩
 case GtE=>
  dsimp only at a
  replace a:=v9.mp a
  obtain⟨C,d,a⟩:=a
  replace a:=v9.mp a
  obtain⟨B,c,a⟩:=a;have d:=C9 d;have c:=C9 c;subst d c;cases a;exact xP b s n H x y v u Q I j i ⟨_,_,A2.mp r1,A2.mp l,q⟩
 case Eq=>
  dsimp only at a;split at a
  ·rename_i p;rw[f7]at p;cases a;obtain⟨A,m⟩:=M7 I 60 p.1 r1 j;obtain⟨bs,f⟩:=M7 I 60 p.2 l i;exact eq_dataH m f (gM p.1) (gM p.2) E (g (du 60 60 _ _ p.1 p.2))
  ·cases a
 case NotEq=>
  dsimp only at a;split at a
  ·rename_i p;rw[f7]at p;cases a;obtain⟨A,m⟩:=M7 I 60 p.1 r1 j;obtain⟨bs,f⟩:=M7 I 60 p.2 l i;exact ne_dataH m f (gM p.1) (gM p.2) E (g (by rw[du 60 60 _ _ p.1 p.2]))
  ·cases a
 case Is=>
  dsimp only at a;split at a
  ·cases a;exact xQ b s n H x y v u Q I j i ⟨X6.mp l,by rw[Cc r1];exact q⟩
  ·cases a
 case NotIn=>
  dsimp only at a;split at a
  ·rename_i r;split at a
   ·rename_i p;rw[f7]at p;cases a;obtain⟨A,m⟩:=M7 I 60 p.1 r1 j;obtain⟨bs,f⟩:=M7 I 61 (KS p.2) l i;rw[toP]at f;have o:=bB 60 _ p.1;have J:=av 60 r p.2;have F:=o.2;exact SeqAt.notIn_list_reads f m J.1 o.1 JA (g (by rw[lA p.1 r p.2]))
   ·cases a
  ·rename_i r;split at a
   ·rename_i p;rw[f7]at p;cases a;obtain⟨A,m⟩:=M7 I 60 p.1 r1 j;obtain⟨bs,f⟩:=M7 I 61 (KS p.2) l i;rw[toP]at f;have o:=bB 60 _ p.1;have F:=o.2;exact SeqAt.notIn_tuple_reads f m (av 60 r p.2).1 o.1 JA (g (by rw[lA p.1 r p.2]))
   ·cases a
  ·cases a
 all_goals (cases a)
theorem lB(h:G8 b=false):behindInMarks op b=false:=by
 cases b<;>first | rfl | cases h
theorem Cd(e:X.A.units+64<cLine)(g:∀q,ra=some q->PE X a JK)(f:∀q,rb=some q->PE X b JK)(hs:G8 b=false)
  (h:KQ=some re):PE X (.Compare a [op] [b] pos) (dE X.D E δ re):=
 lv (λ _ _ j i=>xR (bC e) j i (lB hs)) g f h λ O W H0 H x y Q u cx r cy σ k c m l p=>by obtain⟨d,o,n⟩:=w6.mp k;cases n;exact⟨u,r,d,o,m.all c,l.all c,p _ H Kc X9⟩
theorem Ce(j:∀q,ra=some q->PE X a JK)(i:∀q,rb=some q->PE X b JK)
  (h:KQ=some re):∃e d,PE X a e/\PE X b d/\∀c H Q,dE X.D E δ re c H Q->tOp (cmpR X op) e d c H Q:=
 rC j i h λ O W H0 H x y Q u cx r cy c k f m l p=>by obtain⟨g,o,n⟩:=w6.mp k;cases n;exact⟨u,r,g,o,m.all f,l.all f,p _ H Kc X9⟩
theorem rF(b:∀d c,re=.ok d c->∃k,d=.bl k)(h:tstD (some re)=some r)(q:dT X.D E δ r σ H Q):dE X.D E δ re σ H (λ x a=>∃k,x=.bl k/\Q k a):=by
 obtain⟨O,W,R,p⟩:=q;cases re with
 | ex c=>cases h;exact Kr
 | ok d c=>
  obtain⟨k,rfl⟩:=b d c rfl;cases h;exact⟨O,W,R,λ v a s g=>⟨k,g.bl (R.hid.mono s),p a s⟩⟩
theorem Cf(h:KQ=some re):∀d c,re=.ok d c->∃k,d=.bl k:=by
 intro d c e;subst e;cases ra with
 | none=>cases h
 | some q=>
  cases q with
  | ex c=>cases h
  | ok d c=>
   cases rb with
   | none=>cases h
   | some q=>
    cases q with
    | ex c=>cases h
    | ok d' c'=>
     obtain⟨k,_,e⟩:=w6.mp (h);cases e;exact⟨k,rfl⟩
theorem Cg(d:X.A.units+64<cLine)(f:∀q,ra=some q->PE X a JK)(e:∀q,rb=some q->PE X b JK)(hs:G8 b=false)
  (h:tstD KQ=some r):PT X (.Compare a [op] [b] pos) (dT X.D E δ r):=by
 cases q:(Re.thn ra λ x _=>Re.thn rb λ y _=>(cmpD op x y).map λ k=>Re.ok _ .strong)with
 | none=>rw[q]at h;cases h
 | some re=>
  rw[q]at h;obtain⟨ta,tb,A,B,w⟩:=Ce f e q;exact(xS (bC d) A B (lB hs)).weak λ c H Q z=>w c H _ (rF (Cf q) h z)
theorem rG{a:CmpOp}(h:G8 c=false):lastMarks [op,a] [b,c]=false:=by
 show behindInMarks a c=false;exact lB h
theorem rH(N:∀q,ra=some q->PE X a JK)(M:∀q,rb=some q->PE X b JK)(L:∀q,rc=some q->PE X c JK)
  (h:(Re.thn ra λ x _=>Re.thn rb λ y _=>match cmpD op x y with
   | none=>none
   | some false=>some (JT (.bl false))
   | some true=>Re.thn rc λ z _=>(cmpD g y z).map λ k=>.ok (.bl k) .strong)=some re):∃J tb I,PE X a J/\PE X b tb/\PE X c I/\(∀σ H Q,dE X.D E δ re σ H Q->jH (cmpR X op) (cmpR X g) J tb I σ H Q)/\∀d cl,re=.ok d cl->∃k,d=.bl k:=by
 cases l:ra with
 | none=>rw[l]at h;cases h
 | some q=>
  rw[l]at h;have A:=N q l;cases q with
  | ex c=>cases h;exact⟨_,_,_,A,M6,M6,λ σ H Q ⟨O,W,R,p⟩=>Kr,λ d cl z=>nomatch z⟩
  | ok v cx=>
   cases j:rb with
   | none=>rw[j]at h;cases h
   | some q=>
    rw[j]at h;have B:=M q j;cases q with
    | ex c=>cases h;exact⟨_,_,_,A,B,M6,λ σ H Q ⟨O,W,R,p⟩=>⟨O,W,R,λ x w s1 o=>⟨O,W,R.mono s1,λ F C m s=>p F C m (Lu s)⟩⟩,λ d cl z=>nomatch z⟩
    | ok r cy=>
     have f:(match(generalizing:=false) cmpD op v r with
      | none=>none
      | some false=>some (Re.ok KI .strong)
      | some true=>Re.thn rc λ z _=>(cmpD g r z).map λ k=>.ok (.bl k) .strong)=some re:=h
     split at f
     ·cases f
     ·rename_i u;cases f;exact⟨_,_,_,A,B,M6,λ σ H Q ⟨O,W,R,p⟩=>⟨O,W,R,λ x w s1 o=>⟨O,W,R.mono s1,λ y K e n=>
       ⟨v,r,false,u,(o.mono e).all ((JS).mono e),n.all ((Lk).hid.mono e),false,rfl,by rw[g7 B5];exact p _ _ (Lu e) X9⟩⟩⟩,λ d cl z=>by cases z;exact KD⟩
     ·rename_i u;cases i:rc with
      | none=>rw[i]at f;cases f
      | some q=>
       rw[i]at f;have C:=L q i;cases q with
       | ex c'=>
        cases f;exact⟨_,_,_,A,B,C,λ σ H Q ⟨O,W,R,p⟩=>⟨O,W,R,λ x w s1 o=>⟨O,W,R.mono s1,λ y K e n=>
         ⟨v,r,true,u,(o.mono e).all ((JS).mono e),n.all ((Lk).hid.mono e),true,rfl,by rw[f8 rfl];exact⟨O,W,(Lk).mono e,λ F C m s=>p F C m (Lu (e.trans s))⟩⟩⟩⟩,λ d cl z=>nomatch z⟩
       | ok Y cz=>
        obtain⟨k,U,S⟩:=w6.mp (f);cases S;exact⟨_,_,_,A,B,C,λ σ H Q ⟨O,W,R,p⟩=>⟨O,W,R,λ x w s1 o=>⟨O,W,R.mono s1,λ y K e n=>
         ⟨v,r,true,u,(o.mono e).all ((JS).mono e),n.all ((Lk).hid.mono e),true,rfl,by
          rw[f8 rfl];exact⟨O,W,(Lk).mono e,λ z H3 t P=>⟨r,Y,k,U,(n.mono t).all (((Lk).hid.mono e).mono t),P.all (((Lk).mono e).hid.mono t),p _ _ (Lu (e.trans t)) X9⟩⟩⟩⟩⟩,λ d cl z=>by cases z;exact KD⟩
theorem Ch(e:X.A.units+64<cLine)(j:∀q,ra=some q->PE X a JK)(i:∀q,rb=some q->PE X b JK)(g:∀q,rc=some q->PE X c JK)(f:G8 c=false)
  (h:(Re.thn ra λ x _=>Re.thn rb λ y _=>match cmpD op x y with
   | none=>none
   | some false=>some (JT (.bl false))
   | some true=>Re.thn rc λ z _=>(cmpD d y z).map λ k=>.ok (.bl k) .strong)=some re):PE X (.Compare a [op,d] [b,c] pos) (dE X.D E δ re):=by
 obtain⟨ta,tb,tc,A,B,C,w,_⟩:=rH j i g h;exact(xT (bC e) (bC e) A B C (rG f)).weak w
theorem Ci(f:X.A.units+64<cLine)(m:∀q,ra=some q->PE X a JK)(l:∀q,rb=some q->PE X b JK)(j:∀q,rc=some q->PE X c JK)(i:G8 c=false)
  (h:tstD (Re.thn ra λ x _=>Re.thn rb λ y _=>match cmpD op x y with
   | none=>none
   | some false=>some (JT (.bl false))
   | some true=>Re.thn rc λ z _=>(cmpD d y z).map λ k=>.ok (.bl k) .strong)=some r):PT X (.Compare a [op,d] [b,c] pos) (dT X.D E δ r):=by
 cases q:(Re.thn ra λ x _=>Re.thn rb λ y _=>match cmpD op x y with
   | none=>none
   | some false=>some _
   | some true=>Re.thn rc λ z _=>(cmpD d y z).map λ k=>.ok _ .strong)with
 | none=>rw[q]at h;cases h
 | some re=>
  rw[q]at h;obtain⟨ta,tb,tc,A,B,C,w,e⟩:=rH m l j q;exact(xU (bC f) (bC f) A B C (rG i)).weak λ g H Q z=>w g H _ (rF e h z)
end
theorem bD(h:K2 d=some k)(r:Rep D H d v):TruV D.K v H k:=by
 cases d with
 | non=>cases h;rw[X6.mp r];rfl
 | bl b=>cases h;rw[au.mp r];rfl
 | int i=>cases h;rw[A2.mp r];rfl
 | str x=>
  cases h;obtain⟨f,e⟩:=bx.mp r;rw[f];refine⟨e,?_⟩;show _=(((x.cps.size:Nat):Int) != 0);cases x.cps.size with
  | zero=>rfl
  | succ n=>simp only[bne,Nat.add_eq_zero_iff];simp;omega
 | tup j=>
  cases h;obtain⟨a,c,f,e,g⟩:=F4.mp r;rw[f];refine .inr (.inl ⟨c,e,?_⟩);have:=g.length;cases c<;>cases j<;>first | rfl | cases this
 | lst j=>
  cases h;obtain⟨a,c,f,e,g⟩:=J3.mp r;rw[f];refine .inl ⟨c,SqL.of e,?_⟩;have:=g.length;cases c<;>cases j<;>first | rfl | cases this
 | dct _ _=>cases h
 | exc _=>cases h
 | fn _=>cases h
 | lam _ _=>cases h
 | scr _=>cases h
theorem Cj(i:∀q,ra=some q->PE X e JK)(f:∀a,isTrue e X.env a=(do let v ←a;standAt e.pos;holding [v] (truthy v)))(h:tstD ra=some r):PT X e (dT X.D E δ r):=by
 cases b:ra with
 | none=>rw[b]at h;cases h
 | some q=>
  rw[b]at h;have A:=i q b;cases q with
  | ex c=>cases h;exact(oU A f).weak λ g H Q ⟨O,W,R,p⟩=>Kr
  | ok d cl=>
   obtain⟨k,m,l⟩:=w6.mp (h);cases l;exact(oU A f).weak λ g H Q ⟨O,W,R,p⟩=>⟨O,W,R,λ x n s1 j=>⟨k,bD m (j.all JS),p n s1⟩⟩
theorem Ck(j:PE X a f):PE X (.UnaryOp .Not a pos) (tUn (λ x H Q=>∃k,TruV X.K x H k/\Q (.bl (!k)) H) f):=by
 intro c s e H Q I h;refine UnaryOp_ (thn (j c s e H _ I h) λ v s1 t0=>?_);obtain⟨x,g,o,i,d⟩:=t0;obtain⟨k,t,d⟩:=d;exact not_of (thn (fK c s1 e g x v (λ b q=>b=k/\q=g) o i ⟨k,t,rfl,rfl⟩) λ b s2 ⟨p,n,m,l⟩=>by
  subst m l;exact⟨.bl (!b),p,n,rfl,d⟩)
theorem Cm(d:∀q,ra=some q->PE X a JK)(h:(Re.thn ra λ x _=>(K2 x).map λ k=>.ok (.bl (!k)) .strong)=some re):PE X (.UnaryOp .Not a pos) (dE X.D E δ re):=
 rA (λ _=>Ck) d h λ O W H0 H x Q dx cx σ k c e p=>by obtain⟨b,g,f⟩:=w6.mp k;cases f;exact⟨b,bD g (e.all c),p _ H Kc X9⟩
theorem lC(q:PE X a j)(p:PE X (.BoolOp .And (b::es) pos) i):PE X (.BoolOp .And (a::b::es) pos) (λ e H Q=>j e H λ x f=>∃k,TruV X.K x f k/\if k=true then i e f Q else Q x f):=by
 intro d s e H Q I h;refine BoolOp_and (thn (q d s e H _ I h) λ v s1 t0=>?_);obtain⟨x,f,w,l,g⟩:=t0;obtain⟨k,t,g⟩:=g;refine thn (fK d s1 e f x v (λ b y=>b=k/\y=f) w l ⟨k,t,rfl,rfl⟩) λ c o t0=>?_;obtain⟨n,m,u,r⟩:=t0
 subst u r;cases c with
 | true=>exact p d o e n Q m g
 | false=>exact⟨x,n,m,l,g⟩
theorem lD(p:PE X a i)(o:PE X (.BoolOp .Or (b::es) pos) tb):PE X (.BoolOp .Or (a::b::es) pos) (λ e H Q=>i e H λ x f=>∃k,TruV X.K x f k/\if k=true then Q x f else tb e f Q):=by
 intro d s e H Q I h;refine BoolOp_or (thn (p d s e H _ I h) λ v s1 t0=>?_);obtain⟨x,f,u,j,g⟩:=t0;obtain⟨k,t,g⟩:=g;refine thn (fK d s1 e f x v (λ b w=>b=k/\w=f) u j ⟨k,t,rfl,rfl⟩) λ c n t0=>?_;obtain⟨m,l,r,q⟩:=t0
 subst r q;cases c with
 | false=>exact o d n e m Q l g
 | true=>exact⟨x,m,l,j,g⟩
theorem Cn(l:∀q,ra=some q->PE X a JK)(k:∀q,rb=some q->PE X (.BoolOp .And (b::es) pos) JK)(h:(Re.thn ra λ x c=>andD x c rb)=some re):PE X (.BoolOp .And (a::b::es) pos) (dE X.D E δ re):=by
 cases e:ra with
 | none=>rw[e]at h;cases h
 | some q=>
  rw[e]at h;have A:=l q e;cases q with
  | ex c=>cases h;exact(lC A M6).weak λ i H Q ⟨O,W,R,p⟩=>Kr
  | ok d cl=>
   have f:andD d cl rb=some re:=h;unfold andD at f;split at f
   ·cases f
   ·rename_i t;exact(lC A (k re f)).weak λ i H Q ⟨O,W,R,p⟩=>⟨O,W,R,λ x j s1 g=>⟨true,bD t (g.all JS),iteT ⟨O,W,R.mono s1,p.later s1 s1⟩⟩⟩
   ·rename_i t;cases f;exact(lC A M6).weak λ i H Q ⟨O,W,R,p⟩=>⟨O,W,R,λ x j s1 g=>⟨false,bD t (g.all JS),iteF (p _ j s1 g)⟩⟩
theorem Co(n:∀q,j=some q->PE X a JK)(m:∀q,rb=some q->PE X (.BoolOp .Or (b::es) pos) JK)(h:(Re.thn j λ x c=>orD x c rb)=some g):PE X (.BoolOp .Or (a::b::es) pos) (dE X.D E δ g):=by
 cases e:j with
 | none=>rw[e]at h;cases h
 | some q=>
  rw[e]at h;have A:=n q e;cases q with
  | ex c=>cases h;exact(lD A M6).weak λ k H Q ⟨O,W,R,p⟩=>Kr
  | ok d cl=>
   have f:orD d cl rb=some g:=h;unfold orD at f;split at f
   ·cases f
   ·rename_i t;cases f;exact(lD A M6).weak λ k H Q ⟨O,W,R,p⟩=>⟨O,W,R,λ x l s1 i=>⟨true,bD t (i.all JS),iteT (p _ l s1 i)⟩⟩
   ·rename_i t;exact(lD A (m g f)).weak λ k H Q ⟨O,W,R,p⟩=>⟨O,W,R,λ x l s1 i=>⟨false,bD t (i.all JS),iteF ⟨O,W,R.mono s1,p.later s1 s1⟩⟩⟩
theorem lE(h:tstD (Re.thn ra k)=some r):(ra=none/\False)\/(∃c,ra=some (.ex c)/\r=.ex c)\/∃d c,ra=some (.ok d c)/\tstD (k d c)=some r:=by
 cases a:ra with
 | none=>rw[a]at h;cases h
 | some q=>
  rw[a]at h;cases q with
  | ex c=>cases h;exact .inr (.inl ⟨c,rfl,rfl⟩)
  | ok d c=>exact .inr (.inr ⟨d,c,rfl,h⟩)
theorem rJ(h:tstD (some (.ok d c))=some r):∃k,K2 d=some k/\r=.ok k:=by
 obtain⟨k,b,a⟩:=w6.mp (h);exact⟨k,b,a.symm⟩
theorem Cp(b:∀q,tstD ra=some q->PT X a (dT X.D E δ q))(h:tstD (Re.thn ra λ x _=>(K2 x).map λ k=>.ok (.bl (!k)) .strong)=some r):PT X (.UnaryOp .Not a pos) (dT X.D E δ r):=by
 rcases lE h with⟨_,z⟩ | ⟨c,e1,e2⟩ | ⟨d,c,e1,e2⟩
 ·exact z.elim
 ·subst e1 e2;exact(oI (b _ rfl)).weak λ e H Q ⟨O,W,R,p⟩=>Kr
 ·cases t:K2 d with
  | none=>rw[t]at e2;cases e2
  | some k=>
   rw[t]at e2;cases e2;have A:=b _ (by rw[e1];show(K2 d).map Rt.ok=_;rw[t];rfl);exact(oI A).weak λ e H Q ⟨O,W,R,p⟩=>⟨O,W,R,λ f s1=>p f s1⟩
theorem Cq(g:∀q,tstD ra=some q->PT X a (dT X.D E δ q))(j:∀q,tstD rb=some q->PW X (.BoolOp .And (b::es) pos) (dT X.D E δ q))(h:tstD (Re.thn ra λ x c=>andD x c rb)=some r):PW X (.BoolOp .And (a::b::es) pos) (dT X.D E δ r):=by
 rcases lE h with⟨_,z⟩ | ⟨c,e1,e2⟩ | ⟨d,c,e1,e2⟩
 ·exact z.elim
 ·subst e1 e2;exact(jC (g _ rfl) gI).weak λ e H Q ⟨O,W,R,p⟩=>Kr
 ·unfold andD at e2;cases t:K2 d with
  | none=>rw[t]at e2;cases e2
  | some k=>
   rw[t]at e2;have A:=g _ (by rw[e1];show(K2 d).map Rt.ok=_;rw[t];rfl);cases k with
   | true=>exact(jC A (j r e2)).weak λ e H Q ⟨O,W,R,p⟩=>⟨O,W,R,λ i s1=>iteT ⟨O,W,R.mono s1,p.later s1⟩⟩
   | false=>
    obtain⟨k,f,rfl⟩:=rJ e2;rw[t]at f;cases f;exact(jC A gI).weak λ e H Q ⟨O,W,R,p⟩=>⟨O,W,R,λ i s1=>iteF (p i s1)⟩
theorem Cr(g:∀q,tstD ra=some q->PT X a (dT X.D E δ q))(j:∀q,tstD rb=some q->PW X (.BoolOp .Or (b::es) pos) (dT X.D E δ q))(h:tstD (Re.thn ra λ x c=>orD x c rb)=some r):PW X (.BoolOp .Or (a::b::es) pos) (dT X.D E δ r):=by
 rcases lE h with⟨_,z⟩ | ⟨c,e1,e2⟩ | ⟨d,c,e1,e2⟩
 ·exact z.elim
 ·subst e1 e2;exact(jD (g _ rfl) gI).weak λ e H Q ⟨O,W,R,p⟩=>Kr
 ·unfold orD at e2;cases t:K2 d with
  | none=>rw[t]at e2;cases e2
  | some k=>
   rw[t]at e2;have A:=g _ (by rw[e1];show(K2 d).map Rt.ok=_;rw[t];rfl);cases k with
   | false=>exact(jD A (j r e2)).weak λ e H Q ⟨O,W,R,p⟩=>⟨O,W,R,λ i s1=>iteF ⟨O,W,R.mono s1,p.later s1⟩⟩
   | true=>
    obtain⟨k,f,rfl⟩:=rJ e2;rw[t]at f;cases f;exact(jD A gI).weak λ e H Q ⟨O,W,R,p⟩=>⟨O,W,R,λ i s1=>iteT (p i s1)⟩
theorem u4(h:o7 e=false):starEach (e::es) env=(false,eval e env)::starEach es env:=by
 cases e<;>first | rfl | cases h
theorem Cs:PA X [] (dA X.D E δ (.ok [])):=U4.weak λ σ H Q ⟨O,W,R,p⟩=>p [] H Kc .nil
theorem Cu(hs:o7 e=false)(n:∀q,ra=some q->PE X e JK)(k:∀q,f=some q->PA X es Ll)
  (h:(match(generalizing:=false) ra with | none=>none | some (.ex c)=>some (Rs.ex c) | some (.ok d c)=>(match(generalizing:=false) f with | none=>none | some (.ex c)=>some (.ex c) | some (.ok l)=>some (.ok ((d,c)::l))))=some q):PA X (e::es) (dA X.D E δ q):=by
 cases b:ra with
 | none=>rw[b]at h;cases h
 | some z=>
  rw[b]at h;have A:=n z b;cases z with
  | ex c=>cases h;exact(L8 A ry (u4 hs)).weak λ g H Q ⟨O,W,R,p⟩=>Kr
  | ok d cl=>
   cases a:f with
   | none=>rw[a]at h;cases h
   | some y=>
    rw[a]at h;have B:=k y a;cases y with
    | ex c=>cases h;exact(L8 A B (u4 hs)).weak λ g H Q ⟨O,W,R,p⟩=>⟨O,W,R,λ x u s1 j=>⟨O,W,R.mono s1,λ v C m s=>p v C m (Lu s)⟩⟩
    | ok l=>
     cases h;exact(L8 A B (u4 hs)).weak λ g H Q ⟨O,W,R,p⟩=>⟨O,W,R,λ x u s1 j=>⟨O,W,R.mono s1,λ vs r i o=>p _ r (Lu i) (.cons (j.mono i) (o.since s1))⟩⟩
theorem Cv(d:∀q,c=some q->PA X es Ll)(h:(Rs.thn c λ l=>if l.length<=o4 then some (.ok (.lst (l.map (·.1))) (if stros l then .fresh else .weak))else none)=some re):PE X (.List es pos) (dE X.D E δ re):=
 dm (λ _=>xY) d h λ O W H0 H vs Q l σ k a g p=>by
  split at k
  ·rename_i m;cases k;refine⟨by rw[g.length];exact S2 m,λ q b=>p _ _ (t6 b) ?_⟩;by_cases z:stros l=true
   ·rw[f8 z];exact Y0 a b (g.stros a z)
   ·rw[g7 z];exact lr a b (g.repL a)
  ·cases k
theorem Cw(d:∀q,c=some q->PA X es Ll)(h:(Rs.thn c λ l=>if l.length<=o4 then some (.ok (.tup (l.map (·.1))) (if stros l then .strong else .weak))else none)=some re):PE X (.Tuple es x1 pos) (dE X.D E δ re):=
 dm (λ _=>oX) d h λ O W H0 H vs Q l σ k a g p=>by
  split at k
  ·rename_i m;cases k;refine⟨by rw[g.length];exact S2 m,λ q b=>p _ _ (t6 b) ?_⟩;by_cases z:stros l=true
   ·rw[f8 z];exact di a b (g.stros a z)
   ·rw[g7 z];exact ls a b (g.repL a)
  ·cases k
end L2
end
noncomputable section
namespace HT
open PySem PySem.Spec PyProof.Rows
theorem Cy(n:Nat):Builtin.Slice.sliceAdjust none none (-1) (n:Int)=((n:Int) - 1,-1):=rfl
theorem Cz(n:Nat):Builtin.Slice.slicePlaces ((n:Int) - 1) (-1) (-1)=n:=by
 unfold Builtin.Slice.slicePlaces;have a:¬((-1:Int)>0):=by omega
 simp only[a,if_false,Int.neg_neg,Int.ediv_one];split<;>omega
theorem rK{b c:Type}{f g:b->Ji c}:∀{l:ge b},(∀m∈l,f m=g m)->l.filterMap f=l.filterMap g
 | [],_=>rfl
 | a::l,h=>by rw[aO,aO,h a (n9 ..),rK λ m d=>h m (n6 _ d)]
theorem CA(xs:Jo Jj):((JY xs.size).filterMap λ (m:Nat)=>xs[(((xs.size:Int) - 1)+(m:Int)*(-1)).toNat]?).toArray=xs.toList.reverse.toArray:=by
 congr 1
 have e:(JY xs.size).filterMap (λ (m:Nat)=>xs[(((xs.size:Int) - 1)+(m:Int)*(-1)).toNat]?)=(JY xs.size).filterMap λ m=>xs.toList.reverse[m]?:=by
  refine rK λ m a=>?_;rw[q9]at a;rw[eG (Kg a),J7,A3]
  congr 1
  omega
 rw[e];have:=pick_run xs.toList.reverse.toArray 0 xs.size;rw[List.filterMap_map]at this;have b:((λ x=>xs.toList.reverse.toArray[x]?) ∘ λ x=>0+x)=λ m=>xs.toList.reverse[m]?:=by
  funext m
  simp
 rw[b]at this;rw[this];exact eB JL
theorem CB{n:Nat}(d:s.heap.IsSliceOf c .none .none (.int (-1) tk))(h:Q ((n:Int) - 1,-1,n) s):wpAny JG A (Builtin.Slice.sliceApplied (.ref c) (pure (n:Int))) Q E s:=by
 obtain⟨os,a,e,b⟩:=id d;unfold Builtin.Slice.sliceApplied Builtin.Slice.sliceFields;refine f0 (f0 (D9 a b rfl (f0 (D9 a b rfl (f0 (D9 a b rfl (f9 ?_)))))));refine f0 (slicePart_int ?_);show wpAny _ _ _ _ _ s;rw[g7 JB];refine f0 (ff (f0 (ff (f0 (f9 ?_)))));show wpAny _ _ (match Builtin.Slice.sliceAdjust none none (-1) (n:Int)with | _=>pure _) _ _ s;rw[Cy];show wpAny _ _ (pure (_ - 1,_,Builtin.Slice.slicePlaces (_ - 1) (-1) (-1))) _ _ s;rw[Cz];exact f9 h
theorem getItem_tuple_rev(b:IsTup s.heap t items)(g:s.heap.IsSliceOf f .none .none (.int (-1) tk))
  (h:Q (JR s.heap.objs.size) {s with heap:=s.heap.push {cls:=.type "tuple",data:=.seq items.toList.reverse.toArray}})
  (hsz:items.size<=sizeLine):wpAny JG A (getItem (.ref t) (.ref f)) Q E s:=by
 obtain⟨i,c,e,j⟩:=id g;unfold getItem
 try with_reducible refine B6 ?_
 first | refine f0 (f9 ?_) | skip
 refine f0 (wpAny_sequenceKey b.typeIs JB ?_);refine f0 (O4 b.typeIs dW
  (G4 dW b.typeIs entry_tuple_getitem ?_ (args_tuple_getitem _ _)))
 show wpAny _ _ (Builtin.Tuple.tupleItemsOf _ >>= _) _ _ s;refine f0 (tupleItemsOf_ b ?_);refine f0 (cC (⟨i,c,e⟩) ?_);rw[f8 JB];refine f0 (CB g ?_);have d:¬((((items.size:Int) - 1)==0&&(-1:Int)==1&&items.size==items.size)=true):=by intro q;rw[f7,f7]at q;exact absurd q.1.2 JB
 show wpAny _ _ (if(_==0&&_==1&&items.size==items.size)=true then _ else _) _ _ s;rw[g7 d,CA];have a:sizeOk (.seq items.toList.reverse.toArray):=by show items.toList.reverse.toArray.size<=sizeLine;rw[u8,bX,A3];exact hsz
 first
  | exact f0 (C3 (f9 ⟨_,rfl,f9 h⟩) a)
  | exact f0 _
  | exact f0 _
  | exact f0 _
end HT
namespace L2
open PySem PySem.Spec PyProof.Rows
theorem CC(J:PE X e w):PE X (.Subscript e (.Slice none none (some (.UnaryOp .USub (.Constant (.int 1) j p1) p2)) p3) pos) (λ g H Q=>w g H λ x f=>∃a xs,x=.ref a/\SqT X.K f a xs/\∀p,f p=none->Q (.ref p) (upd f p (.tup xs.reverse))):=by
 intro c s g H Q I h;refine Subscript_ (thn (J c s g H _ I h) λ v s1 t0=>?_);obtain⟨x,f,N,r1,a,xs,ex,E,q⟩:=t0;subst ex;obtain rfl:v=Value.ref a:=r1;refine wpAny_Slice ?_;rw[jt,evalPart_some];refine f9 (f9 (thn (oQ (pos:=p2) oR (oF (i:=1) (j:=j) (pos:=p1)) c s1 g f (λ v o=>v=.int (-1)/\o=f) N ⟨1,rfl,rfl,rfl⟩) λ u d t0=>?_));obtain⟨y,o,M,B,K,L⟩:=t0;subst K L;obtain⟨m,rfl⟩:=B;have l:Inv X c g o {d with heap:=d.heap.push {cls:=.type "slice",data:=.fields #[.none,.none,.int (-1) m]}}:=M.kept λ b C q=>i3 _ q
 obtain⟨n,r,A,z⟩:=l.tuple E;have k:n.toArray.size=xs.length:=by rw[u8];exact r.length.symm
 show wpAny _ X.A _ _ X.xe {d with heap:=d.heap.push {cls:=.type "slice",data:=.fields #[.none,.none,.int (-1) m]}};refine tail_any A.typeIs PyProof.Rows.slot_tuple_getitem.lookup (HT.getItem_tuple_rev A (Heap.IsSliceOf.new ..) ?_ (by rw[k];exact z)) (by with_unfolding_all rfl);generalize F:({d with heap:=d.heap.push {cls:=.type "slice",data:=.fields #[.none,.none,.int (-1) m]}}:Jk)=s3 at l;refine⟨.ref s3.heap.objs.size,_,l.laid (λ b C q=>i3 _ q) (i8 _) ?_,rfl,q _ (l.hok.fresh (i8 _))⟩;exact⟨by rw[bX];exact z,_,vrev r,P2.new _ _⟩
theorem CD(r:RepL D H ds xs):RepL D H ds.reverse xs.reverse:=by
 induction ds generalizing xs with
 | nil=>rw[C2.mp r];exact C2.mpr rfl
 | cons d ds b=>
  obtain⟨v,vs,rfl,r1,a⟩:=v6.mp r;rw[eU,eU];exact(b a).append (RepL.one r1)
theorem CF(o:∀q,f=some q->PE X e JK)(h:(Re.thn f λ d c=>revD d c)=some i):PE X (.Subscript e (.Slice none none (some (.UnaryOp .USub (.Constant (.int 1) j p1) p2)) p3) pos) (dE X.D E δ i):=by
 cases b:f with
 | none=>rw[b]at h;cases h
 | some q=>
  rw[b]at h;have A:=CC (j:=j) (p1:=p1) (p2:=p2) (p3:=p3) (pos:=pos) (o q b);cases q with
  | ex c=>cases h;exact A.weak λ l H Q ⟨O,W,R,p⟩=>Kr
  | ok d c=>
   have r:=h;cases d<;>cases r;rename_i ds;refine A.weak λ l H Q ⟨O,W,R,p⟩=>⟨O,W,R,λ v H1 s1 g=>?_⟩;have hd:=R.hid.mono s1;obtain⟨a,m,rfl,sq,n⟩:=g.tupC hd;refine⟨a,m,rfl,sq,λ p' k=>p _ _ (Lu (t6 k)) (lu hd k (CD n))⟩
end L2
end
noncomputable section
namespace L2
open PySem PySem.Spec PyProof.Rows
theorem lF:∀a:ge DV,toPs a=a.map toP
 | []=>by rw[toPs];rfl
 | d::r=>by rw[toPs,lF r];rfl
theorem lG:∀{a:ge DV} {j:Nat},N5 y a=some j->∃h:j<a.length,deq a[j] y=true/\∀m (b:m<a.length),m<j->deq a[m] y=false
 | [],j,h=>by cases h
 | d::r,j,h=>by
  unfold N5 at h;split at h
  ·rename_i e;cases h;exact⟨Nat.succ_pos _,e,λ m _ b=>absurd b (cn _)⟩
  ·rename_i e;obtain⟨k,l,rfl⟩:=w6.mp h;obtain⟨f,i,g⟩:=lG l;refine⟨Nat.succ_lt_succ f,i,λ m b c=>?_⟩;cases m with
   | zero=>exact Bool.eq_false_iff.mpr e
   | succ m=>exact g m _ (Nat.lt_of_succ_lt_succ c)
theorem rM:∀{ds:ge DV} {m:Nat} (h:m<ds.length),DV.plains n ds=true->(ds[m]).plain n=true
 | d::r,0,_,p=>by simp[DV.plains,f7]at p;exact p.1
 | d::r,m+1,h,p=>by simp[DV.plains,f7]at p;exact rM (ds:=r) _ p.2
section
variable {X:Cx} {pins:ge (Jl×Obj)} {σ:St} {H:Hp} {s:Jk} {E:St->XK} {δ:ge Sv} {o e:Jn} {to te:TE} {apos cpos:Pos} {ra rb:Ji Re} {re:Re}
theorem rN(p:y.plain 60=true)(q:DV.plains 60 ds=true)(h:N5 y ds=some j) :
  ∃h:j<(toPs ds).length,PyData.eqv (toPs ds)[j] (toP y)=true/\∀m (c:m<(toPs ds).length),m<j->PyData.eqv (toPs ds)[m] (toP y)=false:=by
 obtain⟨f,e,a⟩:=lG h;have hl:(toPs ds).length=ds.length:=by rw[lF,g6]
 have d:∀m _ (a:m<ds.length),PyData.eqv (toPs ds)[m] _=deq ds[m] y:=λ m e a=>by
  rw[←du 60 60 ds[m] y (rM a q) p]
  congr 1
  simp[lF,List.getElem_map]
 exact⟨by omega,(d j JA f).trans e,λ m c b=>(d m c JA).trans (a m JA b)⟩
theorem CG(hu:X.A.units+64<cLine)(I:JI pins)(e:RelV x v)(d:RelV y u)(g:Rep X.D H (Kx ds) x)(f:Rep X.D H a y)(p:a.plain 60=true)(q:DV.plains 60 ds=true)(hl:ds.length<=o4)
  (h:N5 a ds=some j) (k:Q (.int j) H):wpAny JE X.A (call (.builtin "list.index") [v,u]) LD X.xe s:=by
 obtain⟨as,i⟩:=M7 I 60 p f d;obtain⟨bs,b⟩:=M7 I 61 (KS q) g e;rw[toP]at b;have c:=bB 60 _ p;have l3:=c.2;obtain⟨m,o,n⟩:=rN p q h;have l:=(lG h).1;exact SeqAt.index_list_reads b i (av 60 ds q).1 c.1 JA m (by have:o4=1000000:=rfl;omega) o n ⟨.int j,H,I.tok _,KD,k⟩
theorem CH(hu:X.A.units+64<cLine)(I:JI pins)(e:RelV x v)(d:RelV y u)(g:Rep X.D H (.tup ds) x)(f:Rep X.D H a y)(p:a.plain 60=true)(q:DV.plains 60 ds=true)
  (h:N5 a ds=some j) (k:Q (.int j) H):wpAny JE X.A (call (.builtin "tuple.index") [v,u]) LD X.xe s:=by
 obtain⟨as,i⟩:=M7 I 60 p f d;obtain⟨bs,b⟩:=M7 I 61 (KS q) g e;rw[toP]at b;have c:=bB 60 _ p;have l3:=c.2;obtain⟨l,n,m⟩:=rN p q h;exact SeqAt.index_tuple_reads b i (av 60 ds q).1 c.1 JA l n m ⟨.int j,H,I.tok _,KD,k⟩
def tIdx(X:Cx)(to te:TE):TE:=λ σ H Q=>to σ H λ x H1=>(∃ds,Rep X.D H1 (Kx ds) x/\te σ H1 λ y H2=>∃ds dy j,Rep X.D H2 (Kx ds) x/\Rep X.D H2 dy y/\dy.plain 60=true/\DV.plains 60 ds=true/\ds.length<=o4/\N5 dy ds=some j/\Q (.int j) H2) \/
 (∃ds,Rep X.D H1 (.tup ds) x/\te σ H1 λ y H2=>∃ds dy j,Rep X.D H2 (.tup ds) x/\Rep X.D H2 dy y/\dy.plain 60=true/\DV.plains 60 ds=true/\N5 dy ds=some j/\Q (.int j) H2)
theorem rO(M:X.A.units+64<cLine)(Z:PE X o to)(N:PE X e te)(g:attributeBase o "index" X.env (Ln o)=eval o X.env)(f:(apos.endLine==cpos.line)=true)(hs:starEach [e] X.env=[(Ly e)]) :
  PE X (.Call (.Attribute o "index" apos) [e] [] cpos) (tIdx X to te):=by
 intro d s m H Q I h;refine oj g (by rw[hs];rfl) f rfl (thn (Z d s m H _ I h) λ v s1 t0=>?_);obtain⟨x,O,l,F,i⟩:=t0;rcases i with⟨ds,C,i⟩ | ⟨ds,C,i⟩
 ·obtain⟨a,P,w,r,e3⟩:=J3.mp C;subst w;cases(F);obtain⟨Y,_,J,_⟩:=l.list (SqL.of r);refine⟨"list","list.index",iL,nW,PySem.F.type_list_index,J.isList.typeIs,λ b q=>?_,?_⟩
  ·cases q;obtain⟨o,n,e,c,hd,_⟩:=J;exact⟨o,e,hd⟩
  ·rw[hs];refine bT rfl (eJ (iS (thn (N d s1 m O _ l i) λ u R ⟨y,H2,E,p,z,dy,j,B,A,p1,p2,p3,S,k⟩=>iX ?_)));exact CG M E (show RelV (.ref a) _ from rfl) p B A p1 p2 p3 S k
 ·obtain⟨a,P,w,r,e3⟩:=F4.mp C;subst w;cases(F);obtain⟨K,L,W,U⟩:=l.tupleN r;refine⟨"tuple","tuple.index",PySem.F.plainAttrs_tuple,nR,PySem.F.type_tuple_index,⟨K,L,W⟩,λ b q=>?_,?_⟩
  ·cases q;exact⟨K,L,U⟩
  ·rw[hs];refine bT rfl (eJ (iS (thn (N d s1 m O _ l i) λ u R ⟨y,H2,E,p,z,dy,j,B,A,p1,p2,p3,k⟩=>iX ?_)));exact CH M E (show RelV (.ref a) _ from rfl) p B A p1 p2 p3 k
theorem CI(N:X.A.units+64<cLine)(U:∀q,ra=some q->PE X o JK)(S:∀q,rb=some q->PE X e JK)(b:attributeBase o "index" X.env (Ln o)=eval o X.env)(a:(apos.endLine==cpos.line)=true)(hs:starEach [e] X.env=[(Ly e)])
  (h:(Re.thn ra λ x _=>if seqB x then Re.thn rb λ y _=>(idxD x y).map λ d=>.ok d .strong else none)=some re):PE X (.Call (.Attribute o "index" apos) [e] [] cpos) (dE X.D E δ re):=by
 cases n:ra with
 | none=>rw[n]at h;cases h
 | some q=>
  rw[n]at h;have A:=U q n;cases q with
  | ex c=>
   cases h;exact(rO N A M6 b a hs).weak λ w H Q ⟨O,W,R,p⟩=>Kr
  | ok v cx=>
   have F:(if seqB v then Re.thn rb λ y _=>(idxD v y).map λ d=>Re.ok d .strong else none)=some re:=h;have r:seqB v=true:=by
    cases z:seqB v with
    | true=>rfl
    | false=>rw[z]at F;cases F
   rw[f8 r]at F;have u:=F;cases l:rb with
   | none=>rw[l]at u;cases u
   | some q=>
    rw[l]at u;have B:=S q l;have C:=rO N A B b a hs (apos:=apos) (cpos:=cpos);cases q with
    | ex c=>
     cases u;cases v with
     | lst k=>exact C.weak λ w H Q ⟨O,W,R,p⟩=>⟨O,W,R,λ x L s1 i=>.inl ⟨k,i.all JS,O,W,R.mono s1,λ M C m s=>p M C m (Lu s)⟩⟩
     | tup k=>exact C.weak λ w H Q ⟨O,W,R,p⟩=>⟨O,W,R,λ x L s1 i=>.inr ⟨k,i.all JS,O,W,R.mono s1,λ M C m s=>p M C m (Lu s)⟩⟩
     | _=>cases r
    | ok P cy=>
     obtain⟨d,g,Y⟩:=w6.mp u;subst Y;unfold idxD at g;split at g
     ·rename_i k;split at g
      ·rename_i m;obtain⟨j,J,rfl⟩:=w6.mp g;rw[f7,f7,A9]at m;exact C.weak λ w H Q ⟨O,W,R,p⟩=>⟨O,W,R,λ x L s1 i=>.inl ⟨k,i.all JS,O,W,R.mono s1,λ y K f I=>
        ⟨k,P,j,(i.mono f).all ((JS).mono f),(I.since s1).all ((JS).mono f),m.1.1,m.1.2,m.2,J,p _ K (Lu f) w5⟩⟩⟩
      ·cases g
     ·rename_i k;split at g
      ·rename_i m;obtain⟨j,J,rfl⟩:=w6.mp g;rw[f7,f7,A9]at m;exact C.weak λ w H Q ⟨O,W,R,p⟩=>⟨O,W,R,λ x L s1 i=>.inr ⟨k,i.all JS,O,W,R.mono s1,λ y K f I=>
        ⟨k,P,j,(i.mono f).all ((JS).mono f),(I.since s1).all ((JS).mono f),m.1.1,m.1.2,J,p _ K (Lu f) w5⟩⟩⟩
      ·cases g
     ·cases g
end
def GotR(D:Dm)(O:ge Jl)(H0 H:Hp)(d:DV)(fr:Bool)(v:V):Prop:=match fr with
 | false=>Rep D (JZ O) d v
 | true=>∃p xs ds,v=.ref p/\d=.lst ds/\H0 p=none/\H p=some (Kx xs)/\RepL D (JZ (p::O)) ds xs
def spF(D:Dm)(n:Nat)(f:ge DV->Ji Ou):Sp:=λ vs H Q E=>∃O ds o,Hdn O H/\ds.length=n/\RepL D (JZ O) ds vs/\f ds=some o /\
 (match o with | .v d fr=>∀v H',Same H H'->GotR D O H H' d fr v->Q v H' | .x c=>∀H' C,D.mg c=some C->Same H H'->E C none H')
theorem rP{ps:ge Str}{r:St->Hp->Prop}(M:∀ds o,F f ds=some o->ds.length=ps.length)(C:∀q,x=some q->PA X as Ll->PE X Z (λ σ H Q=>r σ H/\jX (spF X.D ps.length (F f)) [] E Ll σ H Q))(k:∀σ H O W,RSt X.D H σ δ O W->r σ H)(N:∀q,x=some q->PA X as Ll)
  (h:(Rs.thn x λ l=>J1 F f l)=some L):PE X Z (dE X.D E δ L):=by
 cases i:x with
 | none=>rw[i]at h;cases h
 | some q=>
  rw[i]at h;have A:=N q i
  replace C:=C q i
  cases q with
  | ex c=>cases h;exact(C A).weak λ σ H Q ⟨O,W,R,p⟩=>⟨k _ _ _ _ R,O,W,R,p⟩
  | ok l=>
   have n:J1 F f l=some L:=h;unfold J1 at n;split at n
   ·cases n
   ·rename_i c j;cases n;refine(C A).weak λ σ H Q ⟨O,W,R,p⟩=>⟨k _ _ _ _ R,O,W,R,λ vs S s1 B=>?_⟩
    have hd:=R.hid.mono s1;show spF X.D ps.length (F f) _ S Q (E σ);rw[E4];exact⟨O,_,_,hd.hdO,M _ _ j,B.repL hd,j,λ u C m s=>p u C m (Lu s)⟩
   ·rename_i d Y j;cases n;refine(C A).weak λ σ H Q ⟨O,W,R,p⟩=>⟨k _ _ _ _ R,O,W,R,λ vs S s1 B=>?_⟩
    have hd:=R.hid.mono s1;show spF X.D ps.length (F f) _ S Q (E σ);rw[E4];by_cases z:Ko=true
    ·rw[f8 z]at p;refine⟨O++W,_,_,hd.hdA,M _ _ j,B.strong hd z,j,λ v u s g=>p v u (Lu s) ?_⟩;cases Y with
     | false=>exact g
     | true=>
      obtain⟨q,w,ds,j,P,K,J,I⟩:=g;exact⟨q,w,ds,j,P,s1.free K,J,I⟩
    ·rw[g7 z]at p;refine⟨O,_,_,hd.hdO,M _ _ j,B.repL hd,j,λ v u s g=>p v u (Lu s) ?_⟩;cases Y with
     | false=>exact g
     | true=>
      obtain⟨q,w,ds,U,P,K,J,I⟩:=g;subst P;rw[fq];cases y:imL (Kx ds)with
      | true=>exact⟨q,w,ds,U,rfl,s1.free K,J,RepL.immut (λ a N=>by obtain⟨o,e,m⟩:=hd.wl a N;exact⟨o,s _ _ (hd.same _ _ e),m⟩) y I⟩
      | false=>
       exact J3.mpr ⟨q,w,U,by rw[i6 (λ z=>hd.ot q (D6 _ z) (s1.free K))];exact J,I.mono (M5 λ b hb=>n6 _ hb)⟩
theorem CJ(fo:FnOk X.prog X.w X.K X.mg X.base (CXx X.prog X.w X.base) k fa fd ps (spF X.D ps.length (F f)))(j:∀c o,F f c=some o->c.length=ps.length)(i:Room k X.A)(r:Gl X x)(m:X.mg x=some (JR fa))(n:PySem.W.keepIn X.K (JR fa)=true)
  (u:L9 X.K fd ps []) (g:W6 (CXx X.prog X.w X.base) X E) (v:∀q,rs=some q->PA X (e::es) Ll) (b:Kn=false) (hs:o7 e=false) (a:es.any o7=false)
  (h:(Rs.thn rs λ l=>J1 F f l)=some re):PE X (Kj x) (dE X.D E δ re):=by
 have plain:∀(es:ge Jn),es.any o7=false->(KO pos es).any (·.1)=false:=by
  intro es
  induction es with
  | nil=>intro _;rfl
  | cons y ys d=>
   intro q;rw[F8,O5]at q;rw[u4 q.1];show(false||(backTo pos _).any (·.1))=false;rw[d q.2];rfl
 exact rP j (λ t _ w=>(zk fo i r m n u .nil g w b (u4 hs) (plain es a)).weak λ σ H Q h=>h.2) (λ _ _ _ _ _=>trivial) v h
section
variable {X:Cx} {E:St->XK} {δ:ge Sv} {e:Jn} {es:ge Jn} {pos p:Pos} {re:Re} {rs:Ji Rs}
theorem aw:∀(es:ge Jn),es.any o7=false->(backTo pos (starEach es env)).any (·.1)=false
 | [],_=>rfl
 | y::a,q=>by rw[F8,O5]at q;rw[u4 q.1];show(false||(backTo pos _).any (·.1))=false;rw[aw a q.2];rfl
theorem CK{CX:CXT}{sp:Sp}{dvs:ge V}{ds:ge Jj}{k i:Nat}{fa:Jl}{fd:Jt}{ps:ge Str}{x:Str}{t:TA}(fo:FnOk X.prog X.w X.K X.mg X.base CX k fa fd ps sp)(hr:Room k X.A)(hv:Lx p)(hk:PySem.W.keepIn X.K (JR fa)=true)(hb:L9 X.K fd ps ds)(hd:Vals dvs ds)(hx:W6 CX X E)
  (ha:PA X (e::es) t) (he:starEach (e::es) X.env=(Ly e)::starEach es X.env:=by rfl) (hpl:(KO pos es).any (·.1)=false:=by rfl) :
  PE X (Kj x) (λ σ H Q=>σ[i]? = some (some (JR fa))/\jX sp dvs E t σ H Q):=by
 intro pins s σ H Q I h;obtain⟨h0,h⟩:=h;refine Z6 (thn (hv pins s σ H (λ v H1=>v=.ref fa/\H1=H) I ⟨_,h0,rfl,rfl⟩) λ u s1 ⟨v,H1,I1,r1,q1,q2⟩=>?_);subst q1 q2;obtain rfl:u=Value.ref fa:=r1;refine PySem.W.callWith_K (h₀:=X.base) I.ok.mod.kin hk (thn (ha pos pins s1 σ H1 _ I1 h) λ us s2 ⟨vs,H2,I2,r,q⟩=>⟨I2.kIn,?_⟩) he hpl;exact pN fo hr hb hd hx I2 r q
theorem CL{F:Nat->ge DV->Ji Ou}{i f k:Nat}{x y:Str}{fa:Jl}{fd:Jt}{ps:ge Str}(fo:FnOk X.prog X.w X.K X.mg X.base (CXx X.prog X.w X.base) k fa fd ps (spF X.D ps.length (F f)))(hn:∀ds o,F f ds=some o->ds.length=ps.length)(hr:Room k X.A)(hv:Lx p)(hm:X.mg y=some (JR fa))(hk:PySem.W.keepIn X.K (JR fa)=true)
  (hb:L9 X.K fd ps []) (hx:W6 (CXx X.prog X.w X.base) X E) (hi:δ[i]? = some (.val (.fn y))) (ha:∀q,rs=some q->PA X (e::es) Ll) (hs:o7 e=false) (hss:es.any o7=false)
  (h:(Rs.thn rs λ l=>J1 F f l)=some re):PE X (Kj x) (dE X.D E δ re):=by
 refine rP (r:=λ σ _=>σ[i]? = some (some (JR fa))) hn (λ t _ hA=>CK (p:=p) (pos:=pos) fo hr hv hk hb .nil hx hA (u4 hs) (aw es hss)) (λ σ H O W R=>?_) ha h;obtain⟨v,e1,e2⟩:=R.val i _ hi;obtain⟨g,q1,q2⟩:=lq.mp e2;have q3:X.mg y=some (.ref g):=q2;rw[hm]at q3;cases q3;rw[e1,q1]
noncomputable def biR(X:Cx)(k:ge (DV×Cl)->Ji Re):ge V->Hp->VK->Prop:=λ vs H Q=>∃l re O W H0,k l=some re/\Hid O W H0 H/\GotL X.D O W H0 H l vs/\∃d c,re=.ok d c/\∀v H',Same H H'->Got X.D O W H0 H' d c v->Q v H'
theorem gO(w:B2 X (.builtin i) (biR X k))(r:∀l a,k l=some a->∃d c,a=.ok d c)(u:Gl X x)(o:X.mg x=none)(m:bootBuiltins x=some (.builtin i))(n:x ≠ "__name__")(f:Kn=false)
  (y:∀q,rs=some q->PA X (e::es) Ll) (hs:o7 e=false) (b:es.any o7=false) (h:Rs.thn rs k=some a):PE X (Kj x) (dE X.D E δ a):=
 dm (λ _ z=>fM w u o m z n f (u4 hs) (aw es b)) y h λ O W A H vs Q l σ j v g p=>by obtain⟨d,c,rfl⟩:=r l a j;exact⟨l,_,O,W,A,j,v,g,d,c,rfl,p⟩
theorem rQ(v:B2 X (.type T) (biR X k))(o:∀l a,k l=some a->∃d c,a=.ok d c)(r:Gl X x)(n:X.mg x=none)(j:bootBuiltins x=some (.type T))(m:x ≠ "__name__")(f:Kn=false)
  (w:∀q,rs=some q->PA X (e::es) Ll) (hs:o7 e=false) (b:es.any o7=false) (h:Rs.thn rs k=some a):PE X (Kj x) (dE X.D E δ a):=
 dm (λ _ y=>pi v r n j y m f (u4 hs) (aw es b)) w h λ O W z H vs Q l σ i u g p=>by obtain⟨d,c,rfl⟩:=o l a i;exact⟨l,_,O,W,z,i,u,g,d,c,rfl,p⟩
theorem CM:∀l a,lenD l=some a->∃d c,a=.ok d c:=λ l a h=>by unfold lenD at h;split at h<;>cases h<;>exact KW
theorem CN:∀l a,minD l=some a->∃d c,a=.ok d c:=λ l a h=>by
 unfold minD at h;split at h
 ·cases h;exact KW
 ·split at h
  ·cases h;exact KW
  ·cases h
 ·split at h
  ·cases h;exact KW
  ·cases h
 ·cases h
theorem CO:∀l a,maxD l=some a->∃d c,a=.ok d c:=λ l a h=>by
 unfold maxD at h;split at h
 ·cases h;exact KW
 ·split at h
  ·cases h;exact KW
  ·cases h
 ·split at h
  ·cases h;exact KW
  ·cases h
 ·cases h
theorem ax:∀{ds:ge DV} {b:ge Int} {a:ge V},ints? ds=some b->RepL D H ds a->a=b.map V.int
 | [],b,a,h,r=>by cases h;exact C2.mp r
 | .int i::ds,b,a,h,r=>by obtain⟨ms,g,f⟩:=w6.mp h;obtain⟨v,vs,e,d,c⟩:=v6.mp r;rw[←f,e,A4,A2.mp d,(ax g c)]
 | .non::ds,b,a,h,_=>by cases h
 | .bl _::ds,b,a,h,_=>by cases h
 | .str _::ds,b,a,h,_=>by cases h
 | .tup _::ds,b,a,h,_=>by cases h
 | .lst _::ds,b,a,h,_=>by cases h
 | .dct _ _::ds,b,a,h,_=>by cases h
 | .exc _::ds,b,a,h,_=>by cases h
 | .fn _::ds,b,a,h,_=>by cases h
 | .lam _ _::ds,b,a,h,_=>by cases h
 | .scr _::ds,b,a,h,_=>by cases h
theorem rR:∀(r:ge Int) (m:Int),(minI m r=m\/minI m r∈r)/\minI m r<=m/\∀x∈r,minI m r<=x
 | [],m=>⟨.inl rfl,Int.le_refl _,λ x h=>by cases h⟩
 | y::r,m=>by
  obtain⟨b,d,a⟩:=rR r (if y<m then y else m);unfold minI;by_cases q:y<m
  ·rw[f8 q]at b d a ⊢;refine⟨.inr ?_,by omega,λ x c=>?_⟩
   ·rcases b with z | z
    ·rw[z];exact n9 ..
    ·exact n6 _ z
   ·rcases h8.mp c with z | z
    ·rwa [z]
    ·exact a x z
  ·rw[g7 q]at b d a ⊢;refine⟨b.imp id (n6 _),d,λ x c=>?_⟩;rcases h8.mp c with z | z
   · omega
   ·exact a x z
theorem rS:∀(r:ge Int) (m:Int),(maxI m r=m\/maxI m r∈r)/\m<=maxI m r/\∀x∈r,x<=maxI m r
 | [],m=>⟨.inl rfl,Int.le_refl _,λ x h=>by cases h⟩
 | y::r,m=>by
  obtain⟨c,b,a⟩:=rS r (if m<y then y else m);unfold maxI;by_cases q:m<y
  ·rw[f8 q]at c b a ⊢;refine⟨.inr ?_,by omega,λ x d=>?_⟩
   ·rcases c with z | z
    ·rw[z];exact n9 ..
    ·exact n6 _ z
   ·rcases h8.mp d with z | z
    ·rw[z];exact b
    ·exact a x z
  ·rw[g7 q]at c b a ⊢;refine⟨c.imp id (n6 _),b,λ x d=>?_⟩;rcases h8.mp d with z | z
   ·rw[z];omega
   ·exact a x z
theorem rT(g:M∈n::r)(d:∀x∈n::r,M<=x):M=minI n r:=by
 obtain⟨a,b,c⟩:=rR r n;have e:=d _ (a.elim (λ z=>by rw[z];exact n9 ..) (n6 _));have f:minI n r<=M:=by
  rcases h8.mp g with z | z
  ·rwa [z]
  ·exact c M z
 omega
theorem rV(g:M∈n::r)(d:∀x∈n::r,x<=M):M=maxI n r:=by
 obtain⟨a,b,c⟩:=rS r n;have e:=d _ (a.elim (λ z=>by rw[z];exact n9 ..) (n6 _));have f:M<=maxI n r:=by
  rcases h8.mp g with z | z
  ·rw[z];exact b
  ·exact c M z
 omega
theorem lH(x:Int):∀l:ge Int,(insI x l).Perm (x::l)
 | []=>.rfl
 | y::r=>by
  unfold insI;split
  ·exact .rfl
  ·exact(List.Perm.cons y (lH x r)).trans (List.Perm.swap x y r)
theorem rW:∀l:ge Int,(J0 l).Perm l
 | []=>.rfl
 | x::r=>(lH x _).trans (List.Perm.cons x (rW r))
theorem rX(x:Int):∀{l:ge Int},l.Pairwise (· <= ·)->(insI x l).Pairwise (· <= ·)
 | [],_=>List.pairwise_singleton _ _
 | y::r,h=>by
  obtain⟨b,c⟩:=L3.mp h;unfold insI;split
  ·rename_i q;refine L3.mpr ⟨λ z a=>?_,h⟩;rcases h8.mp a with e | e
   ·omega
   ·have:=b z e;omega
  ·rename_i q;refine L3.mpr ⟨λ z a=>?_,rX x c⟩;rcases h8.mp ((lH x r).mem_iff.mp a)with e | e
   ·omega
   ·exact b z e
theorem rY:∀l:ge Int,(J0 l).Pairwise (· <= ·)
 | []=>.nil
 | x::r=>rX x (rY r)
theorem rZ:∀{a b:ge Int},a.Perm b->a.Pairwise (· <= ·)->b.Pairwise (· <= ·)->a=b
 | [],b,p,_,_=>(List.Perm.nil_eq p)
 | x::a,b,p,f,d=>by
  cases b with
  | nil=>exact absurd p.length_eq JL
  | cons y b=>
   obtain⟨j,i⟩:=L3.mp f;obtain⟨h,g⟩:=L3.mp d;have e:x=y:=by
    rcases h8.mp (p.mem_iff.mp (n9)) with z | z
    ·exact z
    ·rcases h8.mp (p.mem_iff.mpr (n9)) with c | c
     ·exact c.symm
     ·have:=j y c;have:=h x z;omega
   subst e;rw[rZ (List.Perm.cons_inv p) i g]
theorem CP:∀l a,intD l=some a->∃d c,a=.ok d c:=λ l a h=>by
 unfold intD at h;split at h
 ·cases h;exact KW
 ·cases h;exact KW
 ·cases h
theorem CQ:∀l a,cQ l=some a->∃d c,a=.ok d c:=λ l a h=>by unfold cQ at h;split at h<;>cases h<;>exact KW
theorem CS:B2 X (.builtin "len") (biR X lenD):=by
 intro b s k H xs n Q I r h;obtain⟨l,re,O,W,H0,e,o,g,d,c,rfl,p⟩:=h;unfold lenD at e;split at e
 ·cases e;obtain⟨v,rfl,f⟩:=g.one;obtain⟨a,m,j,i,q⟩:=f.lst o;exact jL b s k H _ n Q I r ⟨a,m,by rw[j],.inl (SqL.of i),by rw[q.length];exact p _ H Kc w5⟩
 ·cases e;obtain⟨v,rfl,f⟩:=g.one;obtain⟨a,m,j,i,q⟩:=f.tup o;exact jL b s k H _ n Q I r ⟨a,m,by rw[j],.inr i,by rw[q.length];exact p _ H Kc w5⟩
 ·cases e;obtain⟨v,rfl,f⟩:=g.one;obtain⟨a,j,i⟩:=X7.mp (f.all o);exact jL b s k H _ n Q I r ⟨a,_,by rw[j],.inl i.sq,by rw[g6];exact p _ H Kc w5⟩
 ·cases e
theorem CT(w:Lb)(hu:X.A.units+1<cLine):B2 X (.builtin "min") (biR X minD):=by
 intro b s j H xs k Q I r h;obtain⟨l,re,O,W,H0,e,i,g,d,c,rfl,p⟩:=h;unfold minD at e;split at e
 ·cases e;obtain⟨v,v',rfl,f,x⟩:=g.two;exact xX w b s j H _ k Q I r ⟨_,_,by rw[f.int i,x.int i],p _ H Kc w5⟩
 ·split at e
  ·rename_i n m u;cases e;obtain⟨v,rfl,f⟩:=g.one;obtain⟨a,C,B,A,z⟩:=f.lst i;have y:=ax u z;subst y;exact Aw w b s j H _ k Q I r ⟨a,n::m,by rw[B],SqL.of A,by simp,λ M q o=>by rw[rT q o];exact p _ H Kc w5⟩
  ·cases e
 ·split at e
  ·rename_i n m u;cases e;obtain⟨v,rfl,f⟩:=g.one;obtain⟨a,C,B,A,z⟩:=f.tup i;have y:=ax u z;subst y;exact AE w b s j H _ k Q I r ⟨a,n::m,by rw[B],A,by simp,λ M q o=>by rw[rT q o];exact p _ H Kc w5⟩
  ·cases e
 ·cases e
theorem CU(u:Lb):B2 X (.builtin "max") (biR X maxD):=by
 intro b s i H xs j Q I r h;obtain⟨l,re,O,W,H0,e,hd,g,d,c,rfl,p⟩:=h;unfold maxD at e;split at e
 ·cases e;obtain⟨v,v',rfl,f,w⟩:=g.two;exact xW u b s i H _ j Q I r ⟨_,_,by rw[f.int hd,w.int hd],p _ H Kc w5⟩
 ·split at e
  ·rename_i n k q;cases e;obtain⟨v,rfl,f⟩:=g.one;obtain⟨a,B,A,z,y⟩:=f.lst hd;have x:=ax q y;subst x;exact Ax u b s i H _ j Q I r ⟨a,n::k,by rw[A],SqL.of z,by simp,λ M o m=>by rw[rV o m];exact p _ H Kc w5⟩
  ·cases e
 ·split at e
  ·rename_i n k q;cases e;obtain⟨v,rfl,f⟩:=g.one;obtain⟨a,B,A,z,y⟩:=f.tup hd;have x:=ax q y;subst x;exact AF u b s i H _ j Q I r ⟨a,n::k,by rw[A],z,by simp,λ M o m=>by rw[rV o m];exact p _ H Kc w5⟩
  ·cases e
 ·cases e
theorem CV(o:Lb):B2 X (.builtin "sum") (biR X sumD):=by
 intro b s i H xs j Q I r h;obtain⟨l,re,O,W,H0,f,n,g,d,c,rfl,p⟩:=h;unfold sumD at f;split at f
 ·obtain⟨k,m,e⟩:=w6.mp f;cases e;obtain⟨v,rfl,q⟩:=g.one;obtain⟨a,ys,y,x,w⟩:=q.lst n;have u:=ax m w;subst u;exact AG o b s i H _ j Q I r ⟨a,k,by rw[y],SqL.of x,p _ H Kc w5⟩
 ·cases f
theorem CW:bootBuiltins "sum" = some (.builtin "sum"):=by decide +kernel
theorem CY:∀l a,sumD l=some a->∃d c,a=.ok d c:=by
 intro l a h;unfold sumD at h;split at h
 ·obtain⟨_,_,e⟩:=w6.mp h;cases e;exact KW
 ·cases h
theorem CZ:bootBuiltins "sorted" = some (.builtin "sorted"):=by decide +kernel
theorem Da:bootBuiltins "set" = some (.type "set"):=by decide +kernel
theorem Db(x:Lb)(K:Gl X "sorted")(J:X.mg "sorted" = none)(n:Gl X "set")(m:X.mg "set" = none)
  (L:∀q,rs=some q->PA X [e] Ll) (hs:o7 e=false) (h:Rs.thn rs fU=some re):PE X (.Call (.Name "sorted" p) [.Call (.Name "set" u) [e] [] pos'] [] pos) (dE X.D E δ re):=
 dm (r:=λ o H Q=>(∃(a:Jl) (b:ge Int),o=[.ref a]/\SqL X.K H a _/\b.length<4000/\∀p,H p=none->∃(p1:Jl) (j:ge Int),[V.ref p]=[.ref p1]/\upd H p _ p1=some _/\j.length<64 /\
   ∀(q:Jl) (i:ge Int),upd H p _ q=none->i.Perm j->i.Pairwise (· <= ·)->Q (.ref q) _))
  (λ t M=>by
   have A:=fM (p:=p) (pos:=pos) (AB x) K J CZ (L8 (pi (p:=u) (pos:=pos') (AA x) n m Da M JB JB (u4 hs) rfl) U4) JB JB rfl rfl;exact A.weak λ z H Q h=>h) L h λ O W H0 H o Q l z d w g C=>by
  unfold fU at d;split at d
  ·split at d
   ·rename_i ds c b I;split at d
    ·rename_i y;cases d;obtain⟨v,rfl,N⟩:=g.one;obtain⟨a,ys,Y,U,S⟩:=N.lst w;have R:=ax I S;subst R;refine⟨a,b,by rw[Y],SqL.of U,y.1,λ p1 k=>⟨p1,_,rfl,u9,y.2,λ q i f F B=>?_⟩⟩;have P:=rZ (F.trans (rW _).symm) B (rY _);subst P;have s1:Same H (upd H p1 (setO X.prog X.w p1 (b.foldl dk []))):=t6 k;exact C _ _ (Lu (t6 f)) (Y0 (w.mono s1) f (gF _))
    ·cases d
   ·cases d
  ·cases d
theorem Dc:B2 X (.type "int") (biR X intD):=by
 intro a s f H xs i Q I r h;obtain⟨l,re,O,W,H0,b,j,g,d,c,rfl,p⟩:=h;unfold intD at b;split at b
 ·cases b;obtain⟨v,rfl,e⟩:=g.one;exact oV a s f H _ i Q I r (.inl ⟨_,by rw[e.int j],p _ H Kc w5⟩)
 ·cases b;obtain⟨v,rfl,e⟩:=g.one;exact oV a s f H _ i Q I r (.inr ⟨_,by rw[e.bl j],p _ H Kc w5⟩)
 ·cases b
theorem Dd:B2 X (.type "tuple") (biR X cQ):=by
 intro b s n H xs o Q I r h;obtain⟨l,re,O,W,H0,e,i,g,d,c,rfl,p⟩:=h;unfold cQ at e;split at e
 ·cases e;obtain⟨v,rfl,j⟩:=g.one;obtain⟨a,f,m,k,w⟩:=j.lstC i;exact pz b s n H _ o Q I r ⟨a,f,by rw[m],.inl ⟨SqL.of k,λ q u=>p _ _ (t6 u) (lu i u w)⟩⟩
 ·cases e;obtain⟨v,rfl,j⟩:=g.one;obtain⟨a,f,m,k,w⟩:=j.tupC i;exact pz b s n H _ o Q I r ⟨a,f,by rw[m],.inr ⟨k,p _ _ Kc Kz⟩⟩
 ·cases e
end
noncomputable def tyS:DV->Ji Jz
 | .non=>some "NoneType" | .bl _=>some "bool" | .int _=>some "int" | .str _=>some "str" | .tup _=>some "tuple" | .lst _=>some "list" | .dct _ _=>some "dict"
 | _=>none
noncomputable def se(T t:Jz):Ji Bool:=if(Value.type T==Value.type t)=true then some true else if PySem.W.kitMeta t=true then(fastBuiltinMro T).map (·.contains (.type t))else none
theorem De:(["NoneType","bool","int","str","tuple","list","dict"]:ge Jz).all (λ T=>(["int","bool","str","list","tuple","dict"]:ge Jz).all λ t=>se T t==some (T==t||(T == "bool" && t == "int")))=true:=by decide +kernel
theorem Y1{K:Ju}(T t:Jz)(b:T∈["NoneType","bool","int","str","tuple","list","dict"])(a:t∈["int","bool","str","list","tuple","dict"]) :
  PySem.W.kitOne K (.type T) (.type t)=some (T==t||(T == "bool" && t == "int")):=by
 exact(show se T t=_ from by simpa using (F6.mp (F6.mp De T b) t a))
section
variable {X:Cx} {E:St->XK} {δ:ge Sv} {e e':Jn} {pos p p':Pos} {re:Re} {ra:Ji Re}
theorem Df(I:JI l)(r:Rep X.D H d v)(c:RelV v u)(e:tyS d=some T)(f:t∈["int","bool","str","list","tuple","dict"])
  (h:∀tk,Q (.bool (T==t||(T == "bool" && t == "int"))) {s with toks:=tk}):wpAny JE X.A (call (.builtin "isinstance") [u,.type t]) Q A s:=by
 cases d with
 | non=>cases e;rw[X6.mp r]at c;cases c;exact V9 PySem.W.kitx_none I.kIn True.intro (Y1 _ _ JL f) Ky h
 | bl b=>cases e;rw[au.mp r]at c;cases c;exact V9 PySem.W.kitx_bool I.kIn True.intro (Y1 _ _ JL f) Ky h
 | int b=>cases e;rw[A2.mp r]at c;obtain⟨tk,rfl⟩:=c;exact V9 PySem.W.kitx_int I.kIn True.intro (Y1 _ _ JL f) Ky h
 | str b=>cases e;rw[(bx.mp r).1]at c;obtain⟨tk,rfl⟩:=c;exact V9 PySem.W.kitx_str I.kIn True.intro (Y1 _ _ JL f) Ky h
 | tup y=>
  cases e;obtain⟨a,w,k,j,x⟩:=F4.mp r;rw[k]at c;cases c;obtain⟨q,_,⟨o,i,m,_⟩,_⟩:=I.tuple j;exact V9 PySem.W.kitx_tuple I.kIn ⟨o,i,m⟩ (Y1 _ _ JL f) Ky h
 | lst y=>
  cases e;obtain⟨a,w,k,j,x⟩:=J3.mp r;rw[k]at c;cases c;obtain⟨_,q,n,_,_,i⟩:=I.lstM j;exact V9 PySem.W.kitx_list I.kIn ⟨_,i,rfl⟩ (Y1 _ _ JL f) Ky h
 | dct ks vs=>
  cases e;rcases P8.mp r with⟨a,p,g,k,j,_⟩ | ⟨a,p,g,k,j,_⟩
  ·rw[k]at c;cases c;obtain⟨_,_,_,_,_,⟨o,_,_,i,m,_⟩⟩:=(show t9 X.prog X.w H s.heap a (.frz p (.dK g))from I.hok a _ j);exact V9 PySem.W.kitx_dict I.kIn ⟨o,i,m.1⟩ (Y1 _ _ JL f) Ky h
  ·rw[k]at c;cases c;obtain⟨_,_,_,_,_,o,_,_,i,m,_⟩:=(show t9 X.prog X.w H s.heap a (.frz p (.dT g))from I.hok a _ j);exact V9 PySem.W.kitx_dict I.kIn ⟨o,i,m.1⟩ (Y1 _ _ JL f) Ky h
 | exc _=>cases e
 | fn _=>cases e
 | lam _ _=>cases e
 | scr _=>cases e
def rIsi(X:Cx):ge V->Hp->VK->Prop:=λ xs H Q=>∃d T t x,xs=[x,.ty t]/\Rep X.D H d x/\tyS d=some T/\t∈["int","bool","str","list","tuple","dict"]/\Q (.bl (T==t||(T == "bool" && t == "int"))) H
theorem Dg:B2 X (.builtin "isinstance") (rIsi X):=by
 intro b s σ H xs us Q I r h;obtain⟨d,T,t,x,rfl,f,i,g,q⟩:=h;obtain⟨u,w',rfl,e,a⟩:=fL r;cases a;exact Df I f e i g λ c=>⟨.bl _,H,I.tok c,rfl,q⟩
noncomputable def bE:Str->Ji Jz:=λ x=>(["int","bool","str","list","tuple","dict"]:ge Jz).find? λ t=>Str.ofString t==x
theorem sh(h:bE x=some t):bootBuiltins x=some (.type t)/\t∈["int","bool","str","list","tuple","dict"]/\Str.ofString t=x:=by
 unfold bE at h;have a:=iI h;have b:Str.ofString t=x:=by simpa using (jp h)
 refine⟨?_,a,b⟩;subst b;simp[h8,T8,U2]at a;rcases a with rfl | rfl | rfl | rfl | rfl | rfl
 ·exact boot_int
 ·exact boot_bool
 ·exact boot_str
 ·exact boot_list
 ·exact boot_tuple
 ·exact boot_dict
noncomputable def si:Jz->ge Str
 | "NoneType"=>["NoneType"] | "bool"=>["bool","int"] | "int"=>["int"] | "str"=>["str"] | "tuple"=>["tuple"] | "list"=>["list"] | "dict"=>["dict"]
 | _=>[]
theorem Dh:(["NoneType","bool","int","str","tuple","list","dict"]:ge Jz).all (λ T=>(["int","bool","str","list","tuple","dict"]:ge Jz).all λ t=>(si T).contains (Str.ofString t)==(T==t||(T == "bool" && t == "int")))=true:=by decide +kernel
theorem Di(h:bE x=some t)(b:tyS d=some T):(tyOf d).contains x=(T==t||(T == "bool" && t == "int")):=by
 obtain⟨_,e,c⟩:=sh h;subst c;have a:∀T∈_,(si T).contains _=(T==t||_):=λ T b=>by have q:=F6.mp (F6.mp Dh T b) t e;simpa using q
 cases d<;>cases b
 ·exact a "NoneType" JL
 ·exact a "bool" JL
 ·exact a "int" JL
 ·exact a "str" JL
 ·exact a "tuple" JL
 ·exact a "list" JL
 ·exact a "dict" JL
theorem Dj(n:bE x=some t)(F:Gl X "isinstance")(z:X.mg "isinstance" = none)(j:Gl X x)(i:X.mg x=none)(g:x ≠ "__name__")(l:Kn=false)
  (I:∀q,ra=some q->PE X e JK) (hs:o7 e=false) (h:(Re.thn ra λ y _=>(isiD G y [x]).map λ k=>.ok (.bl k) .strong)=some re):PE X (.Call (.Name "isinstance" p) [e,.Name x p'] [] pos) (dE X.D E δ re):=by
 obtain⟨N,m,M⟩:=sh n;have T:PE X (.Name x p') (tC (.ty t)):=oH j i N rfl g l;have C:=λ u (J:PE X e u)=>fM (p:=p) (pos:=pos) Dg F z boot_isinstance (L8 J (L8 T U4) (u4 hs)) JB JB (u4 hs)
 cases a:ra with
 | none=>rw[a]at h;cases h
 | some q=>
  rw[a]at h;have A:=I q a;cases q with
  | ex c=>cases h;exact(C _ A).weak λ r H Q ⟨O,W,R,p⟩=>Kr
  | ok d cl=>
   obtain⟨k,b,L⟩:=w6.mp (h);cases L;have f:∃T,tyS d=some T/\k=(tyOf d).contains x:=by
    unfold isiD at b;have w:W8.contains x=true:=by
     rw[←M];simp only[h8,T8,U2]at m;rcases m with rfl | rfl | rfl | rfl | rfl | rfl<;>decide +kernel
    cases d<;>first
     | (simp only[w,if_true]at b;cases b;exact⟨_,rfl,rfl⟩)
     | cases b
   obtain⟨T,o,B⟩:=f;exact(C _ A).weak λ r H Q ⟨O,W,R,p⟩=>⟨O,W,R,λ v P s1 K=>⟨d,T,t,v,rfl,K.all JS,o,m,by rw[←Di n o,←B];exact p _ P s1 X9⟩⟩
end
theorem Dk(a:Str):L6 (a ++ "<lambda>")=false:=by
 have c:∀b:Str,b.cps.toList.getLast? = some 102->(a++_==b)=false:=λ b d=>by
  rw[z8];intro z;rw[←z]at d;have e:(a++("<lambda>" : Str)).cps.toList.getLast? = some 62:=by show(a.cps++("<lambda>" : Str).cps).toList.getLast? = _;rw[bY,List.getLast?_append];rfl
  rw[e]at d;cases d
 unfold L6;rw[c _ rfl,c _ rfl];rfl
theorem lI:∀(l:ge Jj),TriplesOk l->(∃i t,a=.int i t)->(∃i t,b=.int i t)->codeAmong pos' (l++[a,b,c])=some cv->codeAmong pos' l=some cv\/cv=c
 | [],_,⟨i,t,k⟩,⟨j,u,g⟩,h=>by
  subst k g;have d:(if i==pos'.line&&j==pos'.col then some c else codeAmong pos' [])=some cv:=h;split at d
  ·exact .inr (B0 d).symm
  ·cases d
 | .int i t :: .int j u::x::r,ok,f,e,h=>by
  have d:(if i==pos'.line&&j==pos'.col then some x else codeAmong pos' _)=some cv:=h;show(if i==pos'.line&&j==pos'.col then some x else codeAmong pos' r)=some cv\/cv=c;split at d
  ·rename_i z;rw[f8 z];exact .inl d
  ·rename_i z;rw[g7 z];exact lI r ok f e d
theorem lJ(e:∃i t,a=.int i t)(d:∃i t,b=.int i t):∀(l:ge Jj),TriplesOk l->TriplesOk (l++[a,b,c])
 | [],_=>by obtain⟨i,t,rfl⟩:=e;obtain⟨j,u,rfl⟩:=d;exact trivial
 | .int i t :: .int j u::x::r,ok=>lJ e d r ok
structure LamAt(X:Cx)(scope:Scope)(c P:Addr):Prop where
 code:X.env.code=.ref c
 hd:∀{pins:List (Addr×Obj)} {σ:List (Option V)} {H:Hp} {s:Shared},Inv X pins σ H s->PySem.W.CodeHd s.heap c P
 tab:∀{pins:List (Addr×Obj)} {σ:List (Option V)} {H:Hp} {s:Shared},Inv X pins σ H s->H P=some (.tbl Lc)
 fre:∀y∈scope.names,y.2=NameKind.free->X.env.kindOf y.1=some .cell\/X.env.kindOf y.1=some .free
theorem LamAt.has(L:LamAt X scope c P)(ok:X.Ok):∀y∈scope.names,y.2=NameKind.free->∃a,X.env.cells.lookup y.1=some a:=λ y b d=>ok.has y.1 (L.fre y b d)
theorem Dl(I:JI r)(L:LamAt X scope c P)(a3:defaultsOf g X.env=([],[]))
  (h:∀f k s',Inv X r σ k s'->Same H k->H f=none->O1 k Lc g body scope (o5 X.env.cells scope.names []) f->Q (.ref f) s') :
  wpAny M A (Ln (.Lambda g body scope pos)) Q E s:=by
 refine PySem.W.kla_eval a3 ?_;have hP:=L.tab I;obtain⟨ps,hp,ht,x⟩:=I.hok _ _ hP;have a5:=fO (scope:=scope) (env:=X.env) (L.has I.ok);have hg:s.heap.Ns mainGlobals X.mg:=I.ok.mod.glob.keeps I.bk;have c0:mainGlobals≠P:=λ z=>by obtain⟨o,es,ep,e,d,_⟩:=hg;rw[z,hp]at e;cases e;cases d
 obtain⟨bm,ob,b1,b2,b3,b4,b5,b6⟩:=I.ok.mod.bmod;have p:=I.bs _ _ b3;have c1:bm≠P:=λ z=>by rw[z,hP]at p;cases p.2
 have c3:bm≠mainGlobals:=λ z=>by obtain⟨o,es,ep,e,d,_⟩:=hg;rw[←z,p.1]at e;cases e;rw[b6]at d;cases d
 have hb:s.heap.BuiltinsAt X.mg P:=⟨bm,ob,b1,b2,c3,c1,p.1,b4,b5,b6⟩;have C:=L.hd I;cases hf:codeAmong pos ps.toList with
 | some cv=>
  obtain⟨j,N,u,vs,t,e1,e2,e3,e4⟩:=x pos cv hf;subst e1;refine PySem.W.kla_makeFunctionHit (mg:=X.mg) a5 I.ok.glob hg L.code C hp ht hf hb λ m i tk hk W=>?_
  have hn:H i.objs.size=none:=I.hok.fresh W;refine h _ (upd H i.objs.size (.frz _ (.own i.objs.size))) _ (I.laid (t':=tk) (λ b u e=>i3 _ (hk b u e)) W ⟨q0 _ rfl,_,q0 _ rfl⟩) (t6 hn) hn ?_;refine⟨j,N,u,vs,t,_,m,u9,?_,e3,e4.1⟩;rw[i9 (y9 e2 hn)];exact e2
 | none=>
  refine PySem.W.kla_makeFunction (mg:=X.mg) a5 I.ok.glob hg L.code C hp ht hf c0 hb λ j m i tk hx l B Y U=>?_;obtain⟨c5,N,vs,t,e2,Z,hd,hv⟩:=Y;cases e2;have b9:H j=none:=I.hok.fresh l;have a0:H i.objs.size=none:=I.hok.fresh (i7 l (U0 B));have S:∀{b:Jl} {u:HO},H b=some u->b≠j/\b≠i.objs.size:=λ e=>⟨y9 e b9,y9 e a0⟩;have v:∀{b:Jl} {o:Obj},s.heap.get? b=some o->b≠j/\b≠i.objs.size:=λ {b o} e=>⟨p6 (r9 (j9 e) l),p6 (r9 (j9 e) (i7 l (U0 B)))⟩;generalize a2:PySem.W.kla_obj "<lambda>" Lc g body scope _ _ j m=fo;have a1:fo.isFreed=false:=by rw[←a2];rfl
  generalize F:upd (upd H j (.frz N (.own j))) i.objs.size (.frz fo (.own i.objs.size))=k;have a8:k i.objs.size=some (.frz fo (.own i.objs.size)):=by rw[←F];exact u9
  have at2:k j=some (.frz N (.own j)):=by rw[←F,i9 (p6 B)];exact u9
  have K:∀{b:Jl},b≠j->b≠i.objs.size->k b=H b:=λ h1 h2=>by rw[←F,i9 h2,i9 h1]
  have sm:Same H k:=λ b o e=>by rw[K (S e).1 (S e).2];exact e
  have kp:∀b o,b≠P->s.heap.get? b=some o->(i.push fo).get? b=some o:=λ b o hb e=>i3 _ (hx b o hb e);have a6:∀b,H b=none->b≠P:=λ b n z=>by rw[z,hP]at n;cases n
  have un:Un X.fs [] H k s.heap (i.push fo):=by
   refine⟨λ b o e n _ _=>kp b o (a6 b n) e,λ b o e n _ _=>⟨o.slots,kp b o (a6 b n) e⟩,λ b o e n _=>by rw[K (v e).1 (v e).2];exact n,λ b o e _=>?_,λ b xs e=>sm _ _ e,λ b o u e=>sm _ _ e,λ b q e=>sm _ _ e⟩;by_cases z:b=P
   ·subst z;exact⟨_,i3 _ U⟩
   ·exact⟨o,kp b o z e⟩
  have b8:HOk X.prog X.w k (i.push fo):=λ b u e=>by
   by_cases z1:b=i.objs.size
   ·subst z1;rw[a8]at e;cases e;exact⟨q0 _ a1,_,q0 _ a1⟩
   ·by_cases z2:b=j
    ·subst z2;rw[at2]at e;cases e;exact⟨i3 _ Z,_,i3 _ Z⟩
    ·rw[K z2 z1]at e;by_cases z3:b=P
     ·subst z3;rw[hP]at e;cases e;refine⟨_,i3 _ U,?_,λ R cv a4=>?_⟩
      ·rw[bY];exact lJ KW KW _ ht
      ·rw[bY]at a4;rcases lI (a:=rawInt pos.line) (b:=rawInt pos.col) (c:=.ref j) ps.toList ht KW KW a4 with w | w
       ·obtain⟨c2,b0,u2,a9,t2,f1,f2,f3,f4⟩:=x R cv w;refine⟨c2,b0,u2,a9,t2,f1,sm _ _ f2,f3,f4.1,λ y=>?_⟩;obtain⟨y0,T,a7,tf,J,tg,b7,O,tt,y1,y2,y3,y4,y5,y6,y7,y8⟩:=f4.2 y;exact⟨y0,T,a7,tf,J,tg,b7,O,tt,y1,y2,y3,y4,y5,y6,y7,sm _ _ y8⟩
       ·exact⟨j,N,_,vs,t,w,at2,hd,hv,λ y=>by rw[show L6 Lc=false from Dk _]at y;cases y⟩
     ·refine(I.hok b u e).stay (λ b' u' c4 q=>kp b' u' ?_ q) (λ b' q=>sm _ _ q) (λ b' xs q=>sm _ _ q) (λ b' xs q=>sm _ _ q) λ b' _ _ _ _ q=>sm _ _ q;rcases c4 with w | w
      ·rw[w];exact z3
      ·intro z;rw[z,hP]at w;cases w
  refine h i.objs.size k _ (I.un (t':=tk) un b8) sm a0 ⟨j,N,_,vs,t,(X.mg "__name__").getD .none,m,by rw[a8,←a2],at2,hd,hv⟩
end L2
namespace L2
open PySem PySem.Spec PyProof.Rows
noncomputable def trC(l:ge Jl)(h:Jm)(H:Hp):Hp:=λ b=>if b∈l then(h.get? b).map λ o=>HO.frz o (.own b)else H b
theorem Y2(a:b∈l)(e:h.get? b=some o):trC l h H b=some (.frz o (.own b)):=by
 unfold trC;rw[f8 a,e];rfl
theorem ay(a:b∉l):trC l h H b=H b:=g7 a
structure Cells(l:List Addr)(h:Heap)(H:Hp):Prop where
 none:∀c∈l,H c=none
 cel:∀c∈l,∃o v,h.get? c=some o/\o.data=.cell v
section
variable {P:Jq} {w:Jp} {K:Ju} {mg:Str->Ji Jj} {base:Jm} {A:Jr} {outer:ge Env} {s s':Jk} {H:Hp} {l:ge Jl} {Q Q':VK} {u:Jj}
theorem Cells.same(C:Cells l s.heap H):Same H (trC l s.heap H):=λ b o e=>by
 rw[ay λ z=>by rw[C.none b z]at e;cases e];exact e
theorem HOk.trC(C:Cells l s.heap H)(x:HOk P w H s.heap):HOk P w (trC l s.heap H) s.heap:=λ b u e=>by
 by_cases hb:b∈l
 ·obtain⟨o,v,g,_⟩:=C.cel b hb;rw[Y2 hb g]at e;cases e;exact⟨g,o,g⟩
 ·rw[ay hb]at e;exact(x b u e).stay (λ _ _ _ q=>q) (λ _ q=>C.same _ _ q) (λ _ _ q=>C.same _ _ q) (λ _ _ q=>C.same _ _ q) λ _ _ _ _ _ q=>C.same _ _ q
theorem Env0.trC(C:Cells l s.heap H)(hb:∀c∈l,base.get? c=none)(hf:∀c∈l,c∉frs outer)(e:Env0 P w K mg base A outer s H):Env0 P w K mg base A outer s (trC l s.heap H):=
 ⟨e.frames,e.mod,λ b o q=>⟨(e.bs b o q).1,by rw[ay λ z=>by rw[hb b z]at q;cases q];exact(e.bs b o q).2⟩,e.bsz,e.funs,⟨λ b q=>by rw[ay λ z=>hf b z q];exact e.frf.1 b q,λ p hp=>C.same _ _ (e.frf.2 p hp)⟩,HOk.trC C e.hok,e.bare⟩
theorem CE.trC(C:Cells l s.heap H)(h:CE outer P w (trC l s.heap H) s Q' u s')(hq:∀v H',Same (trC l s.heap H) H'->Q' v H'->Q v (L2.wo l H'))(hs:∀v H',Q' v H'->Same (trC l s.heap H) H'):CE outer P w H s Q u s':=by
 obtain⟨v,H',os,bare,un,hok,r,q⟩:=h;have at1:∀{b:Jl},b∈l->∃o v,s.heap.get? b=some o/\o.data=.cell v/\H' b=some (.frz o (.own b))/\s'.heap.get? b=some o:=λ {b} hb=>by obtain⟨o,v,g,d⟩:=C.cel b hb;have z:=un.frzs b o _ (Y2 hb g);exact⟨o,v,g,d,z,(hok b _ z).1⟩
 refine⟨v,L2.wo l H',os,bare,⟨λ b o e n hf hx=>?_,λ b o e n hf hx=>?_,λ b o e n hx=>?_,un.there,λ b xs e=>?_,λ b o x e=>?_,λ b x e=>?_⟩,λ b x e=>?_,r,hq v H' (hs v H' q) q⟩
 ·by_cases hb:b∈l
  ·obtain⟨o',_,g,_,_,g'⟩:=at1 hb;rw[e]at g;cases g;exact g'
  ·exact un.keep b o e (by rw[ay hb];exact n) hf hx
 ·by_cases hb:b∈l
  ·obtain⟨o',_,g,_,_,g'⟩:=at1 hb;rw[e]at g;cases g;exact⟨o.slots,g'⟩
  ·exact un.slot b o e (by rw[ay hb];exact n) hf hx
 ·by_cases hb:b∈l
  ·exact X8 hb
  ·rw[i6 hb];exact un.free b o e (by rw[ay hb];exact n) hx
 ·rw[i6 λ z=>by rw[C.none b z]at e;cases e];exact un.tups b xs (C.same _ _ e)
 ·rw[i6 λ z=>by rw[C.none b z]at e;cases e];exact un.frzs b o x (C.same _ _ e)
 ·rw[i6 λ z=>by rw[C.none b z]at e;cases e];exact un.tbls b x (C.same _ _ e)
 ·obtain⟨hb,e⟩:=A6 e;refine(hok b x e).stay (λ _ _ _ q=>q) (λ b' q=>?_) (λ b' _ q=>?_) (λ b' _ q=>?_) λ b' o' _ vs d q=>?_
  ·rw[i6 λ z=>by obtain⟨_,_,_,_,g,_⟩:=at1 z;rw[q]at g;cases g];exact q
  ·rw[i6 λ z=>by obtain⟨_,_,_,_,g,_⟩:=at1 z;rw[q]at g;cases g];exact q
  ·rw[i6 λ z=>by obtain⟨_,_,_,_,g,_⟩:=at1 z;rw[q]at g;cases g];exact q
  ·rw[i6 λ z=>by obtain⟨_,_,_,d',g,_⟩:=at1 z;rw[q]at g;cases g;rw[d]at d';cases d'];exact q
structure CellsT(l:List Addr)(h:Heap)(H:Hp):Prop where
 at_:∀c∈l,∃o v,H c=some LL/\h.get? c=some o/\o.data=.cell v
noncomputable def ov(l:ge Jl)(H H':Hp):Hp:=λ b=>if b∈l then H b else H' b
theorem gP(h:b∈l):ov l H a b=H b:=f8 h
theorem S5(h:b∉l):ov l H a b=a b:=g7 h
theorem HOk.woC(C:CellsT l s.heap H)(x:HOk P w H s.heap):HOk P w (JZ l) s.heap:=λ b u e=>by
 obtain⟨hb,e⟩:=A6 e;refine(x b u e).stay (λ _ _ _ q=>q) (λ a q=>?_) (λ a _ q=>?_) (λ a _ q=>?_) λ a o' _ vs d q=>?_
 ·rw[i6 λ z=>by obtain⟨_,_,g,_⟩:=C.at_ _ z;rw[q]at g;cases g];exact q
 ·rw[i6 λ z=>by obtain⟨_,_,g,_⟩:=C.at_ _ z;rw[q]at g;cases g];exact q
 ·rw[i6 λ z=>by obtain⟨_,_,g,_⟩:=C.at_ _ z;rw[q]at g;cases g];exact q
 ·rw[i6 λ z=>by obtain⟨_,_,g,_,c⟩:=C.at_ _ z;rw[q]at g;cases g;rw[d]at c;cases c];exact q
theorem CE.woC(C:CellsT l s.heap H)(m:∀b∈frs outer,H b=none)(h:CE outer P w (JZ l) s Q' u s')(J:∀v i,(∀c∈l,i c=none)->Q' v i->Q v (ov l H i)):CE outer P w H s Q u s':=by
 obtain⟨v,i,F,p,un,A,r,q⟩:=h;have I:∀c∈l,c∉frs outer:=λ c y z=>by obtain⟨_,_,g,_⟩:=C.at_ c y;rw[m c z]at g;cases g
 have f:∀c∈l,i c=none:=λ c y=>by obtain⟨o,_,_,g,_⟩:=C.at_ c y;exact un.free c o g (X8 y) JL
 refine⟨v,ov l H i,F,p,⟨λ b o e n m j=>?_,λ b o e n m j=>?_,λ b o e n j=>?_,un.there,λ b E e=>?_,λ b o x e=>?_,λ b x e=>?_⟩,λ b x e=>?_,r,J v i f q⟩
 ·have a:b∉l:=λ z=>by obtain⟨_,_,g,_⟩:=C.at_ b z;rw[n]at g;cases g
  exact un.keep b o e (by rw[i6 a];exact n) m j
 ·have a:b∉l:=λ z=>by obtain⟨_,_,g,_⟩:=C.at_ b z;rw[n]at g;cases g
  exact un.slot b o e (by rw[i6 a];exact n) m j
 ·have a:b∉l:=λ z=>by obtain⟨_,_,g,_⟩:=C.at_ b z;rw[n]at g;cases g
  rw[S5 a];exact un.free b o e (by rw[i6 a];exact n) j
 ·have a:b∉l:=λ z=>by obtain⟨_,_,g,_⟩:=C.at_ b z;rw[e]at g;cases g
  rw[S5 a];exact un.tups b E (by rw[i6 a];exact e)
 ·by_cases a:b∈l
  ·rw[gP a];exact e
  ·rw[S5 a];exact un.frzs b o x (by rw[i6 a];exact e)
 ·have a:b∉l:=λ z=>by obtain⟨_,_,g,_⟩:=C.at_ b z;rw[e]at g;cases g
  rw[S5 a];exact un.tbls b x (by rw[i6 a];exact e)
 ·by_cases a:b∈l
  ·rw[gP a]at e;obtain⟨o,_,g,K,_⟩:=C.at_ b a;rw[g]at e;cases e;have k:=un.keep b o K (X8 a) (I b a) JL;exact⟨k,o,k⟩
  ·rw[S5 a]at e;refine(A b x e).stay (λ _ _ _ q=>q) (λ B q=>?_) (λ B _ q=>?_) (λ B _ q=>?_) λ B o' _ vs d q=>?_
   all_goals (rw[S5 λ z=>by rw[f _ z]at q;cases q];exact q)
end
noncomputable def S6(P:Jq)(w:Jp)(K:Ju)(mg:Str->Ji Jj)(base:Jm)(N:ge Str)(qual:Str)(scope:Jv)(f:Jl)(cd:Jj)(cl:ge (Str×Jl))(A:Jr)(outer:ge Env)(s:Jk)(H:Hp):Cx where
 prog:=P
 w:=w
 K:=K
 mg:=mg
 base:=base
 A:=A.deeper (PySem.W.envX qual scope s.heap.objs.size f cd cl)
 N:=N
 s₀:=s
 H₀:=H
 env:=PySem.W.envX qual scope s.heap.objs.size f cd cl
 outer:=outer
 stack:=PySem.W.envX qual scope s.heap.objs.size f cd cl::outer
 ex:=[]
 calm:=true
 fn:=λ _=>false
 pn:=[]
 xe:=λ _ _=>False
theorem Do{P:Jq}{w:Jp}{K:Ju}{mg:Str->Ji Jj}{base:Jm}{A:Jr}{outer:ge Env}{s:Jk}{H:Hp}{l:ge Jl}{N ps:ge Str}{q:Str}{scope:Jv}{cl:ge (Str×Jl)}{f:Jl}{us:ge Jj}{vs ws:ge V}{cd:Jj}{h₁:Jm}{tk:Nat}(S:LamScope N ps scope cl l)(C:CellsT l s.heap H)(hd:KR)(e0:Env0 P w K mg base A outer s H)(hl:vs.length=ps.length)(r:Vals vs us)(hlen:N.length=ps.length+ws.length)
  (hw:Kl)
  (hns:h₁.Ns s.heap.objs.size (λ x=>(ps.zip us).reverse.lookup x)) (hk:∀b o,s.heap.get? b=some o->h₁.get? b=some o) :
  Inv (S6 P w K mg base N q scope f cd cl A outer s (JZ l)) [] ((vs++ws).map some) (JZ l) {s with heap:=h₁,toks:=tk}:=by
 have nl:∀{b:Jl},H b=none->b∉l:=λ {b} n z=>by obtain⟨_,_,g,_⟩:=C.at_ b z;rw[n]at g;cases g
 have noA:∀b:Jl,b∉(S6 P w K mg base N q scope f cd cl A outer s (JZ l)).ex:=λ b z=>absurd (show b∈([]:ge Jl)from z) JL;have wn:∀{b:Jl},H b=none->L2.wo l H b=none:=λ {b} n=>by rw[i6 (nl n)];exact n
 have cellAt:∀x c,cl.lookup x=some c->∃v,h₁.IsCell c v:=λ x c e=>by obtain⟨o,v,_,g,d⟩:=C.at_ c (S.mem x c e);exact⟨v,o,hk _ _ g,d⟩
 refine⟨⟨e0.mod,S.kind,rfl,rfl,i8 _,S.inj,λ y hy=>?_,λ y c z=>(nomatch z),λ _=>hd,iP e0.frames,.inr ⟨rfl,rfl⟩,λ b z=>absurd z (noA b),λ b o e=>⟨(e0.bs b o e).1,wn (e0.bs b o e).2⟩,e0.bsz,λ b _ _=>noA b,λ b z=>absurd z (noA b),e0.funs,λ b hb=>wn (e0.frf.1 b hb),λ p hp=>?_⟩,
  rfl,e0.bare,Un.kept hk,⟨_,hns,λ i y v h1 h2 h3=>?_⟩,cellAt,?_,λ y c h=>X8 (S.mem y c h),λ p hp=>absurd (show p∈([]:ge (Jl×Obj))from hp) JL,(HOk.woC C e0.hok).kept hk,?_⟩
 ·have hy:scope.names.lookup y=some .cell\/scope.names.lookup y=some .free:=hy;rcases hy with hy | hy
  ·exact absurd rfl (S.nocell _ (B4 hy))
  ·exact S.has y hy
 ·have z:=e0.frf.2 p hp;show L2.wo l H p.1=_;rw[i6 λ m=>by obtain⟨_,_,g,_⟩:=C.at_ _ m;rw[z]at g;cases g];exact z
 ·have h1:N[i]? = some y:=h1;rw[p5]at h2;have h2':(vs++ws)[i]? = some v:=by
   cases z:(vs++ws)[i]? with
   | none=>rw[z]at h2;cases h2
   | some a=>rw[z]at h2;exact congrArg some (B0 (B0 h2))
  by_cases hi:i<ps.length
  ·rw[O3 JA]at h2';obtain⟨u,hu,rv⟩:=r.get h2';have hp:ps[i]? = some y:=by rw[←S.pre,aN hi];exact h1
   have ndP:ps.Nodup:=by rw[←S.pre];exact S.nd.sublist (eT _ _)
   refine⟨u,rv,.inl ⟨S.par y (J9 hp),?_⟩⟩;show(ps.zip us).reverse.lookup y=some u;have nd2:((ps.zip us).reverse.map (·.1)).Nodup:=by rw[aW,List.map_fst_zip (by have:=r.length;omega)];exact oC.mpr (jd (λ h=>Ne.symm h) ndP)
   refine W5 nd2 (V7.mpr ?_);have hz:(ps.zip us)[i]? = some (y,u):=by rw[eg];exact⟨hp,hu⟩
   exact J9 hz
  ·rw[Q4 JA]at h2';obtain⟨c,u,e1,e2,e3⟩:=hw (i - vs.length) y v (by rw[show ps.length+(i - vs.length)=i by omega];exact h1) h2';exact⟨u,e3,.inr ⟨.inr (S.fre i y JA h1),c,e1,e2.keeps hk⟩⟩
 ·show L2.wo l H s.heap.objs.size=none;exact wn (e0.hok.fresh (i8 _))
 ·show((vs++ws).map some).length=N.length;rw[g6,t5];omega
theorem Dp{K:Ju}(S:LamScope N ps scope cl l)(C:CellsT l s.heap H)(M:A.depth<recursionLimit/\A.handled=none)(m:Env0 P w K mg base A outer s H)(hf:O1 H q params body scope cl f)
  (h:∀B a j,bindArgs (PySem.W.kla_fn "<lambda>" q params body scope cl B (.ref a) j) ⟨us,[]⟩=pure (ps.zip us)) (hl:vs.length=ps.length) (r:Vals vs us) (p:N.length=ps.length+ws.length)
  (Y:Kl)
  (g:∀a,∃t,PE (S6 P w K mg base N q scope f (.ref a) cl A outer s (JZ l)) body t/\t ((vs++ws).map some) (JZ l) (λ v k=>(∀c∈l,k c=none)->Q v (ov l H k))) :
  codeAny Lv A (.call (.ref f) ⟨us,[]⟩) (CR CX outer P w H s Q E) s:=by
 obtain⟨a,W,u,y,t,B,j,h1,h2,h3,h4⟩:=hf;refine PySem.W.kla_callFunE M.1 ((m.hok f _ h1).1) rfl S.co S.gen rfl ⟨a,W,y,t,rfl,((m.hok a _ h2).1),h3,h4⟩ ?_;show wpAny _ _ _ _ _ s;rw[h B a j];refine f9 (wpAny_newFunctionEnv S.nocell (λ x X=>S.par x.1 (cg X).1) (λ L I n=>⟨(m.mod.nolimit.keeps λ b o e=>(m.bs b o e).1).fresh _ n,?_⟩) S.kind);show codeAny _ _ _ _ _;obtain⟨t,Z,hq⟩:=g a;exact PySem.W.kla_codeExpr (u0 (Z [] _ _ _ _ (Do S C M.2 m hl r p Y I (λ b o e=>n.extBut b o (p6 (j9 e)) (i3 _ e))) hq) (λ v R ⟨O,k,J,U,z⟩=>CE.woC (Q':=λ v k=>(∀c∈l,k c=none)->Q v (ov l H k)) C m.frf.1 ⟨O,k,J.os,J.bare,J.base,J.hok,U,z⟩ λ _ _ z q=>q z) λ e R z=>(z:False).elim)
open PySem.Calls
theorem Dq(F:closureFor sc env=pure cl)(B:env.globals=mainGlobals)(L:s.heap.Ns mainGlobals mg)(hc:env.code=.ref c)(C:PySem.W.CodeHd s.heap c P)(N:s.heap.get? P=some (PySem.W.tabObj ps))(ht:TriplesOk ps.toList)(hn:codeAmong pos ps.toList=none)(u:mainGlobals≠P)(hb:s.heap.BuiltinsAt mg P)
  (h:∀a T K I h' tk,Heap.ExtBut P s.heap h'->s.heap.objs.size<=a->a<h'.objs.size->s.heap.objs.size<=T->h'.IsCode a T #[]->h'.TableAt a T #[]->h'.CodeRec (.ref a) p->h'.get? P=some (PySem.W.tabObj (ps ++ #[rawInt pos.line,rawInt pos.col,.ref a])) ->
   Q (JR h'.objs.size) {s with heap:=h'.push (PySem.W.fnMade nm p y bd sc cl I ((mg "__name__").getD .none) a K),toks:=tk}) :
  wpAny M A (makeFunction nm p y (.stmts bd) sc env [] [] [] pos R) Q E s:=by
 obtain⟨bm,ob,b1,Z,_,Y,X,W,U,S⟩:=hb;have O:∀(s1:Jk),(∀b o,s.heap.get? b=some o->s1.heap.get? b=some o)->s.heap.objs.size<=s1.heap.objs.size->s1.gens=s.gens->s1.drawn=s.drawn->s1.os=s.os ->
   wpAny M A (functionCode env pos R nm p y sc (.stmts bd)) (λ J w=>∃a T h' tk,J=.ref a/\w = {s with heap:=h',toks:=tk} /\ Heap.ExtBut P s.heap h'/\s.heap.objs.size<=a/\a<h'.objs.size/\s.heap.objs.size<=T/\h'.IsCode a T #[]/\h'.TableAt a T #[]/\h'.CodeRec (.ref a) p/\h'.get? P=some (PySem.W.tabObj (ps ++ #[rawInt pos.line,rawInt pos.col,.ref a]))) E s1:=λ s1 k z g1 g2 g3=>by
  have C1:=C.keeps k;refine wpAny_functionCodeX hc (C1.code (k _ _ N) ht) (C1.tab (k _ _ N)) hn λ a h' tk d n m _ l j x6=>?_
  obtain⟨T,i,g,f⟩:=x6;refine⟨a,T,h',tk,rfl,by rw[g1,g2,g3],λ b o H e=>d b o H (k b o e),i7 z n,m,i7 z i,g,f,l,j.2⟩
 rw[makeFunction_eq];simp only[List.zip_nil_right,List.filterMap_nil,jg,if_true,pure_bind];unfold makeTail;rw[F,B];refine f0 (f9 ?_);cases cl with
 | nil=>
  simp only[jg,if_true];refine f0 (f9 (f0 (u0 (O s (λ _ _ e=>e) (i8 _) rfl rfl rfl) (λ J w q=>?_) λ _ _ x=>x)));obtain⟨a,T,h',tk,rfl,rfl,d,n,m,i,g,f,l,j⟩:=q;have v:=L.extBut d u;refine f0 (wpAny_builtinsFor v b1 Z (d _ _ Y X) W U S (f0 (wpAny_nsGet v ?_)));cases hd:docOf bd with
  | none=>exact f0 (f9 (C3 (h a T _ _ h' tk d n m i g f l j) (by size_fits)))
  | some t=>exact f0 (jx (C3 (h a T _ _ h' _ d n m i g f l j) (by size_fits)))
 | cons q r=>
  simp only[List.isEmpty_cons,aS,if_false];refine f0 (wpAny_newTextTuple (f0 (u0 (O _ (λ b o e=>i3 _ e) (by rw[F7];omega) rfl rfl rfl) (λ J w q=>?_) λ _ _ x=>x)));obtain⟨a,T,h',tk,rfl,rfl,d,n,m,i,g,f,l,j⟩:=q;have v:=L.extBut d u;refine f0 (wpAny_builtinsFor v b1 Z (d _ _ Y X) W U S (f0 (wpAny_nsGet v ?_)));cases hd:docOf bd with
  | none=>exact f0 (f9 (C3 (h a T _ _ h' tk d n m i g f l j) (by size_fits)))
  | some t=>exact f0 (jx (C3 (h a T _ _ h' _ d n m i g f l j) (by size_fits)))
structure DefAt(X:Cx)(scope:Scope)(c P:Addr)(q:Str):Prop where
 code:X.env.code=.ref c
 hd:∀h:Heap,X.K.In h->PySem.W.CodeHd h c P
 tab:(P,q)∈x4 X.K
 fre:∀y∈scope.names,y.2=NameKind.free->X.env.kindOf y.1=some .cell
 dq:L6 q=true
def J4(H:Hp)(nm q:Str)(pr:Jw)(bd:ge Js)(sc:Jv)(cl:ge (Str×Jl))(f:Jl):Prop:=
 ∃(c':Jl) (oc:Obj) (u:HO) (vs:Jo Jj) (t:Tok) (doc pm ctv:Jj) (T:Jl),H f=some (.frz (PySem.W.fnMade nm q pr bd sc cl doc pm c' ctv) (.own f))/\H c'=some (.frz oc u)/\oc.data=.fields vs/\vs[1]? = some (.str q t)/\H T=some (.tbl LC) /\
  ∀h:Jm,h.get? c'=some oc->PySem.W.CodeHd h c' T
theorem J4.mono(e:Same H d)(h:J4 H nm q c bd sc cl f):J4 d nm q c bd sc cl f:=by
 obtain⟨p,j,u,g,t,a,i,b,T,o,n,m,l,k,r⟩:=h;exact⟨p,j,u,g,t,a,i,b,T,e _ _ o,e _ _ n,m,l,e _ _ k,r⟩
theorem Dr(I:JI U)(L:DefAt X sc c P q)
  (h:∀f r s',Inv X U σ r s'->Same H r->H f=none->J4 r nm q pr bd sc Kd f->Q (.ref f) s') :
  wpAny M A (makeFunction nm q pr (.stmts bd) sc X.env [] [] [] pos fl) Q E s:=by
 have hP:=I.tabs _ L.tab;obtain⟨ps,hp,ht,Y⟩:=I.hok _ _ hP;have a9:=fO (scope:=sc) (env:=X.env) λ y hy hf=>I.ok.has y.1 (.inl (L.fre y hy hf));have hg:s.heap.Ns mainGlobals X.mg:=I.ok.mod.glob.keeps I.bk;have c9:mainGlobals≠P:=λ z=>by obtain⟨o,es,ep,e,d,_⟩:=hg;rw[z,hp]at e;cases e;cases d
 obtain⟨bm,ob,b1,b2,b3,b4,b5,b6⟩:=I.ok.mod.bmod;have R:=I.bs _ _ b3;have d0:bm≠P:=λ z=>by rw[z,hP]at R;cases R.2
 have e0:bm≠mainGlobals:=λ z=>by obtain⟨o,es,ep,e,d,_⟩:=hg;rw[←z,R.1]at e;cases e;rw[b6]at d;cases d
 have hb:s.heap.BuiltinsAt X.mg P:=⟨bm,ob,b1,b2,e0,d0,R.1,b4,b5,b6⟩;have C:=L.hd s.heap I.kIn;have W:∀{l:Jl} {x:Obj} {p:Jo Jj} {T:Jl} {j:Str} {tf:Tok} {g:Int} {tg:Tok} {m:Bool} {i:Int} {tt:Tok},x.data=.fields p->x.cls=.type "code" -> p[11]? = some (.ref T)->p.getD 11 .none=.ref T->p.getD 18 .none=.str j tf->p.getD 7 .none=.int g tg->p.getD 9 .none=.bool m->p.getD 10 .none=.int i tt->l≠T ->
   ∀h:Jm,h.get? l=some x->PySem.W.CodeHd h l T:=λ d1 d2 d3 d4 d5 d6 d7 d8 d9 h e=>⟨_,_,_,_,_,_,_,_,_,e,d2,d1,d3,d4,d5,d6,d7,d8,d9⟩
 cases hf:codeAmong pos ps.toList with
 | some cv=>
  obtain⟨l,x,u,p,t,e1,e2,e3,e4,e5⟩:=Y pos cv hf;subst e1;obtain⟨y0,T,j,tf,g,tg,m,i,tt,y1,y2,y3,y4,y5,y6,y7,y8⟩:=e5 L.dq;refine PySem.W.makeFunction_hit (mg:=X.mg) a9 I.ok.glob hg L.code C hp ht hf hb λ O N k tk hk a4=>?_
  have hn:H k.objs.size=none:=I.hok.fresh a4;refine h _ (upd H k.objs.size (.frz _ (.own k.objs.size))) _ (I.laid (t':=tk) (λ b u e=>i3 _ (hk b u e)) a4 ⟨q0 _ rfl,_,q0 _ rfl⟩) (t6 hn) hn ?_;refine⟨l,x,u,p,t,N,_,O,T,u9,?_,e3,e4,?_,W e3 y0 y1 y2 y3 y4 y5 y6 y7⟩
  ·rw[i9 (y9 e2 hn)];exact e2
  ·rw[i9 (y9 y8 hn)];exact y8
 | none=>
  refine Dq (mg:=X.mg) a9 I.ok.glob hg L.code C hp ht hf c9 hb λ l T O N k tk hx F a0 b0 c8 c4 a5 a3=>?_;obtain⟨e9,x,p,t,e2,B,hd,hv⟩:=a5;cases e2;obtain⟨⟨o1,c1,g1,g2,g3,g4⟩,b7⟩:=c4;rw[B]at g1;cases g1;rw[hd]at g3;cases g3;obtain⟨o1,c1,j,tf,g,tg,m,i,tt,op,j1,j2,j3,j4,j5,j6,j7,_,_,_,j8⟩:=c8;rw[B]at j1;cases j1;rw[hd]at j2;cases j2;have c6:H l=none:=I.hok.fresh F;have c7:H T=none:=I.hok.fresh b0;have a6:H k.objs.size=none:=I.hok.fresh (i7 F (U0 a0));have e7:T<k.objs.size:=j9 b7;have e8:T≠k.objs.size:=p6 e7;have Z:∀{b:Jl} {u:HO},H b=some u->b≠l/\b≠T/\b≠k.objs.size:=λ e=>⟨y9 e c6,y9 e c7,y9 e a6⟩;have v:∀{b:Jl} {o:Obj},s.heap.get? b=some o->b≠l/\b≠T/\b≠k.objs.size:=λ {b o} e=>⟨p6 (r9 (j9 e) F),p6 (r9 (j9 e) b0),p6 (r9 (j9 e) (i7 F (U0 a0)))⟩;generalize a8:PySem.W.fnMade nm q pr bd sc _ N _ l O=fo;have a7:fo.isFreed=false:=by rw[←a8];rfl
  generalize K:upd (upd (upd H l (.frz x (.own l))) T (.tbl LC)) k.objs.size (.frz fo (.own k.objs.size))=r;have b9:r k.objs.size=some (.frz fo (.own k.objs.size)):=by rw[←K];exact u9
  have a1:r T=some (.tbl LC):=by rw[←K,i9 e8];exact u9
  have at2:r l=some (.frz x (.own l)):=by rw[←K,i9 (p6 a0),i9 j8];exact u9
  have a2:∀{b:Jl},b≠l->b≠T->b≠k.objs.size->r b=H b:=λ h1 h2 h3=>by rw[←K,i9 h3,i9 h2,i9 h1]
  have sm:Same H r:=λ b o e=>by rw[a2 (Z e).1 (Z e).2.1 (Z e).2.2];exact e
  have kp:∀b o,b≠P->s.heap.get? b=some o->(k.push fo).get? b=some o:=λ b o hb e=>i3 _ (hx b o hb e);have b8:∀b,H b=none->b≠P:=λ b n z=>by rw[z,hP]at n;cases n
  have un:Un X.fs [] H r s.heap (k.push fo):=by
   refine⟨λ b o e n _ _=>kp b o (b8 b n) e,λ b o e n _ _=>⟨o.slots,kp b o (b8 b n) e⟩,λ b o e n _=>by rw[a2 (v e).1 (v e).2.1 (v e).2.2];exact n,λ b o e _=>?_,λ b xs e=>sm _ _ e,λ b o u e=>sm _ _ e,λ b q e=>sm _ _ e⟩;by_cases z:b=P
   ·subst z;exact⟨_,i3 _ a3⟩
   ·exact⟨o,kp b o z e⟩
  have c5:HOk X.prog X.w r (k.push fo):=λ b u e=>by
   by_cases z1:b=k.objs.size
   ·subst z1;rw[b9]at e;cases e;exact⟨q0 _ a7,_,q0 _ a7⟩
   ·by_cases z0:b=T
    ·subst z0;rw[a1]at e;cases e;exact⟨#[],i3 _ b7,trivial,λ S cv J=>by cases J⟩
    ·by_cases z2:b=l
     ·subst z2;rw[at2]at e;cases e;exact⟨i3 _ B,_,i3 _ B⟩
     ·rw[a2 z2 z0 z1]at e;by_cases z3:b=P
      ·subst z3;rw[hP]at e;cases e;refine⟨_,i3 _ a3,?_,λ S cv J=>?_⟩
       ·rw[bY];exact lJ KW KW _ ht
       ·rw[bY]at J;rcases lI (a:=rawInt pos.line) (b:=rawInt pos.col) (c:=.ref l) ps.toList ht KW KW J with w | w
        ·obtain⟨c2,c3,u2,c0,t2,f1,f2,f3,f4⟩:=Y S cv w;refine⟨c2,c3,u2,c0,t2,f1,sm _ _ f2,f3,f4.1,λ y=>?_⟩;obtain⟨y0,T2,j,tf,g,tg,m,i,tt,y1,y2,y3,y4,y5,y6,y7,y8⟩:=f4.2 y;exact⟨y0,T2,j,tf,g,tg,m,i,tt,y1,y2,y3,y4,y5,y6,y7,sm _ _ y8⟩
        ·exact⟨l,x,_,p,t,w,at2,hd,hv,λ _=>⟨g2,T,j,tf,g,tg,m,i,tt,g4,j3,j4,j5,j6,j7,j8,a1⟩⟩
      ·refine(I.hok b u e).stay (λ b' u' e6 q=>kp b' u' ?_ q) (λ b' q=>sm _ _ q) (λ b' xs q=>sm _ _ q) (λ b' xs q=>sm _ _ q) λ b' _ _ _ _ q=>sm _ _ q;rcases e6 with w | w
       ·rw[w];exact z3
       ·intro z;rw[z,hP]at w;cases w
  exact h k.objs.size r _ (I.un (t':=tk) un c5) sm a6 ⟨l,x,_,p,t,N,(X.mg "__name__").getD .none,O,T,by rw[b9,←a8],at2,hd,hv,a1,W hd g2 g4 j3 j4 j5 j6 j7 j8⟩
structure CloScope(N ps:List Str)(n:Nat)(sc:Scope)(cl:List (Str×Addr))(l:List Addr):Prop where
 kind:sc.kind=.function
 co:sc.isCoroutine=false
 gen:sc.isGenerator=false
 nd:N.Nodup
 pre:N.take ps.length=ps
 par:∀x∈ps,sc.names.lookup x=some .local
 nocell:∀y∈sc.names,y.2 ≠ .cell
 fre:∀i x,ps.length<=i->i<ps.length+n->N[i]? = some x->sc.names.lookup x=some .free
 has:∀x,sc.names.lookup x=some .free->∃c,cl.lookup x=some c
 inj:∀x y c,cl.lookup x=some c->cl.lookup y=some c->x=y
 mem:∀x c,cl.lookup x=some c->c∈l
theorem Ds{K:Ju}(S:CloScope N ps ws.length scope cl l)(C:CellsT l s.heap H)(hd:KR)(k:Env0 P w K mg base A outer s H)(hl:vs.length=ps.length)(r:Vals vs M)(Y:N.length=ps.length+ws.length+n)
  (hw:Kl)
  (X:j.Ns s.heap.objs.size (λ x=>(ps.zip M).reverse.lookup x)) (R:∀b o,s.heap.get? b=some o->j.get? b=some o) :
  Inv (S6 P w K mg base N q scope f cd cl A outer s (JZ l)) [] ((vs++ws).map some++List.replicate n none) (JZ l) {s with heap:=j,toks:=tk}:=by
 have nl:∀{b:Jl},H b=none->b∉l:=λ {b} n z=>by obtain⟨_,_,g,_⟩:=C.at_ b z;rw[n]at g;cases g
 have I:∀b:Jl,b∉(S6 P w K mg base N q scope f cd cl A outer s (JZ l)).ex:=λ b z=>absurd (show b∈([]:ge Jl)from z) JL;have wn:∀{b:Jl},H b=none->L2.wo l H b=none:=λ {b} n=>by rw[i6 (nl n)];exact n
 have E:∀x c,cl.lookup x=some c->∃v,j.IsCell c v:=λ x c e=>by obtain⟨o,v,_,g,d⟩:=C.at_ c (S.mem x c e);exact⟨v,o,R _ _ g,d⟩
 refine⟨⟨k.mod,S.kind,rfl,rfl,i8 _,S.inj,λ y J=>?_,λ y c z=>(nomatch z),λ _=>hd,iP k.frames,.inr ⟨rfl,rfl⟩,λ b z=>absurd z (I b),λ b o e=>⟨(k.bs b o e).1,wn (k.bs b o e).2⟩,k.bsz,λ b _ _=>I b,λ b z=>absurd z (I b),k.funs,λ b hb=>wn (k.frf.1 b hb),λ p L=>?_⟩,
  rfl,k.bare,Un.kept R,⟨_,X,λ i y v Q F h3=>?_⟩,E,?_,λ y c h=>X8 (S.mem y c h),λ p L=>absurd (show p∈([]:ge (Jl×Obj))from L) JL,(HOk.woC C k.hok).kept R,?_⟩
 ·have J:=J;rcases J with J | J
  ·exact absurd rfl (S.nocell _ (B4 J))
  ·exact S.has y J
 ·have z:=k.frf.2 p L;show L2.wo l H p.1=_;rw[i6 λ m=>by obtain⟨_,_,g,_⟩:=C.at_ _ m;rw[z]at g;cases g];exact z
 ·have Q:N[i]? = some y:=Q;have O:i<(vs++ws).length:=by
   by_cases z:i<(vs++ws).length
   ·exact z
   ·rw[Q4 (by rw[g6];omega),bQ]at F;split at F<;>cases F
  rw[O3 (by rw[g6];exact O),p5]at F;have B:(vs++ws)[i]? = some v:=by
   cases z:(vs++ws)[i]? with
   | none=>rw[z]at F;cases F
   | some a=>rw[z]at F;exact congrArg some (B0 (B0 F))
  by_cases hi:i<ps.length
  ·rw[O3 JA]at B;obtain⟨u,hu,rv⟩:=r.get B;have L:ps[i]? = some y:=by rw[←S.pre,aN hi];exact Q
   have U:ps.Nodup:=by rw[←S.pre];exact S.nd.sublist (eT _ _)
   refine⟨u,rv,.inl ⟨S.par y (J9 L),?_⟩⟩;show(ps.zip M).reverse.lookup y=some u;have W:((ps.zip M).reverse.map (·.1)).Nodup:=by rw[aW,List.map_fst_zip (by have:=r.length;omega)];exact oC.mpr (jd (λ h=>Ne.symm h) U)
   refine W5 W (V7.mpr ?_);have Z:(ps.zip M)[i]? = some (y,u):=by rw[eg];exact⟨L,hu⟩
   exact J9 Z
  ·rw[Q4 JA]at B;obtain⟨c,u,e1,e2,e3⟩:=hw (i - vs.length) y v (by rw[show ps.length+(i - vs.length)=i by omega];exact Q) B;exact⟨u,e3,.inr ⟨.inr (S.fre i y JA (by rw[t5]at O;omega) Q),c,e1,e2.keeps R⟩⟩
 ·show L2.wo l H s.heap.objs.size=none;exact wn (k.hok.fresh (i8 _))
 ·show((vs++ws).map some++List.replicate n none).length=N.length;rw[t5,g6,t5,eD];omega
theorem Dt{K:Ju}(S:CloScope N ps ws.length scope cl l)(C:CellsT l s.heap H)(Y:A.depth<recursionLimit/\A.handled=none)(y:Env0 P w K mg base A outer s H)(hf:J4 H nm q a body scope cl f)
  (k:∀m pm d p,bindArgs (PySem.W.fnX nm q a body scope cl .none .none m pm none (.ref d) p) ⟨L,[]⟩=pure (ps.zip L)) (hl:vs.length=ps.length) (r:Vals vs L) (I:N.length=ps.length+ws.length+n)
  (hw:Kl)
  (j:∀d B u T,H d=some (.frz B u)->H T=some (.tbl LC)->(∀h:Jm,h.get? d=some B->PySem.W.CodeHd h d T)->∃t,PSs (S6 P w K mg base N q scope f (.ref d) cl A outer s (JZ l)) body t/\t {nx:=λ _ _=>False,rt:=λ v O=>(∀c∈l,O c=none)->Q v (ov l H O)} ((vs++ws).map some++List.replicate n none) (JZ l)) :
  codeAny Lv A (.call (.ref f) ⟨L,[]⟩) (CR CX outer P w H s Q E) s:=by
 obtain⟨d,B,u,R,t,m,pm,p,T,h1,Z,h3,h4,h5,h6⟩:=hf;have U:=(y.hok d _ Z).1;refine oA Y.1 ((y.hok f _ h1).1) rfl S.co S.gen rfl ⟨d,B,R,t,rfl,U,h3,h4⟩ ?_
 show wpAny _ _ _ _ _ s;rw[k m pm d p];refine f9 (wpAny_newFunctionEnv S.nocell (λ x hx=>S.par x.1 (cg hx).1) (λ X W F=>⟨(y.mod.nolimit.keeps λ b o e=>(y.bs b o e).1).fresh _ F,?_⟩) S.kind);have g:=λ b o e=>F.extBut b o (p6 (j9 e)) (i3 _ e)
 obtain⟨t,ht,hq⟩:=j d B u T Z h5 h6;refine codeAny_func (u0 (ht [] _ _ _ _ (Ds S C Y.2 y hl r I hw W g) hq) (λ fl s' M=>?_) λ e s' z=>(z:False).elim)
 cases fl with
 | ret u=>
  obtain⟨v',σ',O,J,rv,z⟩:=M;exact CE.woC C y.frf.1 ⟨v',O,J.os,J.bare,J.base,J.hok,rv,z⟩ λ _ _ z q=>q z
 | next=>obtain⟨_,_,_,z⟩:=M;exact False.elim z
 | brk=>obtain⟨_,_,_,z⟩:=M;exact False.elim z
 | cont=>obtain⟨_,_,_,z⟩:=M;exact False.elim z
theorem Du{K:Ju}(C:CellsT l s.heap H)(k:H a=some (.frz i u))(hd:∀v,i.data ≠ .cell v)(j:H T=some (.tbl LC))(r:∀h:Jm,h.get? a=some i->PySem.W.CodeHd h a T)
  (c:∀y∈sc.names,y.2=NameKind.free->scope.names.lookup y.1=some .free):LamAt (S6 P w K mg base N q scope f (.ref a) cl A outer s (JZ l)) sc a T where
 code:=rfl
 hd:=λ {b m x s1} I=>by have e:L2.wo l H a=some _:=(by rw[i6 λ z=>by obtain⟨o,v,g,_,d⟩:=C.at_ _ z;rw[k]at g;cases g;exact hd v d];exact k);exact r _ (I.hok _ _ (I.base.frzs _ _ _ e)).1
 tab:=λ {b m x s1} I=>I.base.tbls _ _ (show L2.wo l H T=_ by
  rw[i6 λ z=>by obtain⟨o,v,g,_,d⟩:=C.at_ _ z;rw[j]at g;cases g];exact j)
 fre:=λ y n p=>.inr (c y n p)
structure RoomL(k:Nat)(A:Around):Prop where
 hd:A.handled=none
 dp:A.depth+3*k+5<recursionLimit
 un:A.units+16*k+198<cLine
theorem Room.toL(r:Room k A):RoomL k A:=⟨r.hd,r.dp,by have:=r.un;omega⟩
theorem RoomL.deeper(r:RoomL (k+1) A)(env:Env):Room k (A.deeper env):=
 ⟨r.hd,by have:=r.dp;show A.depth+1+3*k+5<_;omega,by have:=r.un;show A.units+3+16*k+200<_;omega⟩
theorem RoomL.ok(r:RoomL k A):A.depth<recursionLimit/\A.handled=none:=⟨by have:=r.dp;omega,r.hd⟩
def Y3(P:Jq)(w:Jp)(K:Ju)(mg:Str->Ji Jj)(base:Jm)(fn bl cl:ge Str)(k:Nat)(Fl:ge DV->Ji Ou):Prop:=
 ∀(A:Jr) (outer:ge Env) (s:Jk) (H:Hp) (us:ge Jj) (vs:ge V) (Q:VK) (E:XK) (O:ge Jl) (f:Jl) (m:LamD) (cs ds:ge DV) (d:DV),RoomL k A->Env0 P w K mg base A outer s H->Vals vs us->Hdn O H->m.fn=fn->m.bl=bl->m.cl=cl ->
  Rep ⟨K,mg⟩ (JZ O) (.lam m cs) (.ref f)->RepL ⟨K,mg⟩ (JZ O) ds vs->Fl (.lam m cs::ds)=some (.v d false)->(∀v H',Same H H'->Rep ⟨K,mg⟩ (L2.wo O H') d v->Q v H') ->
  codeAny Lv A (.call (.ref f) ⟨us,[]⟩) (CR (CXx P w base) outer P w H s Q E) s
theorem sj{m:LamD}{cs:ge DV}{X:Cx}{pins:ge (Jl×Obj)}{σ:St}{H:Hp}{s:Jk}{O:ge Jl}{f:Jl}(I:JI pins)(h:Rep X.D (JZ O) (.lam m cs) (.ref f)):PySem.W.FnAt f s.heap:=by
 obtain⟨f',pr,bd,sc,q,cl,l,ws,e1,⟨c',oc,u,vs,t,pm,ctv,h1,_⟩,_⟩:=dh.mp h;cases e1;exact⟨_,_,_,_,(I.hok _ _ (A6 h1).2).1⟩
theorem Dv{X:Cx}{E:St->XK}{δ:ge Sv}{e:Jn}{es:ge Jn}{pos p:Pos}{rs:Ji Rs}{re:Re}{k i:Nat}{x:Str}{fn bl cl:ge Str}{m:LamD}{cs:ge DV}{F:Nat->ge DV->Ji Ou}(lo:Y3 X.prog X.w X.K X.mg X.base fn bl cl k (F z7))(hr:Room k X.A)(hv:Lx p)(h1:m.fn=fn)(h2:m.bl=bl)(h3:m.cl=cl)(hi:δ[i]? = some (.val (.lam m cs)))
  (ha:∀q,rs=some q->PA X (e::es) Ll) (hs:o7 e=false) (hss:es.any o7=false) (h:(Rs.thn rs λ l=>fX F m cs l)=some re):PE X (Kj x) (dE X.D E δ re):=by
 have C:∀{t:TA},PA X (e::es) t->PE X (Kj x) (λ σ H Q=>∃(O W:ge Jl) (v:V),RSt X.D H σ δ O W/\σ[i]? = some (some v)/\t σ H λ vs H1=>Same H H1/\∃ds d,RepL X.D (Ka H1) ds vs/\F z7 (.lam m cs::ds)=some (.v d false)/\∀v H',Same H1 H'->Rep X.D (Ka H') d v->Q v H'):=λ {t} A=>by
  intro pins s σ H Q I h;obtain⟨O,W,v,R,h0,h⟩:=h;obtain⟨v',e1,e2⟩:=R.val i _ hi;rw[h0]at e1;cases e1;have e2':=dh.mp e2;obtain⟨f,_,_,_,_,_,_,_,ev,_⟩:=e2';subst ev;refine Z6 (thn (hv pins s σ H (λ v H1=>v=.ref f/\H1=H) I ⟨_,h0,rfl,rfl⟩) λ u s1 ⟨v,H1,I1,r1,q1,q2⟩=>?_);subst q1 q2;obtain rfl:u=Value.ref f:=r1;refine PySem.W.callWith_F (sj I1 e2) (thn (A pos pins s1 σ H1 _ I1 h) λ us s2 ⟨vs,H2,I2,r,sm,ds,d,g1,g2,g3⟩=>?_) (u4 hs) (aw es hss);have e3:Rep X.D (Ka H2) (.lam m cs) (.ref f):=e2.mono sm.wo;refine⟨sj I2 e3,?_⟩;refine cI (N4 (lo X.A X.stack s2 H2 us vs Q (λ _ _ _=>False) (O++W) f m cs ds d hr.toL I2.env0 r (R.hid.mono sm).hdA h1 h2 h3 e3 g1 g2 g3) λ r s' hq=>?_);cases r with
  | error e=>
   obtain⟨_,_,_,_,_,_,_,_,_,_,z⟩:=(hq:CXx X.prog X.w X.base X.stack H2 s2 (λ _ _ _=>False) e s');exact z.elim
  | ok fl=>
   cases fl with
   | ret u=>exact I2.after hq
   | next=>exact False.elim hq
   | brk=>exact False.elim hq
   | cont=>exact False.elim hq
 cases hrs:rs with
 | none=>rw[hrs]at h;cases h
 | some q=>
  rw[hrs]at h;have A:=ha q hrs;cases q with
  | ex c=>
   cases h;exact(C A).weak λ σ H Q ⟨O,W,R,p⟩=>by obtain⟨v,e1,_⟩:=R.val i _ hi;exact⟨O,W,v,R,e1,O,W,R,p⟩
  | ok l=>
   have h':fX F m cs l=some re:=h;unfold fX at h';split at h'
   ·rename_i z;split at h'
    ·rename_i d e1;cases h';exact(C A).weak λ σ H Q ⟨O,W,R,p⟩=>by obtain⟨v,e2,_⟩:=R.val i _ hi;exact⟨O,W,v,R,e2,O,W,R,λ vs H1 s1 g1=>⟨s1,_,d,g1.strong JS z,e1,λ v H' s g=>p v H' (Lu s) g⟩⟩
    ·cases h'
   ·cases h'
section
variable {D:Dm} {O l:ge Jl} {H:Hp}
theorem az(d:∀c∈l,∃o,H c=some LL)(h:L2.wo O H b=some u)(a:∀o c,u ≠ .frz o (.own c)):L2.wo O (JZ l) b=some u:=by
 obtain⟨f,e⟩:=A6 h;rw[i6 f,i6 λ z=>by obtain⟨o,g⟩:=d b z;rw[e]at g;cases g;exact a _ _ rfl];exact e
mutual
theorem so(hl:∀c∈l,∃o,H c=some LL):∀{d:DV} {v:V},d.nolam=true->Rep D (JZ O) d v->Rep D (L2.wo O (JZ l)) d v
 | .non,_,_,h=>by unfold Rep at h ⊢;exact h
 | .bl _,_,_,h=>by unfold Rep at h ⊢;exact h
 | .int _,_,_,h=>by unfold Rep at h ⊢;exact h
 | .str _,_,_,h=>by unfold Rep at h ⊢;exact h
 | .tup ds,_,m,h=>by
  unfold Rep at h ⊢;obtain⟨a,xs,e1,e2,e3⟩:=h;unfold DV.nolam at m;refine⟨a,xs,e1,?_,U9 hl m e3⟩;rcases e2 with(h | ⟨o,h⟩) | h
  ·exact .inl (.inl (az hl h (by intro o c z;cases z)))
  ·exact .inl (.inr ⟨o,az hl h (by intro o c z;cases z)⟩)
  ·exact .inr h
 | .lst ds,_,m,h=>by unfold Rep at h ⊢;obtain⟨a,xs,e1,e2,e3⟩:=h;unfold DV.nolam at m;exact⟨a,xs,e1,az hl e2 (by intro o c z;cases z),U9 hl m e3⟩
 | .dct _ _,_,m,h=>by
  unfold Rep at h ⊢;unfold DV.nolam at m;rcases h with⟨a,ob,kvs,e1,e2,e3,e4⟩ | ⟨a,ob,kvs,e1,e2,e3,e4⟩
  ·exact .inl ⟨a,ob,kvs,e1,az hl e2 (by intro o c z;cases z),e3,U9 hl m e4⟩
  ·exact .inr ⟨a,ob,kvs,e1,az hl e2 (by intro o c z;cases z),e3,U9 hl m e4⟩
 | .exc C,_,_,h=>by unfold Rep at h ⊢;obtain⟨a,C,e1,e2,e3⟩:=h;exact⟨a,C,e1,e2,az hl e3 (by intro o c z;cases z)⟩
 | .fn _,_,_,h=>by unfold Rep at h ⊢;exact h
 | .lam _ _,_,m,_=>by unfold DV.nolam at m;cases m
 | .scr _,_,_,h=>by
  unfold Rep at h ⊢;obtain⟨a,e1,e2⟩:=h;refine⟨a,e1,?_⟩;rcases e2 with⟨o,h⟩ | h
  ·exact .inl ⟨o,az hl h (by intro o c z;cases z)⟩
  ·exact .inr h
theorem U9(hl:∀c∈l,∃o,H c=some LL):∀{ds:ge DV} {xs:ge V},DV.nolams ds=true->RepL D (JZ O) ds xs->RepL D (L2.wo O (JZ l)) ds xs
 | [],_,_,h=>by unfold RepL at h ⊢;exact h
 | d::ds,_,m,h=>by unfold RepL at h ⊢;obtain⟨v,vs,e1,e2,e3⟩:=h;unfold DV.nolams at m;rw[f7]at m;exact⟨v,vs,e1,so hl m.1 e2,U9 hl m.2 e3⟩
end
end
section
variable {X:Cx} {pins:ge (Jl×Obj)} {σ:St} {H:Hp} {s:Jk} {sc:Jv} {N ps:ge Str}
theorem bF(d:∀y∈sc.names,y.2=NameKind.free->∃a,b.lookup y.1=some a)(h:(o5 b sc.names []).lookup x=some c):b.lookup x=some c/\LJ∈sc.names:=by
 rcases bo d (B4 h)with z | z
 ·cases z
 ·exact z
theorem dv(g:∀y∈sc.names,y.2=NameKind.free->∃a,b.lookup y.1=some a)(f:LJ∈sc.names)(d:b.lookup x=some c):(o5 b sc.names []).lookup x=some c:=by
 obtain⟨c',e⟩:=jS (fP f d);have:=(bF g e).1;rw[d]at this;cases this;exact e
structure LamTx(N ps:List Str)(sc:Scope):Prop where
 kind:sc.kind=.function
 co:sc.isCoroutine=false
 gen:sc.isGenerator=false
 nd:N.Nodup
 pre:N.take ps.length=ps
 par:∀x∈ps,sc.names.lookup x=some .local
 nocell:∀y∈sc.names,y.2 ≠ .cell
 fre:∀i x,ps.length<=i->N[i]? = some x->sc.names.lookup x=some .free
theorem LamTx.full(T:LamTx N ps sc)(I:JI pins)(b:KC):LamScope N ps sc Kd ((Kd).map (·.2)) where
 kind:=T.kind
 co:=T.co
 gen:=T.gen
 nd:=T.nd
 pre:=T.pre
 par:=T.par
 nocell:=T.nocell
 fre:=T.fre
 has:=λ x h=>by have d:=B4 h;obtain⟨c,e⟩:=b _ d rfl;exact⟨c,dv b d e⟩
 inj:=λ x y c g f=>I.ok.inj x y c (bF b g).1 (bF b f).1
 mem:=λ x c h=>i4.mpr ⟨_,B4 h,rfl⟩
theorem gQ(I:JI pins)(d:KC):∀c∈(o5 X.env.cells sc.names []).map (·.2),∃x,X.env.cells.lookup x=some c/\LJ∈sc.names:=λ c e=>by
 obtain⟨⟨x,c'⟩,b,rfl⟩:=i4.mp e;rcases bo d b with z | z
 ·cases z
 ·exact⟨x,z.1,z.2⟩
theorem Cells.of(I:JI pins)(f:KC):Cells ((Kd).map (·.2)) s.heap H where
 none:=λ c b=>by obtain⟨x,e,_⟩:=gQ I f c b;exact I.freeC x c e
 cel:=λ c b=>by obtain⟨x,e,_⟩:=gQ I f c b;obtain⟨v,o,g,d⟩:=I.cell x c e;exact⟨o,v,g,d⟩
theorem Dw(I:JI pins)(h:KC)(d:∀y∈sc.names,y.2=NameKind.free->X.fn y.1=true):∀c∈(o5 X.env.cells sc.names []).map (·.2),X.base.get? c=none/\c∉frs X.stack:=λ c i=>by
 obtain⟨x,e,g⟩:=gQ I h c i;have b:=I.ok.cab x c (d _ g rfl) e;refine⟨bV (i7 I.ok.bsz b),λ z=>?_⟩;rcases h8.mp (I.stkSub c z)with w | w
 ·exact I.cne x c e w
 ·obtain⟨_,o,f,_⟩:=I.ok.funs.mem w
  exact absurd (r9 (j9 f) b) (N3 _)
end
section
variable {X:Cx} {E:St->XK} {δ:ge Sv} {ea eb bd:Jn} {pos p lp:Pos} {re:Re} {k:Nat} {x:Str} {pr:Jw} {sc:Jv} {c P:Jl} {m:LamD} {cs:ge DV} {fr:ge Nat}
def tLam(X:Cx)(pr:Jw)(bd:Jn)(sc:Jv):TE:=λ _ H Q=>∀f H',Same H H'->H f=none->O1 H' Lc pr bd sc Kd f->Q (.ref f) H'
theorem Dx(L:LamAt X sc c P)(a:defaultsOf pr X.env=([],[])):PE X (.Lambda pr bd sc lp) (tLam X pr bd sc):=by
 intro b s σ H Q I h;exact Dl I L a λ f d s' g sm e lf=>⟨.ref f,d,g,rfl,h f d sm e lf⟩
theorem lK(R:La D):∀{b:ge Nat} {cs:ge DV},capD δ b=some cs->∃a:ge V,a.length=b.length/\RepL D (JZ (O++W)) cs a/\∀(j i:Nat) v,b[j]? = some i->a[j]? = some v->σ[i]? = some (some v)
 | [],cs,h=>by cases h;exact⟨[],rfl,by unfold RepL;rfl,λ j i v h=>by cases h⟩
 | i::r,cs,h=>by
  unfold capD at h;split at h
  ·rename_i d ds q p;split at h
   ·cases h;obtain⟨a,l,k,g⟩:=lK R p;obtain⟨v,o,n⟩:=R.val i d q;refine⟨v::a,by rw[x9,x9,l],v6.mpr ⟨v,a,rfl,n,k⟩,λ j m f e c=>?_⟩;cases j with
    | zero=>cases e;cases c;exact o
    | succ j=>exact g j m f e c
   ·cases h
  ·cases h
end
section
variable {X:Cx} {E:St->XK} {δ:ge Sv} {v:Jn} {te:TE} {pos kpos:Pos} {i:Int} {j:Nat}
theorem Inv.notSys(I:JI b)(h:s.heap.objs.size<=a):(a==sysModules)=false:=by
 have:=r9 (Z8 (by decide:(1:Nat)<=mainGlobals) I.mod.glob.lt) (i7 (i7 I.ok.bsz I.sz) h);exact z8.mpr (Q8 this)
theorem P9(c:H p=some (.dK []))(h:L2.wo O H b=some u)(a:u ≠ .dK []):L2.wo O (upd H p o) b=some u:=by
 obtain⟨d,e⟩:=A6 h;rw[i6 d,i9 (λ z=>by rw[z,c]at e;cases e;exact a rfl)];exact e
mutual
theorem lL{D:Dm}{O:ge Jl}{H:Hp}{p:Jl}{o:HO}(hp:H p=some (.dK [])):∀{d:DV} {v:V},Rep D (JZ O) d v->Rep D (L2.wo O (upd H p o)) d v
 | .non,_,h=>by unfold Rep at h ⊢;exact h
 | .bl _,_,h=>by unfold Rep at h ⊢;exact h
 | .int _,_,h=>by unfold Rep at h ⊢;exact h
 | .str _,_,h=>by unfold Rep at h ⊢;exact h
 | .tup ds,_,h=>by
  unfold Rep at h ⊢;obtain⟨a,xs,e1,e2,e3⟩:=h;refine⟨a,xs,e1,?_,bG hp e3⟩;rcases e2 with(h | ⟨o,h⟩) | h
  ·exact .inl (.inl (P9 hp h JH))
  ·exact .inl (.inr ⟨o,P9 hp h JH⟩)
  ·exact .inr h
 | .lst ds,_,h=>by unfold Rep at h ⊢;obtain⟨a,xs,e1,e2,e3⟩:=h;exact⟨a,xs,e1,P9 hp e2 JH,bG hp e3⟩
 | .dct _ _,_,h=>by
  unfold Rep at h ⊢;rcases h with⟨a,ob,kvs,e1,e2,e3,e4⟩ | ⟨a,ob,kvs,e1,e2,e3,e4⟩
  ·exact .inl ⟨a,ob,kvs,e1,P9 hp e2 JH,e3,bG hp e4⟩
  ·exact .inr ⟨a,ob,kvs,e1,P9 hp e2 JH,e3,bG hp e4⟩
 | .exc C,_,h=>by unfold Rep at h ⊢;obtain⟨a,C,e1,e2,e3⟩:=h;exact⟨a,C,e1,e2,P9 hp e3 JH⟩
 | .fn _,_,h=>by unfold Rep at h ⊢;exact h
 | .lam m cs,_,h=>by
  unfold Rep at h ⊢;obtain⟨f,pr,bd,sc,q,cl,l,ws,e1,⟨c',oc,u,vs,t,pm,ctv,f1,f2,f3⟩,e3,e4,e5,g1,g2,g3⟩:=h;refine⟨f,pr,bd,sc,q,cl,l,ws,e1,⟨c',oc,u,vs,t,pm,ctv,P9 hp f1 JH,P9 hp f2 JH,f3⟩,e3,e4,bG hp e5,g1,λ c hc=>?_,λ i x v h1 h2=>?_⟩
  ·obtain⟨o,v,k1,k2⟩:=g2 c hc;exact⟨o,v,P9 hp k1 JH,k2⟩
  ·obtain⟨c,o,u,k1,k2,k3⟩:=g3 i x v h1 h2;exact⟨c,o,u,k1,P9 hp k2 JH,k3⟩
 | .scr _,_,h=>by
  unfold Rep at h ⊢;obtain⟨a,e1,e2⟩:=h;refine⟨a,e1,?_⟩;rcases e2 with⟨o,h⟩ | h
  ·exact .inl ⟨o,P9 hp h JH⟩
  ·exact .inr h
theorem bG{D:Dm}{O:ge Jl}{H:Hp}{p:Jl}{o:HO}(hp:H p=some (.dK [])):∀{ds:ge DV} {xs:ge V},RepL D (JZ O) ds xs->RepL D (L2.wo O (upd H p o)) ds xs
 | [],_,h=>by unfold RepL at h ⊢;exact h
 | d::ds,_,h=>by unfold RepL at h ⊢;obtain⟨v,vs,e1,e2,e3⟩:=h;exact⟨v,vs,e1,lL hp e2,bG hp e3⟩
end
end
def Dy(x y:Str)(ta tb:TE):TE:=λ σ H Q=>∀a,H a=none->ta σ (upd H a (.dK [])) λ v H1=>tb σ H1 λ w H2=>H2 a=some (.dK [])/\∀o,Q (.ref a) (upd H2 a (.frz o (.dK [(.inr x,v),(.inr y,w)])))
theorem lM{K:Jn}(B:x≠y)(ha:PE X L r)(C:PE X K n):PE X (.Dict [some (.Constant (.str x) J k),some (.Constant (.str y) F i)] [L,K] pos) (Dy x y r n):=by
 intro a s c H Q I h;have hf:=I.hok.fresh (i8 _);have E:=I.notSys (i8 _);have I0:Inv X a c (upd H s.heap.objs.size (.dK [])) {s with heap:=s.heap.push {cls:=.type "dict",data:=.dict #[]}}:=
  I.laid (t':=s.toks) (λ b u e=>i3 _ e) (i8 _) ⟨E5 _,E,[],.nil,Heap.DictOf.new _⟩
 refine wpAny_Dict_walk (knd:=F9 X.prog X.w) rfl rfl JL (show(2:Nat)<=15 by decide) ?_;refine pairTrees_cons_walk (thn (jB (x:=x) (j:=J) (pos:=k) a _ c _ (λ v f=>v=.str x/\r c f λ v f=>n c f λ w g=>g s.heap.objs.size=some (.dK [])/\∀o,Q (JR s.heap.objs.size) (upd g s.heap.objs.size (.frz o (.dK [(.inr x,v),(.inr y,w)])))) I0 ⟨rfl,h _ hf⟩) λ ku s1 t0=>?_);obtain⟨kx,f,I1,rk,e,q⟩:=t0;subst e;obtain⟨R,rfl⟩:=rk;refine thn (ha a s1 c f _ I1 q) λ m s2 t0=>?_;obtain⟨O,g,I2,rv,Z⟩:=t0;refine pairTrees_cons_walk (thn (jB (x:=y) (j:=F) (pos:=i) a _ c _ (λ v f=>v=.str y/\n c f λ w g=>g s.heap.objs.size=some (.dK [])/\∀o,Q (JR s.heap.objs.size) (upd g s.heap.objs.size (.frz o (.dK [(.inr x,O),(.inr y,w)])))) I2 ⟨rfl,Z⟩) λ ku W t0=>?_);obtain⟨kx,H3,I3,rk,e,q⟩:=t0;subst e;obtain⟨p,rfl⟩:=rk;refine thn (C a W c H3 _ I3 q) λ l U ⟨wx,N,M,A,hd,Y⟩=>pairTrees_nil_walk ?_;obtain⟨z,ns',P,kv,dd⟩:=(show t9 X.prog X.w N U.heap s.heap.objs.size (.dK [])from M.hok _ _ hd);cases kv;have mg:merged [] [((.inr x:Key),m),(.inr y,l)]=[(.inr x,m),(.inr y,l)]:=merged_nil_of_nodup _ (by
  have:(Sum.inr x:Key) ≠ .inr y:=λ z=>B (by cases z;rfl);simpa using this)
 refine⟨[(.inr x,m),(.inr y,l)],⟨strKind_is X.prog X.w x R,rfl,strKind_is X.prog X.w y p,rfl,trivial⟩,dd,λ h' d S=>?_⟩;rw[mg]at d;obtain⟨o,es,ep,e,r'⟩:=id d;refine⟨.ref s.heap.objs.size,upd N s.heap.objs.size _,?_,rfl,Y o⟩;exact M.write (by rw[hd];trivial) LI (λ b u C e=>S.extBut b u C e) ⟨o,e⟩ ⟨e,show(2:Nat)<=sizeLine by decide,E,[(.inr x,m),(.inr y,l)],.cons ⟨rfl,rv⟩ (.cons ⟨rfl,A⟩ .nil),d⟩
theorem Dz{K:Re}(i:x≠y)(f:∀q,M=some q->PE X ea JK)(F:∀q,L=some q->PE X eb JK)(h:(Re.thn M λ d c=>Re.thn L λ J S=>dc2D x y d J c S)=some K) :
  PE X (.Dict [some (.Constant (.str x) j1 P),some (.Constant (.str y) j2 N)] [ea,eb] pos) (dE X.D E δ K):=by
 cases k:M with
 | none=>rw[k]at h;cases h
 | some q=>
  rw[k]at h;have A:=f q k;cases q with
  | ex c=>
   cases h;exact(lM i A M6).weak λ Y H Q ⟨O,W,R,p⟩ a f=>⟨O,W,R.mono (t6 f),λ U C m s=>p U C m ((t6 f).trans s)⟩
  | ok d c=>
   cases j:L with
   | none=>rw[j]at h;cases h
   | some Z=>
    rw[j]at h;have B:=F Z j;cases Z with
    | ex c=>
     cases h;exact(lM i A B).weak λ Y H Q ⟨O,W,R,p⟩ a f=>⟨O,W,R.mono (t6 f),λ v H1 s1 g=>⟨O,W,(R.mono (t6 f)).mono s1,λ U C m s=>p U C m (((t6 f).trans s1).trans s)⟩⟩
    | ok J S=>
     have I:dc2D x y d J c S=some K:=h;unfold dc2D at I;split at I
     ·rename_i r;obtain⟨c1,c2,_⟩:=r;cases I;refine(lM i A B).weak λ Y H Q ⟨O,W,R,p⟩ a f=>⟨O,W,R.mono (t6 f),λ v H1 s1 g=>⟨O,W,(R.mono (t6 f)).mono s1,λ w H2 l g2=>⟨l _ _ (s1 _ _ u9),λ ob=>?_⟩⟩⟩
      have n:=l _ _ (s1 _ _ u9);have sm:Same H (upd H2 a (.frz ob (.dK [(.inr x,v),(.inr y,w)]))):=λ b u e=>by have F:b≠a:=y9 e f;rw[i9 F];exact l _ _ (s1 _ _ (by rw[i9 F];exact e))
      have o:Hid O W H1 H2:=(((R.mono (t6 f)).mono s1).hid).mono l;have hx:=(g.stro (((R.mono (t6 f)).hid).mono s1) c1).mono l.wo;exact p _ _ sm (P8.mpr (.inl ⟨a,ob,_,rfl,by rw[i6 (λ z=>R.hid.ot a z f)];exact u9,rfl,v6.mpr ⟨_,_,rfl,(lL n hx),RepL.one (lL n (g2.stro o c2))⟩⟩):Rep X.D (Ka _) (.dct [.s x,.s y] [d,J]) _)
     ·cases I
structure Wk(D:Dm)(J:It)(ds:List DV)(Oc Oi:List Addr)(H1:Hp):Prop where
 go:∀i H,Same (L2.wo Oc H1) (JZ Oc)->i<ds.length->J.go i H
 same:∀i H x H',J.yld i H x H'->Same H H'
 yld:∀i H x H' d O2,Same (L2.wo Oc H1) (JZ Oc)->Same (L2.wo Oi H1) (JZ Oi)->J.yld i H x H'->ds[i]? = some d->(∀a∈O2,H a≠none/\(a∈Oi\/H1 a=none))->Rep D (L2.wo O2 H') d x
 stop:∀H,Same (L2.wo Oc H1) (JZ Oc)->J.stop ds.length H
def hidW(O W:ge Jl):Cl->ge Jl
 | .top=>O
 | .weak=>O
 | _=>O++W
def DA(D:Dm)(E:St->XK)(σ:St)(O W:ge Jl)(H:Hp)(R:It->Hp->Prop):Ri->Prop
 | .ok ds c=>∀J H',Same H H'->Wk D J ds (hidW O W c) (K7 O W c) H'->R J H'
 | .ex c=>∀H' C,D.mg c=some C->Same H H'->E σ C none H'
def dI(D:Dm)(E:St->XK)(δ:ge Sv)(r:Ri):TI:=λ σ H R=>∃O W,RSt D H σ δ O W/\DA D E σ O W H R r
theorem PI.weak(h:PI X tg a t)(k:∀b H R,t' b H R->t b H R):PI X tg a t':=λ c s b H R I q=>h c s b H R I (k b H R q)
theorem lN(s:Same (L2.wo O c) (JZ O))(h:∀a∈d,H a≠none/\(a∈O\/c a=none)):Same (L2.wo O c) (L2.wo d H):=λ b o e=>by
 have q:=s b o e;obtain⟨f,e⟩:=A6 e;obtain⟨_,q⟩:=A6 q;rw[i6 λ z=>?_]
 ·exact q
 ·rcases(h b z).2 with w | w
  ·exact f w
  ·rw[w]at e;cases e
theorem Wk.list(h:SqL D.K (L2.wo f b) a xs)(r:RepL D (L2.wo c b) ds xs):Wk D (Itl D.K a) ds f c b where
 go:=λ i H s hi=>⟨xs,xs[i]'(by rwa [r.length]),x8.seq (s.seq h),k7 _⟩
 same:=λ i H x n y=>by rw[y.1];exact Same.refl _
 yld:=λ i H x n d O2 s g y e l=>by obtain⟨m,y⟩:=y;subst m;obtain⟨v,k,j⟩:=r.get e;have:=y xs (x8.seq (s.seq h));rw[k]at this;cases this;exact j.mono (lN g l)
 stop:=λ H s=>⟨xs,x8.seq (s.seq h),by rw[r.length];exact i8 _⟩
theorem Wk.tup(h:SqT D.K (L2.wo f b) a xs)(r:RepL D (L2.wo c b) ds xs):Wk D (Itt D.K a) ds f c b where
 go:=λ i H s hi=>⟨xs,xs[i]'(by rwa [r.length]),x8.tseq (s.tseq h),k7 _⟩
 same:=λ i H x n y=>by rw[y.1];exact Same.refl _
 yld:=λ i H x n d O2 s g y e l=>by obtain⟨m,y⟩:=y;subst m;obtain⟨v,k,j⟩:=r.get e;have:=y xs (x8.tseq (s.tseq h));rw[k]at this;cases this;exact j.mono (lN g l)
 stop:=λ H s=>⟨xs,x8.tseq (s.tseq h),by rw[r.length];exact i8 _⟩
theorem lO(a:Int)(n:Nat):(upTo a n).length=n:=by unfold upTo;rw[g6,B7]
theorem DB(h:(upTo a n)[i]? = some d):i<n/\d=.int (a+i):=by
 have b:i<n:=by have:=(v4.mp h).1;rw[lO]at this;exact this
 unfold upTo at h;rw[p5,eN b]at h;cases h;exact⟨b,rfl⟩
theorem Wk.range(a:Int)(n:Nat):Wk D (Itr a n) (upTo a n) h g j where
 go:=λ i H s b=>by rw[lO]at b;exact b
 same:=λ i H x k y=>by rw[y.1];exact Same.refl _
 yld:=λ i H x k d O2 s s' y e ho=>by obtain⟨f,y⟩:=y;subst f;obtain⟨_,c⟩:=DB e;subst c;exact A2.mpr y
 stop:=λ H s=>by rw[lO];exact i8 _
theorem Got.walkL(g:Got D O W f H (Kx ds) c v)(hd:KM f):∃a xs,v=.ref a/\SqL D.K (JZ (hidW O W c)) a xs/\RepL D (JZ (K7 O W c)) ds xs:=by
 cases c with
 | weak=>obtain⟨a,xs,e,d,b⟩:=J3.mp g;exact⟨a,xs,e,SqL.of d,b⟩
 | top=>obtain⟨a,xs,e,e0,d,b⟩:=g;exact⟨a,xs,e,SqL.of d,b⟩
 | strong=>obtain⟨a,xs,e,d,b⟩:=J3.mp g;exact⟨a,xs,e,SqL.of d,b⟩
 | fresh=>obtain⟨a,xs,e,d,b⟩:=J3.mp (g.strong hd);exact⟨a,xs,e,SqL.of d,b⟩
theorem Got.walkT(g:Got D O W b H (.tup ds) c v)(hd:KM b):∃a xs,v=.ref a/\SqT D.K (JZ (hidW O W c)) a xs/\RepL D (JZ (K7 O W c)) ds xs:=by
 cases c with
 | weak=>exact F4.mp g
 | top=>
  obtain⟨a,xs,f,e,d⟩:=F4.mp (g);exact⟨a,xs,f,(M5 bz).tseq e,d⟩
 | strong=>exact F4.mp g
 | fresh=>obtain⟨_,_,_,_,q,_⟩:=g;cases q
theorem Got.walkS(g:Got D O W f H (.scr e) c v)(hd:KM f):∃a,v=.ref a/\SqL D.K (JZ (hidW O W c)) a (e.map V.int):=by
 cases c with
 | weak=>obtain⟨a,d,b⟩:=X7.mp g;exact⟨a,d,b.sq⟩
 | top=>obtain⟨a,d,b⟩:=X7.mp (g);exact⟨a,d,(M5 bz).seq b.sq⟩
 | strong=>obtain⟨a,d,b⟩:=X7.mp g;exact⟨a,d,b.sq⟩
 | fresh=>obtain⟨_,_,_,_,q,_⟩:=g;cases q
theorem sr(u:∀q,m=some q->PE X e JK)(h:r6 m=some r):PI X tg e (dI X.D E δ r):=by
 cases g:m with
 | none=>rw[g]at h;cases h
 | some q=>
  rw[g]at h;have A:=u q g;cases q with
  | ex c=>cases h;exact(jG A).weak λ k H o ⟨O,W,R,p⟩=>Kr
  | ok d c=>
   obtain⟨ds,b,f⟩:=w6.mp (h);cases f;unfold seqD at b;split at b
   ·cases b;exact(jG A).weak λ k H o ⟨O,W,R,p⟩=>⟨O,W,R,λ v j s1 i=>by
     obtain⟨a,b,f⟩:=i.walkS JS;exact⟨a,b,⟨_,x8.seq f⟩,p _ j s1 (.list f (gF _))⟩⟩
   ·cases b;exact(jG A).weak λ k H o ⟨O,W,R,p⟩=>⟨O,W,R,λ v j s1 i=>by
     obtain⟨a,l,b,f,n⟩:=i.walkL JS;exact⟨a,b,⟨l,x8.seq f⟩,p _ j s1 (.list f n)⟩⟩
   ·cases b;exact(xw A).weak λ k H o ⟨O,W,R,p⟩=>⟨O,W,R,λ v j s1 i=>by
     obtain⟨a,l,b,f,n⟩:=i.walkT JS;exact⟨a,b,⟨l,x8.tseq f⟩,p _ j s1 (.tup f n)⟩⟩
   ·cases b
theorem lP(h:G6 i=true) : -(2^62)<=i/\i<2^62:=by
 unfold G6 at h;simpa[f7]using h
theorem su(h:r6 (o.map λ a=>Re.ok (.lst a) .fresh)=some b):∃a,o=some a/\b=.ok a .fresh:=by
 cases o with
 | none=>cases h
 | some a=>cases h;exact⟨a,rfl,rfl⟩
theorem DC(r:Gl X "range")(n:X.mg "range" = none)(u:∀q,d=some q->PA X [e] Ll)(hs:o7 e=false)(h:r6 (Rs.thn d λ l=>(rngD l).map λ g=>Re.ok (.lst g) .fresh)=some f)(o:∀l,d=some (.ok l)->l.length=1) :
  PI X tg (.Call (.Name "range" p) [e] [] pos) (dI X.D E δ f):=by
 have C:=λ t (w:PA X [e] t)=>xz (tg:=tg) (p:=p) (pos:=pos) r n w (u4 hs);cases a:d with
 | none=>rw[a]at h;cases h
 | some q=>
  rw[a]at h;have A:=u q a;cases q with
  | ex c=>cases h;exact(C _ A).weak λ i H B ⟨O,W,R,p⟩=>Kr
  | ok l=>
   have k:=o l a;obtain⟨g,b,z⟩:=su (h);cases z;unfold rngD at b;split at b
   ·rename_i j c;split at b
    ·rename_i m;cases b;rw[f7]at m;have q:=lP m.1;exact(C _ A).weak λ i H B ⟨O,W,R,p⟩=>⟨O,W,R,λ vs F s1 y=>by
      obtain⟨v,rfl,x⟩:=y.one;exact⟨j,by rw[x.int JS],q.1,q.2,p _ F s1 (.range _ _)⟩⟩
    ·cases b
   ·cases k
   ·cases b
theorem DD(z:Gl X "range")(x:X.mg "range" = none)(B:∀q,f=some q->PA X [e,g] Ll)(hs:o7 e=false)(d:o7 g=false)(h:r6 (Rs.thn f λ l=>(rngD l).map λ r=>Re.ok (.lst r) .fresh)=some n)(y:∀l,f=some (.ok l)->l.length=2) :
  PI X tg (.Call (.Name "range" p) [e,g] [] pos) (dI X.D E δ n):=by
 have C:=λ t (F:PA X [e,g] t)=>xA (tg:=tg) (p:=p) (pos:=pos) z x F (by rw[u4 hs,u4 d];rfl) (u4 d);cases a:f with
 | none=>rw[a]at h;cases h
 | some q=>
  rw[a]at h;have A:=B q a;cases q with
  | ex c=>cases h;exact(C _ A).weak λ u H L ⟨O,W,R,p⟩=>Kr
  | ok l=>
   have w:=y l a;obtain⟨r,b,K⟩:=su (h);cases K;unfold rngD at b;split at b
   ·cases w
   ·rename_i i c j c';split at b
    ·rename_i m;cases b;rw[f7,f7]at m;have q:=lP m.1.1;have o:=lP m.1.2;exact(C _ A).weak λ u H L ⟨O,W,R,p⟩=>⟨O,W,R,λ vs M s1 J=>by
      obtain⟨v,v',rfl,I,k⟩:=J.two;exact⟨i,j,by rw[I.int JS,k.int JS],⟨q.1,q.2,o.1,o.2⟩,p _ M s1 (.range _ _)⟩⟩
    ·cases b
   ·cases b
def gR:ge Nat->TGs
 | []=>gNil
 | i::is=>oN (cL i) (gR is)
def gT(K:Ju):Tg->TG
 | .one i=>cL i
 | .many is=>gTup K is.length (gR is)
theorem RSt.setVal(R:La D)(r:Rep D (JZ (O++W)) d v)(i:Nat):RSt D H (σ.set i (some v)) (δ.set i (.val d)) O W where
 val:=λ j u h=>by
  by_cases e:j=i
  ·subst e;have c:=Lr;rw[F5 c]at h;cases h;exact⟨v,F5 (by rw[R.len];exact c),r⟩
  ·rw[u5 (Ld e)]at h ⊢;exact R.val j u h
 own:=λ j l h=>by
  by_cases e:j=i
  ·subst e;have c:=Lr;rw[F5 c]at h;cases h
  ·rw[u5 (Ld e)]at h ⊢;exact R.own j l h
 inj:=λ j k a f q b g n m=>by
  have ne:∀{j:Nat} {f:DV},(δ.set i (.val d))[j]? = some (.own f)->j≠i:=λ {j f} b z=>by
   subst z;have c:j<δ.length:=by have:=(v4.mp b).1;rw[B1]at this;exact this
   rw[F5 c]at b;cases b
  have p:=ne b;have o:=ne g;rw[u5 (Ld p)]at b n;rw[u5 (Ld o)]at g m;exact R.inj j k a f q b g n m
 od:=R.od.step (gG _ (by intro d z;cases z)) (λ _ h _=>h) (λ _ _ _ h _=>h)
 len:=by rw[B1,B1];exact R.len
 hid:=R.hid
theorem sw:∀{g:ge Nat} {j:ge DV} {f:ge V} {c:St} {e a:ge Sv},RSt D H c e O W->RepL D (JZ (O++W)) j f->bq e g j=some a->(∀b,RSt D H b a O W->Q b H)->gR g f c H Q
 | [],[],f,c,e,a,R,r,h,q=>by cases h;exact⟨C2.mp r,q c R⟩
 | i::g,d::j,f,c,e,a,R,r,h,q=>by obtain⟨v,k,n,m,l⟩:=v6.mp r;exact⟨v,k,n,sw (R.setVal m i) l h q⟩
 | [],_::_,_,_,_,_,_,_,h,_=>by cases h
 | _::_,[],_,_,_,_,_,_,h,_=>by cases h
theorem lQ:∀{is:ge Nat} {f:ge DV} {e c:ge Sv},bq e is f=some c->is.length=f.length/\c.length=e.length
 | [],[],_,_,h=>by cases h;exact⟨rfl,rfl⟩
 | i::is,d::f,e,c,h=>by obtain⟨a,b⟩:=lQ (is:=is) h;exact⟨by rw[x9,x9,a],by rw[b,B1]⟩
 | [],_::_,_,_,h=>by cases h
 | _::_,[],_,_,h=>by cases h
theorem lR(R:La D)(r:Rep D (JZ (O++W)) d x)(h:tg.bind d δ=some c)(q:∀b,RSt D H b c O W->Q b H):gT D.K tg x σ H Q:=by
 cases tg with
 | one i=>cases h;exact q _ (R.setVal r i)
 | many is=>
  unfold Tg.bind at h;dsimp at h;split at h
  ·rename_i ds;obtain⟨a,f,j,g,e⟩:=F4.mp r;exact⟨a,f,j,x8.tseq g,by rw[e.length,(lQ h).1],sw R e h q⟩
  ·cases h
theorem RSt.less(R:RSt D H σ b O W)(f:δ.length=b.length)(h:∀(i:Nat) c,δ[i]? = some c->c=.no\/b[i]? = some c):RSt D H σ δ O W where
 val:=λ i d e=>by
  rcases h i _ e with z | z
  ·cases z
  ·exact R.val i d z
 own:=λ i d e=>by
  rcases h i _ e with z | z
  ·cases z
  ·exact R.own i d z
 inj:=λ i j a d k e g=>by
  rcases h i _ e with z | z
  ·cases z
  ·rcases h j _ g with y | y
   ·cases y
   ·exact R.inj i j a d k z y
 od:=R.od.step (λ j d e=>by
  rcases h j _ e with z | z
  ·cases z
  ·exact⟨z,rfl⟩) (λ _ h _=>h) (λ _ _ _ h _=>h)
 len:=by rw[f];exact R.len
 hid:=R.hid
theorem DE:∀{is:ge Nat} {f:ge DV} {b a:ge Sv},bq b is f=some a->(∀i∈is,b[i]? = some .no\/b[i]? = none)->∀(i:Nat) sv,b[i]? = some sv->sv=.no\/a[i]? = some sv
 | [],[],_,_,h,_,i,sv,e=>by cases h;exact .inr e
 | j::is,d::f,b,a,h,p,i,sv,e=>by
  by_cases c:i∈j::is
  ·rcases p i c with z | z
   ·rw[z]at e;cases e;exact .inl rfl
   ·rw[z]at e;cases e
  ·have o:j≠i:=λ z=>c (by rw[z];exact n9);have n:=λ z=>c (n6 _ z);have g:∀{is:ge Nat} {f:ge DV} {b a:ge Sv},bq b is f=some a->i∉is->b[i]? = some sv->a[i]? = some sv:=by
    intro is
    induction is with
    | nil=>intro f b a h _ e;cases f with
     | nil=>cases h;exact e
     | cons _ _=>cases h
    | cons k is m=>intro f b a h l e;cases f with
     | nil=>cases h
     | cons d f=>
      refine m h (λ z=>l (n6 _ z)) ?_;rw[u5 (λ z=>l (by rw[z];exact n9))];exact e
   exact .inr (g h c e)
 | [],_::_,_,_,h,_,_,_,_=>by cases h
 | _::_,[],_,_,h,_,_,_,_=>by cases h
theorem sx(h:tg.bind d δ=some δ')(b:∀i∈ao tg,δ[i]? = some .no\/δ[i]? = none):δ.length=δ'.length/\∀(i:Nat) sv,δ[i]? = some sv->sv=.no\/δ'[i]? = some sv:=by
 cases tg with
 | one j=>
  cases h;refine⟨(B1 ..).symm,λ i sv e=>?_⟩;by_cases a:i=j
  ·subst a;rcases b i (by simp[ao])with z | z
   ·rw[z]at e;cases e;exact .inl rfl
   ·rw[z]at e;cases e
  ·exact .inr (by rw[u5 (Ld a)];exact e)
 | many is=>
  unfold Tg.bind at h;dsimp only at h;split at h
  ·exact⟨(lQ h).2.symm,DE h b⟩
  ·cases h
theorem RSt.inner(R:La D)(fr:ge (Ji Nat))(B:∀(j k i:Nat),fr[j]? = some (some i)->fr[k]? = some (some i)->j=k):RSt D H (L2.inner fr σ) (w4 fr δ) O W:=by
 have c:∀(j:Nat) x,(w4 fr δ)[j]? = some x->x ≠ .no->∃i,fr[j]? = some _/\δ[i]? = some x:=λ j x h L=>by
  unfold w4 at h;rw[p5]at h;cases q:fr[j]? with
  | none=>rw[q]at h;cases h
  | some o=>
   rw[q]at h;cases o with
   | none=>cases h;exact absurd rfl L
   | some i=>
    refine⟨i,rfl,?_⟩;have C:δ.getD i .no=x:=by simpa using h
    rw[o8]at C;cases z:δ[i]? with
    | none=>rw[z]at C;exact absurd C.symm L
    | some P=>
     rw[z]at C;exact congrArg some C
 have f:∀(j i:Nat) (v:V),fr[j]? = some (some i)->σ[i]? = some (some v)->(L2.inner fr σ)[j]? = some (some v):=λ j i v q e=>by unfold L2.inner;rw[p5,q];simp[e]
 refine⟨λ j d h=>?_,λ j d h=>?_,λ j k a d E S Q r p=>?_,λ j d h=>?_,?_,R.hid⟩
 ·obtain⟨i,m,n⟩:=c j _ h JH;obtain⟨v,r,p⟩:=R.val i d n;exact⟨v,f j i v m r,p⟩
 ·obtain⟨i,m,n⟩:=c j _ h JH;obtain⟨a,K,M,F,r,p⟩:=R.own i d n;exact⟨a,K,M,F,f j i _ m r,p⟩
 ·obtain⟨i,m,n⟩:=c j _ S JH;obtain⟨A,g,l⟩:=c k _ Q JH;obtain⟨b,K,M,_,I,_⟩:=R.own i d n;obtain⟨b',N,U,_,w,_⟩:=R.own A E l;have y:=f j i _ m I;have J:=f k A _ g w;rw[r]at y;rw[p]at J;cases y;cases J;have:=R.inj i A a d E n l I w;subst this;exact B j k i m g
 ·obtain⟨i,m,n⟩:=c j _ h JH;obtain⟨⟨a,o,F,r,p⟩,u⟩:=R.od i d n;refine⟨⟨a,o,F,f j i _ m r,p⟩,λ k E z=>?_⟩;obtain⟨A,g,l⟩:=c k _ z JH;rw[u A E l]at g;exact B k j i g m
 ·unfold L2.inner w4;rw[g6,g6]
section
variable {X:Cx} {E:St->XK} {δ:ge Sv} {iter elt tgE:Jn} {ifs:ge Jn} {pos:Pos} {N':ge Str} {scope:Jv} {fr:ge (Ji Nat)} {tg:Tg} {ri:Ji Ri} {re:Re}
theorem lS{Q:VK}(w:Wk D J ds (hidW O W c) (K7 O W c) F)(X:Hid O W H H)(hc:c ≠ .weak)(R:RSt D F σ o O W)
  (hn:∀i∈ao tg,o[i]? = some .no\/o[i]? = none) (hz:ds.length<=sizeLine) (hx:x5 g ds=some xs) (s1:Same H F)
  (step:∀d S,d∈ds->g d=some S->∃b,tg.bind d o=some b/\∀j l,Same F l->RSt D l j b O W->∀K:Bool->Hp->Prop,(S=.skip->∀m,Same l m->K false m)->(∀x,S=.item x->∀m,Same l m->K true m)->tc j l K)
  (C:∀d x,d∈ds->g d=some (.item x)->∀b,tg.bind d o=some b->∀j l,Same F l->RSt D l j b O W->∀K:VK,(∀v m,Same l m->Rep D (Ka m) x v->K v m)->te j l K)
  (Y:∀v r,Same H r->Got D O W H r (Kx xs) .fresh v->Q v r) :
  jV J (gT D.K tg) tc te (λ M r=>∀p,r p=none->Q (.ref p) (upd r p (.lst M))) σ F:=by
 have ci:K7 O W c=O++W:=by cases c<;>first | rfl | exact absurd rfl hc
 rw[ci]at w;refine⟨λ i n M j r=>n=ds.length - i/\i<=ds.length/\M.length<=i/\RSt D r j o O W/\Same F r/\∃f rest,x5 g (ds.drop i)=some rest/\f++rest=xs/\RepL D (Ka r) f M,
  ⟨ds.length,rfl,E5 _,E5 _,R,Same.refl _,[],xs,hx,rfl,C2.mpr rfl⟩,?_⟩
 rintro i n M σ2 l ⟨rfl,hi',hy,R2,s2,f,rest,h1,h2,r2⟩
 by_cases k:i<ds.length
 ·refine .inr ⟨w.go i l s2.wo k,Z8 hy (r9 k hz),λ N m y=>?_⟩;have A:=w.same i l N m y;have y3:=w.yld i l N m _ (O++W) s2.wo s2.wo y (k7 k) λ a ha=>⟨R2.hid.ot a ha,.inl ha⟩;rw[nN k]at h1;have U:=P0 k;unfold x5 at h1;split at h1
  ·cases h1
  ·rename_i q;obtain⟨b,I,Z⟩:=step _ _ U q;refine lR (R2.mono A) y3 I λ u L=>?_
   have h:=sx I hn;refine Z u m (s2.trans A) L _ (λ _ H4 B=>?_) (λ x z=>nomatch z);show if false=true then _ else _
   rw[g7 B5];exact⟨ds.length - (i+1),by omega,rfl,k,Nat.le_succ_of_le hy,(L.less h.1 h.2).mono B,(s2.trans A).trans B,f,rest,h1,h2,r2.mono (A.trans B).wo⟩
  ·rename_i x q;split at h1
   ·cases h1
   ·rename_i E q';cases h1;obtain⟨b,I,Z⟩:=step _ _ U q;refine lR (R2.mono A) y3 I λ u L=>?_
    have h:=sx I hn;refine Z u m (s2.trans A) L _ Ky (λ N z H4 B=>?_);cases z;show if true=true then _ else _
    rw[f8 rfl];refine C _ x U q b I u H4 ((s2.trans A).trans B) (L.mono B) _ λ v H5 P rv=>?_
    exact⟨ds.length - (i+1),by omega,rfl,k,by rw[t5,T6];omega,(L.less h.1 h.2).mono (B.trans P),((s2.trans A).trans B).trans P,f++[x],E,q',by rw[T7];exact h2,
     (r2.mono ((A.trans B).trans P).wo).append (RepL.one rv)⟩
 ·have e:i=ds.length:=by omega
  subst e;rw[jh]at h1;cases h1;rw[E4]at h2;subst h2;have s0:=s1.trans s2;refine .inl ⟨w.stop l s2.wo,λ p hp=>Y _ _ (s0.trans (t6 hp)) ?_⟩;exact Y0 (X.mono s0) hp r2
abbrev E0s:St->XK:=λ _ _ _ _=>False
theorem PE.any{t:ι->TE}(h:∀k,PE Y e (t k)):PE Y e (λ b H Q=>∃k,t k b H Q):=λ a s b H Q I ⟨k,q⟩=>h k a s b H Q I q
theorem PTs.any{t:ι->TT}(h:∀k,PTs Y es (t k)):PTs Y es (λ b H Q=>∃k,t k b H Q):=λ a s b H Q I ⟨k,q⟩=>h k a s b H Q I q
theorem Rc.of_item(h:Rc.of r=some (.item x)):∃c,r=some (.ok x c)/\stro x c=true:=by
 unfold Rc.of at h;split at h
 ·rename_i d c;split at h
  ·rename_i m;cases h;exact⟨c,rfl,m⟩
  ·cases h
 ·cases h
theorem Rc.of_skip(h:Rc.of r=some .skip):False:=by
 unfold Rc.of at h;split at h
 ·split at h<;>cases h
 ·cases h
theorem lT{i:Nat}(h:fr[i]? = some none):(w4 fr δ)[i]? = some .no:=by
 unfold w4;rw[p5,h];rfl
def Y4(X:Cx)(E:St->XK)(δ:ge Sv)(tgE iter:Jn)(ifs:ge Jn)(elt:Jn)(scope:Jv)(N':ge Str)(fr:ge (Ji Nat))(tg:Tg)(re:Re):Prop:=
 ∃(x:St->XK) (wi:TI) (tc:TT) (te:XK->TE),fQ X x/\PI X tgE iter wi/\(∀C cells s₂ H₂ fp x1,PTs (r3 X scope N' C cells s₂ H₂ fp x1) ifs tc)/\(∀C cells s₂ H₂ fp x1,PE (r3 X scope N' C cells s₂ H₂ fp x1) elt (te x1)) /\
  ∀σ H Q,dE X.D E δ re σ H Q->jW fr wi (gT X.K tg) tc (te (x σ)) σ H Q
theorem gU(b:G8 a=false):∀x,foldedSetIterable a env x=pure x:=by cases a<;>first | (intro _;rfl) | cases b
theorem Y4.pe(P:Y4 X E δ tgE iter ifs elt scope N' fr tg re)(S:KY N')(g:Lb)(hG:∀C a b d l e,PG (r3 X scope N' C a b d l e) tgE (gT X.K tg))(c:G8 iter=false) :
  PE X (.ListComp elt [⟨tgE,iter,ifs,0⟩] scope pos) (dE X.D E δ re):=by
 obtain⟨x,wi,tc,te,f,k,j,i,h⟩:=P;exact(zd S g f k hG j i (gU c)).weak h
theorem RSt.noNames(R:La D)(fr:ge (Ji Nat)):RSt D H (L2.inner fr σ) (w4 fr []) O []:=by
 have c:∀(j:Nat) e,(w4 fr [])[j]? = some e->e=.no:=λ j e h=>by
  unfold w4 at h;rw[p5]at h;cases q:fr[j]? with
  | none=>rw[q]at h;cases h
  | some o=>
   rw[q]at h;cases o with
   | none=>cases h;rfl
   | some i=>cases h;rfl
 refine⟨λ j d h=>(by cases c j _ h),λ j d h=>(by cases c j _ h),λ j k a d d' f h2 e1 e2=>(by cases c j _ f),λ j d h=>(by cases c j _ h),?_,?_⟩
 ·unfold L2.inner w4;rw[g6,g6]
 ·exact⟨λ a b=>R.hid.ot a (by rw[E4]at b;exact D6 _ b),Same.refl _,λ a b=>(nomatch b),λ a b=>(nomatch b),R.hid.om⟩
theorem DF{b:ge Sv->Ji Re}(S:KY N')(hc:Lb)(a0:∀(j k i:Nat),fr[j]? = some (some i)->fr[k]? = some (some i)->j=k)(I:∀i∈ao tg,fr[i]? = some none)(L:∀q,ri=some q->PI X tgE iter (dI X.D E δ q))
  (hG:∀C e f g fp x1,PG (r3 X scope N' C e f g fp x1) tgE (gT X.K tg)) (he:∀a r,b a=some r->∀C e f g fp x1,PE (r3 X scope N' C e f g fp x1) elt (dE X.D E0s a r))
  (h:(Ri.thn ri λ o c=>if c=.weak\/o4<o.length then(if c=.weak/\o.length<=o4 then fW (x5 (λ d=>(tg.bind d (w4 fr [])).bind λ a=>Rc.of (b a)) o)else none)else X0 (x5 (λ d=>(tg.bind d (w4 fr δ)).bind λ a=>Rc.of (b a)) o))=some re):Y4 X E δ tgE iter [] elt scope N' fr tg re:=by
 cases B:ri with
 | none=>rw[B]at h;cases h
 | some q=>
  rw[B]at h;have A:=L q B;refine⟨_,_,_,λ _=>_,pK,A,(λ C e f g fp x1=>za),(λ C e f g fp x1=>PE.any (ι:={p:ge Sv×Re // b p.1=some p.2}) (t:=λ k=>dE X.D E0s k.1.1 k.1.2) λ k=>he k.1.1 k.1.2 k.2 C e f g fp x1),?_⟩;cases q with
  | ex c=>cases h;exact λ σ H Q ⟨O,W,R,p⟩=>Kr
  | ok o c=>
   have n:(if c=.weak\/o4<o.length then(if c=.weak/\o.length<=o4 then fW (x5 (λ d=>(tg.bind d (w4 fr [])).bind λ a=>Rc.of (b a)) o)else none)else X0 (x5 (λ d=>(tg.bind d (w4 fr δ)).bind λ a=>Rc.of (b a)) o))=some re:=h;split at n
   ·split at n
    ·rename_i m;obtain⟨rfl,ml⟩:=m;unfold fW at n;split at n
     ·cases n
     ·rename_i xs Z;cases n;refine λ σ H Q ⟨O,W,R,p⟩=>⟨O,W,R,λ J H1 s1 w=>?_⟩
      have w':Wk X.D J o (hidW O [] .strong) (K7 O [] .strong) H1:=(by show Wk X.D J o (O++[]) (O++[]) H1;rw[E4];exact w);have M:Hid O [] H H:=(R.noNames fr).hid;refine lS (tg:=tg) (D:=X.D) (O:=O) (W:=[]) w' M JH ((Lk).noNames fr) (λ i L=>.inl (lT (I i L))) (S2 JA) Z s1 (λ d U hm l=>?_) (λ d x hm l a u y N P R2 K hK=>?_) (λ v H' s' g'=>p v H' s' ?_)
      ·cases u:tg.bind d (w4 fr [])with
       | none=>rw[u]at l;cases l
       | some a=>
        rw[u]at l;refine⟨a,rfl,λ y N P R2 K k1 Y=>?_⟩;cases U with
        | skip=>exact(Rc.of_skip l).elim
        | item x=>exact Y x rfl N (Same.refl _)
      ·rw[u]at l;obtain⟨cl,e1,e2⟩:=Rc.of_item l;exact⟨⟨⟨a,.ok x cl⟩,e1⟩,O,[],R2,λ v H3 F g3=>hK v H3 F (g3.stro (R2.hid.mono F) e2)⟩
      ·show Rep X.D (L2.wo O H') _ v;have:=Got.strong g' (M.mono s');rw[E4]at this;exact this
    ·cases n
   ·rename_i m;rw[not_or]at m;unfold X0 at n;split at n
    ·cases n
    ·rename_i xs Z;cases n;refine λ σ H Q ⟨O,W,R,p⟩=>⟨O,W,R,λ J H1 s1 w=>?_⟩
     refine lS (tg:=tg) (D:=X.D) w R.hid m.1 ((Lk).inner fr a0) (λ i L=>.inl (lT (I i L))) (S2 JA) Z s1 (λ d U hm l=>?_) (λ d x hm l a u y N P R2 K hK=>?_) p
     ·cases u:tg.bind d (w4 fr δ)with
      | none=>rw[u]at l;cases l
      | some a=>
       rw[u]at l;refine⟨a,rfl,λ y N P R2 K k1 Y=>?_⟩;cases U with
       | skip=>exact(Rc.of_skip l).elim
       | item x=>exact Y x rfl N (Same.refl _)
     ·rw[u]at l;obtain⟨cl,e1,e2⟩:=Rc.of_item l;exact⟨⟨⟨a,.ok x cl⟩,e1⟩,O,W,R2,λ v H3 F g3=>hK v H3 F (g3.stro (R2.hid.mono F) e2)⟩
theorem DG{f:ge Sv->Ji Re}{l:ge Sv->Ji Rt}(S:KY N')(hc:Lb)(N:∀(j k i:Nat),fr[j]? = some (some i)->fr[k]? = some (some i)->j=k)(M:∀i∈ao tg,fr[i]? = some none)(P:∀q,ri=some q->PI X tgE iter (dI X.D E δ q))
  (hG:∀C a b e fp x1,PG (r3 X scope N' C a b e fp x1) tgE (gT X.K tg)) (he:∀δ' r,f δ'=some r->∀C a b e fp x1,PE (r3 X scope N' C a b e fp x1) elt (dE X.D E0s δ' r))
  (ht:∀δ' r,l δ'=some r->∀C a b e fp x1,PT (r3 X scope N' C a b e fp x1) n (dT X.D E0s δ' r))
  (h:(Ri.thn ri λ B c=>if c=.weak\/o4<B.length then none else X0 (x5 (λ d=>(tg.bind d (w4 fr δ)).bind λ δ'=>Rc.test (l δ') (Rc.of (f δ'))) B))=some re):Y4 X E δ tgE iter [n] elt scope N' fr tg re:=by
 cases o:ri with
 | none=>rw[o]at h;cases h
 | some q=>
  rw[o]at h;have A:=P q o;refine⟨_,_,_,λ _=>_,pK,A,(λ C a b e fp x1=>PTs.any (ι:={p:ge Sv×Rt // l p.1=some p.2}) (t:=λ k=>dT X.D E0s k.1.1 k.1.2) λ k=>zb (ht k.1.1 k.1.2 k.2 C a b e fp x1)),
   (λ C a b e fp x1=>PE.any (ι:={p:ge Sv×Re // f p.1=some p.2}) (t:=λ k=>dE X.D E0s k.1.1 k.1.2) λ k=>he k.1.1 k.1.2 k.2 C a b e fp x1),?_⟩
  cases q with
  | ex c=>cases h;exact λ Y H Q ⟨O,W,R,p⟩=>Kr
  | ok B c=>
   have z:(if c=.weak\/o4<B.length then none else X0 (x5 (λ d=>(tg.bind d (w4 fr δ)).bind λ δ'=>Rc.test (l δ') (Rc.of (f δ'))) B))=some re:=h;split at z
   ·cases z
   ·rename_i m;rw[not_or]at m;unfold X0 at z;split at z
    ·cases z
    ·rename_i xs hx;cases z;refine λ Y H Q ⟨O,W,R,p⟩=>⟨O,W,R,λ J H1 s1 w=>?_⟩
     refine lS (tg:=tg) (D:=X.D) w R.hid m.1 ((Lk).inner fr N) (λ i P=>.inl (lT (M i P))) (S2 JA) hx s1 (λ d U hm u=>?_) (λ d x hm u δ' I L H2 Z R2 K hK=>?_) p
     ·cases I:tg.bind d (w4 fr δ)with
      | none=>rw[I]at u;cases u
      | some δ'=>
       rw[I]at u;have g:Rc.test (l δ') (Rc.of (f δ'))=some U:=u;refine⟨δ',rfl,λ L H2 Z R2 K k1 k2=>?_⟩;unfold Rc.test at g;split at g
       ·rename_i q;refine⟨⟨⟨δ',.ok true⟩,q⟩,O,W,R2,λ F y=>?_⟩;cases U with
        | skip=>exact(Rc.of_skip g).elim
        | item x=>exact k2 x rfl F y
       ·rename_i q;cases g;exact⟨⟨⟨δ',.ok false⟩,q⟩,O,W,R2,λ F y=>k1 rfl F y⟩
       ·cases g
     ·rw[I]at u;have g:Rc.test (l δ') (Rc.of (f δ'))=some (.item x):=u;unfold Rc.test at g;split at g
      ·obtain⟨cl,e1,e2⟩:=Rc.of_item g;exact⟨⟨⟨δ',.ok x cl⟩,e1⟩,O,W,R2,λ v F y g3=>hK v F y (g3.stro (R2.hid.mono y) e2)⟩
      ·cases g
      ·cases g
end
theorem Inv.turnedL{ch:ge Jl}(I:JI a)(k:∀b o,b∉ch->s.heap.get? b=some o->h'.get? b=some o)(g:∀b∈ch,FpOk X a H b):Inv X a σ H {s with heap:=h',toks:=t'}:=by
 have f:∀b u,H b=some u->b∉ch:=λ b u e z=>by rw[(g b z).1]at e;cases e
 refine I.step (ch:=ch) (λ b j=>?_) (λ b o _ _ d e _=>k b o d e) (λ b o _ _ d e _=>⟨o.slots,k b o d e⟩) (λ _ _ _ _ n=>n)
  (λ b o d e=>⟨o,k b o d e⟩) (λ _ _ e=>e) (λ _ _ _ e=>e) (λ _ _ e=>e) (λ m i=>?_) (λ b u e=>?_) I.bare
 ·obtain⟨_,x,_,w,p,l⟩:=g b j;exact⟨w,x,p,l⟩
 ·obtain⟨o,y,A,h,r⟩:=i;exact⟨o,y,A,k _ o (λ z=>(g _ z).2.1 rfl) h,r⟩
 ·refine(I.hok b u e).stay (λ c v d q=>k c v ?_ q) (λ _ q=>q) (λ _ _ q=>q) (λ _ _ q=>q) λ _ _ _ _ _ q=>q;rcases d with z | z
  ·rw[z];exact f b u e
  ·exact f c _ z
def SqD(t:Bool)(K:Ju)(H:Hp)(a:Jl)(xs:ge V):Prop:=match t with | false=>SqL K H a xs | true=>SqT K H a xs
theorem Same.sqd{K:Ju}(e:Same H b)(h:SqD t K H a xs):SqD t K b a xs:=by
 cases t
 ·exact e.seq h
 ·exact e.tseq h
theorem Inv.sqd(I:JI c)(h:SqD t X.K H a xs):∃b:ge Jj,Vals xs b/\SqK t s.heap a b.toArray:=by
 cases t
 ·obtain⟨b,d,p,_⟩:=I.list h;exact⟨b,d,p.isList⟩
 ·obtain⟨b,d,p,_⟩:=I.tuple h;exact⟨b,d,p⟩
theorem Inv.sqd_inj(I:JI b)(h:SqD t X.K H a xs)(d:SqD t X.K H a c):xs=c:=by
 cases t
 ·exact I.list_inj h d
 ·exact I.tuple_inj h d
def itK(t:Bool)(h:Jm)(ia la:Jl)(k:Nat):Prop:=match t with | false=>h.IsListIter ia la k | true=>h.IsTupleIter ia la k
theorem sy(p:itK t h b a k)(q:SqK t h a vs):sK t b a vs k h:=by
 cases t<;>exact⟨p,q⟩
theorem sA(p:sK t b a vs k h):itK t h b a k:=by
 cases t<;>exact p.1
theorem sB{t:Bool}{ia la:Jl}{k:Nat}{h h':Jm}(p:itK t h ia la k)(e:∀o,h.get? ia=some o->h'.get? ia=some o):itK t h' ia la k:=by
 cases t
 ·exact Heap.IsListIter.at p e
 ·obtain⟨o,z,r⟩:=p;exact⟨o,e o z,r⟩
theorem sC(p:itK t h a c k):∃o b,h.get? a=some o/\o.data=.fields b:=by
 cases t
 ·obtain⟨o,e,_,d⟩:=p;exact⟨o,_,e,d⟩
 ·obtain⟨o,e,_,d⟩:=p;exact⟨o,_,e,d⟩
theorem SqK.lt(p:SqK t h a vs):a<h.objs.size:=by
 cases t
 ·obtain⟨o,e,_⟩:=p;exact j9 e
 ·obtain⟨o,e,_⟩:=p;exact j9 e
theorem DH:∀b∈hidW O W (Cl.meet c d),b∈hidW O W c:=by
 cases c<;>cases d<;>intro b a<;>first | exact a | exact D6 _ a
theorem DI:∀b∈K7 O W (Cl.meet c d),b∈K7 O W c:=by
 cases c<;>cases d<;>intro b a<;>first | exact a | exact D6 _ a
theorem DJ(k:aj d=some (t,ds))(g:Got D O W f H d c v)(e:KM f):∃a b,v=.ref a/\SqD t D.K (JZ (hidW O W c)) a b/\RepL D (JZ (K7 O W c)) ds b:=by
 cases d<;>cases k
 ·exact g.walkT e
 ·exact g.walkL e
section
variable {P:Jq} {w:Jp} {A:Jr} {E:Jj->Jk->Prop} {s:Jk} {n c l:Jl} {k:Nat} {vs:Jo Jj} {S:Nat->Jm->Prop} {x old:Jj}
abbrev sD(s:Jk)(h':Jm)(n c:Jl)(k:Nat)(x:Jj)(S:Nat->Jm->Prop):Prop:=
 IsEnumOut h' n c ((k:Int)+1) x s.heap.objs.size/\S (k+1) h'/\h'.get? s.heap.objs.size=some {cls:=.type "tuple",data:=.seq #[.int k s.toks,x]} /\ h'.objs.size=s.heap.objs.size+1/\(∀b o,b≠n->b≠c->s.heap.get? b=some o->h'.get? b=some o)
theorem DK{Q:Jj->Jk->Prop}(R:Src P w c l vs S)(X:IsEnum s.heap n c k old)(hS:S k s.heap)(hx:vs[k]? = some x)(J:n≠c)(d2:l≠n)(hQ:∀h',sD s h' n c k x S->Q (JR s.heap.objs.size) {s with heap:=h',toks:=s.toks+1}) :
  wpAny Lv A (Builtin.«enumerate.__next__» ⟨[.ref n],[]⟩) (λ Z s'=>∃v,Z=.done (.ret v)/\Q v s') E s:=by
 obtain⟨f,i,j,a,h⟩:=s;show wpAny _ _ (field (.ref n) 2 >>= _) _ _ _;refine f0 (D9 X rfl (x:=.ref c) rfl (f0 (R.step k x hS hx λ m r1 r=>?_)))
 replace r:Heap.SameBut c f m:=r
 have W:IsEnum m n c k old:=(r.2 n J).trans X;show wpAny _ _ (field (.ref n) 3 >>= _) _ _ ⟨m,i,j,a,h⟩;refine f0 (D9 W rfl (x:=rawInt k) rfl ?_);show wpAny _ _ (field (.ref n) 4 >>= _) _ _ ⟨m,i,j,a,h⟩;refine f0 (D9 W rfl (x:=.none) rfl ?_);show wpAny _ _ (mkInt k >>= _) _ _ ⟨m,i,j,a,h⟩;refine f0 (wpAny_mkInt ?_);show wpAny _ _ (setField (.ref n) 3 (rawInt ((k:Int)+1)) >>= _) _ _ ⟨m,i,j,a+1,h⟩;refine f0 (O7 W JL λ I U q=>?_)
 replace q:Heap.SameBut n m I:=q
 replace U:IsEnum I n c ((k:Int)+1) old:=U
 show wpAny _ _ (setField (.ref n) 4 .none >>= _) _ _ ⟨I,i,j,a+1,h⟩;refine f0 (O7 U JL λ d O p=>?_)
 replace p:Heap.SameBut n I d:=p
 replace O:IsEnum d n c ((k:Int)+1) old:=O
 show wpAny _ _ (newTuple [.int k a,x] >>= _) _ _ ⟨d,i,j,a+1,h⟩;refine f0 (wpAny_newTuple ?_);have C:IsEnum Lf n c ((k:Int)+1) old:=i3 _ O;have K:d.objs.size=f.objs.size:=by rw[p.1,q.1,r.1]
 have q4:(Lf).get? f.objs.size=some {cls:=.type "tuple",data:=.seq #[.int k a,x]}:=by rw[←K];exact q0 _ rfl
 have z4:(Lf).objs.size=f.objs.size+1:=by rw[F7,K]
 have k4:∀b o,b≠n->b≠c->f.get? b=some o->(Lf).get? b=some o:=λ b o g b2 e=>
  i3 _ (p.extBut b o g (q.extBut b o g (r.extBut b o b2 e)))
 have r4:S (k+1) (d.push {cls:=.type "tuple",data:=.seq #[.int k a,x]}):=
  R.keep _ _ _ (R.ext (R.ext r1 q.extBut (Ld J) d2) p.extBut (Ld J) d2) (λ o e=>i3 _ e) (λ o e=>i3 _ e)
 generalize Lf=g4 at C q4 z4 k4 r4 ⊢;have lt:n<f.objs.size:=j9 X;show wpAny _ _ (Builtin.SmallTypes.ownedTupleIsFree (.ref n) >>= _) _ _ ⟨g4,i,j,a+1,h⟩;rw[K];refine f0 ?_;unfold Builtin.SmallTypes.ownedTupleIsFree;refine f0 (D9 C rfl (x:=.none) rfl (f9 ?_));simp only[if_true];refine f0 (bf (f0 (D9 C rfl (x:=old) rfl (f0 (O7 C JL λ H N B=>?_)))))
 replace B:Heap.SameBut n g4 H:=B
 replace N:IsEnum H n c ((k:Int)+1) x:=N
 show wpAny _ _ (Builtin.SmallTypes.ownedTupleHandOut (.ref n) (JR f.objs.size) >>= _) _ _ ⟨H,i,j,a+1,h⟩;refine f0 ?_;unfold Builtin.SmallTypes.ownedTupleHandOut;refine f0 (O7 N JL λ Y M z=>?_)
 replace z:Heap.SameBut n H Y:=z
 replace M:IsEnumOut Y n c ((k:Int)+1) x f.objs.size:=M
 refine O7 M JL λ F L y=>?_
 replace y:Heap.SameBut n Y F:=y
 replace L:IsEnumOut F n c ((k:Int)+1) x f.objs.size:=L
 have u:∀b o,b≠n->g4.get? b=some o->F.get? b=some o:=λ b o g e=>y.extBut b o g (z.extBut b o g (B.extBut b o g e));exact f0 (be (f9 ⟨_,rfl,hQ F ⟨L,R.keep _ _ _ r4 (λ o e=>u _ o (Ld J) e) (λ o e=>u _ o d2 e),u _ _ (Q8 lt) q4,by rw[y.1,z.1,B.1,z4],λ b o g b2 e=>u b o g (k4 b o g b2 e)⟩⟩))
theorem DL(R:Src P w c l vs S)(d:IsEnum s.heap n c k old)(f:S k s.heap)(e:vs[k]? = some x)(i:n≠c)(h:l≠n)(g:∀b,sD s b n c k x S->Q (some (JR s.heap.objs.size)) {s with heap:=b,toks:=s.toks+1}) :
  wpAny Lv A (pyNext (.ref n)) Q E s:=by
 have T:s.TypeIs (.ref n) "enumerate":=⟨_,d,rfl⟩;unfold pyNext;exact f0 (Q7 (O4 T eH (G4 eH T ow (DK R d f e i h λ b a=>f9 (g b a)) (nY _))))
theorem DM(i:KR)(R:Src P w c l vs S)(a:IsEnum s.heap n c k old)(m:S k s.heap)(h:vs[k]? = none)(p:∀b,Heap.ExtBut c s.heap b->Q none {s with heap:=b}) :
  wpAny Lv A (pyNext (.ref n)) Q E s:=by
 have T:s.TypeIs (.ref n) "enumerate":=⟨_,a,rfl⟩;unfold pyNext;refine f0 (Q7 (O4 T eH (G4 eH T ow ?_ (nY _))));show wpAny _ _ (field _ 2 >>= _) _ _ _;refine f0 (D9 a rfl rfl (f0 (R.stop k i m h λ g1 e d j=>?_)));obtain⟨o,g,f⟩:=j;exact f0 (bZ ⟨o,g,f⟩ fg (f9 (p _ d)))
end
open AutoSeq1 (wpAny_loadPart') in
theorem DN(l:Jl)(vs:Jo Jj)(m:Nat)(dc:Ji Jl)(sl:Jo (Ji Jj)):Meets (Builtin.«enumerate.__new__» ⟨[.type "enumerate",.ref l],[]⟩) (λ _ R s=>s.heap.get? l=some {cls:=.type "tuple",dict:=dc,data:=.seq vs m,slots:=sl} /\
  R (.ok (.ret (.ref (zH1 s.heap true l).objs.size))) {s with heap:=(zH1 s.heap true l).push {cls:=.type "enumerate",data:=.fields #[.none,.bool false,.ref s.heap.objs.size,rawInt 0,.none,.none]}}):=
 .of_wp λ P w A R s h=>by
  obtain⟨g0,gg,gd,gt,go⟩:=s;obtain⟨q,h⟩:=h;have hsub:=sub_enumerate;have qT:Heap.IsTuple (Shared.heap ⟨g0,gg,gd,gt,go⟩) l vs:=⟨_,q,rfl,m,rfl⟩
  wp_walk using bU q
  refine wpAny_stack_any λ st=>f9 ?_;split
  ·rename_i y _ _ _ _ _;cases(y==Value.type "enumerate")
   ·wp_walk using bU q,aP qT
    exact⟨_,rfl,h⟩
   ·wp_walk using bU q,aP qT
    exact⟨_,rfl,h⟩
  ·wp_walk using bU q,aP qT
   exact⟨_,rfl,h⟩
theorem DO         (t : Bool) (q : SqK t s.heap l vs)
    (h : ∀ a, IsEnum a (s.heap.objs.size + 1) s.heap.objs.size 0 .none -> sK t s.heap.objs.size l vs 0 a -> a.objs.size = s.heap.objs.size + 2 -> (∀ b o, s.heap.get? b = some o -> a.get? b = some o) -> Q (JR (s.heap.objs.size + 1)) { s with heap := a }) :
    wpAny Lv A (call (.type "enumerate") [.ref l]) Q E s := by
  cases t with
  | false => exact call_enumerate_list (q) λ a z x v k => h a z ⟨x, Heap.IsList.at (q) λ o e => k _ o e⟩ v k
  | true =>
    obtain⟨⟨y, u, r, n⟩, p, d, m, c⟩ := id (q)
    replace d : y = .type "tuple" := d
    replace c : r = .seq vs m := c
    subst d c;refine callType_new F.called_enumerate JB (F.typeCall_enumerate_1 _) (F.newCall_enumerate_1 _) (λ f => F.args_object_init_2 f _) F.entry_enumerate_new (DN l vs m u n) ⟨p, ?_⟩;have g : (zH1 s.heap true l).objs.size = s.heap.objs.size + 1 := F7 ..;have i := q0 (zH1 s.heap true l) (o := { cls := .type "enumerate", data := .fields #[.none, .bool false, .ref s.heap.objs.size, rawInt 0, .none, .none] }) rfl;have j : ∀ b o, s.heap.get? b = some o -> ((zH1 s.heap true l).push { cls := .type "enumerate", data := .fields #[.none, .bool false, .ref s.heap.objs.size, rawInt 0, .none, .none] }).get? b = some o := λ b o e => i3 _ (i3 _ e)
    rw [g] at i;show _ /\ _;rw [g];exact ⟨⟨_, i, rfl⟩, h _ i (zE (i3 _ (q0 _ rfl)) q j) (by rw [F7, g]) j⟩
def Ite(K:Ju)(t:Bool)(a:Jl):It:=
  ⟨λ i H=>∃xs x,SqD t K H a xs/\xs[i]? = some x,
   λ i H x H'=>∃p v,x=.ref p/\H p=none/\(∀xs,SqD t K H a xs->xs[i]? = some v)/\H'=upd H p (.tup [.int i,v]),
   λ i H=>∃xs,SqD t K H a xs/\xs.length<=i⟩
theorem DP{K:Ju}(t:Bool)(d1:n≠c)(d2:l≠n)(d3:l≠c) :
  Turn P w K (.Tuple elts k pos) (Ite K t l) [n,c] n (λ i h=>(∃f,IsEnum h n c (i:Nat) f)/\itK t h c l i) where
 mem:=by simp
 obj:=λ i h st b g=>by
  obtain⟨⟨f,m⟩,r⟩:=st;simp only[h8,T8,U2]at g;rcases g with rfl | rfl
  ·exact⟨_,m,λ v q=>by cases q⟩
  ·obtain⟨o,Y,e,d⟩:=sC r;exact⟨o,e,λ v q=>by rw[d]at q;cases q⟩
 keep:=λ i h h' st q=>by obtain⟨⟨f,m⟩,r⟩:=st;exact⟨⟨f,q n JL _ m⟩,sB r λ o e=>q c JL o e⟩
 item:=by
  intro X R N S Z i j s C H E I B st Q;subst R N S;obtain⟨⟨f,m⟩,r⟩:=st;obtain⟨Y,x,A,M⟩:=Q;obtain⟨L,J,p⟩:=I.sqd A;obtain⟨u,hu,ru⟩:=J.get M;refine DL (pO t d3) m (sy r p) (x:=u) (Kg hu) d1 d2 λ h' a=>⟨_,rfl,?_⟩
  obtain⟨a1,a2,a3,a4,a5⟩:=a;refine wpAny_letOwnedTupleGo_enum a1 λ U O F=>?_
  have z:s.heap.objs.size≠n:=Q8 (j9 m);have keep:∀b o,b∉[n,c]->s.heap.get? b=some o->U.get? b=some o:=λ b o g e=>F.extBut _ _ (λ q=>g (by simp[q])) (a5 b o (λ q=>g (by simp[q])) (λ q=>g (by simp[q])) e);have I1:Inv X j C H {s with heap:=U,toks:=s.toks+1}:=I.turnedL (t':=s.toks+1) keep B;have y:H s.heap.objs.size=none:=I.hok.fresh (i8 _);have W:=I.fpOk (i8 _) y;have h0:X.s₀.heap.get? s.heap.objs.size=none:=bV I.sz;have I2:Inv X j C (upd H s.heap.objs.size (.tup [.int i,x])) {s with heap:=U,toks:=s.toks+1}:=I1.track y h0 W.2.1 (λ n c e=>W.2.2.2.2.1 n c e) (λ q hq=>W.2.2.2.2.2 q hq)
   ⟨by show(2:Nat)<=sizeLine;decide,[.int i s.toks,u],.cons KD (.cons ru .nil),_,(F.extBut _ _ z a3),⟨rfl,rfl⟩,_,rfl⟩
  refine⟨.ref s.heap.objs.size,_,I2,rfl,⟨_,x,rfl,y,λ xs' e=>by rw[I.sqd_inj e A];exact M,rfl⟩,⟨⟨_,by simpa using O⟩,sB (sA a2) λ o e=>F.extBut _ _ (Ld d1) e⟩,λ b g=>?_⟩;have lt:b≠s.heap.objs.size:=by
   simp only[h8,T8,U2]at g;rcases g with rfl | rfl
   ·exact Ne.symm z
   ·obtain⟨o,_,e,_⟩:=sC r;exact p6 (j9 e)
  rw[i9 lt];exact(B b g).1
 done:=by
  intro X R N S Z i j s C H E I B st Q;subst R N S;obtain⟨⟨f,m⟩,r⟩:=st;obtain⟨Y,A,M⟩:=Q;obtain⟨L,J,p⟩:=I.sqd A;have e1:=J.length;exact DM (I.ok.hd Z) (pO t d3) m (sy r p) (by simp;omega) λ h' a=>⟨rfl,I.turnedL (t':=s.toks) (ch:=[n,c]) (λ b o g e=>a b o (λ q=>g (by simp[q])) e) B⟩
 self:=λ _ _ _ _ _ st h=>by obtain⟨⟨f,m⟩,_⟩:=st;exact wpAny_pyIter_enum m h
theorem lU:∀(k:Nat) (a:ge DV),(enuD k a).length=a.length
 | _,[]=>rfl
 | k,x::a=>by rw[enuD,x9,lU _ a,x9]
theorem sE:∀{k:Nat} {a:ge DV} {i:Nat} {d:DV},(enuD k a)[i]? = some d->∃x,a[i]? = some x/\d=.tup [.int ((k+i:Nat):Int),x]
 | _,[],_,_,h=>by simp[enuD]at h
 | k,x::a,0,d,h=>by simp[enuD]at h;exact⟨x,rfl,h.symm⟩
 | k,x::a,i+1,d,h=>by rw[enuD,List.getElem?_cons_succ]at h;obtain⟨y,c,b⟩:=sE h;exact⟨y,by simpa using c,by rw[b,show k+1+i=k+(i+1)from by omega]⟩
theorem Wk.enum(h:SqD t D.K (L2.wo k c) a xs)(r:RepL D (L2.wo j c) ds xs):Wk D (Ite D.K t a) (enuD 0 ds) k j c where
 go:=λ i H s u=>by rw[lU]at u;exact⟨xs,xs[i]'(by rw[r.length];omega),x8.sqd (s.sqd h),k7 _⟩
 same:=λ i H x A y=>by obtain⟨p,v,_,b,_,e⟩:=y;rw[e];exact t6 b
 yld:=λ i H x A d O2 s o y e g=>by obtain⟨p,v,ex,b,n,w⟩:=y;obtain⟨d1,q,rfl⟩:=sE e;obtain⟨v1,m,l⟩:=r.get q;have f:=n xs (x8.sqd (s.sqd h));rw[m]at f;cases f;subst w;refine F4.mpr ⟨p,_,ex,SqT.of (by rw[i6 (λ z=>(g p z).1 b)];exact u9),?_⟩;exact v6.mpr ⟨_,_,rfl,A2.mpr (by rw[jy]),RepL.one (l.mono ((lN o g).trans (t6 b).wo))⟩
 stop:=λ H s=>⟨xs,x8.sqd (s.sqd h),by rw[lU,r.length];exact i8 _⟩
theorem lV(h:a<n):n+1≠n/\a≠n+1/\a≠n:=by omega
theorem DQ:bootBuiltins "enumerate" = some (.type "enumerate"):=by decide +kernel
theorem DR(E:Gl X "enumerate")(C:X.mg "enumerate" = none)(F:PA X [e] o)(hs:o7 e=false) :
  PI X (.Tuple elts k tpos) (.Call (.Name "enumerate" p) [e] [] pos) (λ i H R=>o i H λ n g=>∃t a,n=[.ref a]/\(∃m,SqD t X.K g a m)/\R (Ite X.K t a) g):=by
 intro b s i H R I h;refine Call_ (ah I E C DQ (dX (thn (F pos b s i H _ I h) λ us s1 ⟨n,g,f,y,z⟩=>?_) (by rw[u4 hs]) (aw [] JL)));obtain⟨t,a,J,⟨m,B⟩,q⟩:=z;subst J;obtain⟨u,rfl,x⟩:=y.one;cases x;obtain⟨A,rv,p1⟩:=f.sqd B;have j:=p1.lt;refine DO t p1 λ h' l w z6 v=>?_
 refine wpAny_pyIter_enum l ⟨s1.heap.objs.size+1,[s1.heap.objs.size+1,s1.heap.objs.size],_,_,g,rfl,(f.kept v),
  DP t (lV j).1 (lV j).2.1 (lV j).2.2,⟨⟨_,l⟩,sA w⟩,λ c r=>?_,q⟩
 have d:s1.heap.objs.size<=c:=by
  simp[h8,T8,U2]at r;rcases r with rfl | rfl
  ·exact eW ..
  ·exact i8 _
 exact f.fpOk d (f.hok.fresh d)
theorem DS(u:Gl X "enumerate")(r:X.mg "enumerate" = none)(hs:o7 e=false)(w:∀q,g=some q->PE X e JK)
  (h:r6 (Re.thn g λ x c=>fV x c)=some f):PI X (.Tuple elts k tpos) (.Call (.Name "enumerate" p) [e] [] pos) (dI X.D E δ f):=by
 have C:=λ m (y:PE X e m)=>DR (elts:=elts) (k:=k) (tpos:=tpos) (p:=p) (pos:=pos) u r (L8 y U4 (u4 hs)) hs;cases b:g with
 | none=>rw[b]at h;cases h
 | some q=>
  rw[b]at h;have A:=w q b;cases q with
  | ex c=>cases h;exact(C _ A).weak λ j H L ⟨O,W,R,p⟩=>Kr
  | ok I K=>
   have d:r6 (fV I K)=some f:=h;unfold fV at d;split at d
   ·rename_i n J o;cases d;exact(C _ A).weak λ j H L ⟨O,W,R,p⟩=>⟨O,W,R,λ x M s1 z=>by
     have v:=R.hid.mono s1;obtain⟨a,l,F,i,B⟩:=DJ o z v;exact⟨n,a,by rw[F],⟨l,x8.sqd i⟩,p _ M s1 (.enum ((M5 DH).sqd i) (B.mono (M5 DI)))⟩⟩
   ·cases d
theorem Y5(f:FpOk X a H b)(h:c b=none):FpOk X a c b:=⟨h,f.2⟩
theorem DT{p:ge Int}(hh:KR)(b6:p.length=vs.length)(a5:l≠J)(Q:S≠J)(hlS:l≠S)
  (turn:∀(i:Nat) (v:V) (u:Jj) (k:Int),vs[i]? = some v->RelV v u->p[i]? = some k->∀pins' q n,Inv X pins' σ n q->Same H n->wpAny JE A.in1 (call (.ref f) [u]) (EP X pins' σ (λ w b5=>w=.int k/\Same n b5)) (λ _ _=>False) q)
  (hR:∀i v u q n,vs[i]? = some v->RelV v u->(∀j,j<vs.length->p.getD i 0<=p.getD j 0/\(j<i->p.getD i 0<p.getD j 0))->Inv X g σ n q->Same H n->R (.ok (.ret u)) q) :
  ∀(r j i:Nat) (q:Jk) (n:Hp) (U:Jj) (v:V) (tb:Tok) (c:Nat),vs.length - (j+1)=r->j+1<=vs.length->Inv X g σ n q->Same H n->FpOk X g n S->FpOk X g n J->SqL X.K n l vs ->
   q.heap.get? S=some (seqObj "list" #[U,.int (p.getD i 0) tb] c)->q.heap.IsListIter J l (j+1)->vs[i]? = some v->RelV v U->i<=j->(∀y,y<=j->p.getD i 0<=p.getD y 0/\(y<i->p.getD i 0<p.getD y 0)) ->
   codeAny JE A (.builtin "min.loop" ⟨[.ref J,.ref f,.ref S],[]⟩) R q:=by
 have ml : "min.loop" = (toString "min" ++ toString ".loop" : Jz):=by decide
 intro r
 induction r with
 | zero=>
  intro j i q n U v tb c hr hj I sm Z fJ hq gS P hv rv b3 m;obtain⟨us,ru,pl,zl⟩:=I.list hq;have b0:=ru.length;have W:=fB (prog:=X.prog) (w:=X.w) (A:=A.in1) hh J l a5 us.toArray;refine Q6 iN ?_;rw[V5 Z4 _];show wpAny _ A.in1 (seqItems? (.ref S) >>= _) _ _ _;refine f0 (af gS rfl ?_);show wpAny _ A.in1 _ _ _ _;refine f0 (aZ (W.done _ _ _ ⟨by rw[u8,show us.length=j+1 by omega];exact P,pl.isList⟩ λ h1 B hk=>?_));have E:=hk S _ (Kg Q) gS;have s1:=K9 h1 S (Obj.mapSeq λ _=>(#[]:Jo Jj));show wpAny _ A.in1 (updateSeq S (λ _=>#[]) >>= _) _ _ _;refine f0 (cj E rfl (f0 (be (f9 ?_))));have I9:Inv X g σ n {q with heap:=h1.update S (Obj.mapSeq λ _=>(#[]:Jo Jj)),toks:=B}:=by
   refine I.turnedL (t':=B) (ch:=[J,S]) (λ b o d e=>?_) λ b d=>?_
   ·rw[s1.2 b λ z=>d (by rw[z];simp)];exact hk b o (λ z=>d (by rw[u7.mp z];simp)) e
   ·rcases h8.mp d with rfl | d
    ·exact fJ
    ·rw[u7.mp d];exact Z
  exact hR i v U _ n hv rv (λ y a7=>m y JA) I9 sm
 | succ r ih=>
  intro j i q n U v tb c hr hj I sm Z fJ hq gS P hv rv b3 m;have O:j+1<vs.length:=by omega
  obtain⟨us,ru,pl,zl⟩:=I.list hq;have b0:=ru.length;have W:=fB (prog:=X.prog) (w:=X.w) (A:=A.in1) hh J l a5 us.toArray;refine Q6 iN ?_;rw[V5 Z4 _];show wpAny _ A.in1 (seqItems? (.ref S) >>= _) _ _ _;refine f0 (af gS rfl ?_);show wpAny _ A.in1 _ _ _ _;refine f0 (aZ (W.item (j+1) _ _ _ (by rw[u8];omega) ⟨P,pl.isList⟩ λ u h1 B hP b2 hk=>?_));have hu:us[j+1]? = some u:=by simpa using hP
  obtain⟨oJ,a4,a3,N⟩:=id b2.1;have E:=hk S _ (Kg Q) gS;obtain⟨v1,M⟩:∃v1,vs[j+1]? = some v1:=⟨_,k7 O⟩;obtain⟨u',a1,a0⟩:=ru.get M;rw[hu]at a1;cases a1;obtain⟨K,a6⟩:∃K,p[j+1]? = some K:=⟨_,k7 JA⟩;have a9:p.getD (j+1) 0=K:=by rw[o8,a6];rfl
  have I1:Inv X g σ n {q with heap:=h1,toks:=B}:=I.turnedL (ch:=[J]) (λ b o d e=>hk b o d e) λ b d=>by rw[u7.mp d];exact fJ
  have Ip:=I1.pinned (fp:=[S,J]) (λ b d=>by
   rcases h8.mp d with rfl | d
   ·exact Z
   ·rw[u7.mp d];exact fJ) (λ b d=>by
   rcases h8.mp d with rfl | d
   ·exact⟨_,E,λ v z=>by cases z⟩
   ·rw[u7.mp d];exact⟨_,a4,λ v z=>by rw[N]at z;cases z⟩)
  show wpAny _ A.in1 _ _ _ _;refine f0 (aZ (B6 (u0 (turn (j+1) v1 u K M a0 a6 _ _ n Ip sm) (λ x s2 he=>?_) λ _ _ hF=>hF.elim)));obtain⟨w2,H2,I2,r2,rfl,L⟩:=he;obtain⟨Y,rfl⟩:=r2;obtain⟨qS,nS,_⟩:=I2.pin _ (x3 _ (x3 _ (W4 (n9 ..) E)));obtain⟨qJ,nJ,_⟩:=I2.pin _ (x3 _ (x3 _ (W4 (n6 _ (n9 ..)) a4)));have I3:=I2.unpinned;have a2:SqL X.K H2 l vs:=L.seq hq;show wpAny _ A.in1 _ _ _ _;refine f0 (aZ (B6 (f0 (CmpOf.ints_lt (prog:=X.prog) (w:=X.w) (A:=A.in1) (λ i=>p.getD i 0) (λ i v h=>h) (j+1) i _ _ _ _ _ ⟨Y,by rw[a9]⟩ ⟨tb,rfl⟩ ?_))));refine f0 (B6 (aT (f0 (be (f9 ?_)))));by_cases a8:p.getD (j+1) 0<p.getD i 0
  ·have s1:=K9 s2.heap S (Obj.mapSeq λ _=>#[u,.int K Y]);obtain⟨c2,b4⟩:∃c2,(s2.heap.update S (Obj.mapSeq λ _=>#[u,.int K Y])).get? S=some (seqObj "list" #[u,.int K Y] c2):=⟨_,get?_update_seq qS λ _=>#[u,.int K Y]⟩;simp only[a8,decide_true,if_true];refine f0 (cj qS rfl (f0 (be ?_)));rw[←ml];refine f9 ⟨T9 Z4 _,ih (j+1) (j+1) _ H2 u v1 Y c2 JA O (I3.turnedL (t':=s2.toks) (ch:=[S]) (λ b o d e=>by rw[s1.2 b λ z=>d (by rw[z];simp)];exact e) λ b d=>by rw[u7.mp d];exact Y5 Z nS) (sm.trans L) (Y5 Z nS) (Y5 fJ nJ) a2 (by rw[a9];exact b4) ⟨oJ,(s1.2 J Q.symm).trans qJ,a3,N⟩ M a0 (i8 _) λ y a7=>?_⟩;by_cases e:y=j+1
   ·subst e;exact⟨by omega,λ _=>by omega⟩
   ·have b1:=(m y JA).1;exact⟨by omega,λ _=>by omega⟩
  ·simp only[a8,decide_false,aS,if_false];refine f0 (be ?_);rw[←ml];refine f9 ⟨T9 Z4 _,ih (j+1) i _ H2 U v tb c JA O I3 (sm.trans L) (Y5 Z nS) (Y5 fJ nJ) a2 qS ⟨oJ,qJ,a3,N⟩ hv rv JA λ y a7=>?_⟩;by_cases e:y=j+1
   ·subst e;exact⟨by omega,λ _=>by omega⟩
   ·exact m y JA
theorem DU{p:ge Int}(I:JI g)(hh:X.A.handled=none)(hq:SqL X.K H l vs)(P:0<vs.length)(R:p.length=vs.length)
  (turn:∀(i:Nat) (v:V) (u:Jj) (k:Int),vs[i]? = some v->RelV v u->p[i]? = some k->∀pins' s' n,Inv X pins' σ n s'->Same H n->wpAny JE X.A.in1 (call (.ref f) [u]) (EP X pins' σ (λ w a7=>w=.int k/\Same n a7)) (λ _ _=>False) s')
  (h:∀i v n,vs[i]? = some v->(∀j,j<vs.length->p.getD i 0<=p.getD j 0/\(j<i->p.getD i 0<p.getD j 0))->Same H n->Q v n):wpAny JE X.A (call (.builtin "min") [.ref l] [(Str.ofString "key",.ref f)]) (EP X g σ Q) E s:=by
 have ml : "min.loop" = (toString "min" ++ toString ".loop" : Jz):=by decide
 obtain⟨us,ru,pl,zl⟩:=I.list hq;have a1:=ru.length;have y:l<s.heap.objs.size:=by obtain⟨o,e,_⟩:=pl.isList;exact j9 e
 refine kmk_tree PySem.F.kind_min PySem.F.plain_min PySem.F.entry_min (kmk_min_key _ _) ?_;show wpAny _ X.A.in1 _ _ _ s;refine f0 (ag (a:=[some (.ref f),none]) rfl (f0 (f9 (f0 (iW pl.isList (f0 (wpAny_newList ?_ (E5 _))))))));rw[←ml];generalize hJ:s.heap.objs.size=J at y;generalize B:s.heap.push {cls:=.type "list_iterator",data:=.fields #[.ref l,.int 0 0]} = g0;have z0:g0.objs.size=J+1:=by rw[←B,size_push',hJ]
 have gS:(g0.push (seqObj "list" #[] 0)).get? (J+1)=some (seqObj "list" #[] 0):=by rw[←z0];exact q0 _ rfl
 have I0:Inv X g σ H {s with heap:=g0.push (seqObj "list" #[] 0)}:=I.kept (t':=s.toks) λ b o e=>by rw[←B];exact i3 _ (i3 _ e)
 have fJ:FpOk X g H J:=I.fpOk JA (I.hok.fresh JA);have fS:FpOk X g H (J+1):=I.fpOk JA (I.hok.fresh JA);refine f9 ⟨T9 Z4 _,?_⟩;show codeAny JE X.A _ _ {s with heap:=g0.push (seqObj "list" #[] 0)};rw[z0];have S:l≠J:=p6 y;have C:J+1≠J:=Q8 (O9 _);have a4:l≠J+1:=p6 (L4 y);obtain⟨us,ru,pl,zl⟩:=I0.list hq;have a1:=ru.length;have W:=fB (prog:=X.prog) (w:=X.w) (A:=X.A.in1) hh J l S us.toArray;refine Q6 iN ?_;rw[V5 Z4 _];show wpAny _ X.A.in1 (seqItems? (JR (J+1)) >>= _) _ _ _;refine f0 (af gS rfl ?_);show wpAny _ X.A.in1 (tryCatch (pyNext (.ref J)) _ >>= _) _ _ _;refine f0 (aZ (W.item 0 _ _ _ (by rw[u8];omega) ⟨⟨_,((by rw[←B,←hJ];exact i3 _ (q0 _ rfl))),rfl,rfl⟩,pl.isList⟩ λ u h1 a0 hP a2 hk=>?_));have hu:us[0]? = some u:=by simpa using hP
 obtain⟨oJ,O,a3,N⟩:=id a2.1;have Y:=hk (J+1) _ (Kg C) gS;obtain⟨v1,r⟩:∃v1,vs[0]? = some v1:=⟨_,k7 P⟩;obtain⟨u',M,L⟩:=ru.get r;rw[hu]at M;cases M;obtain⟨q,U⟩:∃q,p[0]? = some q:=⟨_,k7 JA⟩;have a6:p.getD 0 0=q:=by rw[o8,U];rfl
 have I1:=I0.turnedL (h':=h1) (t':=a0) (ch:=[J]) (λ b o m e=>hk b o m e) λ b m=>by rw[u7.mp m];exact fJ
 have Ip:=I1.pinned (fp:=[J+1,J]) (λ b m=>by
  rcases h8.mp m with rfl | m
  ·exact fS
  ·rw[u7.mp m];exact fJ) (λ b m=>by
  rcases h8.mp m with rfl | m
  ·exact⟨_,Y,λ v z=>by cases z⟩
  ·rw[u7.mp m];exact⟨_,O,λ v z=>by rw[N]at z;cases z⟩)
 show wpAny _ X.A.in1 _ _ _ _;refine f0 (aZ (B6 (u0 (turn 0 v1 u q r L U _ _ H Ip Kc) (λ x s2 he=>?_) λ _ _ hF=>hF.elim)));obtain⟨w2,H2,I2,r2,rfl,K⟩:=he;obtain⟨F,rfl⟩:=r2;obtain⟨qS,nS,_⟩:=I2.pin _ (x3 _ (x3 _ (W4 (n9 ..) Y)));obtain⟨qJ,nJ,_⟩:=I2.pin _ (x3 _ (x3 _ (W4 (n6 _ (n9 ..)) O)));have I3:=I2.unpinned;have s1:=K9 s2.heap (J+1) (Obj.mapSeq λ _=>#[u,.int q F]);obtain⟨c2,a5⟩:∃c2,(s2.heap.update (J+1) (Obj.mapSeq λ _=>#[u,.int q F])).get? (J+1)=some (seqObj "list" #[u,.int q F] c2):=⟨_,get?_update_seq qS λ _=>#[u,.int q F]⟩;show wpAny _ X.A.in1 _ _ _ _;refine f0 (cj qS rfl ?_);rw[←ml];refine f9 ⟨T9 Z4 _,DT (H:=H) hh R S C a4 turn (λ i v u s' n e1 e2 e3 e4 e5=>⟨v,n,e4,e2,h i v n e1 e3 e5⟩) _ 0 0 _ H2 u v1 F c2 rfl P (I3.turnedL (t':=s2.toks) (ch:=[J+1]) (λ b o m e=>by rw[s1.2 b λ z=>m (by rw[z];simp)];exact e) λ b m=>by rw[u7.mp m];exact Y5 fS nS) K (Y5 fS nS) (Y5 fJ nJ) (K.seq hq) (by rw[a6];exact a5) ⟨oJ,(s1.2 J C.symm).trans qJ,a3,N⟩ r L (i8 _) λ j' hj'=>?_⟩;have e:j'=0:=by omega
 subst e;exact⟨by omega,λ h=>absurd h (N3 _)⟩
theorem DW(I:JI k)(L:LamAt X sc c P)(T:LamTx m.N (m.N.take m.np) sc)(q:aq m F bd sc=true)(hN:m.N.length=m.np+fr.length)(d:KH)
  (x:capD δ fr=some cs) (R:La X.D) (lf:O1 H Lc F bd sc Kd f):Rep X.D (L2.wo (O++W) (trC ((Kd).map (·.2)) s.heap H)) (.lam m cs) (.ref f):=by
 generalize Z:(Kd).map (·.2)=l;have E:=Cells.of (sc:=sc) I (L.has I.ok);rw[Z]at E;have S:=T.full I (L.has I.ok);rw[Z]at S;obtain⟨ws,Q,w2,w3⟩:=lK R x;have same:=E.same;have hdA:=R.hid.hdA;have U:∀{b:Jl} {o:Obj} {u:HO},H b=some (.frz o u)->b∉O++W:=λ {b o u} e z=>by obtain⟨o',a,C⟩:=hdA b z;rw[e]at a;cases a;cases C
 have Y:∀{b:Jl},b∈l->b∉O++W:=λ {b} hb z=>by obtain⟨o',a,C⟩:=hdA b z;rw[E.none b hb]at a;cases a
 refine dh.mpr ⟨f,F,bd,sc,X.env.qual ++ "<lambda>",o5 X.env.cells sc.names [],l,ws,rfl,?_,q,S,w2.mono same.wo,by rw[hN,Q],λ c M=>?_,λ i y v B A=>?_⟩
 ·obtain⟨c',J,u,vs,t,pm,N,B,A,h3⟩:=lf;exact⟨c',J,u,vs,t,pm,N,by rw[i6 (U B)];exact same _ _ B,by rw[i6 (U A)];exact same _ _ A,h3⟩
 ·obtain⟨o,v,g,d'⟩:=E.cel c M;exact⟨o,v,by rw[i6 (Y M)];exact Y2 M g,d'⟩
 ·have hi:i<fr.length:=by rw[←Q];exact(v4.mp A).1
  have hj:=k7 hi;obtain⟨y',a,C,h⟩:=d i _ hj;rw[B]at a;cases a;obtain⟨mm,hn',K⟩:=I.loc;obtain⟨u,rv,lk⟩:=K _ y v C (w3 i _ v hj A) (.inr h);rcases lk with⟨n,_⟩ | ⟨n,cc,k2,o,k3,k4⟩
  ·have n:=n;rcases h with h | h<;>(rw[h]at n;cases n)
  ·have p:=B4 (T.fre (m.np+i) y (by rw[E9];exact i7 (Nat.min_le_left _ _) (eW _ _)) B);have r:=dv (L.has I.ok) p k2;have w:cc∈l:=S.mem y cc r;exact⟨cc,o,u,r,by rw[i6 (Y w)];exact Y2 w k3,k4,rv⟩
theorem DX{F:Nat->ge DV->Ji Ou}(I:JI h)(lo:Y3 X.prog X.w X.K X.mg X.base fn bl cl k (F z7))(hr:RoomL k A)(hA:A.frames=X.A.frames)(h1:m.fn=fn)(h2:m.bl=bl)(h3:m.cl=cl)
  (L:LamAt X sc c P) (T:LamTx m.N (m.N.take m.np) sc) (B:∀{h:ge (Jl×Obj)} {σ:ge (Ji V)} {H:Hp} {s:Jk},Inv X h σ H s->∀c∈(o5 X.env.cells sc.names []).map (·.2),X.base.get? c=none/\c∉frs X.stack) (C:aq m S bd sc=true) (hN:m.N.length=m.np+fr.length) (x:KH)
  (E:capD δ fr=some cs) (R:La X.D) (lf:O1 H Lc S bd sc Kd f) (rd:Rep X.D (JZ (O++W)) d v) (Z:RelV v u) (hF:F z7 [.lam m cs,d]=some (.v (.int n) false)) :
  wpAny JE A (call (.ref f) [u]) (EP X h σ (λ w Q=>w=.int n/\Same H Q)) (λ _ _=>False) s:=by
 have lamR:=DW I L T C hN x E R lf;generalize U:(Kd).map (·.2)=l at lamR;have J:=Cells.of I (L.has I.ok);rw[U]at J;have M:=B I;rw[U]at M;have same:=J.same;have q:=I.env0;refine cI (N4 (lo A X.stack s _ [u] [v] (λ v K=>Same (trC l s.heap H) K/\v=.int n) (λ _ _ _=>False) (O++W) f m cs [d] _ hr (Env0.trC J (λ c N=>(M c N).1) (λ c N=>(M c N).2) (⟨hA.trans q.frames,q.mod,q.bs,q.bsz,q.funs,q.frf,q.hok,q.bare⟩)) (.cons Z .nil) (λ a ha=>?_) h1 h2 h3 lamR (RepL.one (rd.mono same.wo)) hF λ v K sm g=>⟨sm,A2.mp g⟩) λ r Y p=>?_)
 ·obtain⟨o,q1,q2⟩:=R.hid.hdA a ha;exact⟨o,same _ _ q1,q2⟩
 ·cases r with
  | error e=>
   obtain⟨_,_,_,_,_,_,_,_,_,_,z⟩:=(p:CXx X.prog X.w X.base X.stack (trC l s.heap H) s (λ _ _ _=>False) e Y);exact z.elim
  | ok fl=>
   cases fl with
   | ret u=>
    refine I.after (CE.trC J p (λ v K sm z=>⟨z.2,λ b o e=>?_⟩) λ v K z=>z.1);rw[i6 λ w=>by rw[J.none b w]at e;cases e];exact sm _ _ (same _ _ e)
   | next=>exact False.elim p
   | brk=>exact False.elim p
   | cont=>exact False.elim p
theorem sF:∀{b:ge DV} {a:ge Int},R5 F mm b=some a->a.length=b.length/\∀(i:Nat) d n,b[i]? = some d->a[i]? = some n->F z7 [mm,d]=some (.v (.int n) false)
 | [],a,h=>by cases h;exact⟨rfl,λ i d n h=>by cases h⟩
 | d::r,a,h=>by
  unfold R5 at h;split at h
  ·rename_i n e;obtain⟨l,m,rfl⟩:=w6.mp h;obtain⟨j,g⟩:=sF m;refine⟨by rw[x9,x9,j],λ i o k f c=>?_⟩;cases i with
   | zero=>cases f;cases c;exact e
   | succ i=>exact g i o k f c
  ·cases h
theorem Room.toL1(r:Room k A):RoomL k A.in1:=⟨r.hd,r.dp,by have:=r.un;show A.units+1+16*k+198<_;omega⟩
theorem DY(h:N6 ks=some i)(d:c<ks.length)(h':∀j,j<ks.length->ks.getD c 0<=ks.getD j 0/\(j<c->ks.getD c 0<ks.getD j 0)):c=i:=by
 unfold N6 at h;have f:=iI h;have e:=jp h;rw[q9]at f;simp only[F6,q9,f7,D8,A9]at e;have a:=e c d;have b:=h' i f;rcases Nat.lt_trichotomy i c with z | z | z
 ·have:=b.2 z;omega
 ·exact z.symm
 ·have:=a.2;omega
section
variable {X:Cx} {E:St->XK} {δ:ge Sv} {ea bd:Jn} {pos p lp kp:Pos} {re:Re} {k:Nat} {x:Str} {pr:Jw} {sc:Jv} {c P:Jl} {m:LamD} {cs:ge DV} {fr:ge Nat} {pins:ge (Jl×Obj)} {σ:St} {H:Hp} {s:Jk} {O W:ge Jl} {f:Jl}
def QM(X:Cx)(δ:ge Sv)(F:Ku)(m:LamD)(cs:ge DV)(pr:Jw)(bd:Jn)(sc:Jv)(σ:St)(Q:VK):ge V->Hp->Prop:=λ vs H1=>∃va,vs=[va]/\∀f H2,Same H1 H2->H1 f=none->O1 H2 Lc pr bd sc Kd f ->
 ∃O W a xs ds ks i,va=V.ref a/\RSt X.D H2 σ δ O W/\SqL X.K H2 a xs/\RepL X.D (Ka H2) ds xs/\0<ds.length/\R5 F (.lam m cs) ds=some ks/\N6 ks=some i/\∀H' v,Same H2 H'->xs[i]? = some v->Q v H'
theorem DZ(lo:Y3 X.prog X.w X.K X.mg X.base fn bl cl k (F z7))(hr:Room k X.A)(h1:m.fn=fn)(h2:m.bl=bl)(h3:m.cl=cl)(hg:Gl X "min")(hm:X.mg "min" = none)(B:o7 ea=false)
  (L:LamAt X sc c P) (a0:defaultsOf pr X.env=([],[])) (T:LamTx m.N (m.N.take m.np) sc) (Z:∀{b:ge (Jl×Obj)} {g:ge (Ji V)} {H:Hp} {s:Jk},Inv X b g H s->∀c∈(o5 X.env.cells sc.names []).map (·.2),X.base.get? c=none/\c∉frs X.stack) (a1:aq m pr bd sc=true) (hN:m.N.length=m.np+fr.length) (w:KH)
  (a2:capD δ fr=some cs) (ha:PE X ea (dE X.D E δ ra)) (h:(Re.thn (some ra) λ x cx=>mnkL F (.lam m cs) x cx)=some re):PE X (.Call (.Name "min" p) [ea] [⟨some "key",.Lambda pr bd sc lp,kp⟩] pos) (dE X.D E δ re):=by
 have C:∀{ta:TE},PE X ea ta->PE X (.Call (.Name "min" p) [ea] [⟨some "key",.Lambda pr bd sc lp,kp⟩] pos) (λ g H Q=>jI ta tNil g H (QM X δ F m cs pr bd sc g Q)):=λ {ta} A=>by
  intro b s g H Q I h;refine Z6 (ah I hg hm boot_min ?_ JB JB);refine PyProof.Rows.callWith_kw (thn (L8 A (U4 (X:=X)) (u4 B) pos b s g H _ I h) λ us s1 ⟨vs,H1,I1,r1,S⟩=>?_) (by rw[u4 B];rfl) (by rw[u4 B];rfl);obtain⟨va,rfl,S⟩:=S;refine thn (ya (nm:=some "key") (kpos:=kp) (Dx (bd:=bd) (lp:=lp) L a0) (xZ (X:=X)) pos b s1 g H1 (λ ws o=>∃f,ws=[.ref f]/\O1 o Lc pr bd sc Kd f/\∃O W a r q ks i,va=V.ref a/\RSt X.D o g δ O W/\SqL X.K o a r/\RepL X.D (Ka o) q r/\0<q.length/\R5 F (.lam m cs) q=some ks/\N6 ks=some i/\∀K v,Same o K->r[i]? = some v->Q v K) I1
   (λ f o sm hn Y=>⟨f,rfl,Y,S f o sm hn Y⟩)) λ ws M t0=>?_;obtain⟨zs,o,I2,rz,f,e,Y,O,W,a,r,q,ks,ix,e',R,sq,N,a7,hk,J,hq⟩:=t0
  subst e e';obtain⟨u1,rfl,a5⟩:=L7 r1;obtain⟨u2,rfl,a4⟩:=L7 rz;obtain rfl:u1=Value.ref a:=a5;obtain rfl:u2=Value.ref f:=a4;show wpAny _ X.A _ _ X.xe M;obtain⟨k1,k2⟩:=sF hk;refine DU I2 hr.hd sq (by rw[N.length];exact a7) (by rw[k1,N.length]) (λ i v u n hv ru hn a6 s' K I' sm=>?_) λ i v K hv hb sm=>?_
  ·have hi:i<q.length:=by rw[←N.length];exact(v4.mp hv).1
   have hd:=k7 hi;obtain⟨v',e1,rp⟩:=N.get hd;rw[hv]at e1;cases e1;exact DX I' lo hr.toL1 rfl h1 h2 h3 L T Z a1 hN w a2 (R.mono sm) (Y.mono sm) (rp.mono sm.wo) ru (k2 i _ n hd hn)
  ·have hi:i<ks.length:=by rw[k1,←N.length];exact(v4.mp hv).1
   have:=DY J hi λ j hj=>hb j (by rw[N.length,←k1];exact hj);subst this;exact hq K v sm hv
 cases ra with
 | ex c=>cases h;exact(C ha).weak λ g H Q ⟨O,W,R,p⟩=>Kr
 | ok dx cx=>
  have l:mnkL F (.lam m cs) dx cx=some re:=h;unfold mnkL at l;split at l
  ·rename_i q;split at l
   ·rename_i z;obtain⟨ks,hk,l⟩:=v9.mp l;obtain⟨ix,J,l⟩:=v9.mp l;obtain⟨d,hd,rfl⟩:=w6.mp l;refine(C ha).weak λ g H Q ⟨O,W,R,p⟩=>⟨O,W,R,λ va H1 s1 g1=>⟨va,rfl,λ f o M hn Y=>?_⟩⟩
    have U:=s1.trans M;obtain⟨a,r,e1,e2,e3⟩:=g1.lstC JS;have a3:RepL X.D (Ka H1) q r:=by
     cases cx with
     | strong=>exact e3
     | fresh=>exact e3
     | weak=>cases z
     | top=>exact e3
    refine⟨O,W,a,r,q,ks,ix,e1,R.mono U,SqL.of (M _ _ e2),a3.mono M.wo,Z8 (E5 _) (v4.mp hd).1,hk,J,λ K v sm hv=>p _ _ (U.trans sm) ?_⟩;obtain⟨v',S,q2⟩:=a3.get hd;rw[hv]at S;cases S;exact(q2.mono (M.trans sm).wo:Rep X.D (Ka K) d v)
   ·cases l
  ·cases l
end
noncomputable def dEnd(D:Dm)(E:St->XK)(H0:Hp)(O:ge Jl)(Dn:Ends):Out->Prop
 | .nx δ=>∀σ H W,RSt D H σ δ O W->(∀a∈W,H0 a=none)->Same H0 H->Dn.nx σ H
 | .rt d fr=>∀v H,Same H0 H->GotR D O H0 H d fr v->Dn.rt v H
 | .ex c δ=>∀σ H W C,D.mg c=some C->RSt D H σ δ O W->(∀a∈W,H0 a=none)->Same H0 H->E σ C none H
def dS(D:Dm)(E:St->XK)(δ:ge Sv)(o:Out):TS:=λ Dn σ H=>∃H0 O W,RSt D H σ δ O W/\(∀a∈W,H0 a=none)/\(∀a∈O,H0 a≠none)/\Same H0 H/\dEnd D E H0 O Dn o
theorem Ea:PSs X [] (dS X.D E δ (.nx δ)):=xg.weak λ Dn a H ⟨H0,O,W,R,b,fo,sm,k⟩=>k a H W R b sm
theorem Eb{st:Js}{rest:ge Js}(f:PS X st (dS X.D E δ (.nx δ1)))(e:PSs X rest (dS X.D E δ1 o)):PSs X (st::rest) (dS X.D E δ o):=
 (cK f e).weak λ Dn σ H ⟨c,O,W,R,g,fo,sm,k⟩=>⟨c,O,W,R,g,fo,sm,λ d H' h i b a=>⟨c,O,h,i,b,fo,a,k⟩⟩
theorem Ec{st:Js}{rest:ge Js}(a:PS X st (dS X.D E δ (.rt d fr))):PSs X (st::rest) (dS X.D E δ (.rt d fr)):=
 (cK a ai).weak λ Dn σ H ⟨b,O,W,R,fr,fo,sm,k⟩=>⟨b,O,W,R,fr,fo,sm,k⟩
theorem Ed{st:Js}{rest:ge Js}(b:PS X st (dS X.D E δ (.ex c a))):PSs X (st::rest) (dS X.D E δ (.ex c a)):=
 (cK b ai).weak λ Dn σ H ⟨e,O,W,R,d,fo,sm,k⟩=>⟨e,O,W,R,d,fo,sm,k⟩
theorem Q0(R:La D)(fr:∀a∈W,b a=none)(sm:Same b H)(k:dEnd D E b O e (.ex c δ)):Post D E σ O W H H Q (.ex c):=
 λ d C m s=>k σ d W C m (R.mono s) fr (sm.trans s)
theorem Ee(j:∀q,rt=some q->PT X c (dT X.D E δ q))(n:∀q,g=some q->PSs X body (dS X.D E δ q))(l:∀q,rp=some q->PSs X els (dS X.D E δ q))(h:(Rt.thnS δ rt λ k=>if k then g else rp)=some o):PS X (.If c body els pos) (dS X.D E δ o):=by
 cases a:rt with
 | none=>rw[a]at h;cases h
 | some q=>
  rw[a]at h;have C:=j q a;cases q with
  | ex c=>cases h;exact(jE C ai ai).weak λ i f H ⟨e,O,W,R,d,fo,sm,k⟩=>⟨O,W,R,λ u C m s=>k f u W C m (R.mono s) d (sm.trans s)⟩
  | ok b=>
   cases b with
   | true=>
    exact(jE C (n o h) ai).weak λ i f H ⟨e,O,W,R,d,fo,sm,k⟩=>⟨O,W,R,λ r s1=>iteT ⟨e,O,W,R.mono s1,d,fo,sm.trans s1,k⟩⟩
   | false=>
    exact(jE C ai (l o h)).weak λ i f H ⟨e,O,W,R,d,fo,sm,k⟩=>⟨O,W,R,λ r s1=>iteF ⟨e,O,W,R.mono s1,d,fo,sm.trans s1,k⟩⟩
theorem Ef(F:∀q,j=some q->PE X e JK)(h:(Re.thnS δ j λ d c=>some (retD d c))=some o):PS X (.Return (some e) pos) (dS X.D E δ o):=by
 cases f:j with
 | none=>rw[f]at h;cases h
 | some q=>
  rw[f]at h;have A:=F q f;cases q with
  | ex c=>cases h;exact(fG A).weak λ B C H ⟨y,O,W,R,n,fo,sm,k⟩=>⟨O,W,R,Q0 R n sm k⟩
  | ok d cl=>
   have I:=h;cases I;refine(fG A).weak λ B C H ⟨y,O,W,R,n,fo,sm,k⟩=>⟨O,W,R,λ v M s1 g=>(k:dEnd X.D E y O B _) v M (sm.trans s1) ?_⟩;cases l:frD d cl with
   | false=>exact g.weak JS
   | true=>
    unfold frD at l;split at l
    ·obtain⟨p,i,L,w,u,r,K,J⟩:=g;exact⟨p,i,L,w,u,sm.free r,K,J.mono (M5 λ b m=>by rcases h8.mp m with z | z;exact h8.mpr (.inl z);exact n6 _ (D6 _ z))⟩
    ·obtain⟨a,i,w,x,u,r⟩:=g;exact⟨a,i,_,w,rfl,n a x,x8 _ _ u,r.mono (M5 λ b m=>by rcases h8.mp m with z | z;rw[z];exact x3 _ x;exact D6 _ z)⟩
    ·cases l
theorem gW(h:al v=false):swapsWith v t l env=pure false:=by
 cases v<;>first | rfl | cases h
theorem Eg(j:∀q,ra=some q->PE X e JK)(i:al e=false)(h:(Re.thnS δ ra λ _ _=>some (.nx δ))=some o):PS X (.Expr e pos) (dS X.D E δ o):=by
 cases a:ra with
 | none=>rw[a]at h;cases h
 | some q=>
  rw[a]at h;have A:=j q a;cases q with
  | ex c=>cases h;exact(fF A (gW i)).weak λ n f H ⟨m,O,W,R,b,fo,sm,k⟩=>⟨O,W,R,Q0 R b sm k⟩
  | ok d cl=>cases h;exact(fF A (gW i)).weak λ n f H ⟨m,O,W,R,b,fo,sm,k⟩=>⟨O,W,R,λ v l s1 g=>k f l W Lk b (sm.trans s1)⟩
theorem dw:b∈O++p::W↔b∈p::(O++W):=by
 simp[D7,h8];constructor
 ·rintro(h | h | h)
  ·exact .inr (.inl h)
  ·exact .inl h
  ·exact .inr (.inr h)
 ·rintro(h | h | h)
  ·exact .inr (.inl h)
  ·exact .inl h
  ·exact .inr (.inr h)
theorem S8{l:ge c}(h:(l.set i a)[j]? = some b)(d:a≠b):j≠i:=λ z=>by
 subst z;have e:j<l.length:=by have:=(v4.mp h).1;rw[B1]at this;exact this
 rw[F5 e]at h;exact d (B0 h)
theorem dz{l:ge c}(h:(l.set i a)[i]? = some b):i<l.length/\a=b:=by
 have d:=Lr;rw[F5 d]at h;exact⟨d,B0 h⟩
theorem RSt.alloc(R:La D)(s:Same H A)(F:H p=none)(f:A p=some (Kx xs))(r:RepL D (L2.wo (p::(O++W)) A) ds xs)(i:Nat) :
  RSt D A (σ.set i (KP p)) (δ.set i (.own (Kx ds))) O (p::W):=by
 have l:Same (JZ (O++W)) (L2.wo (O++p::W) A):=λ b o e=>by obtain⟨I,e⟩:=A6 e;rw[i6 (λ z=>by rcases h8.mp (dw.mp z)with z | z;exact y9 e F z;exact I z)];exact s b o e
 refine⟨λ j d h=>?_,λ j J h=>?_,λ j k a g d2 U S x w=>?_,R.od.step (gG _ (by intro d z;cases z)) (λ _ h _=>n6 _ h) (λ a P _ h _=>s _ _ h),by rw[B1,B1];exact R.len,⟨λ a u=>?_,Same.refl _,λ a u=>?_,λ a u=>?_,R.hid.omS s⟩⟩
 ·have c:=S8 h JH;rw[u5 (Ld c)]at h ⊢;obtain⟨v,x,w⟩:=R.val j d h;exact⟨v,x,w.mono l⟩
 ·by_cases c:j=i
  ·subst c;obtain⟨Q,e⟩:=dz h;cases e;exact⟨p,xs,ds,rfl,F5 (by rw[R.len];exact Q),n9,f,r.mono (M5 λ b I=>dw.mp I)⟩
  ·rw[u5 (Ld c)]at h ⊢;obtain⟨a,B,y,Z,x,w,Y,X⟩:=R.own j J h;exact⟨a,B,y,Z,x,n6 _ w,s _ _ Y,X.mono l⟩
 ·have n:∀{j:Nat} {g:DV},(δ.set i (.own (Kx ds)))[j]? = some (.own g)->(σ.set i (KP p))[j]? = some (some (V.ref a))->(j=i/\a=p)\/(j≠i/\δ[j]? = some (.own g)/\σ[j]? = some (some (V.ref a))/\a≠p):=λ {j g} h e=>by
   by_cases c:j=i
   ·subst c;obtain⟨_,z⟩:=dz e;cases z;exact .inl ⟨rfl,rfl⟩
   ·rw[u5 (Ld c)]at h e;refine .inr ⟨c,h,e,λ z=>?_⟩;obtain⟨a',B,y,_,N,_,M,_⟩:=R.own j g h;rw[e]at N;cases N;rw[z,F]at M;cases M
  rcases n U x with⟨K,C⟩ | ⟨K,C,z3,z4⟩<;>rcases n S w with⟨L,E⟩ | ⟨L,E,y3,y4⟩
  ·rw[K,L]
  ·exact absurd C y4
  ·exact absurd E z4
  ·exact R.inj j k a g d2 C E z3 y3
 ·rcases h8.mp (dw.mp u)with z | z
  ·rw[z,f];intro q;cases q
  ·intro q;exact R.hid.ot a z (s.free q)
 ·rcases h8.mp u with z | z
  ·exact⟨_,by rw[z];exact f,rfl⟩
  ·obtain⟨B,q,m⟩:=R.hid.wl a z;exact⟨B,s _ _ q,m⟩
 ·rcases h8.mp u with z | z
  ·intro q;exact R.hid.ot p (D6 _ (by rw[←z];exact q)) F
  ·exact R.hid.dj a z
theorem sG(h:noOt i δ=true)(q:δ[j]? = some (.od d)):j=i:=by
 unfold noOt at h;rw[F6]at h;have:=h j (q9.mpr ((v4.mp q).1));rw[q]at this;simpa using this
theorem RSt.write(R:La D)(A:δ[i]? = some (.own (Kx ds)))(C:σ[i]? = some (KP a))(r:RepL D (JZ (O++W)) g f) :
  RSt D (upd H a (.lst f)) σ (δ.set i (.own (.lst g))) O W:=by
 obtain⟨a',xs,ds0,e0,L,K,Z,e4⟩:=R.own i _ A;rw[C]at L;cases L;have p:Same _ (L2.wo (O++W) (upd H a (.lst f))):=λ b o e=>by obtain⟨w,e⟩:=A6 e;rw[i6 w,i9 λ z=>w (by rw[z];exact x3 _ K)];exact e
 have hl:=(v4.mp A).1;refine⟨λ j d h=>?_,λ j n h=>?_,λ j k b J d2 Y X u x=>?_,R.od.step (BG (by intro d z;cases z)) (λ _ h _=>h) (λ b U _ h m=>by rw[i9 (λ z=>by rw[z,Z]at h;cases h;cases m)];exact h),by rw[B1];exact R.len,⟨λ b w q=>?_,Same.refl _,λ b w=>?_,R.hid.dj,R.hid.omW (by assumption)⟩⟩
 ·have l:=S8 h JH;rw[u5 (Ld l)]at h;obtain⟨v,u,x⟩:=R.val j d h;exact⟨v,u,x.mono p⟩
 ·by_cases l:j=i
  ·subst l;obtain⟨_,e⟩:=dz h;cases e;exact⟨a,f,g,rfl,C,K,u9,r.mono p⟩
  ·rw[u5 (Ld l)]at h;obtain⟨b,B,E,S,u,x,Q,P⟩:=R.own j n h;refine⟨b,B,E,S,u,x,?_,P.mono p⟩;rw[i9 λ z=>l (R.inj j i a n _ h A (by rw[←z];exact u) C)];exact Q
 ·have y:∀{j:Nat} {J:DV},(δ.set i (.own (.lst g)))[j]? = some _->∃d0,δ[j]? = some (.own d0):=λ {j J} h=>by
   by_cases l:j=i
   ·subst l;exact⟨_,A⟩
   ·rw[u5 (Ld l)]at h;exact⟨J,h⟩
  obtain⟨I,N⟩:=y Y;obtain⟨F,M⟩:=y X;exact R.inj j k b I F N M u x
 ·by_cases c:b=a
  ·rw[c,u9]at q;cases q
  ·rw[i9 c]at q;exact R.hid.ot b w q
 ·by_cases c:b=a
  ·exact⟨_,by rw[c];exact u9,rfl⟩
  ·obtain⟨B,q,m⟩:=R.hid.wl b w;exact⟨B,by rw[i9 c];exact q,m⟩
theorem dB(h:Same c H)(d:c a=none):Same c (upd H a o):=λ b u e=>by
 rw[i9 (y9 e d)];exact h b u e
theorem sH{own:Bool}(h:(if own then cS i δ d cl else(LK cl))=some o)
  (R:La D) (fr:∀a∈W,c a=none) (sm:Same c H) (k:dEnd D E c O j o):∀v e,Same H e->Got D O W H e d cl v->j.nx (σ.set i (some v)) e:=λ v b s1 g=>by
 cases own with
 | true=>
  simp only[if_true]at h;unfold cS at h;split at h
  ·cases h;obtain⟨p,xs,ds,u,r,f,q,n⟩:=g;subst u r;exact k _ b (p::W) (R.alloc s1 f q n i) (λ a l=>by
    rcases h8.mp l with z | z
    ·rw[z];exact sm.free f
    ·exact fr a z) (sm.trans s1)
  ·split at h
   ·cases h;exact k _ b W ((Lk).setVal (X6.mpr (X6.mp (g.weak JS))) i) fr (sm.trans s1)
   ·cases h
 | false=>
  simp only[aS,if_false]at h;split at h
  ·rename_i m;cases h;exact k _ b W ((Lk).setVal (g.stro JS m) i) fr (sm.trans s1)
  ·cases h
theorem sI{X:Cx}{i:Nat}{x:Str}{f:Bool}(p:X.N.Nodup)(l:X.N[i]? = some x)(j:Loc X.env.scope x)(m:X.fn x=true\/X.env.scope.names.lookup x=some .local)(u:∀q,b=some q->PE X e JK)(n:swapsWith e (some (.Name x pos')) pos.line X.env=pure false)
  (h:(Re.thnS δ b λ d c=>if f then cS i δ d c else(LK c))=some o):PS X (.Assign [.Name x pos'] e pos) (dS X.D E δ o):=by
 cases a:b with
 | none=>rw[a]at h;cases h
 | some q=>
  rw[a]at h;have A:=u q a;cases q with
  | ex c=>cases h;exact(fH p l j A n m).weak λ w r H ⟨v,O,W,R,g,fo,sm,k⟩=>⟨O,W,R,Q0 R g sm k⟩
  | ok d cl=>exact(fH p l j A n m).weak λ w r H ⟨v,O,W,R,g,fo,sm,k⟩=>⟨O,W,R,sH h R g sm k⟩
theorem Eh{n:Bool}(S:KY q)(y:Lb)(A:X.N.Nodup)(w:X.N[i]? = some x)(v:X.env.scope.names.lookup x=some .local)
  (P:Y4 X E δ b a e elt scope q fr tg m) (hG:∀C f g l K u,PG (r3 X scope q C f g l K u) b (gT X.K tg)) (j:G8 a=false)  (p:swapsWith (.ListComp elt [⟨b,a,e,0⟩] scope cpos) (some (.Name x pos')) pos.line X.env=pure true)
  (h:(Re.thnS δ (some m) λ d c=>if n then cS i δ d c else(LK c))=some o):PS X (.Assign [.Name x pos'] (.ListComp elt [⟨b,a,e,0⟩] scope cpos) pos) (dS X.D E δ o):=by
 obtain⟨xE,wi,tc,te,z,J,I,F,B⟩:=P;refine(ze S y z A w v J hG I F p (gU j)).weak λ Dn r H t0=>?_;obtain⟨H0,O,W,R,fr,fo,sm,k⟩:=t0
 unfold tAsg;refine B r H _ ⟨O,W,R,?_⟩;cases m with
 | ex c=>cases h;exact Q0 R fr sm k
 | ok d cl=>exact sH h R fr sm k
theorem Ei{X:Cx}{E:St->XK}{δ:ge Sv}{o:Out}{e:Jn}{pos:Pos}{ra:Ji Re}{i:Nat}{x:Str}{apos cpos npos:Pos}(hv:Lx npos)(he:∀q,ra=some q->PE X e JK)(hs:o7 e=false)(hline:(apos.endLine==cpos.line)=true)
  (h:(match δ[i]? with
   | some (.own (.lst ds))=>Re.thnS δ ra λ d c=>if stro d c/\ds.length<o4 then some (.nx (δ.set i (.own (Kx (ds++[d])))))else none
   | _=>none)=some o):PS X (.Expr (.Call (.Attribute (.Name x npos) "append" apos) [e] [] cpos) pos) (dS X.D E δ o):=by
 split at h
 ·rename_i ds hi;have C:=λ t (hA:PE X e t)=>fF (pos:=pos) (pB iL PySem.F.slot_list_append PySem.F.type_list_append yD hv (L8 hA U4 (u4 hs)) rfl (by rw[u4 hs];rfl) hline (u4 hs) rfl) rfl
  cases hra:ra with
  | none=>rw[hra]at h;cases h
  | some q=>
   rw[hra]at h;have A:=he q hra;cases q with
   | ex c=>
    cases h;exact(C _ A).weak λ Dn σ H ⟨H0,O,W,R,fr,fo,sm,k⟩=>by obtain⟨a,xs,ds0,e0,e1,e2,e3,e4⟩:=R.own i _ hi;exact⟨.ref a,e1,.inl ⟨rfl,xs,SqL.of e3⟩,O,W,R,Q0 (Q:=λ _ _=>False) R fr sm k⟩
   | ok d cl=>
    have h':(if stro d cl/\ds.length<o4 then some (Out.nx (δ.set i (.own (Kx (ds++[d])))))else none)=some o:=h;split at h'
    ·rename_i m;cases h';exact(C _ A).weak λ Dn σ H ⟨H0,O,W,R,fr,fo,sm,k⟩=>by obtain⟨a,xs,ds0,e0,e1,e2,e3,e4⟩:=R.own i _ hi;cases e0;refine⟨.ref a,e1,.inl ⟨rfl,xs,SqL.of e3⟩,O,W,R,λ v H1 s1 g=>?_⟩;have R1:=R.mono s1;refine⟨a,xs,v,rfl,rfl,s1 _ _ e3,by rw[e4.length];exact r9 m.2 JB,?_⟩;exact k σ _ W (R1.write hi e1 ((e4.mono s1.wo).append (RepL.one (g.stro JS m.1)))) fr (dB (sm.trans s1) (fr a e2))
    ·cases h'
 ·cases h
theorem Ej(hv:Lx b)(he:∀q,ra=some q->PE X e JK)(hx:∀q,rb=some q->PE X p JK)(K:U7 p=false)
  (h:(match δ[i]? with
   | some (.own (.lst F))=>Re.thnS δ ra λ d c=>Re.thnS δ rb λ k _=>(match k with
    | .int k=>(match C6 F.length k with
     | some j=>if stro d c then some (.nx (δ.set i (.own (Kx (F.set j d)))))else none
     | none=>none)
    | _=>none)
   | _=>none)=some o):PS X (.Assign [.Subscript (.Name x b) p f] e pos) (dS X.D E δ o):=by
 have sub:∀v,assign (.Subscript (.Name x b) p f) X.env v=(do
   let ov ←holding [v] (Ln (.Name x b))
   let iv ←holding [v,ov] (Ln p)
   standAt f
   holding [v,ov,iv] (setItem ov iv v)
   release [v,ov,iv] []):=by cases p<;>first | (intro _;rfl) | cases K
 have C:=λ t tk (hA:PE X e t) (hK:PE X p tk)=>xo (pos:=pos) hA (xn hv hK yx sub) (by cases e<;>rfl) (by cases e<;>rfl) rfl;split at h
 ·rename_i F L;cases u:ra with
  | none=>rw[u]at h;cases h
  | some q=>
   rw[u]at h;have A:=he q u;cases q with
   | ex c=>
    cases h;exact(C _ _ A M6).weak λ Z J H ⟨Y,O,W,R,z,fo,sm,k⟩=>⟨O,W,R,Q0 R z sm k⟩
   | ok d cl=>
    cases r:rb with
    | none=>rw[r]at h;cases h
    | some q=>
     rw[r]at h;have B:=hx q r;cases q with
     | ex c=>
      cases h;exact(C _ _ A B).weak λ Z J H ⟨Y,O,W,R,z,fo,sm,k⟩=>⟨O,W,R,λ v H1 s1 g=>by
       have l:=R.mono s1;obtain⟨a,P,N,U,I,S,Q,M⟩:=l.own i _ L;exact⟨.ref a,I,O,W,l,Q0 l z (sm.trans s1) k⟩⟩
     | ok dk ck=>
      have w:(match(generalizing:=false) dk with
       | .int k=>(match C6 F.length k with
        | some j=>if stro d cl then some (Out.nx _)else none
        | none=>none)
       | _=>none)=some o:=h
      split at w
      ·rename_i k0;split at w
       ·rename_i j hj;split at w
        ·rename_i m;cases w;exact(C _ _ A B).weak λ Z J H ⟨Y,O,W,R,z,fo,sm,k⟩=>⟨O,W,R,λ v H1 s1 g=>by
          have l:=R.mono s1;obtain⟨a,P,N,U,I,S,Q,M⟩:=l.own i _ L;cases U;refine⟨.ref a,I,O,W,l,λ y H2 n g2=>?_⟩;refine⟨a,P,k0,j,rfl,g2.int (l.hid.mono n),n _ _ Q,by rw[M.length];exact hj,?_⟩;exact k J _ W ((l.mono n).write L I (RepL.set ((g.mono n).stro ((JS).mono n) m) j (M.mono n.wo))) z (dB ((sm.trans s1).trans n) (z a S))⟩
        ·cases w
       ·cases w
      ·cases w
 ·cases h
theorem Got.seq(g:Got D O W n H d c v)(m:KM n)(o:c=.strong\/c=.fresh)(f:aj d=some (b,k)):∃a e,v=.ref a/\(SqL D.K H a e\/SqT D.K H a e)/\RepL D (JZ (O++W)) k e:=by
 have l:c ≠ .weak:=by rcases o with z | z<;>(rw[z];intro q;cases q)
 unfold aj at f;split at f
 ·cases f;obtain⟨a,e,j,i,h⟩:=g.items m l;exact⟨a,e,j,.inl (SqL.of i),h⟩
 ·cases f;obtain⟨a,e,j,i,h⟩:=g.itemsT m l;exact⟨a,e,j,.inr i,h⟩
 ·cases f
theorem Ek(U:Lx f)(Z:∀q,F=some q->PE X e JK)(hs:o7 e=false)(l:(apos.endLine==cpos.line)=true)
  (h:(match δ[i]? with
   | some (.own (.lst r))=>Re.thnS δ F λ d c=>if c=.strong\/c=.fresh then(match aj d with
    | some (_,p)=>if r.length+p.length<=o4 then some (.nx (δ.set i (.own (Kx (r++p)))))else none
    | none=>none)else none
   | _=>none)=some o):PS X (.Expr (.Call (.Attribute (.Name x f) "extend" apos) [e] [] cpos) pos) (dS X.D E δ o):=by
 split at h
 ·rename_i r I;have C:=λ t (hA:PE X e t)=>fF (pos:=pos) (pB iL PySem.F.slot_list_extend PySem.F.type_list_extend Av U (L8 hA U4 (u4 hs)) rfl (by rw[u4 hs];rfl) l (u4 hs) rfl) rfl
  cases j:F with
  | none=>rw[j]at h;cases h
  | some q=>
   rw[j]at h;have A:=Z q j;cases q with
   | ex c=>
    cases h;exact(C _ A).weak λ Dn M H ⟨H0,O,W,R,w,fo,sm,k⟩=>by obtain⟨a,u,L,S,z,P,y,K⟩:=R.own i _ I;exact⟨.ref a,z,.inl ⟨rfl,u,SqL.of y⟩,O,W,R,Q0 (Q:=λ _ _=>False) R w sm k⟩
   | ok d cl=>
    have n:(if cl=.strong\/cl=.fresh then(match aj d with
     | some (_,p)=>if r.length+p.length<=o4 then some (Out.nx (δ.set i (.own (Kx (r++p)))))else none
     | none=>none)else none)=some o:=h
    split at n
    ·rename_i J;split at n
     ·rename_i b p Y;split at n
      ·rename_i m;cases n;exact(C _ A).weak λ Dn M H ⟨H0,O,W,R,w,fo,sm,k⟩=>by obtain⟨a,u,L,S,z,P,y,K⟩:=R.own i _ I;cases S;refine⟨.ref a,z,.inl ⟨rfl,u,SqL.of y⟩,O,W,R,λ v H1 s1 g=>?_⟩;have R1:=R.mono s1;obtain⟨a2,B,f1,f2,N⟩:=g.seq JS J Y;refine⟨a,a2,u,B,rfl,by rw[f1],s1 _ _ y,f2,by rw[K.length,N.length];exact i7 m JB,?_⟩;exact k M _ W (R1.write I z ((K.mono s1.wo).append N)) w (dB (sm.trans s1) (w a P))
      ·cases n
     ·cases n
    ·cases n
 ·cases h
theorem PSs.any{t:ι->TS}(h:∀k,PSs X body (t k)):PSs X body (λ D b H=>∃k,t k D b H):=λ a s b H D I ⟨k,q⟩=>h k a s b H D I q
theorem PT.any{t:ι->TT}(h:∀k,PT X e (t k)):PT X e (λ b H Q=>∃k,t k b H Q):=λ a s b H Q I ⟨k,q⟩=>h k a s b H Q I q
structure Lp(H0 H1:Hp)(O W:List Addr):Prop where
 out:∀{H:Hp},Same (L2.wo W H1) H->Same H0 H
 outW:∀{a:Addr},L2.wo W H1 a=none->H0 a=none
 in1:∀a∈W,L2.wo W H1 a=none
 in2:∀a∈O,L2.wo W H1 a≠none
 wsame:∀{H:Hp},Same (L2.wo W H1) H->Same (Ka H1) (JZ (O++W))
theorem Lp.mk'(fr:∀a∈W,d a=none)(fo:∀a∈O,d a≠none)(sm:Same d g):Lp d g O W where
 out:=λ {H} s b u e=>s b u (by
  rw[i6 λ z=>by rw[fr b z]at e;cases e];exact sm b u e)
 outW:=λ {a} q=>by
  by_cases z:a∈W
  ·exact fr a z
  ·rw[i6 z]at q;exact sm.free q
 in1:=λ a c=>X8 c
 in2:=λ a c=>by rw[i6 λ z=>fo a c (fr a z)];intro q;exact fo a c (sm.free q)
 wsame:=λ {H} s b u e=>by obtain⟨f,e⟩:=A6 e;rw[i6 f];exact s b u (by rwa [i6 λ z=>f (x3 _ z)])
theorem Lp.gotR(L:Lp b a O W)(g:GotR D O (L2.wo W a) H d fr v):GotR D O b H d fr v:=by
 cases fr with
 | false=>exact g
 | true=>
  obtain⟨p,c,k,j,i,h,f,e⟩:=g;exact⟨p,c,k,j,i,L.outW h,f,e⟩
theorem El(hp:PassesOwn JE X.A X.env X.xe)(hc:Lb)(hi:∀q,ri=some q->PI X Q j (dI X.D E δ q))(hG:PG X Q (gT X.K tg))(hb:∀P o,f P=some o->PSs X body (dS X.D E P o))(K:G8 j=false)
  (h:(Ri.thnS δ ri λ l c=>if c=.strong\/c=.fresh then B9 tg f l δ else none)=some o):PS X (.For Q j body [] pos) (dS X.D E δ o):=by
 have B:PSs X body (λ D I H=>∃k:{p:ge Sv×Out // f p.1=some p.2},dS X.D E k.1.1 k.1.2 D I H):=PSs.any λ k=>hb k.1.1 k.1.2 k.2;cases U:ri with
 | none=>rw[U]at h;cases h
 | some q=>
  rw[U]at h;have A:=hi q U;cases q with
  | ex c=>cases h;exact(oP hp hc A hG B (gU K)).weak λ Dn I H ⟨H0,O,W,R,fr,fo,sm,k⟩=>⟨O,W,R,λ Y C m s=>k I Y W C m (R.mono s) fr (sm.trans s)⟩
  | ok l c=>
   have h':(if c=.strong\/c=.fresh then B9 tg f l δ else none)=some o:=h;split at h'
   ·rename_i m;refine(oP hp hc A hG B (gU K)).weak λ Dn I H ⟨H0,O,W,R,fr,fo,sm,k⟩=>⟨O,W,R,λ J H1 s1 w=>?_⟩
    have R1:=R.mono s1;have L:=Lp.mk' fr fo (sm.trans s1);have w:Wk X.D J l (O++W) (O++W) H1:=(by rcases m with m | m<;>subst m<;>exact w);refine⟨λ i n I H=>n=l.length - i/\i<=l.length/\∃b M,B9 tg f (l.drop i) b=some o/\RSt X.D H I b O M/\(∀a∈M,L2.wo W H1 a=none)/\Same (L2.wo W H1) H,
     ⟨l.length,rfl,E5 _,δ,W,h',R1,L.in1,x8⟩,?_⟩
    rintro i n a1 H2 ⟨rfl,hi,b,W2,hgo,R2,b1,b2⟩
    by_cases u:i<l.length
    ·refine .inr ⟨w.go i H2 (L.wsame b2) u,λ I H=>∃b M,B9 tg f _ b=some o/\RSt X.D H I b O M/\_/\Same (L2.wo W H1) H,
      λ N Y q=>⟨l.length - (i+1),by omega,rfl,u,q⟩,λ x H3 y=>?_⟩
     have y1:=w.same i H2 x H3 y;have y3:=w.yld i H2 x H3 _ (O++W2) (L.wsame b2) (L.wsame b2) y (k7 u) λ a Z=>⟨R2.hid.ot a Z,by
      rcases D7.mp Z with z | z
      ·exact .inl (D6 _ z)
      ·have q:=b1 a z;by_cases hw:a∈W
       ·exact .inl (x3 _ hw)
       ·rw[i6 hw]at q;exact .inr q⟩
     rw[nN u]at hgo;unfold B9 at hgo;split at hgo
     ·cases hgo
     ·rename_i a0 a4;refine lR (R2.mono y1) y3 a4 λ σ3 R3=>?_
      split at hgo
      ·rename_i r a3;exact⟨⟨⟨a0,.nx r⟩,a3⟩,L2.wo W H1,O,W2,R3,b1,L.in2,b2.trans y1,λ N Y M R' F S=>⟨r,M,hgo,R',F,S⟩⟩
      ·rename_i a2;refine⟨⟨⟨a0,o⟩,hgo⟩,L2.wo W H1,O,W2,R3,b1,L.in2,b2.trans y1,?_⟩;cases o with
       | nx r=>exact absurd hgo (a2 r)
       | rt d F=>exact λ v Y s' g=>k v Y (L.out s') (L.gotR g)
       | ex c' P=>exact λ N Y M C m R' F S=>k N Y M C m R' (λ a Z=>L.outW (F a Z)) (L.out S)
    ·have e:i=l.length:=by omega
     subst e;rw[jh]at hgo;cases hgo;exact .inl ⟨w.stop H2 (L.wsame b2),k a1 H2 W2 R2 (λ a Z=>L.outW (b1 a Z)) (L.out b2)⟩
   ·cases h'
theorem Em(U:PassesOwn JE X.A X.env X.xe)(Y:∀e r,i e=some r->PT X c (dT X.D E e r))(Z:∀e o,j e=some o->PSs X body (dS X.D E e o))(h:M0 i j n δ=some o):PS X (.While c body [] pos) (dS X.D E δ o):=by
 have B:PSs X body (λ D x H=>∃k:{p:ge Sv×Out // j p.1=some p.2},dS X.D E k.1.1 k.1.2 D x H):=PSs.any λ k=>Z k.1.1 k.1.2 k.2;have T:PT X c (λ x H Q=>∃k:{p:ge Sv×Rt // i p.1=some p.2},dT X.D E k.1.1 k.1.2 x H Q):=PT.any λ k=>Y k.1.1 k.1.2 k.2;refine(xq U T B).weak λ Dn x H t0=>?_;obtain⟨H0,O,W,R,fr,fo,sm,k⟩:=t0;have L:=Lp.mk' fr fo sm;refine⟨λ m x F=>∃b y,M0 i j m b=some o/\RSt X.D F x b O y/\(∀a∈y,L2.wo W H a=none)/\Same (JZ W) F,⟨n,δ,W,h,R,L.in1,x8⟩,?_⟩
 rintro m I F ⟨b,W2,hgo,R2,b1,b2⟩
 cases m with
 | zero=>cases hgo
 | succ m=>
  unfold M0 at hgo;split at hgo
  ·cases hgo
  ·rename_i P f;cases hgo;exact⟨⟨⟨b,.ex P⟩,f⟩,O,W2,R2,λ l C m s=>k I l W2 C m (R2.mono s) (λ a K=>L.outW (b1 a K)) (L.out (b2.trans s))⟩
  ·rename_i f;cases hgo;refine⟨⟨⟨b,.ok false⟩,f⟩,O,W2,R2,λ l s=>iteF ?_⟩;exact k I l W2 (R2.mono s) (λ a K=>L.outW (b1 a K)) (L.out (b2.trans s))
  ·rename_i f;refine⟨⟨⟨b,.ok true⟩,f⟩,O,W2,R2,λ l s=>iteT ?_⟩;refine⟨λ x F=>∃b y,M0 i j m b=some o/\RSt X.D F x b O y/\_/\Same _ F,λ z l q=>⟨m,O9 m,q⟩,?_⟩;split at hgo
   ·rename_i u J;exact⟨⟨⟨b,.nx u⟩,J⟩,L2.wo W H,O,W2,R2.mono s,b1,L.in2,b2.trans s,λ z l y N w A=>⟨u,y,hgo,N,w,A⟩⟩
   ·rename_i M;refine⟨⟨⟨b,o⟩,hgo⟩,L2.wo W H,O,W2,R2.mono s,b1,L.in2,b2.trans s,?_⟩;cases o with
    | nx u=>exact absurd hgo (M u)
    | rt d w=>exact λ v l S g=>k v l (L.out S) (L.gotR g)
    | ex P e=>exact λ z l y C m N w A=>k z l y C m N (λ a K=>L.outW (w a K)) (L.out A)
theorem RSt.anyNo(R:La D)(n:δ[i]? = some .no)(x:Ji V):RSt D H (σ.set i x) δ O W:=by
 have ne:∀{j:Nat} {s:Sv},δ[j]? = some s->s ≠ .no->j≠i:=λ {j s} h l z=>by subst z;rw[n]at h;cases h;exact l rfl
 have b:∀{j:Nat},j≠i->(σ.set i x)[j]? = σ[j]?:=λ {j} m=>u5 (Ld m);refine⟨λ j d h=>?_,λ j d h=>?_,λ j k a p o e c g f=>?_,R.od.step (λ j d h=>⟨h,b (ne h JH)⟩) (λ _ h _=>h) (λ _ _ _ h _=>h),by rw[B1];exact R.len,R.hid⟩
 ·rw[b (ne h JH)];exact R.val j d h
 ·rw[b (ne h JH)];exact R.own j d h
 ·rw[b (ne e JH)]at g;rw[b (ne c JH)]at f;exact R.inj j k a p o e c g f
section
variable {κ:Type} [DecidableEq κ]
noncomputable def valV(kvs:ge (κ×V))(k:κ):Ji V:=(kvs.find? λ kv=>decide (kv.1=k)).map (·.2)
noncomputable def putK(kvs:ge (κ×V))(k:κ)(v:V):ge (κ×V):=
 if(kvs.any λ kv=>decide (kv.1=k))=true then kvs.map (λ kv=>if kv.1=k then(kv.1,v)else kv)else kvs++[(k,v)]
theorem aA{k:κ}(e:p.1=k):valV (p::r) k=some p.2:=by simp[valV,aY,e]
theorem aB{k:κ}(e:¬p.1=k):valV (p::r) k=valV r k:=by simp[valV,aY,e]
theorem sJ(k:κ):∀a:ge (κ×V),(a.any λ b=>decide (b.1=k))=(valV a k).isSome
 | []=>rfl
 | p::r=>by
  rw[F8];by_cases e:p.1=k
  ·simp only[aA e,C5 e,Bool.true_or,Option.isSome_some]
  ·rw[aB e,E3 e,Bool.false_or];exact sJ k r
theorem sM(a:ge (κ×V))(k:κ)(v:V):(putK a k v).length<=a.length+1:=by
 unfold putK;split
 ·rw[g6];omega
 ·rw[t5,x9,jn];omega
theorem RelO.isSome_eq(r:RelO o u):o.isSome=u.isSome:=by
 cases o with
 | none=>cases u with
  | none=>rfl
  | some _=>exact(r).elim
 | some _=>cases u with
  | none=>exact(r).elim
  | some _=>rfl
theorem KV.val(r:KV a vs)(k:κ):RelO (valV a k) (valueAt vs k):=by
 unfold KV at r
 induction r with
 | nil=>exact True.intro
 | @cons p q ps qs h t ih=>
  obtain⟨d,f⟩:=h;by_cases e:p.1=k
  ·have c:=d.symm.trans e;have b:valueAt (q::qs) k=some q.2:=by simp[valueAt,aY,c]
   rw[aA e,b];exact f
  ·have c:¬q.1=k:=λ z=>e (d.trans z);have b:valueAt (q::qs) k=valueAt qs k:=by simp[valueAt,aY,c]
   rw[aB e,b];exact ih
theorem KV.any(r:KV a vs)(k:κ):(a.any λ b=>decide (b.1=k))=vs.any λ b=>decide (b.1=k):=by
 unfold KV at r
 induction r with
 | nil=>rfl
 | cons h t c=>rw[F8,F8,c,h.1]
theorem KV.repl(r:KV b vs)(k:κ)(d:RelV y u) :
  KV (b.map λ a=>if a.1=k then(a.1,y)else a) (vs.map λ a=>if a.1=k then(a.1,u)else a):=by
 unfold KV at r ⊢
 induction r with
 | nil=>exact .nil
 | @cons p q ps qs h t ih=>
  rw[A4,A4];refine .cons ?_ ih;obtain⟨c,f⟩:=h;by_cases e:p.1=k
  ·rw[f8 e,f8 (c.symm.trans e)];exact⟨c,d⟩
  ·rw[g7 e,g7 (λ z=>e (c.trans z))];exact⟨c,f⟩
theorem KV.put(r:KV a vs)(k:κ)(b:RelV y u):KV (putK a k y) (stored vs k u):=by
 unfold putK stored;rw[r.any k];by_cases e:(vs.any λ c=>decide (c.1=k))=true
 ·rw[f8 e,f8 e];exact r.repl k b
 ·rw[g7 e,g7 e];exact Paired.snoc r ⟨rfl,b⟩
theorem KV.length(r:KV a vs):a.length=vs.length:=fj r
end
theorem lW(r:RelV (kV k) u):(F9 P w).is k u=true:=by
 cases k with
 | inl i=>obtain⟨t,e⟩:=(r);subst e;exact wR P w i t
 | inr x=>obtain⟨t,e⟩:=(r);subst e;exact wS P w x t
theorem gX:∀{ks:ge Key} {us:ge Jj},Vals (ks.map kV) us->ItemsAre (F9 P w) ks us
 | [],_,r=>by rw[jw]at r;cases r;exact .nil
 | k::ks,_,r=>by
  rw[A4]at r;cases r with
  | cons h t=>exact .cons (lW h) (gX t)
abbrev KT(H:Hp):ge (ge Key×V)->ge (ge Key×Jl×Jj)->Prop:=Paired λ p q=>p.1=q.1/\H q.2.1=some (.tup (p.1.map kV))/\RelV p.2 q.2.2
theorem KT.val(r:KT H a xs)(k:ge Key):RelO (valV a k) ((atKey xs k).map (·.2)):=by
 induction r with
 | nil=>exact True.intro
 | @cons p q ps qs h t ih=>
  obtain⟨d,_,f⟩:=h;by_cases e:p.1=k
  ·have c:=d.symm.trans e;have b:atKey (q::qs) k=some q.2:=by simp[atKey,aY,c]
   rw[aA e,b];exact f
  ·have c:¬q.1=k:=λ z=>e (d.trans z);have b:atKey (q::qs) k=atKey qs k:=by simp[atKey,aY,c]
   rw[aB e,b];exact ih
theorem KT.repl(r:KT H a xs)(k:ge Key)(f:RelV y u) :
  KT H (a.map λ c=>if c.1=k then(c.1,y)else c) (xs.map (putAt k u)):=by
 induction r with
 | nil=>exact .nil
 | @cons p q ps qs h t ih=>
  rw[A4,A4];refine .cons ?_ ih;obtain⟨b,d,g⟩:=h;unfold putAt;by_cases e:p.1=k
  ·rw[f8 e,f8 (b.symm.trans e)];exact⟨b,d,f⟩
  ·rw[g7 e,g7 (λ z=>e (b.trans z))];exact⟨b,d,g⟩
theorem KT.put(r:KT H a xs)(k:ge Key)(d:H b=some (.tup (k.map kV)))(c:RelV y u) :
  KT H (putK a k y) (storedH xs k b u):=by
 have e:(a.any λ kv=>decide _)=(atKey xs k).isSome:=(by rw[sJ,(r.val k).isSome_eq,Option.isSome_map]);unfold putK storedH;rw[e];by_cases q:(atKey xs k).isSome=true
 ·rw[f8 q,f8 q];exact r.repl k c
 ·rw[g7 q,g7 q];exact Paired.snoc r ⟨rfl,d,c⟩
theorem KT.keeps(r:KT H a xs)(e:∀b c,H b=some (.tup c)->d b=some (.tup c)):KT d a xs:=
 Paired.mapP r λ _ _ z=>⟨z.1,e _ _ z.2.1,z.2.2⟩
theorem lX(ok:HOk P w H h)(e:Rd H a u):t9 P w H h a u:=e.ok ok
theorem lY(ok:HOk P w H h)(e:Rd H a (.dK b)):b.length<=sizeLine/\(a==sysModules)=false/\∃vs,KV b vs/\h.DictOf (F9 P w) a vs:=
 show t9 P w H h a (.dK b)from lX ok e
theorem En(ok:HOk P w H h)(e:H a=some (.dK b)):b.length<=sizeLine/\(a==sysModules)=false/\∃vs,KV b vs/\h.DictOf (F9 P w) a vs:=lY ok (.inl e)
theorem lZ(ok:HOk P w H h)(e:H a=some (.tup (ks.map kV))):(tupleKind (F9 P w)).is h ks a:=by
 obtain⟨_,b,r,o,f,d,n,c⟩:=(show t9 P w H h a (.tup _)from ok a _ e);exact⟨o,b.toArray,n,f,d.1,c,by simpa using gX r⟩
theorem dF(ok:HOk P w H h)(e:Rd H a (.dT b)):b.length<=sizeLine/\(a==sysModules)=false /\
  ∃xs,KT H b xs/\h.DictOfH (tupleKind (F9 P w)) a xs:=by
 obtain⟨z,y,xs,r,o,k,n,j,i,g,f,d⟩:=(show t9 P w H h a (.dT b)from lX ok e);refine⟨z,y,xs,r,o,k,n,j,i,g,f,λ x c=>?_,d⟩;have all:∀{l:ge _} {m:ge _},KT H l m->∀x∈m,(tupleKind (F9 P w)).is h x.1 x.2.1:=by
  intro l m q
  induction q with
  | nil=>intro x c;exact nomatch c
  | @cons p q ps qs hq t ih=>
   intro x c;rcases h8.mp c with e | c
   ·subst e;exact lZ ok (by rw[←hq.1];exact hq.2.1)
   ·exact ih x c
 exact all r x c
theorem Eo(ok:HOk P w H h)(e:H a=some (.dT b)):b.length<=sizeLine/\(a==sysModules)=false /\
  ∃xs,KT H b xs/\h.DictOfH (tupleKind (F9 P w)) a xs:=dF ok (.inl e)
def DGet(H:Hp)(a:Jl)(y:V)(r:Ji V):Prop:=
 (∃kvs k,Rd H a (.dK kvs)/\y=kV k/\r=valV kvs k)\/∃kvs k b,Rd H a (.dT kvs)/\y=.ref b/\H b=some (.tup (k.map kV))/\r=valV kvs k
def DPut(H:Hp)(a:Jl)(y v:V)(H':Hp):Prop:=
 (∃kvs k,H a=some (.dK kvs)/\y=kV k/\kvs.length<sizeLine/\H'=upd H a (.dK (putK kvs k v))) \/
 ∃kvs k b,H a=some (.dT kvs)/\y=.ref b/\H b=some (.tup (k.map kV))/\kvs.length<sizeLine/\H'=upd H a (.dT (putK kvs k v))
theorem DPut.t{k:ge Key}(e:H a=some (.dT c))(f:H b=some (.tup (k.map kV)))(d:c.length<sizeLine) :
  DPut H a (.ref b) v (upd H a (.dT (putK c k v))):=.inr ⟨c,k,b,e,rfl,f,d,rfl⟩
theorem Inv.big(I:JI a):sysModules<s.heap.objs.size:=by
 exact cD JB ((I.mod.glob.keeps I.bk).lt)
theorem Ep(x:A.units+1<cLine)(I:JI c)(g:DGet H a y (some v))(w:RelV y u)(h:∀i r,Inv X c σ H r->RelV v i->Q i r) :
  wpAny JE A (getItem (.ref a) u) Q E s:=by
 rcases g with⟨j,k,e,o,l⟩ | ⟨j,k,b,e,o,eb,l⟩
 ·subst o;obtain⟨z,hd,vs,f,q⟩:=lY I.hok e;obtain⟨i,m,d⟩:=RelO.some_of (by rw[l];exact f.val k);exact wpAny_getItem_of (lW w) q.mapOf m (h i _ (I.tok _) d)
 ·subst o;cases(w);obtain⟨z,hd,xs,f,q⟩:=dF I.hok e;obtain⟨i,m,d⟩:=RelO.some_of (by rw[l];exact f.val k);obtain⟨p,B,n⟩:=w6.mp m;refine wpAny_getItem_heap (iU x) (lZ I.hok eb) q B ?_;rw[n];exact h i _ (I.tok _) d
theorem sN(I:JI c)(e:Mut (H a))(f:Heap.SameBut a s.heap h')(g:∃q,h'.get? a=some q)(new:t9 X.prog X.w (upd H a d) h' a d) :
  Inv X c σ (upd H a d) {s with heap:=h',toks:=t'}:=
 I.write e LI (λ b q h z=>(f.2 b h).trans z) g new
theorem Er(z:b.length<=sizeLine)(hd:(a==sysModules)=false)(c:KV b vs)(dd:h'.DictOf (F9 P w) a vs) :
  t9 P w d h' a (.dK b):=⟨z,hd,vs,c,dd⟩
theorem Es{K:Hp}(O:A.units+1<cLine)(I:JI j)(g:DPut H a y v K)(C:RelV y u)(rv:RelV v r)(h:∀B,Inv X j σ K B->Q () B) :
  wpAny JE A (setItem (.ref a) u r) Q E s:=by
 rcases g with⟨f,k,e,p,l,w⟩ | ⟨f,k,b,e,p,eb,l,w⟩
 ·subst p w;obtain⟨z,hd,M,d,x⟩:=En I.hok e;have N:M.length<=sizeLine:=by rw[←d.length];exact z
  have o:(putK f k v).length<=sizeLine:=by have:=sM f k v;omega
  refine wpAny_setItem_pairs (lW C) x λ F i n=>h _ ?_;have P:∃q,F.get? a=some q:=let ⟨q,_,_,m,_⟩:=i;⟨q,m⟩;exact sN I (by rw[e];exact True.intro) n P (Er o hd (d.put k rv) i)
 ·subst p w;cases(C);obtain⟨z,hd,L,d,x⟩:=Eo I.hok e;have N:L.length<=sizeLine:=by rw[←fj d];exact z
  have o:(putK f k v).length<=sizeLine:=by have:=sM f k v;omega
  refine wpAny_setItem_heap (iU O) (lZ I.hok eb) x λ F i n=>h _ ?_;obtain⟨q,Y,Z,m,W,U,S,_,R⟩:=i;refine sN I (by rw[e];exact True.intro) n ⟨q,m⟩ ⟨o,hd,_,(d.put k eb rv).keeps λ c ys J=>?_,q,Y,Z,m,W,U,S,R⟩;rw[i9 (wT J e Ky)];exact J
def NoSl(i:Jn):Prop:=∀ov iv,subscripted i false ov iv=operate [ov,iv] (getItem ov iv)
theorem Et
  (p:typeLookup (.type T) "__getitem__" = pure (some (.builtin m))) (n:NoSl a)
  (h:wpAny JG A (eval b env) (λ o f=>wpAny JG A (eval a env) (λ i c=>c.TypeIs o T/\wpAny JG A (getItem o i) Q E c) E f) E s) :
  wpAny JG A (eval (.Subscript b a pos) env) Q E s:=by
 refine Subscript_ (u0 h (λ o f j=>u0 j (λ i c d=>?_) λ _ _ x=>x) λ _ _ x=>x);obtain⟨l,d⟩:=d;unfold subscriptTail;refine f0 ?_;rw[getitemInPython_of_ne l.not_modules];refine f0 (wpAny_specialOf l p ?_);have k:wpAny JG A (subscripted a false o i) (λ r e=>wpAny JG A (letTemporaryGo b o r >>= λ _=>pure r) Q E e) E c:=by rw[n o i];exact wpAny_operating (u0 d (λ r e g=>f0 (wpAny_letTemporaryGo (f9 g))) λ _ _ x=>x)
 first
  | exact f9 (f0 k)
  | exact f0 _
  | exact f0 k
theorem Eu(I:JI c)(g:DGet H a y o):s.TypeIs (.ref a) "dict":=by
 rcases g with⟨d,k,e,_,_⟩ | ⟨d,k,b,e,_,_,_⟩
 ·obtain⟨_,_,vs,_,f⟩:=lY I.hok e;exact f.typeIs
 ·obtain⟨_,_,xs,_,f⟩:=dF I.hok e;exact f.typeIs
noncomputable def Ev(td ty tv:TE):TS:=λ D σ H=>tv σ H λ v H1=>td σ H1 λ x H2=>ty σ H2 λ y H3=>∃a H4,x=.ref a/\DPut H3 a y v H4/\D.nx σ H4
theorem Ew(q:X.A.units+1<cLine)(z:PE X o f)(A:PE X i ty)(hv:PE X b e)(w:swapsWith b (some (.Subscript o i pos')) pos.line X.env=pure false) :
  PS X (.Assign [.Subscript o i pos'] b pos) (Ev f ty e):=by
 intro c s d H D I h;refine wpAny_Assign_Subscript (thn (hv c s d H _ I h) λ r s1 ⟨v,L,F,rv,p⟩=>thn (z c s1 d L _ F p) λ u j ⟨x,K,E,l,n⟩=>thn (A c j d K _ E n) λ iv s3 ⟨y,H3,C,k,a,J,ex,g,m⟩=>?_) w;subst ex;obtain rfl:u=Value.ref a:=l;exact Es q C g k rv λ s4 B=>⟨d,J,B,m⟩
theorem Ex(h:Jm)(a:sysModules<h.objs.size):t9 P w H (h.push {cls:=.type "dict",data:=.dict #[]}) h.objs.size (.dT []):=
 ⟨E5 _,z8.mpr (Ld (p6 a)),[],.nil,_,#[],0,q0 _ rfl,⟨rfl,rfl,rfl⟩,rfl,rfl,fh⟩
def Ey:TE:=λ _ H Q=>∀p,H p=none->Q (.ref p) (upd H p (.dT []))
theorem Ez:PE X (.Dict [] [] pos) Ey:=λ a s σ H Q I h=>
 wpAny_Dict_empty ⟨.ref s.heap.objs.size,_,I.laid (λ _ _ q=>i3 _ q) (i8 _) (Ex s.heap I.big),rfl,h _ (I.hok.fresh (i8 _))⟩
theorem RSt.growD(R:La D)(k:H p=none)(u:mutO i=true):RSt D (upd H p i) σ δ O (p::W):=by
 have s:Same H (upd H p i):=t6 k;have c:Same _ (L2.wo (O++(p::W)) _):=λ b o e=>by
  obtain⟨w,e⟩:=A6 e;rw[i6 λ z=>?_]
  ·exact s b o e
  ·rcases h8.mp (dw.mp z)with z | z
   ·rw[z,k]at e;cases e
   ·exact w z
 refine⟨λ j d h=>?_,λ j d h=>?_,R.inj,R.od.step (λ j d h=>⟨h,rfl⟩) (λ _ h _=>n6 _ h) (λ a _ _ h _=>s _ _ h),R.len,⟨λ a f=>?_,Same.refl _,λ a f=>?_,λ a f=>?_,R.hid.omS s⟩⟩
 ·obtain⟨v,n,l⟩:=R.val j d h;exact⟨v,n,l.mono c⟩
 ·obtain⟨a,g,r,A,n,l,y,x⟩:=R.own j d h;exact⟨a,g,r,A,n,n6 _ l,s _ _ y,x.mono c⟩
 ·rcases h8.mp (dw.mp f)with z | z
  ·rw[z,u9];intro q;cases q
  ·intro q;exact R.hid.ot a z (s.free q)
 ·rcases h8.mp f with z | z
  ·exact⟨_,by rw[z];exact u9,u⟩
  ·obtain⟨g,q,m⟩:=R.hid.wl a z;exact⟨g,s _ _ q,m⟩
 ·rcases h8.mp f with z | z
  ·intro q;exact R.hid.ot p (D6 _ (by rw[←z];exact q)) k
  ·exact R.hid.dj a z
theorem RSt.setOd(R:La D)(x:p∈W)(m:OdOk u p l)(A:H p=some l)(c:noOt i δ=true):RSt D H (σ.set i (KP p)) (δ.set i (.od u)) O W:=by
 refine⟨λ j d h=>?_,λ j d h=>?_,λ j k a C B g f r o=>?_,λ j d h=>?_,by rw[B1,B1];exact R.len,R.hid⟩
 ·have b:=S8 h JH;rw[u5 (Ld b)]at h ⊢;exact R.val j d h
 ·have b:=S8 h JH;rw[u5 (Ld b)]at h ⊢;exact R.own j d h
 ·have w:=S8 g JH;have v:=S8 f JH;rw[u5 (Ld w)]at g r;rw[u5 (Ld v)]at f o;exact R.inj j k a C B g f r o
 ·have b:j=i:=by
   by_cases b:j=i
   ·exact b
   ·rw[u5 (Ld b)]at h;exact sG c h
  subst b;obtain⟨y,e⟩:=dz h;cases e;refine⟨⟨p,l,m,F5 (by rw[R.len];exact y),x,A⟩,λ k d' q=>?_⟩;by_cases n:k=j
  ·exact n
  ·rw[u5 (Ld n)]at q;exact sG c q
theorem RSt.writeOd(R:La D)(K:δ[i]? = some (.od d))(P:σ[i]? = some (KP p))(B:p∈W)(Q:H p=some I)(C:dicO I=true)(w:OdOk y p x):RSt D (upd H p x) σ (δ.set i (.od y)) O W:=by
 have u:Same _ (L2.wo (O++W) (upd H p x)):=λ b o e=>by obtain⟨r,e⟩:=A6 e;rw[i6 r,i9 λ z=>r (by rw[z];exact x3 _ B)];exact e
 have A:∀{b:Jl} {n:ge V},H b=some (.lst n)->b≠p:=λ {b n} h z=>by rw[z,Q]at h;cases h;cases C
 refine⟨λ j d h=>?_,λ j d h=>?_,λ j k a y X l g U S=>?_,λ j d h=>?_,by rw[B1];exact R.len,⟨λ b r q=>?_,Same.refl _,λ b r=>?_,R.hid.dj,R.hid.omW B⟩⟩
 ·have f:=S8 h JH;rw[u5 (Ld f)]at h;obtain⟨v,l,g⟩:=R.val j d h;exact⟨v,l,g.mono u⟩
 ·have f:=S8 h JH;rw[u5 (Ld f)]at h;obtain⟨b,n,E,M,l,g,F,L⟩:=R.own j d h;exact⟨b,n,E,M,l,g,by rw[i9 (A F)];exact F,L.mono u⟩
 ·have N:=S8 l JH;rw[u5 (Ld N)]at l;rw[u5 (Ne.symm (S8 g JH))]at g;exact R.inj j k a y X l g U S
 ·have f:j=i:=by
   by_cases f:j=i
   ·exact f
   ·rw[u5 (Ld f)]at h;exact(R.od i _ K).2 j _ h
  subst f;obtain⟨hl,e⟩:=dz h;cases e;refine⟨⟨p,x,w,P,B,u9⟩,λ k d' q=>?_⟩;by_cases J:k=j
  ·exact J
  ·rw[u5 (Ld J)]at q;exact(R.od j _ K).2 k _ q
 ·by_cases c:b=p
  ·rw[c,u9]at q;cases q
  ·rw[i9 c]at q;exact R.hid.ot b r q
 ·by_cases c:b=p
  ·exact⟨_,by rw[c];exact u9,w.mut⟩
  ·obtain⟨n,q,m⟩:=R.hid.wl b r;exact⟨n,by rw[i9 c];exact q,m⟩
section
variable {X:Cx} {E:St->XK} {δ:ge Sv} {o:Out} {e ek ed ea:Jn} {pos pos' npos spos apos cpos:Pos} {ra rb rc:Ji Re} {i:Nat} {x:Str} {re:Re}
theorem EA(L:ge ((Int×Int)×Int)):(oeK L).map (λ p=>DKey.t p.1)=L.map λ p=>.t [.inl p.1.1,.inl p.1.2]:=by
 unfold oeK;rw[p9];rfl
theorem EB(L:ge ((Int×Int)×Int)):RepL D H (LM p.2) ((oeK L).map (·.2)):=by
 unfold oeK;rw[p9]
 induction L with
 | nil=>exact C2.mpr rfl
 | cons p r a=>exact v6.mpr ⟨_,_,rfl,A2.mpr rfl,a⟩
def dkO:HO->Bool
 | .dK _=>true
 | .dT _=>true
 | _=>false
theorem EC(hv:Lx npos):PE X (.Name x npos) (λ k H Q=>∃a o,k[i]? = some (KP a)/\H a=some o/\dkO o=true/\∀c,Q (.ref a) (upd H a (.frz c o))):=by
 intro g s k H Q I h;obtain⟨a,o,y,f,d,q⟩:=h;refine thn (hv g s k H (λ v j=>v=.ref a/\j=H) I ⟨_,y,rfl,rfl⟩) λ u s1 t0=>?_;obtain⟨v,j,n,r1,w,r⟩:=t0
 subst w r;have ok:=n.hok _ _ f;obtain⟨c,z5⟩:∃c,s1.heap.get? a=some c:=by
  cases o with
  | dK m=>obtain⟨_,_,_,_,c,_,_,e,_⟩:=ok;exact⟨c,e⟩
  | dT m=>obtain⟨_,_,_,_,c,_,_,e,_⟩:=ok;exact⟨c,e⟩
  | _=>cases d
 have l:t9 X.prog X.w (upd j a (.frz c o)) s1.heap a o:=by
  refine ok.stay (λ _ _ _ e=>e) (λ b e=>?_) (λ b p e=>?_) (λ b p e=>?_) λ b _ _ _ _ e=>?_
  ·rw[i9 λ z=>by rw[z,f]at e;cases e;cases d];exact e
  ·rw[i9 λ z=>by rw[z,f]at e;cases e;cases d];exact e
  ·rw[i9 λ z=>by rw[z,f]at e;cases e;cases d];exact e
  ·rw[i9 λ z=>by rw[z,f]at e;cases e;cases d];exact e
 exact⟨.ref a,upd j a (.frz c o),n.write (by rw[f];cases o<;>first | trivial | cases d) (.inl rfl) (λ b u hb e=>e) ⟨c,z5⟩ ⟨z5,l⟩,r1,q c⟩
theorem ED (hv : PE X (.Name x npos) (tVar i)) (h : (match δ[i]? with
   | some (.od d) => if isDc d then some (Out.rt (unT d) false) else none
   | _ => none) = some o) : PS X (.Return (some (.Name x npos)) pos) (dS X.D E δ o) := by
 split at h
 ·rename_i d f;split at h
  rotate_left
  ·cases h
  rename_i g;cases h;refine (fG (EC hv)).weak λ Dn σ H ⟨H0, O, W, R, j, fo, sm, k⟩ => ?_
  obtain ⟨⟨p, ob, n, m, a, l⟩, u⟩ := R.od i _ f;obtain ⟨L, c, b⟩ := n;subst c b;refine ⟨p, _, m, l, rfl, λ e => k _ _ (dB sm (j p a)) ?_⟩;show Rep X.D _ _ _;exact P8.mpr (.inr ⟨p, e, oeK L, rfl, by rw [i6 (R.hid.dj p a)]; exact u9, EA L, EB L⟩)
 ·cases h
theorem sO(h:U7 ek=false):NoSl ek:=λ ov iv=>by cases ek<;>first | rfl | cases h
theorem sP:∀{a:ge (Key×V)} {b:ge DV},RepL D H b (a.map (·.2))->E6 (.i k) (a.map λ p=>dKey p.1) b=some (.int v)->valV a (.inl k)=some (.int v)
 | [],b,r,h=>by cases b<;>cases h
 | _::a,[],r,h=>by cases h
 | (e,g)::a,d::b,r,h=>by
  obtain⟨w,ws,m,l,i⟩:=v6.mp r;cases m;have c:(if dKey e=.i k then some d else E6 (.i k) _ b)=some _:=h;by_cases f:e=.inl k
  ·subst f;rw[f8 (show dKey _=.i k from rfl)]at c;cases c;rw[aA rfl];show some g=_;rw[show g=.int v from A2.mp l]
  ·rw[g7 (λ z=>f (by cases e with | inl j=>cases z;rfl | inr j=>cases z))]at c;rw[aB f];exact sP i c
theorem sQ:∀{a:ge (Key×V)} {b:ge DV},RepL D H b (a.map (·.2))->E6 (.s k) (a.map λ p=>dKey p.1) b=some d->∃v,valV a (.inr k)=some v/\Rep D H d v
 | [],b,r,h=>by cases b<;>cases h
 | _::a,[],r,h=>by cases h
 | (e,g)::a,n::b,r,h=>by
  obtain⟨w,ws,m,l,i⟩:=v6.mp r;cases m;have c:(if dKey e=.s k then some n else E6 (.s k) _ b)=some d:=h;by_cases f:e=.inr k
  ·subst f;rw[f8 (show dKey _=.s k from rfl)]at c;cases c;rw[aA rfl];exact⟨g,rfl,l⟩
  ·rw[g7 (λ z=>f (by cases e with | inl j=>cases z | inr j=>cases z;rfl))]at c;rw[aB f];exact sQ i c
theorem gY{d:Type}{f:d->DKey}:∀{l:ge d} {c:ge DV},(∀a∈l,f a≠k)->E6 k (l.map f) c=none
 | [],c,_=>by cases c<;>rfl
 | a::l,[],_=>rfl
 | a::l,v::c,h=>by
  show(if f a=k then some v else E6 k _ c)=none;rw[g7 (h a (n9 ..))];exact gY λ b e=>h b (n6 _ e)
theorem sR:∀{a:ge (ge Key×V)} {b:ge DV},RepL D H b (a.map (·.2))->E6 (.t k) (a.map λ p=>DKey.t p.1) b=some (.int v)->valV a k=some (.int v)
 | [],b,r,h=>by cases b<;>cases h
 | _::a,[],r,h=>by cases h
 | (g,f)::a,d::b,r,h=>by
  obtain⟨w,ws,l,j,i⟩:=v6.mp r;cases l;have c:(if DKey.t g=.t k then some d else E6 (.t k) _ b)=some _:=h;by_cases e:g=k
  ·subst e;rw[f8 rfl]at c;cases c;rw[aA rfl];show some f=_;rw[show f=.int v from A2.mp j]
  ·rw[g7 (λ z=>e (DKey.t.inj z))]at c;rw[aB e];exact sR i c
def ma(K:Ju)(H:Hp)(a:Jl)(y:V)(r:Ji V):Prop:=DGet H a y r\/∃kvs k b,Rd H a (.dT kvs)/\y=.ref b/\SqT K H b (k.map kV)/\r=valV kvs k
theorem EF(I:JI c)(e:SqT X.K H a (ks.map kV)):(tupleKind (F9 X.prog X.w)).is s.heap ks a:=by
 rcases e with h | ⟨o,b,n,g,f,d,_,h5⟩
 ·obtain⟨_,b,r,o,g,f,n,d⟩:=(show t9 X.prog X.w H s.heap a (.tup _)from lX I.hok h);exact⟨o,b.toArray,n,g,f.1,d,by simpa using gX r⟩
 ·exact⟨o,b,n,I.kIn a o g,f.1,d,gX h5⟩
theorem EG{E:Jj->Jk->Prop}(o:A.units+1<cLine)(I:JI c)(g:ma X.K H a y (some v))(n:RelV y u)(h:∀d m,Inv X c σ H m->RelV v d->Q d m) :
  wpAny JE A (getItem (.ref a) u) Q E s:=by
 rcases g with g | ⟨kvs,k,b,e,ey,eb,l⟩
 ·exact Ep o I g n h
 ·subst ey;cases(n);obtain⟨z,hd,xs,i,w⟩:=dF I.hok e;obtain⟨d,q,f⟩:=RelO.some_of (by rw[l];exact i.val k);obtain⟨p,r,j⟩:=w6.mp q;refine wpAny_getItem_heap (iU o) (EF I eb) w r ?_;rw[j];exact h d _ (I.tok _) f
theorem EH{o:Ji V}(I:JI c)(g:ma X.K H a y o):s.TypeIs (.ref a) "dict":=by
 rcases g with g | ⟨kvs,k,b,e,ey,eb,l⟩
 ·exact Eu I g
 ·obtain⟨_,_,xs,_,d⟩:=dF I.hok e;exact d.typeIs
noncomputable def EI(K:Ju)(td ty:TE):TE:=λ σ H Q=>td σ H λ x H1=>ty σ H1 λ y H2=>∃a v,x=.ref a/\ma K H2 a y (some v)/\Q v H2
theorem sS{e:TE}(m:X.A.units+1<cLine)(o:PE X ea e)(p:PE X ek ty)(n:NoSl ek):PE X (.Subscript ea ek pos) (EI X.K e ty):=by
 intro b s d H Q I h;refine Et PySem.F.slot_dict_getitem.lookup n (thn (o b s d H _ I h) λ u s1 ⟨x,z,r,j,l⟩=>thn (p b s1 d z _ r l) λ iv s2 t0=>?_);obtain⟨y,w,f,i,a,v,ex,g,k⟩:=t0;subst ex;obtain rfl:u=Value.ref a:=j;exact⟨EH f g,EG m f g i λ w' s3 q c=>⟨v,w,q,c,k⟩⟩
theorem sU(h:Rep D H (.tup [.int a,.int b]) v):∃p,v=.ref p/\SqT D.K H p (([.inl a,.inl b]:ge Key).map kV):=by
 obtain⟨p,xs,j,c,i⟩:=F4.mp h;obtain⟨v1,vs,rfl,r1,g⟩:=v6.mp i;obtain⟨v2,d,rfl,f,e⟩:=v6.mp g;rw[A2.mp r1,A2.mp f,C2.mp e]at c;exact⟨p,j,c⟩
theorem EJ(hu:X.A.units+1<cLine)(ha:∀q,ra=some q->PE X ea JK)(hk:∀q,rb=some q->PE X ek JK)(hs:U7 ek=false)
  (h:(Re.thn ra λ x c=>Re.thn rb λ y _=>dixC x c y)=some re):PE X (.Subscript ea ek pos) (dE X.D E δ re):=by
 have C:=λ t t' (hA:PE X ea t) (hB:PE X ek t')=>sS (pos:=pos) hu hA hB (sO hs);cases w:ra with
 | none=>rw[w]at h;cases h
 | some q=>
  rw[w]at h;have A:=ha q w;cases q with
  | ex c=>cases h;exact(C _ _ A M6).weak λ J H Q ⟨O,W,R,p⟩=>Kr
  | ok dx cx=>
   cases u:rb with
   | none=>rw[u]at h;cases h
   | some K=>
    rw[u]at h;have B:=hk K u;cases K with
    | ex c=>cases h;exact(C _ _ A B).weak λ J H Q ⟨O,W,R,p⟩=>⟨O,W,R,λ v Z s1 g=>⟨O,W,R.mono s1,λ H' C m s=>p H' C m (Lu s)⟩⟩
    | ok dk ck=>
     have f:dixC dx cx dk=some re:=h;unfold dixC at f;split at f
     ·rename_i M;split at f
      ·rename_i P;subst P;obtain⟨⟨ks,vs⟩,hd,f⟩:=v9.mp f;obtain⟨d,b,rfl⟩:=w6.mp f;cases dx<;>cases hd;refine(C _ _ A B).weak λ J H Q ⟨O,W,R,p⟩=>⟨O,W,R,λ v Z s1 g=>⟨O,W,R.mono s1,λ v2 F i I=>?_⟩⟩
       obtain⟨S,_⟩:=bx.mp (I.all ((Lk).hid.mono i));subst S;rcases P8.mp g with⟨a,l,e,r,o,j,n⟩ | ⟨a,l,e,r,o,j,n⟩
       ·subst j;obtain⟨vx,q1,K⟩:=sQ n b;exact⟨a,vx,r,.inl (.inl ⟨e,.inr M,.inr ⟨l,i _ _ (A6 o).2⟩,rfl,q1.symm⟩),p _ F (Lu i) (K.mono i.wo:Rep X.D (Ka F) d vx)⟩
       ·subst j;rw[gY (λ a _ z=>by cases z)]at b;cases b
      ·cases f
     unfold dixD at f;split at f
     ·rename_i ks vs M _;split at f
      ·rename_i L b;cases f;refine(C _ _ A B).weak λ J H Q ⟨O,W,R,p⟩=>⟨O,W,R,λ v Z s1 g=>⟨O,W,R.mono s1,λ v2 F i I=>?_⟩⟩
       have N:=I.int ((Lk).hid.mono i);subst N;rcases P8.mp (g.all JS)with⟨a,l,e,r,o,j,n⟩ | ⟨a,l,e,r,o,j,n⟩
       ·subst j;exact⟨a,.int L,r,.inl (.inl ⟨e,.inl M,.inr ⟨l,i _ _ o⟩,rfl,(sP n b).symm⟩),p _ F (Lu i) w5⟩
       ·subst j;rw[gY (λ a _ z=>by cases z)]at b;cases b
      ·cases f
     ·rename_i ks vs a0 b0 _;split at f
      ·rename_i L b;cases f;refine(C _ _ A B).weak λ J H Q ⟨O,W,R,p⟩=>⟨O,W,R,λ v Z s1 g=>⟨O,W,R.mono s1,λ v2 F i I=>?_⟩⟩
       obtain⟨pk,Y,U⟩:=sU (I.all ((Lk).hid.mono i));rcases P8.mp (g.all JS)with⟨a,l,e,r,o,j,n⟩ | ⟨a,l,e,r,o,j,n⟩
       ·subst j;rw[gY (λ a _ z=>by rcases a with⟨k | k,_⟩<;>cases z)]at b;cases b
       ·subst j;exact⟨a,.int L,r,.inr ⟨e,_,pk,.inr ⟨l,i _ _ o⟩,Y,U,(sR n b).symm⟩,p _ F (Lu i) w5⟩
      ·cases f
     ·cases f
end
noncomputable def kP(p:Int×Int):ge Key:=[.inl p.1,.inl p.2]
theorem gZ(h:kP p=kP q):p=q:=by
 unfold kP at h;obtain⟨a,b⟩:=p;obtain⟨c,d⟩:=q;simp at h;rw[h.1,h.2]
noncomputable def putP(L:ge ((Int×Int)×Int))(k:Int×Int)(z:Int):ge ((Int×Int)×Int):=if(L.any λ p=>decide (p.1=k))=true then L.map (λ p=>if p.1=k then(p.1,z)else p)else L++[(k,z)]
theorem EK(L:ge ((Int×Int)×Int))(k:Int×Int)(z:Int):putK (oeK L) (kP k) (.int z)=oeK (putP L k z):=by
 have e:((oeK L).any λ a=>decide (a.1=kP k))=L.any λ p=>decide (p.1=k):=by
  unfold oeK;rw[jz]
  congr 1
  funext p
  show decide (kP p.1=kP k)=decide _;by_cases h:p.1=k
  ·rw[C5 (by rw[h]),C5 h]
  ·rw[E3 (λ z=>h (gZ z)),E3 h]
 unfold putK putP;rw[e];split
 ·unfold oeK;rw[p9,p9];apply L0;intro p _;show(if kP p.1=kP k then(kP p.1,V.int z)else(kP p.1,V.int p.2))=(kP (if p.1=k then(p.1,z)else p).1,V.int (if p.1=k then(p.1,z)else p).2);by_cases h:p.1=k
  ·rw[f8 (by rw[h]),f8 h]
  ·rw[g7 (λ z=>h (gZ z)),g7 h]
 ·unfold oeK;rw[C4];rfl
noncomputable def kD(p:Int×Int):DKey:=.t [.inl p.1,.inl p.2]
theorem md(h:kD p=kD q):p=q:=gZ (DKey.t.inj h)
theorem EL(L:ge ((Int×Int)×Int))(k:Int×Int)(z:Int):putD (kD k) (.int z) (L.map λ p=>kD p.1) (LM p.2)=((putP L k z).map (λ p=>kD p.1),(putP L k z).map (λ p=>.int p.2)):=by
 have e:(kD k∈L.map λ p=>kD p.1)↔(L.any λ p=>decide (p.1=k))=true:=by
  rw[i4,V8];constructor
  ·rintro⟨p,c,b⟩;exact⟨p,c,by rw[A9];exact md b⟩
  ·rintro⟨p,c,b⟩;exact⟨p,c,by rw[A9.mp b]⟩
 unfold putD putP;by_cases h:(L.any λ p=>decide (p.1=k))=true
 ·rw[f8 (e.mpr h),f8 h,p9,p9];refine Prod.ext ?_ ?_
  ·apply L0;intro p _;show kD p.1=kD (if p.1=k then(p.1,z)else p).1;split<;>rfl
  ·show List.map _ _=_;rw[List.zip_map_left,List.zip_map_right];have:∀(L:ge ((Int×Int)×Int)),List.zip L L=L.map λ p=>(p,p):=by
    intro L
    induction L with
    | nil=>rfl
    | cons a r d=>rw[List.zip_cons_cons,d];rfl
   rw[this,p9,p9,p9];apply L0;intro p _;show(if kD p.1=kD k then DV.int z else DV.int p.2)=DV.int (if p.1=k then(p.1,z)else p).2;by_cases h:p.1=k
   ·rw[f8 (by rw[h]),f8 h]
   ·rw[g7 (λ z=>h (md z)),g7 h]
 ·rw[g7 (λ z=>h (e.mp z)),g7 h,C4,C4];rfl
theorem EM(l:X.N.Nodup)(f:X.N[i]? = some x)(e:Loc X.env.scope x)(g:X.fn x=true\/X.env.scope.names.lookup x=some .local)(h:(if noOt i δ then some (Out.nx (δ.set i (.od (.tup [.dct [] []]))))else none)=some o):PS X (.Assign [.Name x b] (.Dict [] [] pos') pos) (dS X.D E δ o):=by
 split at h
 ·rename_i d;cases h;refine(fH l f e Ez rfl g).weak λ Dn σ H ⟨H0,O,W,R,m,fo,sm,k⟩=>λ p c=>?_
  exact k _ _ _ ((R.growD c rfl).setOd (n9 ..) ⟨[],rfl,rfl⟩ u9 d) (λ a j=>by
   rcases h8.mp j with z | z
   ·rw[z];exact sm.free c
   ·exact m a z) (sm.trans (t6 c))
 ·cases h
theorem EN(h:E6 (kD k) (L.map λ p=>kD p.1) (LM p.2)=some (.int v)):valV (oeK L) (kP k)=some (.int v):=by
 induction L with
 | nil=>cases h
 | cons p r c=>
  have b:(if kD p.1=kD k then some (DV.int p.2)else E6 (kD k) _ _)=some _:=h;show valV ((kP p.1,V.int p.2)::oeK r) (kP k)=_;by_cases a:p.1=k
  ·rw[f8 (by rw[a])]at b;cases b;rw[aA (by rw[a])]
  ·rw[g7 (λ z=>a (md z))]at b;rw[aB (λ z=>a (gZ z))];exact c b
theorem EO(hu:X.A.units+1<cLine)(hv:Lx m)(he:∀q,U=some q->PE X e JK)(hk:∀q,S=some q->PA X es Ll)(hc:al e=false)
  (h:(match δ[i]? with
   | some (.od (.tup [.dct ks J]))=>Re.thnS δ U λ d _=>Rs.thnS δ S λ l=>(dppD i δ ks J l d).map Out.nx
   | _=>none)=some o):PS X (.Assign [.Subscript (.Name x m) (.Tuple es x1 tpos) j] e pos) (dS X.D E δ o):=by
 split at h
 ·rename_i ks J hi;have C:=λ t t' (hA:PE X e t) (hB:PA X es t')=>Ew (pos:=pos) (pos':=j) hu hv (oX (pos:=tpos) (x1:=x1) hB) hA (gW hc)
  cases r:U with
  | none=>rw[r]at h;cases h
  | some q=>
   rw[r]at h;have A:=he q r;cases q with
   | ex c=>
    cases h;exact(C _ _ A ry).weak λ Dn N H ⟨H0,O,W,R,y,fo,sm,k⟩=>⟨O,W,R,Q0 R y sm k⟩
   | ok d cl=>
    cases n:S with
    | none=>rw[n]at h;cases h
    | some q2=>
     rw[n]at h;have B:=hk q2 n;cases q2 with
     | ex c=>
      cases h;refine(C _ _ A B).weak λ Dn N H ⟨H0,O,W,R,y,fo,sm,k⟩=>⟨O,W,R,λ v H1 s1 g=>?_⟩
      obtain⟨⟨p,ob,e0,M,e2,e3⟩,u⟩:=R.od i _ hi;exact⟨.ref p,M,O,W,R.mono s1,Q0 (Q:=λ _ _=>False) Lk y (sm.trans s1) k⟩
     | ok l=>
      obtain⟨δ',w,h2⟩:=w6.mp h;cases h2;unfold dppD at w;split at w
      ·rename_i a ca b cb z;split at w
       ·rename_i hl;cases w;refine(C _ _ A B).weak λ Dn N H ⟨H0,O,W,R,y,fo,sm,k⟩=>⟨O,W,R,λ v H1 s1 g=>?_⟩
        obtain⟨⟨p,ob,e0,M,e2,e3⟩,u⟩:=R.od i _ hi;obtain⟨L,a3,eo⟩:∃L,DV.tup [.dct ks J]=.tup [oeD L]/\ob=.dT (oeK L):=e0;subst eo;obtain⟨a2,a1⟩:ks=L.map (λ p=>kD p.1)/\J=L.map _:=DV.dct.inj (fk (DV.tup.inj a3)).1;subst a2 a1;refine⟨.ref p,M,O,W,R.mono s1,λ vs2 H2 K g2=>?_⟩;have a0:=g.int JS;obtain⟨w1,w2,ew,g3,g4⟩:=g2.two;have F:=(Lk).hid.mono K;have Z:=g3.int F;have Y:=g4.int F;subst a0 Z Y ew;refine⟨by show(2:Nat)<=sizeLine;decide,λ q hq=>?_⟩;have P:Same H2 (upd H2 q (.tup [.int a,.int b])):=t6 hq;have I:=P _ _ (K _ _ (s1 _ _ e3));rw[g6]at hl;refine⟨p,_,rfl,DPut.t (k:=kP (a,b)) I u9 (by unfold oeK;rw[g6];exact r9 hl JB),?_⟩;rw[EK];have pe:=EL L (a,b) z;unfold kD at pe k;rw[pe]at k;exact k N _ W ((((Lk).mono K).mono P).writeOd hi M e2 I rfl ⟨_,rfl,rfl⟩) y (dB (((sm.trans s1).trans K).trans P) (y p e2))
       ·cases w
      ·cases w
 ·cases h
theorem EQ(U:X.A.units+1<cLine)(hv:Lx a)(Z:∀q,r=some q->PE X m JK)(Y:U7 m=false)
  (h:(match δ[i]? with
   | some (.od (.tup [.dct ks j]))=>Re.thn r λ y _=>dgpD ks j y
   | _=>none)=some o):PE X (.Subscript (.Name x a) m pos) (dE X.D E δ o):=by
 split at h
 ·rename_i ks j I;have C:=λ P (hB:PE X m P)=>sS (pos:=pos) U hv hB (sO Y)
  cases b:r with
  | none=>rw[b]at h;cases h
  | some A=>
   rw[b]at h;have B:=Z A b;cases A with
   | ex c=>
    cases h;refine(C _ B).weak λ M H Q t0=>?_;obtain⟨O,W,R,p⟩:=t0
    obtain⟨⟨l,F,K,w,e2,J⟩,u⟩:=R.od i _ I;exact⟨.ref l,w,O,W,R,p⟩
   | ok dk ck=>
    have f:dgpD ks j dk=some o:=h;unfold dgpD at f;split at f
    ·rename_i a0 b0;split at f
     ·rename_i N v;cases f;refine(C _ B).weak λ M H Q t0=>?_;obtain⟨O,W,R,p⟩:=t0
      obtain⟨⟨l,F,K,w,e2,J⟩,u⟩:=R.od i _ I;obtain⟨L,z,eo⟩:∃L,DV.tup _=.tup _/\F=.dT _:=K;subst eo;obtain⟨e,d⟩:ks=L.map _/\j=L.map _:=DV.dct.inj (fk (DV.tup.inj z)).1;subst e d;refine⟨.ref l,w,O,W,R,λ v2 H2 n g2=>?_⟩;obtain⟨S,e,d⟩:=sU (g2.all (R.hid.mono n));exact⟨l,.int N,rfl,.inr ⟨oeK L,_,S,.inl (n _ _ J),e,d,(EN (k:=(a0,b0)) v).symm⟩,p _ H2 n w5⟩
     ·cases f
    ·cases f
 ·cases h
def Kp(a:Jl)(h h':Jm):Prop:=∀b o,b≠a->h.get? b=some o->h'.get? b=some o
theorem Kp.of{a:Jl}{h h':Jm}(x:Heap.SameBut a h h'):Kp a h h':=λ b o n e=>x.extBut b o n e
theorem Kp.trans(x:Kp a h h')(y:Kp a h' c):Kp a h c:=λ b o n e=>y b o n (x b o n e)
theorem Kp.push{a:Jl}{h h':Jm}(x:Kp a h h')(o':Obj):Kp a h (h'.push o'):=λ b o n e=>i3 _ (x b o n e)
theorem ER(hd:(d==sysModules)=false):MeetsIn prog w (Builtin.«dict.items» ⟨[.ref d],[]⟩) (λ _ R s=>s.TypeIs (.ref d) "dict" /\
  R (.ok (.ret (JR s.heap.objs.size))) {s with heap:=s.heap.push {cls:=.type "dict_items",data:=.fields #[.ref d]}}):=.of_wp λ A R s q=>by
 have a:¬((d==sysModules)=true):=by rw[hd];exact B5
 unfold Builtin.«dict.items» Builtin.Dict.noArgs Builtin.Dict.showsAll;refine f0 (f0 (wpAny_notOrdered_dict q.1 (f9 ?_)));show wpAny _ _ _ _ _ s;rw[g7 a];exact f0 (f9 (f0 (C3 (f9 ⟨_,rfl,q.2⟩))))
theorem ES(hv:s.heap.IsItemsView v d)(c:s.heap.get? d=some b)(a:b.data=.dict es ep)
  (q:Q (JR s.heap.objs.size) {s with heap:=s.heap.push {cls:=.type "dict_itemiterator",data:=.fields #[.none,.bool false,.ref d,.int 0 0,.int es.size 0,.int ep 0,.none,.none]}}):wpAny JG A (pyIter (.ref v)) Q E s:=by
 obtain⟨_,f,_,e⟩:=id hv;refine ja hv.typeIs ox (G4 ox hv.typeIs F.entry_dict_items_iter ?_ (F.args_dict_items_iter_1 _));unfold Builtin.«dict_items.__iter__» Builtin.Dict_items.dictOf Builtin.Dict_items.newIterator;refine f0 (f9 (f0 (f0 (D9 f e rfl (f9 (f0 (f0 (wpAny_dictEntries c a (f0 (wpAny_dictEpoch c a ?_))))))))));rw[show Builtin.Dict_items.ownsTuple "dict_itemiterator" = true from by decide];exact C3 (f9 ⟨_,rfl,"dict_itemiterator",_,⟨_,q0 _ rfl,rfl⟩,F.slot_dict_itemiterator_next.lookup,q⟩) (by show(8:Nat)<=_;rw[cE];omega)
theorem sV{ov:Jj}(P:KR)(c:IsItemIter s.heap it d i es.size ep ok ov)(g:s.heap.get? d=some u)(k:u.data=.dict es ep)
  (e:∀en h',es[i]? = some en->IsItemIterOut h' it d (i+1) es.size ep en.key en.val s.heap.objs.size->h'.get? s.heap.objs.size=some {cls:=.type "tuple",data:=.seq #[en.key,en.val]} -> Kp it s.heap h'->Q (some (JR s.heap.objs.size)) {s with heap:=h'})
  (f:∀h',es[i]? = none->Kp it s.heap h'->Q none {s with heap:=h'}):wpAny JG A (pyNext (JR it)) Q E s:=by
 have ty:∀{h:Jm} {j:Nat} {x y:Jj},IsItemIter h it d j es.size ep x y->Shared.TypeIs {s with heap:=h} (JR it) "dict_itemiterator":=λ z=>⟨_,z,rfl⟩;have o:Builtin.Dict_items.ownsTuple "dict_itemiterator" = true:=by decide
 have O:¬((Value.ref d==Value.none)=true):=B5;unfold pyNext;refine f0 (Q7 (O4 (ty c) nE (G4 nE (ty c) F.entry_dict_itemiterator_next ?_ (F.args_dict_itemiterator_next_1 _))));refine f0 (f9 (f0 (f0 (f0 (iH (ty c) (f9 (f0 (cu c rfl ?_))))))));simp only[o,if_true];show wpAny _ _ (if(Value.ref d==Value.none)=true then _ else _) _ _ s;rw[g7 O];refine f0 (f9 (f0 (wpAny_dictEntries g k ?_)));rw[g7 JL];refine f0 (f9 (f0 (wpAny_dictEpoch g k ?_)));rw[g7 JL];refine f9 ?_;dsimp only;rw[g7 (show ¬((i:Int)<0) by omega),A8];cases B:es[i]? with
 | none=>
  dsimp only;refine f0 (f0 (iH (ty c) (f9 ?_)));simp only[o,if_true];refine f0 (O7 c JL λ l r s1=>f0 ?_);unfold newExc newTuple;refine f0 (C3 (f0 (m:=firstArgMember _ _) (ag (a:=Value.none) (by first | rfl | (simp only[firstArgMember];rfl)) (C3 (wpAny_raiseNew_none P (f0 (bZ (T:="StopIteration") (b:=true) ⟨_,q0 _ rfl,rfl⟩ fg (f9 ?_)))) (by size_fits)))) (by size_fits));exact f _ B (((Kp.of s1).push _).push _)
 | some en=>
  dsimp only;refine f0 (f0 (iH (ty c) (f9 (f0 (iO (ty c) ?_)))));simp only[o,if_true];refine f0 (O7 c JL λ l r s1=>?_);have p:IsItemIter l it d (i+1) es.size ep ok ov:=by unfold IsItemIter;rw[show((i+1:Nat):Int)=(i:Int)+1 by omega];exact r
  refine f0 (B6 (f0 (iO (ty p) (f0 (iO (ty p) ?_)))));show wpAny _ _ _ _ _ {s with heap:=l};unfold Builtin.Dict_items.pairFromOwner Builtin.Dict_items.ownedTupleIsFree;have sz:=s1.1;have n:IsItemIter (l.push {cls:=.type "tuple",data:=.seq #[en.key,en.val]}) it d (i+1) es.size ep ok ov:=i3 _ p;have J:(l.push {cls:=.type "tuple",data:=.seq #[en.key,en.val]}).get? s.heap.objs.size=some {cls:=.type "tuple",data:=.seq #[en.key,en.val]}:=by rw[←sz];exact q0 _ rfl
  refine f0 (wpAny_newTuple (f0 (f0 (D9 n rfl (x:=.none) rfl (f9 ?_)))));simp only[if_true];refine f0 (D9 n rfl (x:=ok) rfl (f0 (D9 n rfl (x:=ov) rfl ?_)));refine f0 (O7 n JL λ h3 I N=>f0 (O7 I JL λ h4 H M=>f0 (O7 H JL λ h5 C L=>f0 (O7 C JL λ R q K=>?_))));have v:=(((Kp.of N).trans (.of M)).trans (.of L)).trans (.of K);refine f0 (be (f9 (f9 ⟨_,rfl,f9 ?_⟩)));rw[sz]at q ⊢;exact e en R B q (v _ _ (Ld (p6 (j9 c))) J) (((Kp.of s1).push _).trans v)
end L2
end
noncomputable section
namespace L2
open PySem PyProof.Rows
variable {α:Type} {r:α->Int} {la lb out:ge α} {ia ib:Nat}
abbrev hH(r:α->Int)(l:ge α):Prop:=l.Pairwise λ x y=>r x<r y
structure Mg(r:α->Int)(la lb out:List α)(ia ib:Nat):Prop where
 pm:out.Perm (la.take ia++lb.take ib)
 up:hH r out
 fa:∀x∈out,∀y∈la.drop ia,r x<r y
 fb:∀x∈out,∀y∈lb.drop ib,r x<r y
structure Mfin(r:α->Int)(la lb out:List α):Prop where
 pm:out.Perm (la++lb)
 up:hH r out
end L2
end
noncomputable section
namespace L2
open PySem PyProof.Rows
structure MOk(r:Keyed->Int)(S:Keyed->Prop)(a b:Array Keyed):Prop where
 ra:hH r a.toList
 rb:hH r b.toList
 sa:∀x∈a.toList,S x
 sb:∀x∈b.toList,S x
 ne:∀x∈a.toList,∀y∈b.toList,r x≠r y
 na:0<a.size
 nb:0<b.size
 h0:∀x,b[0]? = some x->∀y∈a.toList,r x<r y
 hl:∀x,a[a.size - 1]? = some x->∀y∈b.toList,r y<r x
section
variable {prog:Jq} {w:Jp} {A:Jr} {E:Jj->Jk->Prop} {s:Jk} {κ:SortKind} {S:Keyed->Prop} {r:Keyed->Int} {st:SortSt} {a b:Jo Keyed}
structure MI(r:Keyed->Int)(a b out:Array Keyed)(ia ib:Nat):Prop where
 g:Mg r a.toList b.toList out.toList ia ib
 la:ia+1<a.size
 lb:ib<b.size
end
section
variable {prog:Jq} {w:Jp} {A:Jr} {E:Jj->Jk->Prop} {s:Jk} {κ:SortKind} {S:Keyed->Prop} {r:Keyed->Int} {st:SortSt} {a b:Jo Keyed}
structure MJ(r:Keyed->Int)(a b out:Array Keyed)(na nb:Nat):Prop where
 g:Mg (λ x=>- r x) b.reverse.toList a.reverse.toList out.toList (b.size - nb) (a.size - na)
 l1:1<=na
 l2:2<=nb
 l3:na<=a.size
 l4:nb<=b.size
end
noncomputable def rk(r:Keyed->Int)(xs:Jo Keyed)(i:Nat):Int:=match xs[i]? with
 | some p=>r p
 | none=>0
structure SB(κ:SortKind)(a0:List Keyed)(st:SortSt):Prop where
 pm:(arrOf st).toList.Perm a0
 kd:kindOf st=κ
 fl:failedOf st=none
structure A0(S:Keyed->Prop)(r:Keyed->Int)(a0:List Keyed):Prop where
 s:∀x∈a0,S x
 nd:(a0.map r).Nodup
open PySem.Spec PySem.Calls
open Classical in
noncomputable def prOf(h:Jm)(v:Jj):Int×Int:=if e:∃p,PrAt h v p then e.choose else(0,0)
def ItP(a:Jl)(ob:Obj)(qs:ge Jl)(kvs:ge (ge Key×V)):It:=
  ⟨λ i H=>H a=some (.frz ob (.dT kvs))/\∃k v,kvs[i]? = some (k,v),
   λ i H x H'=>∃p q k v,x=.ref p/\H p=none/\kvs[i]? = some (k,v)/\qs[i]? = some q/\H q=some (.tup (k.map kV))/\H'=upd H p (.tup [.ref q,v]),
   λ i H=>H a=some (.frz ob (.dT kvs))/\kvs.length<=i⟩
theorem ET(r:KT H c xs):∀{i:Nat} {k:ge Key} {v:V},c[i]? = some (k,v)->∃b u,xs[i]? = some (k,b,u)/\H b=some (.tup (k.map kV))/\RelV v u:=by
 induction r with
 | nil=>intro i k v h;cases h
 | cons p t e=>
  intro i k v h;cases i with
  | zero=>
   obtain⟨p1,p2,p3⟩:=p;rename_i a b _ _;obtain⟨a1,a2⟩:=a;obtain⟨b1,g,f⟩:=b;cases h;have d:=p1;subst d;exact⟨g,f,rfl,p2,p3⟩
  | succ i=>exact e h
theorem KT.length(r:KT H a xs):a.length=xs.length:=by
 induction r with
 | nil=>rfl
 | cons _ _ b=>rw[x9,x9,b]
theorem mh(I:JI b)(h:H a=some (.frz c (.dT d)))(hd:c.data=.dict es ep) :
  s.heap.get? a=some c/\(a==sysModules)=false/\c.ExactDict/\∃xs,KT H d xs/\es.toList=xs.map (entryOfKey (tupleKind (F9 X.prog X.w))):=by
 obtain⟨e,z1,j,xs,i,o,m,n,g,l,f,k,y5⟩:=(show t9 X.prog X.w H s.heap a (.frz c _)from I.hok _ _ h);rw[e]at g;cases g;rw[hd]at f;cases f;exact⟨e,j,l,xs,i,k⟩
def sW(es:Jo DictEntry)(qs:ge Jl):Prop:=es.toList.map (·.key)=qs.map Value.ref
theorem EU{K:Ju}(hd:ob.data=.dict es ep)(M:sW es C) :
  Turn P w K (.Tuple elts k pos) (ItP a ob C F) [it] it (λ i h=>∃ok ov,IsItemIter h it a i es.size ep ok ov) where
 mem:=by simp
 obj:=λ i h st b d=>by obtain⟨ok,ov,g⟩:=st;rw[u7]at d;subst d;exact⟨_,g,λ v q=>by cases q⟩
 keep:=λ i h y st q=>by obtain⟨ok,ov,g⟩:=st;exact⟨ok,ov,q it JL _ g⟩
 item:=by
  intro X S J U R i j s Z H E I x st O;subst S J U;obtain⟨ok,ov,g⟩:=st;obtain⟨W,k0,v0,r⟩:=O;obtain⟨B,z2,z4,xs,A,z⟩:=mh I W hd;obtain⟨b,u,hu,d,ru⟩:=ET A r;have Q:es[i]? = some (entryOfKey (tupleKind (F9 X.prog X.w)) (k0,b,u)):=by rw[entry_at z,hu];rfl
  have L:C[i]? = some b:=by
   have h1:(es.toList.map (·.key))[i]? = some (.ref b):=by rw[p5,J7,Q];rfl
   rw[M,p5]at h1;obtain⟨c,e1,e2⟩:=w6.mp h1;cases e2;exact e1
  refine sV (I.ok.hd R) g B hd (λ en y f b2 b3 b5=>?_) (λ y p _=>by rw[Q]at p;cases p);rw[Q]at f;cases f;refine⟨_,rfl,?_⟩;refine wpAny_letOwnedTupleGo_items b2 λ h2 N t2=>?_;have m:=Q8 (j9 g);have I1:=I.turnedL (t':=s.toks) (λ b o d e=>t2.extBut _ _ (λ q=>d (by simp[q])) (b5 b o (λ q=>d (by simp[q])) e)) x;have l:=I.hok.fresh (i8 _);have Y:=I.fpOk (i8 _) l;have I2:Inv X j Z (upd H s.heap.objs.size (.tup [.ref b,v0])) {s with heap:=h2}:=I1.track l (bV I.sz) Y.2.1 (λ n c e=>Y.2.2.2.2.1 n c e) (λ q M=>Y.2.2.2.2.2 q M)
   ⟨by show(2:Nat)<=sizeLine;decide,[.ref b,u],.cons rfl (.cons ru .nil),_,(t2.extBut _ _ m b3),⟨rfl,rfl⟩,_,rfl⟩
  refine⟨.ref s.heap.objs.size,_,I2,rfl,⟨_,b,k0,v0,rfl,l,r,L,d,rfl⟩,⟨_,_,N⟩,λ b d=>?_⟩;rw[u7]at d;subst d;rw[i9 (Ld m)];exact(x b JL).1
 done:=by
  intro X S J U R i j s Z H E I x st O;subst S J U;obtain⟨ok,ov,g⟩:=st;obtain⟨W,r⟩:=O;obtain⟨B,z2,z4,xs,A,z⟩:=mh I W hd;have hl:es.size<=i:=by rw[size_of_entries z,←A.length];exact r
  exact sV (I.ok.hd R) g B hd (λ en y f _ _ _=>by rw[T5 hl]at f;cases f) λ y _ a=>⟨rfl,I.turnedL (t':=s.toks) (ch:=[it]) (λ b o d e=>a b o (λ q=>d (by simp[q])) e) x⟩
 self:=λ _ _ _ _ _ st h=>by obtain⟨ok,ov,g⟩:=st;exact PySem.W.kcp_self g h
theorem Wk.itemsP{K:ge Jl}(h:L2.wo K g a=some (.frz C (.dT b)))(e:b=oeK L)(P:∀q∈B,∃n,g q=some (.tup n))(R:Hdn J g):Wk D (ItP a C B b) (L.map λ p=>.tup [.tup [.int p.1.1,.int p.1.2],.int p.2]) K J g:=by
 subst e;have Q:(oeK L).length=L.length:=by unfold oeK;rw[g6]
 have c:∀(i:Nat),(oeK L)[i]? = (L[i]?).map λ p=>(kP p.1,V.int p.2):=λ i=>by unfold oeK;rw[p5];rfl
 refine⟨λ i H s I=>?_,λ i H x U y=>?_,λ i H x U d M s s' y e F=>?_,λ H s=>?_⟩
 ·rw[g6]at I;exact⟨x8 _ _ (s _ _ h),kP L[i].1,.int L[i].2,by rw[c,k7 I];rfl⟩
 ·obtain⟨p,q,k,v,_,f,_,_,_,e⟩:=y;rw[e];exact t6 f
 ·obtain⟨p,q,k,v,ex,f,j,N,r,S⟩:=y;rw[p5]at e;rw[c]at j;cases E:L[i]? with
  | none=>rw[E]at e;cases e
  | some O=>
   rw[E]at e j;cases e;cases j;have l:q∉M:=λ z=>by
    obtain⟨n,w⟩:=P q (J9 N);rcases(F q z).2 with u | u
    ·obtain⟨o,A,m⟩:=R q u;rw[w]at A;cases A;cases m
    ·rw[w]at u;cases u
   subst S;have r1:Rep D (L2.wo M (upd H p (.tup [.ref q,.int O.2]))) _ _:=
    F4.mpr ⟨q,_,rfl,SqT.of (by rw[i6 l,i9 (y9 r f)];exact r),v6.mpr ⟨_,_,rfl,A2.mpr rfl,RepL.one (A2.mpr rfl)⟩⟩
   exact F4.mpr ⟨p,_,ex,SqT.of (by rw[i6 (λ z=>(F p z).1 f)];exact u9),v6.mpr ⟨_,_,rfl,r1,RepL.one (A2.mpr rfl)⟩⟩
 ·exact⟨x8 _ _ (s _ _ h),by rw[g6,Q];exact i8 _⟩
theorem EV(he:PE X e S)(n:attributeBase e "items" X.env (Ln e)=eval e X.env)(j:(apos.endLine==pos.line)=true) :
  PI X (.Tuple elts k tpos) (.Call (.Attribute e "items" apos) [] [] pos) (λ C H R=>S C H λ x g=>∃a f d,x=.ref a/\g a=some (.frz f (.dT d))/\∀U:ge Jl,(∀q∈U,∃F,g q=some (.tup F))->R (ItP a f U d) g):=by
 intro u s C H R I h;refine nV n j (thn (he u s C H _ I h) λ v s1 t0=>?_);obtain⟨x,g,B,r1,a,f,d,e1,L,q⟩:=t0;subst e1;cases r1;obtain⟨i,w,A,N,E⟩:∃i w A,s1.heap.get? a=some i/\i.data=.dict w A:=by obtain⟨r,z1,Q,xs,P,o,w,A,y1,y2,y3,y4⟩:=(show t9 X.prog X.w g s1.heap a (.frz f (.dT d))from B.hok _ _ L);exact⟨o,w,A,y1,y3⟩
 have yo:i=f:=(by obtain⟨r,_⟩:=(show t9 X.prog X.w g s1.heap a (.frz f (.dT d))from B.hok _ _ L);rw[r]at N;cases N;rfl);subst yo;obtain⟨r,Q,O,xs,P,Z⟩:=mh B L E;have J:s1.TypeIs (.ref a) "dict":=⟨i,r,O.1⟩;have nD:∀b,Value.ref a=.ref b->∃f,s1.heap.get? b=some f/\f.dict=none:=λ b q=>by cases q;exact⟨i,r,O.2.1⟩
 refine⟨"dict","dict.items",PySem.F.plainAttrs_dict,nZ,PySem.F.type_dict_items,J,nD,bT rfl (PySem.evalArgs_none ?_)⟩;refine call_meetsIn nZ J PySem.F.entry_dict_items (PySem.F.args_dict_items_1 _) (ER Q) ⟨J,?_⟩;have W:∀b o,s1.heap.get? b=some o->(s1.heap.push {cls:=.type "dict_items",data:=.fields #[.ref a]}).get? b=some o:=λ b o e=>i3 _ e;have M:=B.kept (t':=s1.toks) W;refine ES ⟨_,q0 _ rfl,rfl,rfl⟩ (W _ _ r) E ?_;refine⟨_,[_],_,ItP a i _ d,g,rfl,M.kept (t':=s1.toks) λ b o e=>i3 _ e,EU (elts:=elts) (k:=k) (pos:=tpos) E ((by unfold sW;rw[Z,p9,p9];rfl)),⟨.none,.none,q0 _ rfl⟩,λ c Y=>?_,q _ λ b hb=>?_⟩
 ·rw[u7]at Y;subst Y;exact M.fpOk (i8 _) (M.hok.fresh (i8 _))
 ·obtain⟨y,hy,rfl⟩:=i4.mp hb;have all:∀{l:ge (ge Key×V)} {m:ge _},KT g l m->∀x∈m,∃F,g x.2.1=some (.tup F):=by
   intro l m q
   induction q with
   | nil=>intro x K;exact nomatch K
   | cons p t ih=>
    intro x K;rcases h8.mp K with z | z
    ·rw[z];exact⟨_,p.2.1⟩
    ·exact ih x z
  exact all P y hy
theorem EW(h:kvp? ks vs=some L){a:ge (Key×V)}(e:a.map (λ p=>dKey p.1)=ks):L=[]/\a=[]:=by
 cases a with
 | nil=>
  subst e;cases vs with
  | nil=>cases h;exact⟨rfl,rfl⟩
  | cons _ _=>cases h
 | cons p a=>
  subst e;obtain⟨k,v⟩:=p;cases k<;>cases vs<;>cases h
theorem EX:∀{ks:ge DKey} {d:ge DV} {L:ge ((Int×Int)×Int)},kvp? ks d=some L->∀{D:Dm} {H:Hp} {c:ge (ge Key×V)},c.map (λ p=>DKey.t p.1)=ks->RepL D H d (c.map (·.2))->c=oeK L:=by
 intro ks
 induction ks with
 | nil=>
  intro d L h D H c e r;cases c with
  | nil=>cases d with
   | nil=>cases h;rfl
   | cons _ _=>cases h
  | cons _ _=>cases e
 | cons l ks m=>
  intro d L h D H c e r;unfold kvp? at h;split at h
  ·exact absurd (by assumption:l::ks=[]) (List.cons_ne_nil _ _)
  ·rename_i a b j v g q;cases q;obtain⟨L',o,n⟩:=w6.mp h;subst n;cases c with
   | nil=>cases e
   | cons p c=>
    obtain⟨k,i⟩:=p;obtain⟨w,ws,y,x,u⟩:=v6.mp r;cases y;have f:=fk e;rw[m o f.2 u,show k=[.inl a,.inl b]from DKey.t.inj f.1,show i=.int v from A2.mp x];rfl
  ·cases h
theorem EY(g:attributeBase e "items" X.env (Ln e)=eval e X.env)(f:(apos.endLine==pos.line)=true)(J:∀q,n=some q->PE X e JK)
  (h:r6 (Re.thn n λ x c=>itmD x c)=some m):PI X (.Tuple elts k tpos) (.Call (.Attribute e "items" apos) [] [] pos) (dI X.D E δ m):=by
 have C:=λ F (K:PE X e F)=>EV (elts:=elts) (k:=k) (tpos:=tpos) K g f;cases d:n with
 | none=>rw[d]at h;cases h
 | some q=>
  rw[d]at h;have A:=J q d;cases q with
  | ex c=>cases h;exact(C _ A).weak λ z H Q ⟨O,W,R,p⟩=>Kr
  | ok N P=>
   have b:r6 (itmD N P)=some m:=h;unfold itmD at b;split at b
   ·rename_i ks B;split at b
    ·rename_i r;obtain⟨rfl,o⟩:=r;cases j:kvp? ks B with
     | none=>rw[j]at b;cases b
     | some L=>
      rw[j]at b;cases b;exact(C _ A).weak λ z H Q ⟨O,W,R,p⟩=>⟨O,W,R,λ x S s1 M=>by
       rcases P8.mp (M)with⟨a,v,i,y,u,l,w⟩ | ⟨a,v,i,y,u,l,w⟩
       ·obtain⟨rfl,rfl⟩:=EW j l;subst l;cases o
       ·exact⟨a,v,i,y,x8 _ _ u,λ qs I=>p _ S s1 (Wk.itemsP u (EX j l w) I (JS).hdA)⟩⟩
    ·cases b
   ·cases b
def EZ(K:Ju)(C:Jl):Prop:=∃B newId initId bmB,ExcBaseFacts B newId initId bmB/\PySem.W.excIn K C bmB newId=true
structure XOne(K:Lz)(mg:Str->Option Value)(G:Gs)(cl:List Str)(c:Str)(C:Addr):Prop where
 mc:mg c=some (.ref C)
 ck:ClsK K C
 rk:EZ K C
 own:∀t∈cl,∀Ct,mg t=some (JR Ct)->PySem.W.kitOne K (.ref C) (JR Ct)=some (P4 G c t)/\PySem.W.exmOne K (.ref C) (JR Ct)=some (P4 G c t)
 blt:PySem.W.kitOne K (.ref C) (.type "ValueError")=some (P4 G c "ValueError")
structure XFacts(K:Lz)(mg:Str->Option Value)(G:Gs)(cl:List Str):Prop where
 one:∀c,(G.cls.lookup c).isSome=true->∃C,XOne K mg G cl c C
 all:∀t∈cl,∃Ct,mg t=some (JR Ct)
section
variable {X:Cx} {E:St->XK} {δ:ge Sv} {e:Jn} {pos p p':Pos} {re:Re} {ra:Ji Re} {G:Gs} {cl:ge Str} {t:Str} {o:Out}
def rIsx(X:Cx):ge V->Hp->VK->Prop:=λ xs H Q=>∃(a C:Jl) (y:V) (c:Jj) (b:Bool),xs=[.ref a,y]/\H a=some (excO a (.ref C))/\ClsK X.K C/\((∃Ct,y=.ref Ct/\c=.ref Ct)\/∃n,y=.ty n/\c=.type n)/\PySem.W.kitOne X.K (.ref C) c=some b/\Q (.bl b) H
theorem Fa:B2 X (.builtin "isinstance") (rIsx X):=by
 intro e s σ H xs us Q I r h;obtain⟨a,C,y,c,b,rfl,v,ck,k,m,q⟩:=h;obtain⟨u,f,rfl,i,d⟩:=fL r;cases(i);obtain⟨⟨j,vs,p,o,_⟩,_⟩:=(I.hok a _ v);have l:f=c:=by
  rcases k with⟨Ct,rfl,rfl⟩ | ⟨n,rfl,rfl⟩
  ·exact d
  ·exact d
 subst l;exact zy ck I.kIn ⟨j,p,o⟩ m λ g=>⟨.bl b,H,I.tok g,rfl,q⟩
theorem Fb:bootBuiltins "ValueError" = some (.type "ValueError"):=by decide +kernel
theorem Fd(F:XFacts X.K X.mg G cl)(N:Gl X "isinstance")(L:X.mg "isinstance" = none)(j:Gl X t)(K:(t∈cl/\(t==("__debug__" : Str))=false)\/(X.mg t=none/\t = "ValueError"))
  (S:∀q,ra=some q->PE X e JK) (hs:o7 e=false) (h:(Re.thn ra λ y _=>(isxD G y t).map λ k=>.ok (.bl k) .strong)=some re):PE X (.Call (.Name "isinstance" p) [e,.Name t p'] [] pos) (dE X.D E δ re):=by
 have T:∃(v:V) (c:Jj),PE X (.Name t p') (tC v)/\((∃g,v=.ref g/\c=.ref g)\/∃n,v=.ty n/\c=.type n)/\∀f C,XOne X.K X.mg G cl f C->PySem.W.kitOne X.K (.ref C) c=some (P4 G f t):=by
  rcases K with⟨l,m⟩ | ⟨l,m⟩
  ·obtain⟨g,u⟩:=F.all t l;exact⟨.ref g,.ref g,oG j u rfl m,.inl ⟨g,rfl,rfl⟩,λ f C x=>(x.own t l g u).1⟩
  ·subst m;exact⟨.ty "ValueError",.type "ValueError",oH j l Fb rfl KA KA,.inr ⟨_,rfl,rfl⟩,λ f C x=>x.blt⟩
 obtain⟨v,c,T,J,M⟩:=T;have C:=λ I (U:PE X e I)=>fM (p:=p) (pos:=pos) Fa N L boot_isinstance (L8 U (L8 T U4) (u4 hs)) JB JB (u4 hs)
 cases b:ra with
 | none=>rw[b]at h;cases h
 | some q=>
  rw[b]at h;have A:=S q b;cases q with
  | ex c=>cases h;exact(C _ A).weak λ w H Q ⟨O,W,R,p⟩=>Kr
  | ok d dc=>
   obtain⟨k,i,Z⟩:=w6.mp (h);cases Z;unfold isxD at i;split at i
   ·rename_i f;split at i
    ·rename_i P;cases i;obtain⟨o,x⟩:=F.one f P;refine(C _ A).weak λ w H Q ⟨O,W,R,p⟩=>⟨O,W,R,λ v1 H1 s1 Y=>?_⟩
     obtain⟨a,C1,B,z,r⟩:=lm.mp (Y.all JS);rw[show C1=Value.ref o from B0 (z.symm.trans x.mc)]at r;exact⟨a,o,v,c,_,by rw[B],r,x.ck,J,M f o x,p _ H1 s1 X9⟩
    ·cases i
   ·cases i
theorem Fe(F:XFacts X.K X.mg G cl)(r:Lb)(n:Gl X c)(p:(c==("__debug__" : Str))=false)(w:fT X E)(u:∀q,ra=some q->PE X e JK)(hs:o7 e=false)
  (h:(if(G.cls.lookup c).isSome then Re.thnS δ ra λ _ _=>some (.ex c δ)else none)=some o):PS X (.Raise (some (.Call (.Name c np) [e] [] cpos)) none pos) (dS X.D E δ o):=by
 split at h
 ·rename_i i;obtain⟨C,x⟩:=F.one c i;obtain⟨B,f,b,y,I,m⟩:=x.rk;cases a:ra with
  | none=>rw[a]at h;cases h
  | some q=>
   rw[a]at h;have P:=zq (np:=np) (cpos:=cpos) (pos:=pos) I r n x.mc m w (L8 (u q a) U4 (u4 hs)) p (u4 hs) rfl;cases q with
   | ex c2=>cases h;exact P.weak λ J l H ⟨A,O,W,R,j,fo,sm,k⟩=>⟨O,W,R,Q0 R j sm k⟩
   | ok d dc=>cases h;exact P.weak λ J l H ⟨A,O,W,R,j,fo,sm,k⟩=>⟨O,W,R,λ v z s1 g=>⟨by show 1<=sizeLine;decide,k l z W _ x.mc Lk j (sm.trans s1)⟩⟩
 ·cases h
theorem RSt.unset(R:La D)(i:Nat):RSt D H (σ.set i none) (δ.set i .no) O W where
 val:=λ j d h=>by
  by_cases c:j=i
  ·subst c;have b:=Lr;rw[F5 b]at h;cases h
  ·rw[u5 (Ld c)]at h ⊢;exact R.val j d h
 own:=λ j d h=>by
  by_cases c:j=i
  ·subst c;have b:=Lr;rw[F5 b]at h;cases h
  ·rw[u5 (Ld c)]at h ⊢;exact R.own j d h
 inj:=λ j k a d m f e l g=>by
  have ne:∀(j:Nat) d,(δ.set i .no)[j]? = some (.own d)->j≠i:=λ j d h z=>by
   subst z;have b:j<δ.length:=by have:=(v4.mp h).1;rw[B1]at this;exact this
   rw[F5 b]at h;cases h
  have o:=ne j d f;have n:=ne k m e;rw[u5 (Ld o)]at f l;rw[u5 (Ld n)]at e g;exact R.inj j k a d m f e l g
 od:=R.od.step (gG _ (by intro d z;cases z)) (λ _ h _=>h) (λ _ _ _ h _=>h)
 len:=by rw[B1,B1];exact R.len
 hid:=R.hid
theorem Ff{e:Nat}(F:XFacts X.K X.mg G cl)(A:X.stack=X.env::X.outer)(Q:X.env.frame=some X.env.locals)(S:X.ex=[])(P:Gl X c)(hc:c∈cl)(hd:(c==("__debug__" : Str))=false)(hN:X.N.Nodup)(hi:X.N[e]? = some n)(hl:X.env.scope.names.lookup n=some .local)
  (I:(n==("__debug__" : Str))=false) (B:(n==("__classdict__" : Str))=false) (J:X.N[j]? = some x) (hx:Loc X.env.scope x) (hf:X.fn x=true\/X.env.scope.names.lookup x=some .local)
  (hb:∀b (v:St->Jj->Hp->Prop) q,z=some q->PSs (X.tryIn b v) body (dS X.D (λ σ C _ H=>v σ C H) δ q))
  (h:tryD G c e j z=some o) :
  PS X (.Try body [.ExceptHandler (some (.Name c np)) (some n) [.Assign [.Name x tp] (.Name n vp) ap] r] [] [] pos) (dS X.D E δ o):=by
 obtain⟨Ct,u⟩:=F.all c hc;cases l:z with
 | none=>rw[l]at h;cases h
 | some q=>
  rw[l]at h;refine(zm (i:=e) (cv:=.ref Ct) A Q S P u hN hi hl (λ b v=>hb b v q l) (λ p=>xh (fH hN J hx (Q9 hi (.inl hl) I B) rfl hf)) hd).weak λ Dn σ H ⟨H0,O,W,R,fr,fo,sm,k⟩=>⟨H0,O,W,R,fr,fo,sm,?_⟩
  cases q with
  | nx a=>cases h;exact k
  | rt d f=>cases h;exact k
  | ex g a=>
   have U:(if(G.cls.lookup g).isSome/\P4 G g c/\e<a.length/\e≠j then some (Out.nx ((a.set j (.val (.exc g))).set e .no))else none)=some o:=h;split at U
   ·rename_i hh;cases U;obtain⟨N,M,L,K⟩:=hh;obtain⟨C0,w⟩:=F.one g N;intro σ' H' W' C hm Z Y y;rw[show C=Value.ref C0 from B0 (hm.symm.trans w.mc)];refine⟨by rw[(w.own c hc Ct u).2,M],λ p m=>?_⟩;have R1:=Z.mono (t6 (o:=excO p (JR C0)) m);have rp:Rep X.D (L2.wo (O++W') (upd H' p (excO p (JR C0)))) (.exc g) (.ref p):=lm.mpr ⟨p,_,rfl,w.mc,by rw[i6 (Z.hid.newOut m)];exact u9⟩;refine⟨.ref p,F5 (by rw[Z.len];exact L),?_⟩;refine k _ _ W' ?_ Y (y.trans (t6 m));have R2:=((R1.setVal rp e).setVal rp j).unset e;rw[show((a.set e (Sv.val (.exc g))).set j (Sv.val (.exc g))).set e Sv.no=(a.set j (Sv.val (.exc g))).set e Sv.no by rw[List.set_comm _ _ K,List.set_set]]at R2;exact R2
   ·cases U
end
theorem sX{X:Cx}:∀{es:ge Jn},es.any o7=false->(KO pos es).any (·.1)=false
 | [],_=>rfl
 | y::ys,q=>by rw[F8,O5]at q;rw[u4 q.1];show(false||(KO pos ys).any (·.1))=false;rw[sX q.2];rfl
theorem mi{X:Cx}:∀{es:ge Jn},es.any o7=false->es.length<n->n<=29->methodCallForm (es.length+([]:ge Keyword).length) (KO pos es) (backToKw pos (keywordEach [] X.env))=true:=λ {es} h hl hn=>by
 have all:∀{es:ge Jn},es.any o7=false->(KO pos es).all (!·.1)=true:=λ {es} h=>by have:=sX (X:=X) (pos:=pos) h;rw[List.all_eq_not_any_not];simpa using this
 unfold methodCallForm;rw[all h];show(true&&true&&decide (es.length+0+0<30))=true;simp;omega
theorem Fg(h:de e ps=true)(c:a.length=ps.length):bindArgs (PySem.W.fnX nm q e b sc cl .none .none d pm none cd f) ⟨a,[]⟩=pure (ps.zip a):=by
 revert c;refine rq h λ x y c=>?_
 obtain⟨u,v,rfl⟩:∃u v,a=[u,v]:=by
  cases a with
  | nil=>cases c
  | cons u r=>cases r with
   | nil=>cases c
   | cons v r=>cases r with
    | nil=>exact⟨u,v,rfl⟩
    | cons _ _=>cases c
 rfl
structure CloTx(C:CloD)(sc:Scope):Prop where
 kind:sc.kind=.function
 co:sc.isCoroutine=false
 gen:sc.isGenerator=false
 nd:C.N.Nodup
 len:C.np+C.nc<=C.N.length
 par:∀x∈C.N.take C.np,sc.names.lookup x=some .local
 nocell:∀y∈sc.names,y.2 ≠ .cell
 fre:∀i x,C.np<=i->i<C.np+C.nc->C.N[i]? = some x->sc.names.lookup x=some .free
 slf:sc.names.lookup n7=some .free
theorem sY:∀{l:ge Str},O0 l=true->l.Nodup
 | [],_=>fh
 | x::r,h=>by unfold O0 at h;rw[f7]at h;refine N1.mpr ⟨λ z=>?_,sY h.2⟩;have:=h.1;rw[J8.mpr z]at this;cases this
theorem mj(h:X5 C fn bl cl k bd sc d=true):de k (C.N.take C.np)=true/\CloTx C sc/\d=(C.N.drop C.np).take C.nc/\G1 ⟨C.N,sc.names,fn,bl,cl,false,true,noCo⟩ C.body bd=true:=by
 unfold X5 at h;simp only[f7,g9,t8,F6,U1,ne_eq,A9]at h;obtain⟨⟨⟨⟨⟨⟨⟨⟨⟨⟨⟨⟨u,r⟩,q⟩,p⟩,o⟩,n⟩,h7⟩,m⟩,l⟩,c⟩,j⟩,g⟩,f⟩:=h;refine⟨u,⟨r,q,p,sY o,n,m,l,λ i x a b e=>j x ?_,g⟩,c,f⟩;rw[c];refine J9 (i:=i - C.np) ?_;rw[aN JA,Z7,show C.np+_=i by omega];exact e
def sZ(D:Dm)(base:Jm)(outer:ge Env)(O:ge Jl)(H:Hp)(C:CloD)(fn bl cl:ge Str)(cs:ge DV)(f:Jl):Prop:=
 ∃q pr bd sc cap cc l ws c o,J4 H n7 q pr bd sc cc f/\X5 C fn bl cl pr bd sc cap=true/\CloScope C.N (C.N.take C.np) C.nc sc cc l/\RepL D (JZ O) cs ws/\ws.length=C.nc/\(∀c∈l,∃o v,H c=some LL/\o.data=.cell v) /\
  (∀(i:Nat) x v,C.N[C.np+i]? = some x->ws[i]? = some v->∃c o u,cc.lookup x=some c/\H c=some LL/\o.data=.cell (some u)/\RelV v u) /\
  (∀c∈l,∃x,cc.lookup x=some c)/\(cc.lookup n7=some c/\H c=some LL/\o.data=.cell (KP f))/\∀c∈l,base.get? c=none/\c∉frs outer
def aC(P:Jq)(w:Jp)(K:Ju)(mg:Str->Ji Jj)(base:Jm)(C:CloD)(fn bl cl:ge Str)(k:Nat)(Fc:ge DV->Ji Ou):Prop:=
 ∀(A:Jr) (outer:ge Env) (s:Jk) (H:Hp) (us:ge Jj) (vs:ge V) (Q:VK) (E:XK) (O:ge Jl) (f:Jl) (cs ds:ge DV) (d:DV),RoomL k A->Env0 P w K mg base A outer s H->Vals vs us->Hdn O H ->
  sZ ⟨K,mg⟩ base outer O H C fn bl cl cs f->ds.length=C.np->RepL ⟨K,mg⟩ (JZ O) ds vs->Fc (ds++cs)=some (.v d false)->(∀v H',Same H H'->Rep ⟨K,mg⟩ (L2.wo O H') d v->Q v H') ->
  codeAny Lv A (.call (.ref f) ⟨us,[]⟩) (CR (CXx P w base) outer P w H s Q E) s
section
variable {X:Cx} {E:St->XK} {δ:ge Sv} {pos p:Pos} {re:Re} {k:Nat} {x:Str} {pr:Jw} {bd:ge Js} {sc:Jv} {C:CloD} {fn bl cl cap:ge Str} {cs:ge DV} {fr:ge Nat} {pins:ge (Jl×Obj)} {σ:St} {H:Hp} {s:Jk} {O W:ge Jl} {f:Jl} {q:Str} {cc:ge (Str×Jl)} {l:ge Jl} {F:ge DV->Ji Ou}
theorem Fh(I:JI pins)(co:aC X.prog X.w X.K X.mg X.base C fn bl cl k F)(hr:RoomL k X.A)(df:J4 H n7 q pr bd sc cc f)(A:X5 C fn bl cl pr bd sc cap=true)(S:CloScope C.N (C.N.take C.np) C.nc sc cc l)
  (J:∀x c,cc.lookup x=some c->X.env.cells.lookup x=some c) (hl:∀c∈l,∃x,cc.lookup x=some c) (n:∀c∈l,X.base.get? c=none/\c∉frs X.stack) (N:cc.lookup n7=some c0) (a0:s.heap.IsCell c0 (KP f))
  (a4:fr.length=C.nc) (E:∀(j i:Nat),fr[j]? = some i->∃y,C.N[C.np+j]? = some y/\X.N[i]? = some y/\(X.env.kindOf y=some .cell\/X.env.kindOf y=some .free)) (U:capD δ fr=some cs) (R:La X.D)
  (a1:ds.length=C.np) (rl:RepL X.D (JZ (O++W)) ds vs) (ru:Vals vs Z) (hF:F (ds++cs)=some (.v d false)) (hd:d.nolam=true) (hQ:∀v p,Same H p->Rep X.D (Ka p) d v->Q v p) :
  wpAny JE X.A (call (.ref f) Z) LD EE s:=by
 have K:Cells l s.heap H:=⟨λ c h=>by obtain⟨x,e⟩:=hl c h;exact I.freeC x c (J x c e),λ c h=>by
  obtain⟨x,e⟩:=hl c h;obtain⟨v,o,g,d⟩:=I.cell x c (J x c e);exact⟨o,v,g,d⟩⟩
 have same:=K.same;have hdA:=R.hid.hdA;obtain⟨ws,w1,w2,w3⟩:=lK R U;have oc:∀{b:Jl},b∈l->b∉O++W:=λ {b} hb z=>by obtain⟨o',B,Y⟩:=hdA b z;rw[K.none b hb]at B;cases B
 obtain⟨o0,g0,d0⟩:=a0;have ca:sZ X.D X.base X.stack (O++W) (trC l s.heap H) C fn bl cl cs f:=by
  refine⟨q,pr,bd,sc,cap,cc,l,ws,c0,o0,df.mono same,A,S,w2.mono same.wo,by rw[w1,a4],λ c h=>?_,λ i y v h1 h2=>?_,hl,⟨N,Y2 (S.mem _ _ N) g0,d0⟩,n⟩
  ·obtain⟨o,v,g,d'⟩:=K.cel c h;exact⟨o,v,Y2 h g,d'⟩
  ·have hi:i<fr.length:=by rw[←w1];exact(v4.mp h2).1
   have hj:=k7 hi;obtain⟨y',B,Y,L⟩:=E i _ hj;rw[h1]at B;cases B;have hv:=w3 i _ v hj h2;obtain⟨mm,hn',a3⟩:=I.loc;obtain⟨u,rv,lk⟩:=a3 _ y v Y hv (.inr L);rcases lk with⟨M,_⟩ | ⟨M,cx,k2,o,k3,k4⟩
   ·have M:=M;rcases L with L | L<;>(rw[L]at M;cases M)
   ·have P:=S.fre (C.np+i) y (by rw[E9];omega) (by rw[E9];have:=(mj A).2.1.len;omega) h1;obtain⟨c2,e2⟩:=S.has y P;have:=J y c2 e2;rw[k2]at this;cases this;exact⟨cx,o,u,e2,Y2 (S.mem y cx e2) k3,k4,rv⟩
 have e0:=I.env0;refine cI (N4 (co X.A X.stack s (trC l s.heap H) Z vs (λ v p=>Same (trC l s.heap H) p/\Rep X.D (Ka p) d v) (λ _ _ _=>False) (O++W) f cs ds d hr (Env0.trC K (λ c h=>(n c h).1) (λ c h=>(n c h).2) e0) ru (λ a ha=>?_) ca a1 (rl.mono same.wo) hF λ v p sm g=>⟨sm,g⟩) λ r s' m=>?_)
 ·obtain⟨o,B,Y⟩:=hdA a ha;exact⟨o,same _ _ B,Y⟩
 ·cases r with
  | error e=>
   obtain⟨_,_,_,_,_,_,_,_,_,_,z⟩:=(m:CXx X.prog X.w X.base X.stack (trC l s.heap H) s (λ _ _ _=>False) e s');exact z.elim
  | ok fl=>
   cases fl with
   | ret u=>
    refine I.after (Q:=Q) (CE.trC (Q:=Q) K m (λ v p sm z=>?_) λ v p z=>z.1);have a2:∀c∈l,∃o,p c=some (.frz o (.own c)):=λ c h=>by obtain⟨o,v,g,_⟩:=K.cel c h;exact⟨o,sm _ _ (Y2 h g)⟩
    refine hQ v _ (λ b o e=>?_) (so a2 hd z.2);rw[i6 λ w=>by rw[K.none b w]at e;cases e];exact sm _ _ (same _ _ e)
   | next=>exact False.elim m
   | brk=>exact False.elim m
   | cont=>exact False.elim m
theorem tj(I:JI pins)(h:J4 H n7 q pr bd sc cc f):PySem.W.FnAt f s.heap:=by
 obtain⟨c',oc,u,vs,t,b,pm,c,T,a,_⟩:=h;exact⟨_,_,_,_,(I.hok _ _ a).1⟩
theorem tm{l:ge (DV×Cl)}(h:P5 a np cs l=some re):∃d,Ko=true/\(l.map (·.1)).length=np/\a A5 (l.map (·.1)++cs)=some (.v d false)/\d.nolam=true/\re=.ok d .strong:=by
 unfold P5 at h;split at h
 ·rename_i z;split at h
  ·rename_i d b;split at h
   ·rename_i nl;cases h;exact⟨d,z.1,by rw[g6];exact z.2,b,nl,rfl⟩
   ·cases h
  ·cases h
 ·cases h
def tClo(X:Cx)(δ:ge Sv)(F:Ku)(C:CloD)(cs:ge DV)(ta:TA)(at_:St->Hp->Jl->Prop):TE:=λ σ H Q=>∃f O W,at_ σ H f/\RSt X.D H σ δ O W/\ta σ H λ vs H1=>Same H H1/\∃ds d,RepL X.D (Ka H1) ds vs/\ds.length=C.np/\F A5 (ds++cs)=some (.v d false)/\d.nolam=true/\∀v H',Same H1 H'->Rep X.D (Ka H') d v->Q v H'
theorem tq(co:aC X.prog X.w X.K X.mg X.base C fn bl cl k (FF A5))(hr:Room k X.A)(o:X5 C fn bl cl pr bd sc cap=true)(S:X.Ok->CloScope C.N (C.N.take C.np) C.nc sc cc l/\(∀x c,cc.lookup x=some c->X.env.cells.lookup x=some c)/\∀c∈l,∃x,cc.lookup x=some c)(m:∀{a:ge (Jl×Obj)} {b:ge (Ji V)} {H:Hp} {s:Jk},Inv X a b H s->∀c∈l,X.base.get? c=none/\c∉frs X.stack)
  (z:∀{a:ge (Jl×Obj)} {b:ge (Ji V)} {H H':Hp} {s:Jk} {f:Jl},Inv X a b H' s->Same H H'->at_ b H f->J4 H' n7 q pr bd sc cc f/\∃c0,cc.lookup n7=some c0/\s.heap.IsCell c0 (KP f)) (n:X.env.kindOf n7=some .cell\/X.env.kindOf n7=some .free)
  (L:fr.length=C.nc) (g:∀(j i:Nat),fr[j]? = some i->∃y,C.N[C.np+j]? = some y/\X.N[i]? = some y/\(X.env.kindOf y=some .cell\/X.env.kindOf y=some .free)) (w:capD δ fr=some cs)
  (A:PA X (e::es) P) (hs:o7 e=false) (K:es.any o7=false):PE X (Kj n7) (tClo X δ FF C cs P at_):=by
 intro a s b H Q I h;obtain⟨f,O,W,U,R,h⟩:=h;obtain⟨df,c0,M,Y⟩:=z I Kc U;obtain⟨S,v,hl⟩:=S I.ok;have B:=v _ _ M;have J:wpAny JE X.A (Ln (.Name n7 p)) (λ u s1=>u=.ref f/\Inv X a b H s1) X.xe s:=by
  rcases n with n | n
  ·exact cG (wpAny_loadName_cell I.ok.kind n B Y ⟨rfl,I⟩) JB
  ·exact cG (wpAny_loadName_free I.ok.kind n B Y ⟨rfl,I⟩ JB) JB
 refine Z6 (thn J λ u s1 t0=>?_);obtain⟨eu,Z⟩:=t0;subst eu;refine PySem.W.callWith_F (tj Z df) (thn (A pos a s1 b H _ Z h) λ us s2 ⟨vs,H2,F,r,sm,ds,d,g1,g2,g3,g4,g5⟩=>?_) (u4 hs) (aw es K);obtain⟨E,c2,N,y2⟩:=z F sm U;rw[M]at N;cases N;refine⟨tj F E,?_⟩;exact Fh F co hr.toL E o S v hl (m F) M y2 L g w (R.mono sm) g2 g1 r g3 g4 g5
theorem J4.un(u:Un fs ex H c h h')(d:J4 H nm q pr bd sc cc f):J4 c nm q pr bd sc cc f:=by
 obtain⟨p,i,o,e,t,a,g,b,T,n,m,l,k,j,r⟩:=d;exact⟨p,i,o,e,t,a,g,b,T,u.frzs _ _ _ n,u.frzs _ _ _ m,l,k,u.tbls _ _ j,r⟩
theorem Fi(T:CloTx C sc)(ok:X.Ok)(d:KC):CloScope C.N (C.N.take C.np) C.nc sc Kd ((Kd).map (·.2))/\(∀x c,(Kd).lookup x=some c->X.env.cells.lookup x=some c)/\∀c∈(o5 X.env.cells sc.names []).map (·.2),∃x,(Kd).lookup x=some c:=by
 have g:(C.N.take C.np).length=C.np:=by rw[E9];have:=T.len;omega
 refine⟨⟨T.kind,T.co,T.gen,T.nd,by rw[g],T.par,T.nocell,λ i x a b e=>T.fre i x (by rw[g]at a;exact a) (by rw[g]at b;exact b) e,λ x h=>?_,λ x y c l k=>ok.inj x y c (bF d l).1 (bF d k).1,λ x c h=>i4.mpr ⟨_,B4 h,rfl⟩⟩,λ x c h=>(bF d h).1,λ c j=>?_⟩
 ·have f:=B4 h;obtain⟨c,e⟩:=d _ f rfl;exact⟨c,dv d f e⟩
 ·obtain⟨⟨x,c'⟩,f,rfl⟩:=i4.mp j;rcases bo d f with z | z
  ·cases z
  ·exact⟨x,dv d z.2 z.1⟩
theorem tu{k:Nat->ge DV->Ji Ou}(P:∀{j:TA},PA X (e::es) j->PE X (Kj n7) (tClo X δ k C cs j at_))(A:PA X (e::es) (dA X.D E δ b))(h:(Rs.thn (some b) λ l=>P5 k C.np cs l)=some re) :
  PE X (Kj n7) (λ a H Q=>∃f,at_ a H f/\dE X.D E δ re a H Q):=by
 cases b with
 | ex c=>cases h;exact(P A).weak λ a H Q ⟨f,i,O,W,R,p⟩=>⟨f,O,W,i,R,O,W,R,p⟩
 | ok l=>
  obtain⟨d,z,m,n,nl,rfl⟩:=tm h;exact(P A).weak λ a H Q ⟨f,i,O,W,R,p⟩=>⟨f,O,W,i,R,O,W,R,λ vs H1 s1 o=>⟨s1,_,d,o.strong JS z,m,n,nl,λ v q s g=>p v q (Lu s) g⟩⟩
theorem Fj(L:DefAt X sc c P (X.env.qual++n7))(b:de pr (C.N.take C.np)=true)(q:X.N.Nodup)(o:X.N[i]? = some n7)(n:X.env.kindOf n7=some .cell)(k:Loc X.env.scope n7)(p:X.fn n7=true\/X.env.scope.names.lookup n7=some .local) :
  PS X (.FunctionDef n7 pr bd [] none [] sc none n7 pos) (λ j e H=>∀f a,Same H a->H f=none->J4 a n7 (X.env.qual++n7) pr bd sc Kd f->j.nx (e.set i (KP f)) a):=by
 intro g s e H j I h;have l:qualnameIn X.env n7 n7=X.env.qual++n7:=by unfold qualnameIn;rw[n];rfl
 have d:pr.defaults=[]/\pr.kw_defaults=[]/\annTrees pr none X.env=[]:=rq b λ x y=>⟨rfl,rfl,rfl⟩;refine PySem.W.nestDef_K d.1 d.2.1 d.2.2 ?_;rw[l];refine Dr I L λ f a s' w sm m r=>?_;exact fD w q o k (v:=.ref f) rfl (λ s2 u=>⟨_,a,u,h f a sm m r⟩) p
end
def CloG(G:Gs)(F:Ku)(X:Cx):Prop:=
 (∃c P,X.env.code=.ref c/\∀{pins:ge (Jl×Obj)} {σ:ge (Ji V)} {H:Hp} {s:Jk},Inv X pins σ H s->PySem.W.CodeHd s.heap c P/\H P=some (.tbl Lc)) /\
 (∀x a,X.env.cells.lookup x=some a->X.base.get? a=none/\a∉frs X.stack) /\
 ∀{E:St->XK} {δ:ge Sv} {e:Jn} {es:ge Jn} {pos p:Pos} {rs:Rs} {re:Re} {np nc:Nat},PA X (e::es) (dA X.D E δ rs)->o7 e=false->es.any o7=false->cR G F np nc (some rs) (capD δ (List.range' np nc))=some re->PE X (Kj n7) (dE X.D E δ re)
noncomputable def tagN(sc:ge (Str×Jy)):Str:=if sc.lookup n7=some .cell then n7 else "<lambda>"
structure Good(sg:Sg)(G:Gs)(F:Nat->List DV->Option Ou)(X:Cx)(E:St->XK):Prop where
 N:X.N=sg.N
 nd:X.N.Nodup
 vis:∀x,visB sg x=true->Vis X.env.scope x
 glo:∀x,gloB sg x=true->Gl X x
 loc:∀x,locB sg x=true->Loc X.env.scope x/\(X.fn x=true\/X.env.scope.names.lookup x=some .local)
 lcl:∀x,sg.sc.lookup x=some .local->X.env.scope.names.lookup x=some .local
 cel:∀x,(sg.sc.lookup x=some .cell\/sg.sc.lookup x=some .free)->X.env.scope.names.lookup x=some .cell\/X.env.scope.names.lookup x=some .free
 calm:X.calm=true
 hu:X.A.units+64<cLine
 fns:∀f x,sg.fn[f]? = some x->∃k fa fd ps,Room k X.A/\X.mg x=some (JR fa)/\PySem.W.keepIn X.K (JR fa)=true/\L9 X.K fd ps []/\(∀ds o,F f ds=some o->ds.length=ps.length) /\
  FnOk X.prog X.w X.K X.mg X.base (CXx X.prog X.w X.base) k fa fd ps (spF X.D ps.length (F f))
 blt:∀x∈sg.bl,X.mg x=none
 pas:W6 (CXx X.prog X.w X.base) X E
 con:∀x d,G.con.lookup x=some d->∃u v,X.mg x=some u/\RelV v u/\∀H,Rep X.D H d v
 own:sg.lp=true->PassesOwn JE X.A X.env X.xe
 xf:XFacts X.K X.mg G sg.cl
 st:sg.top=true->X.stack=X.env::X.outer/\X.env.frame=some X.env.locals/\X.ex=[]/\fT X E
 lms:G.fnl.isEmpty=false->(G.fnl=sg.fn/\G.bll=sg.bl/\G.cll=sg.cl)/\(∃k,Room k X.A/\Y3 X.prog X.w X.K X.mg X.base sg.fn sg.bl sg.cl k (F z7)/\∀C,G.clo=some C->aC X.prog X.w X.K X.mg X.base C sg.fn sg.bl sg.cl k (F A5))/\(sg.top=true->∃c P,X.env.code=.ref c/\(∀h:Heap,X.K.In h->PySem.W.CodeHd h c P)/\(P,X.env.qual++tagN sg.sc)∈x4 X.K/\(sg.sc.lookup n7=some .cell->L6 (X.env.qual++n7)=true))
 cos:∀pr bd sc cap,sg.co pr bd sc cap=true->∃C,G.clo=some C/\X5 C sg.fn sg.bl sg.cl pr bd sc cap=true
 clo:sg.lp=true->sg.top=false->CloG G F X
theorem bH:∀{l:ge Str},O0 l=true->l.Nodup
 | [],_=>fh
 | x::r,h=>by unfold O0 at h;rw[f7]at h;refine N1.mpr ⟨λ z=>?_,bH h.2⟩;have:=h.1;rw[J8.mpr z]at this;cases this
theorem dG(g:Good sg G F X E)(h:X4 sg N' fr sc tg=true):CompScope X.N N' sc X.env.scope fr/\(∀(j k i:Nat),fr[j]? = some (some i)->fr[k]? = some (some i)->j=k)/\∀i∈ao tg,fr[i]? = some none:=by
 unfold X4 at h;simp only[f7,F6,g9]at h;obtain⟨⟨⟨⟨⟨⟨A,z⟩,m⟩,w⟩,l⟩,v⟩,u⟩:=h;have d:∀(j i:Nat),fr[j]? = some _->∃x,N'[j]? = some x/\sg.N[i]? = some x/\LJ∈sc.names:=λ j i e=>by
  have hj:=(v4.mp e).1;have f:j<N'.length:=by rwa [←l]
  have o:(some i,N'[j])∈fr.zip N':=(by refine J9 (i:=j) ?_;rw[eg];exact⟨e,k7 f⟩);have q:=v _ o;simp[f7,g9,J8]at q;exact⟨_,k7 f,q.1,q.2⟩
 refine⟨⟨z,bH m,bH w,l,λ j i e=>?_,λ y p r=>?_⟩,λ j k i C B=>?_,A⟩
 ·obtain⟨x,a,b,c⟩:=d j i e;exact⟨x,a,by rwa [g.N],c⟩
 ·have q:=u y p;rw[f8 r]at q;simp[D8,g9]at q;exact g.cel _ q
 ·obtain⟨x,a,b,_⟩:=d j i C;obtain⟨x',H,n,_⟩:=d k i B;rw[b]at n;cases n;exact fC (bH m) a H
theorem Fk(g:Good j G F X E)(h:X4 j i fr sc tg=true)(C:Jl)(b:ge (Str×Jl))(c:Jk)(d:Hp)(fp:ge Jl)(x1:XK)(n:∀σ C o H,m σ C o H->x1 C o H):Good ⟨i,sc.names,j.fn,j.bl,j.cl,false,false,noCo⟩ G F (r3 X sc i C b c d fp x1) m:=by
 obtain⟨S,_,_⟩:=dG g h;have f:∀x,(r3 X sc i C b c d fp x1).env.scope.names.lookup x=(sc.names.lookup x).map λ k=>if(k==NameKind.free&&X.env.scope.kind == .function&&X.env.kindOf x==some .cell)=true then NameKind.cell else k:=λ x=>jT
 have one:∀x k,sc.names.lookup x=some k->k ≠ .free->(r3 X sc i C b c d fp x1).env.scope.names.lookup x=some k:=λ x k e p=>by rw[f,e,N2,g7];intro z;simp only[f7,g9]at z;exact p z.1.1
 have two:∀x,sc.names.lookup x=some .free->(r3 X sc i C b c d fp x1).env.scope.names.lookup x=some .cell\/(r3 X sc i C b c d fp x1).env.scope.names.lookup x=some .free:=λ x e=>by
  rw[f,e,N2];split
  ·exact .inl rfl
  ·exact .inr rfl
 refine⟨rfl,S.nd,λ x a=>?_,λ x a=>?_,λ x a=>?_,λ x a=>one x _ a JH,λ x a=>?_,g.calm,g.hu,g.fns,g.blt,?_,g.con,Ky,g.xf,Ky,(λ z=>⟨(g.lms z).1,(g.lms z).2.1,λ w=>nomatch w⟩),(λ _ _ _ _ z=>nomatch z),Ky⟩
 ·unfold visB at a;simp only[D8,g9]at a;rcases a with(a | a) | a
  ·exact .inl (one x _ a JH)
  ·exact .inr (.inl (one x _ a JH))
  ·exact .inr (two x a)
 ·unfold gloB at a;rw[g9]at a;exact one x _ a JH
 ·unfold locB at a;simp only[D8,g9]at a;rcases a with a | a
  ·exact⟨.inl (one x _ a JH),.inr (one x _ a JH)⟩
  ·exact⟨.inr (one x _ a JH),.inl (by show(sc.names.lookup x==some .cell)=true;rw[a];rfl)⟩
 ·rcases a with a | a
  ·exact .inl (one x _ a JH)
  ·exact two x a
 ·intro l σ H s e s' I z;obtain⟨r,M,L,B,K,J,A,y,v,u,q⟩:=z;exact⟨l,σ,H,s,I.comp0,r,M,L,B,K,J,A,y,v,u,n _ _ _ _ q⟩
theorem aD(g:Good d G F X E)(h:X4 d e fr sc tg=true)(C:Jl)(a:ge (Str×Jl))(b:Jk)(c:Hp)(fp:ge Jl)(x1:XK):Good ⟨e,sc.names,d.fn,d.bl,d.cl,false,false,noCo⟩ G F (r3 X sc e C a b c fp x1) E0s:=Fk g h C a b c fp x1 λ _ _ _ _ z=>z.elim
theorem Y6(g:Good sg G F X E)(h:N9 sg i x=true):X.N[i]? = some x/\Vis X.env.scope x/\Kn=false/\(x==("__classdict__" : Str))=false:=by
 unfold N9 at h;simp[f7,g9,U1,ne_eq]at h;obtain⟨⟨⟨h1,c⟩,b⟩,a⟩:=h;exact⟨by rwa [g.N],g.vis x c,z8.mpr b,z8.mpr a⟩
theorem aE(g:Good sg G F X E)(h:bltB sg x f=true):(∃p,f=.Name x p)/\Gl X x/\X.mg x=none:=by
 unfold bltB at h;simp[f7,g9,J8]at h;obtain⟨⟨c,b⟩,a⟩:=h;exact⟨M4 c,g.glo x b,g.blt x a⟩
theorem Fm(g:Good a G F X E)(b:Kk)(c:St->Jj->Hp->Prop):Good ⟨a.N,a.sc,a.fn,a.bl,a.cl,false,false,noCo⟩ G F (X.tryIn b c) (λ d C _ H=>c d C H):=
 ⟨g.N,g.nd,g.vis,g.glo,g.loc,g.lcl,g.cel,g.calm,g.hu,g.fns,g.blt,zj,g.con,Ky,g.xf,Ky,(λ z=>⟨(g.lms z).1,(g.lms z).2.1,λ w=>nomatch w⟩),(λ _ _ _ _ z=>nomatch z),Ky⟩
theorem tw(g:Good sg G F X E):∀(a:ge Nat) (es:ge Jn),es.length=a.length->((a.zip es).all λ p=>match F3 p.2 with | some x=>sg.N[p.1]? == some x&&locB sg x | none=>false)=true ->
  PGs X es (gR a)/\(assignEach es X.env).length=a.length/\(assignEach es X.env).findIdx? (·.1)=none
 | [],[],_,_=>⟨xk,rfl,rfl⟩
 | [],_::_,h,_=>by cases h
 | _::_,[],h,_=>by cases h
 | i::a,e::es,hl,h=>by
  rw[List.zip_cons_cons,List.all_cons,f7]at h;obtain⟨b,c⟩:=h;obtain⟨A,B,C⟩:=tw g a es Kz c;split at b
  ·rename_i x q;obtain⟨p,rfl⟩:=M4 q;simp[f7,g9]at b;have l:=g.loc x b.2;refine⟨xl (oM g.nd (by rw[g.N];exact b.1) l.1 l.2) A rfl,?_,?_⟩
   ·show(assignEach es X.env).length+1=a.length+1;rw[B]
   ·show(_::assignEach es X.env).findIdx? (·.1)=none;rw[List.findIdx?_cons,C];rfl
  ·cases b
theorem dH(g:Good sg G F X E)(h:tgOk sg tg a=true):PG X a (gT X.K tg):=by
 cases tg with
 | one i=>
  unfold tgOk at h;dsimp at h;split at h
  ·rename_i x q;obtain⟨p,rfl⟩:=M4 q;simp[f7,g9]at h;have l:=g.loc x h.2;exact oM g.nd (by rw[g.N];exact h.1) l.1 l.2
  ·cases h
 | many b=>
  unfold tgOk at h;dsimp at h;split at h
  ·rename_i es q;obtain⟨k,p,rfl⟩:=lj q;rw[f7,f7,g9]at h;obtain⟨A,B,C⟩:=tw g b es h.1.1 h.2;exact xm g.calm A B C
  ·cases h
section
variable (G:Gs) (F:Ku)
def SE(m:ME):Prop:=∀{sg:Sg} {X:Cx} {E:St->XK} {e:Jn} {δ:ge Sv} {r:Re},Good sg G F X E->corE sg false m e=true->evE G F m δ=some r->PE X e (dE X.D E δ r)
def ST(m:ME):Prop:=∀{sg:Sg} {X:Cx} {E:St->XK} {e:Jn} {δ:ge Sv} {r:Rt},Good sg G F X E->corE sg false m e=true->tstD (JP m)=some r->PT X e (dT X.D E δ r)
def SI(m:ME):Prop:=∀{sg:Sg} {X:Cx} {E:St->XK} {e tg:Jn} {δ:ge Sv} {r:Ri},Good sg G F X E->corE sg true m e=true->(isZp m=true->(P7 tg).isSome=true)->r6 (JP m)=some r->PI X tg e (dI X.D E δ r)
def SEs(ms:ge ME):Prop:=∀{sg:Sg} {X:Cx} {E:St->XK} {es:ge Jn} {δ:ge Sv} {r:Rs},Good sg G F X E->u3 sg ms es=true->evEs G F ms δ=some r->PA X es (dA X.D E δ r)
def SAnd(ms:ge ME):Prop:=∀{sg:Sg} {X:Cx} {E:St->XK} {es:ge Jn} {δ:ge Sv} {pos:Pos},Good sg G F X E->u3 sg ms es=true ->
 (∀r,U5 G F ms δ=some r->PE X (.BoolOp .And es pos) (dE X.D E δ r))/\(∀r,tstD (U5 G F ms δ)=some r->PW X (.BoolOp .And es pos) (dT X.D E δ r))
def SOr(ms:ge ME):Prop:=∀{sg:Sg} {X:Cx} {E:St->XK} {es:ge Jn} {δ:ge Sv} {pos:Pos},Good sg G F X E->u3 sg ms es=true ->
 (∀r,evOr G F ms δ=some r->PE X (.BoolOp .Or es pos) (dE X.D E δ r))/\(∀r,tstD (evOr G F ms δ)=some r->PW X (.BoolOp .Or es pos) (dT X.D E δ r))
def S1(m:ME):Prop:=SE G F m/\ST G F m/\SI G F m
end
theorem S1.of(h:SE G F m)(hw:∀b e,corE b true m e=corE b false m e)(j:∀b e f,corE b false m e=true->∀a,isTrue e f a=(do let v ←a;standAt e.pos;holding [v] (truthy v))):S1 G F m:=
 ⟨h,λ {b X E e i r} g d q=>Cj (λ z c=>h g d c) (j b e X.env d) q,λ {b X E e tg i r} g d _ q=>sr (λ z c=>h g Kz c) q⟩
theorem S1.of2(h:SE G F m)(c:ST G F m)(hw:∀a e,corE a true m e=corE a false m e):S1 G F m:=
 ⟨h,c,λ {a X E e tg δ r} g hc _ q=>sr (λ z b=>h g Kz b) q⟩
noncomputable def tz:Jn->Bool
 | .UnaryOp .Not _ _=>false | .BoolOp _ _ _=>false | .IfExp _ _ _ _=>false | .Compare _ _ _ _=>false
 | _=>true
theorem A7(h:tz e=true)(env:Env):∀b,isTrue e env b=(do let v ←b;standAt e.pos;holding [v] (truthy v)):=by
 cases e with
 | UnaryOp o a p=>cases o<;>first | (intro _;rfl) | cases h
 | BoolOp _ _ _=>cases h
 | IfExp _ _ _ _=>cases h
 | Compare _ _ _ _=>cases h
 | _=>intro _;rfl
section
variable {G:Gs} {F:Nat->ge DV->Ji Ou} {a b c:ME}
theorem Fn:S1 G F (.var i):=by
 refine .of (λ {c X E e δ r} g a h=>?_) Ki (λ c e b a=>?_)
 ·refine J2 a λ x p a=>?_;obtain⟨k,j,f,d⟩:=Y6 g a;exact BI k j f d h
 ·exact J2 a λ x p _=>A7 rfl b
theorem hU(i:∀a w e,corE a w m e=true->U8 e=some k)(o:∀b,evE G F m b=some (JT d))(l:∀a e,corE a true m e=corE a false m e)
  (n:∀{X:Cx} {E:St->XK} {b:ge Sv} {j:Nat} {pos:Pos} a e,corE a false m e=true->PE X (.Constant k j pos) (dE X.D E b (JT d))):S1 G F m:=by
 refine .of (λ {a X E e b r} g c h=>?_) l (λ a e f c=>?_)
 ·obtain⟨j,p,rfl⟩:=gD (i a false e c);rw[o]at h;cases h;exact n a _ c
 ·obtain⟨j,p,rfl⟩:=gD (i a false e c);exact A7 rfl f
theorem Fo:S1 G F (.int i):=hU (λ sg w e h=>g9.mp h) (λ δ=>rfl) Ki λ _ _ _=>BJ
theorem s_bl:S1 G F (.bl i):=hU (λ sg w e h=>g9.mp h) (λ δ=>rfl) Ki λ _ _ _=>BK
theorem Fp:S1 G F .non:=hU (λ sg w e h=>g9.mp h) (λ δ=>rfl) Ki λ _ _ _=>BM
theorem Fq:S1 G F (.str i):=hU (λ sg w e h=>g9.mp (K0.mp h).1) (λ δ=>rfl) Ki λ _ _ h=>BL (i7 (jc (K0.mp h).2) JB)
theorem Fs:S1 G F (.glb x):=by
 refine .of (λ {c X E e δ r} g a h=>?_) Ki (λ c e b a=>?_)
 ·have a:(F3 e==some x&&gloB c x&&x != "__debug__")=true:=a;simp only[f7,g9,U1,ne_eq]at a;obtain⟨p,rfl⟩:=M4 a.1.1;obtain⟨d,j,i⟩:=w6.mp h;cases i;obtain⟨u,v,m,rv,f⟩:=g.con x d j;exact(oG (g.glo x a.1.2) m rv (z8.mpr a.2)).weak λ σ H Q ⟨O,W,R,p⟩=>p v H Kc (f _)
 ·obtain⟨p,rfl⟩:=M4 (g9.mp (K0.mp (K0.mp a).1).1);exact A7 rfl b
theorem Ft(l:S1 G F a)(k:S1 G F b):S1 G F (.bin j a b):=by
 refine .of (λ {i X E e δ r} g c h=>?_) Ki (λ i e f c=>?_)
 ·refine qA c λ ea o eb p c=>?_;simp only[f7,g9]at c;obtain⟨⟨q,n⟩,m⟩:=c;subst q;exact BU (λ z d=>l.1 g n d) (λ z d=>k.1 g m d) h
 ·exact qA c λ _ _ _ p _=>A7 rfl f
theorem Fu(k:S1 G F a):S1 G F (.neg a):=by
 refine .of (λ {i X E e δ r} g b h=>?_) Ki (λ i e d b=>?_)
 ·refine gr b λ o ea p b=>?_;simp only[f7,g9]at b;obtain⟨c,f⟩:=b;subst c;exact BV (λ z j=>k.1 g f j) h
 ·refine gr b λ _ _ p b=>?_;simp only[f7,g9]at b;obtain⟨c,f⟩:=b;subst c;exact A7 rfl d
theorem Fv(i:S1 G F a):S1 G F (.not a):=by
 refine .of2 (λ {k X E e j r} g b h=>?_) (λ {k X E e j r} g b h=>?_) Ki
 ·refine gr b λ o l p b=>?_;simp only[f7,g9]at b;obtain⟨f,d⟩:=b;subst f;exact Cm (λ z c=>i.1 g d c) h
 ·refine gr b λ o l p b=>?_;simp only[f7,g9]at b;obtain⟨f,d⟩:=b;subst f;exact Cp (λ z c=>i.2.1 g d c) h
theorem Fw(m:S1 G F a)(l:S1 G F b):S1 G F (.cmp u a b):=by
 refine .of2 (λ {q X E e n r} g c h=>?_) (λ {q X E e n r} g c h=>?_) Ki
 ·refine qH c λ w o v p c=>?_;simp only[f7,g9,t8]at c;obtain⟨⟨⟨k,j⟩,i⟩,f⟩:=c;subst k;exact Cd g.hu (λ z d=>m.1 g j d) (λ z d=>l.1 g i d) f h
 ·refine qH c λ w o v p c=>?_;simp only[f7,g9,t8]at c;obtain⟨⟨⟨k,j⟩,i⟩,f⟩:=c;subst k;exact Cg g.hu (λ z d=>m.1 g j d) (λ z d=>l.1 g i d) f h
theorem Fx(w:S1 G F a)(v:S1 G F b)(j:S1 G F c):S1 G F (.chain A k a b c):=by
 refine .of2 (λ {y X E e x r} g f h=>?_) (λ {y X E e x r} g f h=>?_) Ki
 ·refine qK f λ I o B H C p f=>?_;simp only[f7,g9,t8]at f;obtain⟨⟨⟨⟨⟨u,i⟩,q⟩,n⟩,m⟩,l⟩:=f;subst u i;exact Ch g.hu (λ z d=>w.1 g q d) (λ z d=>v.1 g n d) (λ z d=>j.1 g m d) l h
 ·refine qK f λ I o B H C p f=>?_;simp only[f7,g9,t8]at f;obtain⟨⟨⟨⟨⟨u,i⟩,q⟩,n⟩,m⟩,l⟩:=f;subst u i;exact Ci g.hu (λ z d=>w.1 g q d) (λ z d=>v.1 g n d) (λ z d=>j.1 g m d) l h
theorem s_ix(k:S1 G F a)(j:S1 G F b):S1 G F (.ix a b):=by
 refine .of (λ {i X E e δ r} g c h=>?_) Ki (λ i e f c=>?_)
 ·refine K5 c λ ea eb p c=>?_;simp only[f7,t8]at c;obtain⟨⟨n,m⟩,l⟩:=c;exact BY (λ z d=>k.1 g n d) (λ z d=>j.1 g m d) l h
 ·exact K5 c λ _ _ p _=>A7 rfl f
theorem s_sl(m:S1 G F a)(l:S1 G F b)(i:S1 G F c):S1 G F (.sl a b c):=by
 refine .of (λ {k X E e δ r} g d h=>?_) Ki (λ k e j d=>?_)
 ·refine K5 d λ ea es p d=>?_;refine Bp d λ _ _ p2 d=>?_;simp only[f7]at d;obtain⟨⟨q,o⟩,n⟩:=d;exact Cb (λ z f=>m.1 g q f) (λ z f=>l.1 g o f) (λ z f=>i.1 g n f) h
 ·exact K5 d λ _ _ p _=>A7 rfl j
theorem Fy(k:S1 G F a)(j:S1 G F b):S1 G F (.slf a b):=by
 refine .of (λ {i X E e δ r} g c h=>?_) Ki (λ i e f c=>?_)
 ·refine K5 c λ ea es p c=>?_;refine Bn c λ _ p2 c=>?_;simp only[f7]at c;obtain⟨m,l⟩:=c;exact BZ (λ z d=>k.1 g m d) (λ z d=>j.1 g l d) h
 ·exact K5 c λ _ _ p _=>A7 rfl f
theorem Fz(k:S1 G F a)(j:S1 G F b):S1 G F (.slt a b):=by
 refine .of (λ {i X E e δ r} g c h=>?_) Ki (λ i e f c=>?_)
 ·refine K5 c λ ea es p c=>?_;refine Bo c λ _ p2 c=>?_;simp only[f7]at c;obtain⟨m,l⟩:=c;exact Ca (λ z d=>k.1 g m d) (λ z d=>j.1 g l d) h
 ·exact K5 c λ _ _ p _=>A7 rfl f
theorem Y7:∀{a:Sg} {b:ge ME} {es:ge Jn},u3 a b es=true->es.any o7=false
 | _,[],[],_=>rfl
 | _,[],_::_,h=>by unfold u3 at h;cases h
 | _,_::_,[],h=>by unfold u3 at h;cases h
 | a,m::b,e::es,h=>by unfold u3 at h;simp[f7,t8]at h;rw[F8,h.1.2,Y7 h.2];rfl
theorem FA{c:ge ME}(i:SEs G F c):S1 G F (.lst c):=by
 refine .of (λ {d X E e δ r} g a h=>?_) Ki (λ d e b a=>?_)
 ·refine qC a λ es p a=>?_;exact Cv (λ z f=>i g a f) h
 ·exact qC a λ _ p _=>A7 rfl b
theorem FB{c:ge ME}(i:SEs G F c):S1 G F (.tup c):=by
 refine .of (λ {d X E e δ r} g a h=>?_) Ki (λ d e b a=>?_)
 ·refine kC a λ es k p a=>?_;exact Cw (λ z f=>i g a f) h
 ·exact kC a λ _ k p _=>A7 rfl b
theorem FC(A:SEs G F i):S1 G F (.call f i):=by
 refine .of (λ {l X E e δ r} g a h=>?_) Ki (λ l e d a=>?_)
 ·refine K6 a λ ef C m a=>?_;rw[f7,f7]at a;obtain⟨⟨b,B⟩,j⟩:=a;refine J2 b λ x p b=>?_;simp only[f7,g9,U1,ne_eq]at b;obtain⟨k,fa,fd,ps,o,q,v,w,u,fo⟩:=g.fns f x b.1.1;cases C with
  | nil=>cases B
  | cons y ys=>
   have c:=Y7 j;rw[F8,O5]at c;exact CJ fo u o (g.glo x b.1.2) q v w g.pas (λ z n=>A g j n) (z8.mpr b.2) c.1 c.2 h
 ·exact K6 a λ _ _ _ _=>A7 rfl d
theorem s_bi(I:SEs G F l):S1 G F (.bi f l):=by
 refine .of (λ {C X E e J r} g k h=>?_) Ki (λ C e B k=>?_)
 ·refine K6 k λ ef N L k=>?_;rw[f7,f7]at k;obtain⟨⟨M,v⟩,a⟩:=k;obtain⟨⟨p,rfl⟩,d,c⟩:=aE g M;cases N with
  | nil=>cases v
  | cons y K=>
   have i:u3 C l _=true->(∀q,evEs G F l J=some q->PA X _ _)/\o7 y=false/\K.any o7=false:=λ z=>by have j:=Y7 z;rw[F8,O5]at j;exact⟨λ w n=>I g z n,j.1,j.2⟩
   cases f with
   | len=>obtain⟨A,s1,b⟩:=i a;exact gO CS CM d c boot_len JB JB A s1 b h
   | min=>obtain⟨A,s1,b⟩:=i a;exact gO (CT g.calm (by have:=g.hu;omega)) CN d c boot_min JB JB A s1 b h
   | max=>obtain⟨A,s1,b⟩:=i a;exact gO (CU g.calm) CO d c boot_max JB JB A s1 b h
   | sum=>obtain⟨A,s1,b⟩:=i a;exact gO (CV g.calm) CY d c CW JB JB A s1 b h
   | int=>obtain⟨A,s1,b⟩:=i a;exact rQ Dc CP d c boot_int JB JB A s1 b h
   | tuple=>obtain⟨A,s1,b⟩:=i a;exact rQ Dd CQ d c boot_tuple JB JB A s1 b h
   | sset=>
    have a:=a
    clear i
    revert v;refine M3 a λ e1 a=>K6 a λ O x H a=>λ v=>?_
    rw[f7,f7]at a;obtain⟨⟨p',rfl⟩,u,o⟩:=aE g a.1.1;cases x with
    | nil=>cases a.1.2
    | cons y' m=>
     have j:=Y7 a.2;rw[F8,O5]at j;cases m with
     | nil=>exact Db g.calm d c u o (λ w n=>I g a.2 n) j.1 h
     | cons y2 yr=>
      have z:=g9.mp a.1.2;simp at z
 ·exact K6 k λ _ _ _ _=>A7 rfl B
theorem FE(h:W8.contains x=true):∃t,bE x=some t:=by
 have a:∀x∈W8,∃t,bE x=some t:=by
  intro x b;simp only[W8,h8,T8,U2]at b;rcases b with rfl | rfl | rfl | rfl | rfl | rfl
  ·exact⟨"int",by decide +kernel⟩
  ·exact⟨"bool",by decide +kernel⟩
  ·exact⟨"str",by decide +kernel⟩
  ·exact⟨"list",by decide +kernel⟩
  ·exact⟨"tuple",by decide +kernel⟩
  ·exact⟨"dict",by decide +kernel⟩
 exact a x (J8.mp h)
theorem FG:∀x∈W8,x ≠ "__name__" /\ Kn=false:=by
 intro x a;simp[W8,h8,T8,U2]at a;rcases a with rfl | rfl | rfl | rfl | rfl | rfl<;>exact⟨by decide +kernel,by decide +kernel⟩
def FH:V->ge V->Hp->VK->Prop:=λ x xs H Q=>∃i,x=.int i/\xs=[]/\Q (Ke (bp i)) H
theorem FJ(i:Int):((Builtin.Int.intBits i:Nat):Int)=bp i:=by
 unfold Builtin.Int.intBits bp;by_cases h:i=0
 ·subst h;rfl
 ·rw[g7 Kz,g7 h];rfl
theorem FK:MtR X "int.bit_length" FH:=by
 intro a s σ H x xs v us Q I b c h;obtain⟨i,rfl,rfl,q⟩:=h;obtain⟨t,rfl⟩:=(b);cases c;exact PyProof.Rows.call_int_bit_length ⟨.int _,H,I.tok _,by rw[←FJ];exact KD,q⟩
theorem FL(L:S1 G F a):S1 G F (.meth m a es):=by
 refine .of (λ {I X E e C r} g b h=>?_) Ki (λ I e w b=>?_)
 ·refine kZ b λ ef J b=>?_;refine cY b λ l n z b=>?_;simp only[f7,g9]at b;obtain⟨⟨⟨⟨U,S⟩,j⟩,N⟩,h5⟩:=b;subst U;have u:attributeBase l (rj m) X.env (Ln l)=eval l X.env:=by
   rw[D8]at j;rcases j with j | j
   ·obtain⟨y,o⟩:=Z2.mp j;obtain⟨K,rfl⟩:=M4 o;rfl
   ·obtain⟨⟨a1,o1,b1⟩,o⟩:=Z2.mp j;obtain⟨K,rfl⟩:=BA o;rfl
  have h:(if m=.bitLength then Re.thn _ (λ x _=>mtD m x)else none)=some r:=h;cases m with
  | bitLength=>
   rw[f8 rfl]at h;have P:=λ t (M:PE X l t)=>yB PySem.F.plainAttrs_int PySem.F.slot_int_bit_length PySem.F.type_int_bit_length FK M u (by rw[g9];exact N)
   cases f:evE G F a C with
   | none=>rw[f]at h;cases h
   | some q=>
    rw[f]at h;have A:=L.1 g S f;cases q with
    | ex c=>cases h;exact(P _ A).weak λ B H Q ⟨O,W,R,p⟩=>Kr
    | ok d dc=>
     have k:mtD .bitLength d=some r:=h;unfold mtD at k;split at k
     ·rename_i i _;cases k;exact(P _ A).weak λ B H Q ⟨O,W,R,p⟩=>⟨O,W,R,λ v Z s1 Y=>by
       have hv:=Y.int JS;subst hv;exact⟨rfl,i,rfl,rfl,p _ Z s1 w5⟩⟩
     ·cases k
  | index=>rw[g7 JB]at h;cases h
  | get=>rw[g7 JB]at h;cases h
 ·exact kZ b λ _ _ _=>A7 rfl w
theorem FM(o:S1 G F a)(m:S1 G F b):S1 G F (.idx a b):=by
 refine .of (λ {j X E e δ r} g c h=>?_) Ki (λ j e f c=>?_)
 ·refine bw c λ ef eb k c=>?_;refine cY c λ ea n i c=>?_;simp only[f7,g9,t8]at c;obtain⟨⟨⟨⟨⟨x,w⟩,v⟩,u⟩,q⟩,p⟩:=c;subst x;obtain⟨y,l⟩:=Z2.mp v;obtain⟨np,rfl⟩:=M4 l;exact CI g.hu (λ z d=>o.1 g w d) (λ z d=>m.1 g q d) rfl (by rw[g9];exact u) (u4 p) h
 ·exact bw c λ _ _ _ _=>A7 rfl f
theorem FN(n:S1 G F a):S1 G F (.isx a t):=by
 refine .of (λ {i X E e δ r} g b h=>?_) Ki (λ i e f b=>?_)
 ·refine gB b λ ef ea et j b=>?_;simp only[f7,t8,g9,D8,J8,U1,ne_eq]at b;obtain⟨⟨⟨⟨⟨⟨x,w⟩,v⟩,h4⟩,u⟩,q⟩,o⟩:=b;obtain⟨⟨p,rfl⟩,m,l⟩:=aE g x;obtain⟨p',rfl⟩:=M4 u;refine Fd g.xf m l (g.glo t q) ?_ (λ z k=>n.1 g w k) v h;rcases o with⟨d,c⟩ | ⟨d,c⟩
  ·exact .inl ⟨d,z8.mpr c⟩
  ·refine .inr ⟨g.blt t d,?_⟩;simp only[qw,h8,T8,U2]at c;exact c
 ·exact gB b λ _ _ _ _ _=>A7 rfl f
theorem FO(k:S1 G F a)(j:S1 G F b):S1 G F (.dix a b):=by
 refine .of (λ {i X E e δ r} g c h=>?_) Ki (λ i e f c=>?_)
 ·refine K5 c λ ea eb p c=>?_;simp only[f7,t8]at c;obtain⟨⟨n,m⟩,l⟩:=c;exact EJ (Z8 JA g.hu) (λ z d=>k.1 g n d) (λ z d=>j.1 g m d) l h
 ·exact K5 c λ _ _ p _=>A7 rfl f
theorem FP(n:S1 G F b):S1 G F (.dgp i b):=by
 refine .of (λ {f X E e δ r} g a h=>?_) Ki (λ f e d a=>?_)
 ·refine K5 a λ ob ek p a=>?_;simp only[f7,t8]at a;obtain⟨⟨c,q⟩,o⟩:=a;refine J2 c λ x np c=>?_;obtain⟨s1,l,k,j⟩:=Y6 g c;exact EQ (Z8 JA g.hu) (Q9 s1 l k j) (λ z m=>n.1 g q m) o h
 ·exact K5 a λ _ _ p _=>A7 rfl d
theorem tA:∀{a:ge (Str×Nat)},a.lookup x=some f->(x,f)∈a
 | [],h=>by cases h
 | (y,g)::a,h=>by
  rw[F0]at h;split at h
  ·rename_i q;cases h;rw[g9.mp q];exact n9 ..
  ·exact n6 _ (tA h)
theorem FQ(B:SEs G F A):S1 G F (.callv i xs A):=by
 refine .of (λ {K X E e C r} g a h=>?_) Ki (λ K e o a=>?_)
 ·refine K6 a λ ef Y L a=>?_;rw[f7,f7,f7]at a;obtain⟨⟨⟨n,W⟩,U⟩,l⟩:=a;refine J2 n λ x p n=>?_;obtain⟨s1,v,u,q⟩:=Y6 g n;cases Y with
  | nil=>cases U
  | cons y ys=>
   have b:=Y7 l;rw[F8,O5]at b;have h:fZ G F xs _ C[i]? = some r:=h;unfold fZ at h;split at h
   ·rename_i M j;split at h
    ·rename_i f R;obtain⟨k,fa,fd,ps,d,O,Q,S,P,fo⟩:=g.fns f M (g9.mp (F6.mp W _ (tA R)));exact CL fo P d (Q9 s1 v u q) O Q S g.pas j (λ z c=>B g l c) b.1 b.2 h
    ·cases h
   ·rename_i m cs j;split at h
    ·rename_i w;obtain⟨⟨J,I,H⟩,⟨k,d,N,_⟩,_⟩:=g.lms w.2.2.2;exact Dv N d (Q9 s1 v u q) (w.1.trans J) (w.2.1.trans I) (w.2.2.1.trans H) j (λ z c=>B g l c) b.1 b.2 h
    ·cases h
   ·cases h
 ·exact K6 a λ _ _ _ _=>A7 rfl o
theorem FR{a:Jw}(h:db a ps=true):defaultsOf a env=([],[]):=rn h (λ _ _ _ _=>rfl) λ _ _ _ _=>rfl
theorem FT(ha:S1 G F a):S1 G F (.mink a N np w fr):=by
 refine .of (λ {Z X E e u r} g b h=>?_) Ki (λ Z e L b=>?_)
 ·obtain⟨B,b⟩:=K0.mp b;refine qV b λ ef ea kn el kp pos b=>?_
  simp only[f7,g9,t8]at b;obtain⟨⟨⟨⟨c1,c2⟩,c4⟩,c5⟩,b⟩:=b;refine AW b λ pr bd v lp b=>?_
  subst c2;obtain⟨⟨px,rfl⟩,J,H⟩:=aE g c1;rw[f7]at b;obtain⟨q,c9⟩:=b;have W:=q;unfold ro at q;simp only[f7,g9,t8,F6,U1,ne_eq,A9]at q;obtain⟨⟨⟨⟨⟨⟨⟨⟨⟨⟨⟨⟨S,l2⟩,l3⟩,l4⟩,l5⟩,l6⟩,l7⟩,l8⟩,l9⟩,n⟩,A⟩,lc⟩,x⟩:=q;have h:fY G F (evE G F a u) N np w (capD u fr)=some r:=h;unfold fY at h;split at h
  ·rename_i cs p;split at h
   ·cases h
   ·rename_i C;obtain⟨⟨Q,O,M⟩,⟨k,hr,lo,_⟩,wt⟩:=g.lms (Kg C);rw[f7,t8]at B;obtain⟨⟨c,P,k1,U⟩,k3,_⟩:=g.clo B.1 B.2;have l:∀y∈v.names,y.2=NameKind.free->X.env.kindOf y.1=some .cell\/X.env.kindOf y.1=some .free:=λ y m K=>by have z:=x y m;rw[f8 (by rw[K])]at z;exact g.cel y.1 (.inr (g9.mp z))
    have T:LamTx N (N.take np) v:=by
     have R:(N.take np).length=np:=by rw[E9];omega
     refine⟨l2,l3,l4,bH l5,by rw[R],l8,l9,λ i y h1 h2=>n y ?_⟩;rw[R]at h1;refine J9 (i:=i - np) ?_;rw[Z7,show np+(i - np)=i by omega];exact h2
    have d:∀(j i:Nat),fr[j]? = some i->∃y,N[np+j]? = some y/\X.N[i]? = some y/\(X.env.kindOf y=some .cell\/X.env.kindOf y=some .free):=λ j i Y=>by
     have hjl:j<fr.length:=(v4.mp Y).1;have o:np+j<N.length:=by omega
     have m:(N.drop np)[j]? = some N[np+j]:=by rw[Z7,k7 o]
     have hz:(i,N[np+j])∈fr.zip (N.drop np):=J9 (i:=j) (by rw[eg];exact⟨Y,m⟩);have q1:=A _ hz;have q2:=n _ (J9 m);exact⟨_,k7 o,by rw[g.N];exact q1,l _ (B4 q2) rfl⟩
    cases f:evE G F a u with
    | none=>rw[f]at h;cases h
    | some ra=>
     rw[f]at h;exact DZ (fr:=fr) (P:=P) (c:=c) lo hr Q O M J H c5 ⟨k1,λ I=>(U I).1,λ I=>(U I).2,l⟩ (FR S) T (λ I c b=>by
       obtain⟨y,e,_⟩:=gQ I (λ y m K=>I.ok.has y.1 (l y m K)) c b;exact k3 y c e) ((by unfold aq;rw[f7];refine⟨S,?_⟩;show corE ⟨N,v.names,G.fnl,G.bll,G.cll,false,false,noCo⟩ false w bd=true;rw[Q,O,M];exact c9)) l7 d p (ha.1 g c4 f) h
  ·cases h
 ·obtain⟨_,b⟩:=K0.mp b;exact qV b λ _ _ _ _ _ _ _=>A7 rfl L
theorem FU(q:SEs G F f):S1 G F (.self np k f):=by
 refine .of (λ {n X E e m r} g a h=>?_) Ki (λ n e j a=>?_)
 ·obtain⟨i,a⟩:=K0.mp a;refine K6 a λ ef v o a=>?_
  simp only[f7,t8]at a;obtain⟨⟨c,u⟩,l⟩:=a;refine J2 c λ x p c=>?_
  rw[g9]at c;subst c;rw[f7,t8]at i;have h:cR G F np k _ _=some r:=h;cases v with
  | nil=>cases u
  | cons e0 er=>
   have d:=Y7 l;rw[F8,O5]at d;cases b:evEs G F f m with
   | none=>
    rw[b]at h;unfold cR at h;split at h
    ·split at h
     ·obtain⟨_,_,z⟩:=v9.mp h;cases z
     ·cases h
    ·cases h
   | some rs=>
    rw[b]at h;exact(g.clo i.1 i.2).2.2 (q g l b) d.1 d.2 h
 ·obtain⟨_,a⟩:=K0.mp a;exact K6 a λ _ _ _ _=>A7 rfl j
theorem FV(m:S1 G F a)(l:S1 G F b):S1 G F (.dc2 x y a b):=by
 refine .of (λ {i X E e δ r} g c h=>?_) Ki (λ i e f c=>?_)
 ·refine qQ c λ ka kb ea eb p c=>?_;simp only[f7,g9,U1,ne_eq]at c;obtain⟨⟨⟨⟨v,u⟩,q⟩,o⟩,n⟩:=c;obtain⟨j1,k,rfl⟩:=gD v;obtain⟨j2,j,rfl⟩:=gD u;exact Dz q (λ z d=>m.1 g o d) (λ z d=>l.1 g n d) h
 ·exact qQ c λ _ _ _ _ p _=>A7 rfl f
theorem FW(k:S1 G F a):S1 G F (.rev a):=by
 refine .of (λ {d X E e δ r} g b h=>?_) Ki (λ d e c b=>?_)
 ·refine qR b λ ea j p1 p2 p3 f b=>?_;exact CF (λ z i=>k.1 g b i) h
 ·exact qR b λ _ _ _ _ _ _ _=>A7 rfl c
theorem FX(x:S1 G F a):S1 G F (.isi a i):=by
 refine .of (λ {j X E e δ r} g b h=>?_) Ki (λ j e d b=>?_)
 ·refine gB b λ ef ea et k b=>?_;simp only[f7,t8]at b;obtain⟨⟨⟨⟨C,B⟩,A⟩,h4⟩,c⟩:=b;obtain⟨⟨p,rfl⟩,w,v⟩:=aE g C;split at c
  ·rename_i t;simp only[f7,g9,J8]at c;obtain⟨⟨⟨q,o⟩,n⟩,f⟩:=c;obtain⟨p',rfl⟩:=M4 q;obtain⟨T,y⟩:=FE (J8.mpr f);obtain⟨m,l⟩:=FG t f;exact Dj y w v (g.glo t o) (g.blt t n) m l (λ z u=>x.1 g B u) A h
  ·cases c
 ·exact gB b λ _ _ _ _ _=>A7 rfl d
theorem mn:∀{a:ge ME} {b:ge Sv} {l:ge (DV×Cl)},evEs G F a b=some (.ok l)->l.length=a.length
 | [],_,_,h=>by unfold evEs at h;cases h;rfl
 | m::a,b,l,h=>by
  unfold evEs at h;split at h
  ·cases h
  ·cases h
  ·split at h
   ·cases h
   ·cases h
   ·rename_i l' q;cases h;rw[x9,x9,mn q]
theorem tB:∀{b:Sg} {a:ge ME} {es:ge Jn},u3 b a es=true->a.length=es.length
 | _,[],[],_=>rfl
 | _,[],_::_,h=>by unfold u3 at h;cases h
 | _,_::_,[],h=>by unfold u3 at h;cases h
 | b,m::a,e::es,h=>by unfold u3 at h;simp[f7]at h;rw[x9,x9,tB h.2]
theorem FY(u:SEs G F d):S1 G F (.rng d):=by
 refine⟨λ {n X E e m r} g a h=>?_,λ {n X E e m r} g a h=>?_,λ {n X E e tg m r} g a _ h=>?_⟩
 ·cases(a:false=true)
 ·cases(a:false=true)
 ·refine K6 (K0.mp a).2 λ ef A x a=>?_;rw[f7,A9]at a;obtain⟨a,j⟩:=a;rw[f7]at a;obtain⟨⟨p,rfl⟩,q,o⟩:=aE g a.1;have f:=tB a.2;have c:=Y7 a.2;cases A with
  | nil=>
   exfalso;cases d with
   | nil=>cases(h:none=some r)
   | cons _ _=>cases f
  | cons y w=>
   rw[F8,O5]at c;cases w with
   | nil=>exact DC q o (λ z i=>u g a.2 i) c.1 h λ l k=>by rw[mn k,f];rfl
   | cons z v=>
    cases v with
    | nil=>
     have b:=c.2;rw[F8,O5]at b;exact DD q o (λ z i=>u g a.2 i) c.1 b.1 h λ l k=>by rw[mn k,f];rfl
    | cons _ _=>simp at j
theorem FZ(u:S1 G F a):S1 G F (.enu a):=by
 refine⟨λ {d X E e c r} g b h=>?_,λ {d X E e c r} g b h=>?_,λ {d X E e j c r} g b n h=>?_⟩
 ·cases(b:false=true)
 ·cases(b:false=true)
 ·refine bw (K0.mp b).2 λ ef ea l b=>?_;simp only[f7,t8]at b;obtain⟨⟨x,w⟩,v⟩:=b;obtain⟨⟨p,rfl⟩,q,o⟩:=aE g x;have t:=n rfl;cases f:P7 j with
  | none=>rw[f]at t;cases t
  | some i=>
   obtain⟨k,tp,rfl⟩:=lj f;exact DS q o v (λ z m=>u.1 g w m) h
theorem Ga(y:S1 G F a):S1 G F (.itm a):=by
 refine⟨λ {d X E e c r} g b h=>?_,λ {d X E e c r} g b h=>?_,λ {d X E e o c r} g b v h=>?_⟩
 ·cases(b:false=true)
 ·cases(b:false=true)
 ·refine kZ (K0.mp b).2 λ ef p b=>?_;refine cY b λ q n m b=>?_;simp only[f7]at b;obtain⟨⟨⟨C,B⟩,A⟩,j⟩:=b;have w:=g9.mp C;subst w;cases i:F3 q with
  | none=>rw[i]at j;cases j
  | some x=>
   obtain⟨np,rfl⟩:=M4 i;have t:=v rfl;cases f:P7 o with
   | none=>rw[f]at t;cases t
   | some l=>
    obtain⟨k,tp,rfl⟩:=lj f;exact EY rfl A (λ z u=>y.1 g B u) h
theorem Gb{sg:Sg}{X:Cx}{E:St->XK}{e:Jn}{δ:ge Sv}{r:Re}{tg:Tg}{fr:ge (Ji Nat)}{cp:CParts}{tn:ge Str}(ha:S1 G F a)(hb:S1 G F b)(g:Good sg G F X E)(hemp:cp.ifs=[])
  (h2:corE sg true b cp.it=true) (hz:isZp b=true->(P7 cp.tg).isSome=true) (h4:X4 sg (G9 sg tn fr) fr cp.sc tg=true) (h5:tgOk KL tg cp.tg=true) (h6:corE KL false a cp.elt=true)
  (h:evE G F (.comp a tg b fr) δ=some r):Y4 X E δ cp.tg cp.it cp.ifs cp.elt cp.sc (G9 sg tn fr) fr tg r:=by
 obtain⟨S,nd,sl⟩:=dG g h4;rw[hemp];exact DF S g.calm nd sl (λ z hz'=>hb.2.2 g h2 hz hz') (λ C cells s₂ H₂ fp x1=>dH (aD g h4 C cells s₂ H₂ fp x1) h5) (λ δ' r' hr C cells s₂ H₂ fp x1=>ha.1 (aD g h4 C cells s₂ H₂ fp x1) h6 hr) h
theorem Gc{sg:Sg}{X:Cx}{E:St->XK}{e cd:Jn}{δ:ge Sv}{r:Re}{tg:Tg}{fr:ge (Ji Nat)}{cp:CParts}{tn:ge Str}(ha:S1 G F a)(hb:S1 G F b)(hcc:S1 G F c)(g:Good sg G F X E)(hemp:cp.ifs=[cd])
  (h2:corE sg true b cp.it=true) (hz:isZp b=true->(P7 cp.tg).isSome=true) (h4:X4 sg (G9 sg tn fr) fr cp.sc tg=true) (h5:tgOk KL tg cp.tg=true) (h6:corE KL false a cp.elt=true)
  (h7:corE KL false c cd=true) (h:evE G F (.compi a tg b c fr) δ=some r):Y4 X E δ cp.tg cp.it cp.ifs cp.elt cp.sc (G9 sg tn fr) fr tg r:=by
 obtain⟨S,nd,sl⟩:=dG g h4;rw[hemp];exact DG S g.calm nd sl (λ z hz'=>hb.2.2 g h2 hz hz') (λ C cells s₂ H₂ fp x1=>dH (aD g h4 C cells s₂ H₂ fp x1) h5) (λ δ' r' hr C cells s₂ H₂ fp x1=>ha.1 (aD g h4 C cells s₂ H₂ fp x1) h6 hr)
  (λ δ' r' hr C cells s₂ H₂ fp x1=>hcc.2.1 (aD g h4 C cells s₂ H₂ fp x1) h7 hr) h
def aF(G:Gs)(F:Ku)(m:ME):Prop:=∀{sg:Sg} {X:Cx} {E:St->XK} {e:Jn} {δ:ge Sv} {r:Re},Good sg G F X E->corE sg false m e=true->evE G F m δ=some r ->
 ∃(cp:CParts) (N':ge Str) (fr:ge (Ji Nat)) (tg:Tg) (p:Pos),e=.ListComp cp.elt [⟨cp.tg,cp.it,cp.ifs,0⟩] cp.sc p/\CompScope X.N N' cp.sc X.env.scope fr/\Y4 X E δ cp.tg cp.it cp.ifs cp.elt cp.sc N' fr tg r /\
  (∀C cells s₂ H₂ fp x1,PG (r3 X cp.sc N' C cells s₂ H₂ fp x1) cp.tg (gT X.K tg))/\G8 cp.it=false
theorem aF.s1(h:aF G F m)(hw:∀a e,corE a true m e=corE a false m e)(f:∀a e,corE a false m e=true->tz e=true):S1 G F m:=by
 refine .of (λ {a X E e δ r} g b q=>?_) hw (λ a e c b=>?_)
 ·obtain⟨cp,N',fr,tg,p,rfl,S,P,i,d⟩:=h g b q;exact P.pe S g.calm i d
 ·exact A7 (f a e b) c
theorem tE(n:S1 G F a)(m:S1 G F b):aF G F (.comp a tg b fr):=by
 intro sg X E e δ r g k h;refine gE k λ f p k=>?_
 simp only[f7,t8,D8]at k;obtain⟨⟨⟨u,t,q⟩,o⟩,c⟩:=k;obtain⟨tn,_,c⟩:=z9 c;simp only[f7]at c;refine⟨f,_,fr,tg,p,rfl,(dG g c.1.1).1,Gb (e:=.ListComp f.elt [⟨f.tg,f.it,f.ifs,0⟩] f.sc p) n m g (List.isEmpty_iff.mp u) t (λ z=>?_) c.1.1 c.1.2 c.2 h,λ C d i j v l=>dH (aD g c.1.1 C d i j v l) c.1.2,o⟩;rcases q with w | w
 ·rw[z]at w;cases w
 ·exact w
theorem tF(t:S1 G F a)(q:S1 G F b)(m:S1 G F c):aF G F (.compi a tg b c fr):=by
 intro sg X E e δ r g l h;refine gE l λ i p l=>?_
 simp only[f7,t8,D8]at l;obtain⟨⟨⟨x,v⟩,u⟩,d⟩:=l;obtain⟨tn,_,d⟩:=z9 d;obtain⟨ec,o,d⟩:=AH d;simp only[f7]at d;refine⟨i,_,fr,tg,p,rfl,(dG g d.1.1.1).1,Gc (e:=.ListComp i.elt [⟨i.tg,i.it,i.ifs,0⟩] i.sc p) t q m g o x (λ z=>?_) d.1.1.1 d.1.1.2 d.1.2 d.2 h,λ C f j k y n=>dH (aD g d.1.1.1 C f j k y n) d.1.1.2,u⟩;rcases v with w | w
 ·rw[z]at w;cases w
 ·exact w
theorem Gd(g:S1 G F a)(f:S1 G F b):S1 G F (.comp a tg b fr):=aF.s1 (λ {c X E e δ r}=>tE g f) Ki λ c e d=>gE d λ _ _ _=>rfl
theorem Ge(i:S1 G F a)(h:S1 G F b)(d:S1 G F c):S1 G F (.compi a tg b c fr):=aF.s1 (λ {f X E e δ r}=>tF i h d) Ki λ f e g=>gE g λ _ _ _=>rfl
theorem Gf:SEs G F []:=λ {sg X E es δ r} g a h=>by
 cases es with
 | nil=>unfold evEs at h;cases h;exact Cs
 | cons _ _=>unfold u3 at a;cases a
theorem Gg(f:S1 G F a)(d:SEs G F ms):SEs G F (a::ms):=λ {sg X E es δ r} g b h=>by
 cases es with
 | nil=>unfold u3 at b;cases b
 | cons e es=>
  unfold u3 at b;simp[f7,t8]at b;unfold evEs at h;exact Cu b.1.2 (λ z c=>f.1 g b.1.1 c) (λ z c=>d g b.2 c) h
theorem Gh:SAnd G F []:=λ {sg X E es δ a} g hc=>⟨λ r h=>(by unfold U5 at h;cases h),λ r h=>(by unfold U5 at h;cases h)⟩
theorem Gi:SOr G F []:=λ {sg X E es δ a} g hc=>⟨λ r h=>(by unfold evOr at h;cases h),λ r h=>(by unfold evOr at h;cases h)⟩
theorem Gj(d:S1 G F a)(l:SAnd G F i):SAnd G F (a::i):=λ {k X E es j f} g b=>by
 cases es with
 | nil=>unfold u3 at b;cases b
 | cons e es=>
  unfold u3 at b;simp[f7,t8]at b;cases i with
  | nil=>
   cases es with
   | nil=>
    refine⟨λ r h=>?_,λ r h=>?_⟩
    · exact oK (d.1 g b.1.1 h)
    · exact xa (d.2.1 g b.1.1 h)
   | cons _ _=>have:=b.2;cases this
  | cons m i=>
   cases es with
   | nil=>have:=b.2;cases this
   | cons e' es=>
    have B:=@l k X E _ j f g b.2;refine⟨λ r h=>?_,λ r h=>?_⟩
    · exact Cn (λ z c=>d.1 g b.1.1 c) (λ z c=>B.1 z c) h
    · exact Cq (λ z c=>d.2.1 g b.1.1 c) (λ z c=>B.2 z c) h
theorem Gk(d:S1 G F a)(l:SOr G F i):SOr G F (a::i):=λ {k X E es j f} g b=>by
 cases es with
 | nil=>unfold u3 at b;cases b
 | cons e es=>
  unfold u3 at b;simp[f7,t8]at b;cases i with
  | nil=>
   cases es with
   | nil=>
    refine⟨λ r h=>?_,λ r h=>?_⟩
    ·unfold evOr at h;exact oK (d.1 g b.1.1 h)
    ·unfold evOr at h;exact xb (d.2.1 g b.1.1 h)
   | cons _ _=>have:=b.2;unfold u3 at this;cases this
  | cons m i=>
   cases es with
   | nil=>have:=b.2;unfold u3 at this;cases this
   | cons e' es=>
    have B:=@l k X E _ j f g b.2;refine⟨λ r h=>?_,λ r h=>?_⟩
    ·unfold evOr at h;exact Co (λ z c=>d.1 g b.1.1 c) (λ z c=>B.1 z c) h
    ·unfold evOr at h;exact Cr (λ z c=>d.2.1 g b.1.1 c) (λ z c=>B.2 z c) h
theorem Gm(f:SAnd G F d):S1 G F (.and d):=by
 refine .of2 (λ {j X E e i r} g a h=>?_) (λ {j X E e i r} g a h=>?_) Ki
 ·refine gx a λ o k p a=>?_;simp only[f7,g9]at a;obtain⟨c,b⟩:=a;subst c;exact(f g b).1 r h
 ·refine gx a λ o k p a=>?_;simp only[f7,g9]at a;obtain⟨c,b⟩:=a;subst c;exact((f g b).2 r h).pt
theorem s_or(f:SOr G F d):S1 G F (.or d):=by
 refine .of2 (λ {j X E e i r} g a h=>?_) (λ {j X E e i r} g a h=>?_) Ki
 ·refine gx a λ o k p a=>?_;simp only[f7,g9]at a;obtain⟨c,b⟩:=a;subst c;exact(f g b).1 r h
 ·refine gx a λ o k p a=>?_;simp only[f7,g9]at a;obtain⟨c,b⟩:=a;subst c;exact((f g b).2 r h).pt
end
section
variable {G:Gs} {F:Nat->ge DV->Ji Ou}
mutual
theorem snd:∀m:ME,S1 G F m
 | .var _=>Fn
 | .int _=>Fo
 | .bl _=>s_bl
 | .str _=>Fq
 | .non=>Fp
 | .glb _=>Fs
 | .bin _ a b=>Ft (snd a) (snd b)
 | .neg a=>Fu (snd a)
 | .not a=>Fv (snd a)
 | .cmp _ a b=>Fw (snd a) (snd b)
 | .chain _ _ a b c=>Fx (snd a) (snd b) (snd c)
 | .and es=>Gm (tG es)
 | .or es=>s_or (tH es)
 | .lst es=>FA (sndL es)
 | .tup es=>FB (sndL es)
 | .ix a b=>s_ix (snd a) (snd b)
 | .sl a b c=>s_sl (snd a) (snd b) (snd c)
 | .slf a b=>Fy (snd a) (snd b)
 | .slt a b=>Fz (snd a) (snd b)
 | .call _ es=>FC (sndL es)
 | .bi _ es=>s_bi (sndL es)
 | .isi a _=>FX (snd a)
 | .isx a _=>FN (snd a)
 | .meth _ a _=>FL (snd a)
 | .comp a _ b _=>Gd (snd a) (snd b)
 | .compi a _ b c _=>Ge (snd a) (snd b) (snd c)
 | .idx a b=>FM (snd a) (snd b)
 | .rng es=>FY (sndL es)
 | .enu a=>FZ (snd a)
 | .itm a=>Ga (snd a)
 | .dix a b=>FO (snd a) (snd b)
 | .dgp _ b=>FP (snd b)
 | .callv _ _ es=>FQ (sndL es)
 | .mink a _ _ _ _=>FT (snd a)
 | .self _ _ es=>FU (sndL es)
 | .dc2 _ _ a b=>FV (snd a) (snd b)
 | .rev a=>FW (snd a)
theorem sndL:∀ms:ge ME,SEs G F ms
 | []=>Gf
 | a::ms=>Gg (snd a) (sndL ms)
theorem tG:∀ms:ge ME,SAnd G F ms
 | []=>Gh
 | a::ms=>Gj (snd a) (tG ms)
theorem tH:∀ms:ge ME,SOr G F ms
 | []=>Gi
 | a::ms=>Gk (snd a) (tH ms)
end
end
section
variable (G:Gs) (F:Ku) (fu:Nat)
def SS(m:MS):Prop:=∀{sg:Sg} {X:Cx} {E:St->XK} {st:Js} {δ:ge Sv} {o:Out},Good sg G F X E->corS sg m st=true->evS G F fu m δ=some o->PS X st (dS X.D E δ o)
def SSs(ms:ge MS):Prop:=∀{sg:Sg} {X:Cx} {E:St->XK} {sts:ge Js} {δ:ge Sv} {o:Out},Good sg G F X E->G1 sg ms sts=true->evSs G F fu ms δ=some o->PSs X sts (dS X.D E δ o)
end
theorem Gn(h:rr e=true):aF G F e:=by
 cases e with
 | comp a _ b _=>exact tE (snd a) (snd b)
 | compi a _ b c _=>exact tF (snd a) (snd b) (snd c)
 | _=>cases h
theorem Go:SS G F fu (.set i own e):=by
 intro sg X E st w o g c h;refine da c λ t v y c=>?_
 refine J2 c λ x pt c=>?_;simp only[f7,g9,D8,t8]at c;obtain⟨⟨⟨I,H⟩,u⟩,d⟩:=c;have l:=g.loc x H;have q:X.N[i]? = some x:=by rw[g.N];exact I
 have h:Re.thnS w _ _=some o:=h;cases hv:al v with
 | false=>exact sI g.nd q l.1 l.2 (λ z j=>(snd e).1 g u j) (gW hv) h
 | true=>
  rcases d with d | C
  ·rw[hv]at d;cases d
  ·cases m:evE G F e w with
   | none=>rw[m]at h;cases h
   | some r=>
    obtain⟨a,N',fr,tg,p,rfl,S,P,B,A⟩:=Gn C g u m;cases f:(X.env.blockKind == .function&&X.env.kindOf x==some .local&&pt.line==(Expr.ListComp a.elt [⟨a.tg,a.it,a.ifs,0⟩] a.sc p).pos.line && !_)with
    | false=>
     have b:=(by show(pure (X.env.blockKind == .function&&X.env.kindOf x==some .local&&pt.line==(Expr.ListComp a.elt [⟨a.tg,a.it,a.ifs,0⟩] a.sc p).pos.line && !(a.sc.names.any λ (n,k)=>n==x&&(k == .local||k == .cell))):Sem Bool)=pure false;rw[f]);exact sI g.nd q l.1 l.2 (λ z j=>(snd e).1 g u j) b h
    | true=>
     have b:=(by show(pure (X.env.blockKind == .function&&X.env.kindOf x==some .local&&pt.line==(Expr.ListComp a.elt [⟨a.tg,a.it,a.ifs,0⟩] a.sc p).pos.line && !(a.sc.names.any λ (n,k)=>n==x&&(k == .local||k == .cell))):Sem Bool)=pure true;rw[f]);rw[m]at h;have d:X.env.kindOf x=some .local:=by simp only[f7,g9]at f;exact f.1.1.2
     exact Eh S g.calm g.nd q d P B A b h
theorem Gp:SS G F fu (.app i e):=by
 intro sg X E st δ o g a h;refine kO a λ v l a=>?_
 refine bw a λ ef ea c a=>?_;refine cY a λ ob n d a=>?_;simp only[f7,t8]at a;obtain⟨⟨⟨⟨w,b⟩,u⟩,r⟩,q⟩:=a;refine J2 b λ x np b=>?_;obtain⟨s1,k,j,f⟩:=Y6 g b;have p:=g9.mp w;subst p;exact Ei (Q9 s1 k j f) (λ z m=>(snd e).1 g u m) r q h
theorem Gq:SS G F fu (.ext i e):=by
 intro sg X E st δ o g a h;refine kO a λ v l a=>?_
 refine bw a λ ef ea c a=>?_;refine cY a λ ob n d a=>?_;simp only[f7,t8]at a;obtain⟨⟨⟨⟨w,b⟩,u⟩,r⟩,q⟩:=a;refine J2 b λ x np b=>?_;obtain⟨s1,k,j,f⟩:=Y6 g b;have p:=g9.mp w;subst p;exact Ek (Q9 s1 k j f) (λ z m=>(snd e).1 g u m) r q h
theorem Gr:SS G F fu (.retd i):=by
 intro sg X E st δ o g a h;refine li a λ v e a=>?_
 refine J2 a λ x np a=>?_;obtain⟨s1,d,c,b⟩:=Y6 g a;exact ED (Q9 s1 d c b) h
theorem Gt:SS G F fu (.sep i):=by
 intro sg X E st δ o g a h;refine da a λ t v b a=>?_
 refine J2 a λ x np a=>?_;refine Bq a λ _ a=>?_;rw[f7,g9]at a;obtain⟨d,c⟩:=g.loc x a.2;exact EM g.nd (by rw[g.N];exact a.1) d c h
theorem Gu:SS G F fu (.dpp i ks e):=by
 intro sg X E st δ o g a h;refine da a λ t v l a=>?_
 refine K5 a λ ob ek sp a=>?_;simp only[f7,t8]at a;obtain⟨⟨⟨d,c⟩,n⟩,m⟩:=a;refine J2 d λ x np d=>?_;obtain⟨s1,k,j,f⟩:=Y6 g d;refine kC c λ es tk tp c=>?_;exact EO (Z8 JA g.hu) (Q9 s1 k j f) (λ z b=>(snd e).1 g n b) (λ z b=>sndL ks g c b) m h
theorem Gv:SS G F fu (.seti i k e):=by
 intro sg X E st δ o g a h;refine da a λ t v l a=>?_
 refine K5 a λ ob ek sp a=>?_;simp only[f7,t8]at a;obtain⟨⟨⟨c,p⟩,n⟩,m⟩:=a;refine J2 c λ x np c=>?_;obtain⟨s1,j,f,d⟩:=Y6 g c;exact Ej (Q9 s1 j f d) (λ z b=>(snd e).1 g m b) (λ z b=>(snd k).1 g p b) n h
theorem Gw:SS G F fu (.exp e):=by
 intro sg X E st δ o g a h;refine kO a λ _ _ a=>?_
 simp only[f7,t8]at a;exact Eg (λ z b=>(snd e).1 g a.1 b) a.2 h
theorem Gx:SS G F fu (.ret e):=by
 intro sg X E st δ o g a h;refine li a λ _ _ a=>?_
 exact Ef (λ z b=>(snd e).1 g a b) h
theorem Gy:SS G F fu (.rse c e):=by
 intro sg X E st δ o g a h;refine Bx a λ v d a=>?_
 refine bw a λ ef ea b a=>?_;simp only[f7,t8,g9,U1,ne_eq]at a;obtain⟨⟨⟨⟨⟨n,m⟩,l⟩,k⟩,j⟩,i⟩:=a;obtain⟨np,rfl⟩:=M4 m;exact Fe g.xf g.calm (g.glo c l) (z8.mpr k) (g.st n).2.2.2 (λ z f=>(snd e).1 g j f) i h
theorem Gz(I:SSs G F fu body):SS G F fu (.tryc body c B C):=by
 intro sg X E st δ o g e h;refine By e λ b hd k e=>?_
 rw[f7,f7]at e;obtain⟨⟨K,J⟩,f⟩:=e;refine Bz f λ t' n' t2 v2 ap hp f=>?_
 simp only[f7,g9,U1,ne_eq,J8]at f;obtain⟨⟨⟨⟨⟨⟨⟨⟨⟨⟨A,y⟩,w⟩,v⟩,u⟩,r⟩,p⟩,n⟩,m⟩,a⟩,z⟩:=f;refine J2 a λ x tp a=>?_
 simp only[f7,g9]at a;obtain⟨vp,rfl⟩:=M4 m;obtain⟨np,rfl⟩:=M4 A;have l:=g.loc x a.2;obtain⟨s1,j,i,_⟩:=g.st K;exact Ff g.xf s1 j i (g.glo c y) v (z8.mpr w) g.nd (by rw[g.N];exact u) (g.lcl _ r) (z8.mpr p) (z8.mpr n) (by rw[g.N];exact a.1) l.1 l.2
  (λ d L q H=>I (Fm g d L) J H) h
theorem GA:SS G F fu (.dfr i fr es):=by
 intro sg X E st δ o g a h;cases a
theorem GB(i:SSs G F fu a)(f:SSs G F fu b):SS G F fu (.iff c a b):=by
 intro sg X E st δ o g d h;refine Bd d λ _ _ _ _ d=>?_
 simp only[f7]at d;exact Ee (λ z e=>(snd c).2.1 g d.1.1 e) (λ z e=>i g d.1.2 e) (λ z e=>f g d.2 e) h
theorem t_fo(f:SSs G F fu body):SS G F fu (.fo tg e body):=by
 intro sg X E st δ o g a h;refine Bv a λ _ _ _ _ a=>?_
 simp only[f7,t8,D8]at a;obtain⟨⟨⟨⟨n,m⟩,l,k⟩,j⟩,i⟩:=a;exact El (g.own n) g.calm (λ z c=>(snd e).2.2 g l (λ w=>by
  rcases k with q | q
  ·rw[w]at q;cases q
  ·exact q) c) (dH g m) (λ b o' d=>f g i d) j h
theorem t_wh(f:SSs G F fu body):SS G F fu (.wh c body):=by
 intro sg X E st δ o g a h;refine Bw a λ _ _ _ a=>?_
 simp only[f7]at a;exact Em (g.own a.1.1) (λ b r d=>(snd c).2.1 g a.1.2 d) (λ b o' e=>f g a.2 e) h
noncomputable def GC:MS->Bool
 | .dfr _ _ _=>true
 | _=>false
theorem GD:SSs G F fu []:=by
 intro sg X E c δ o g d h;cases c with
 | nil=>unfold evSs at h;cases h;exact Ea
 | cons a b=>unfold G1 at d;cases d
theorem dJ(g:Good b G F X E)(z:b.sc.lookup y=some .cell):X.env.kindOf y=some .cell/\X.fn y=true/\Loc X.env.scope y:=by
 have a:=g.loc y (by unfold locB;rw[z];rfl);have nl:X.env.scope.names.lookup y≠some .local:=λ w=>by rcases g.cel y (.inl z)with v | v<;>(rw[w]at v;cases v)
 exact⟨a.1.elim (λ w=>absurd w nl) id,a.2.elim id λ w=>absurd w nl,a.1⟩
theorem GE(n:G.clo=some C)(h:dfrS G F fr a j f=some o):C.nc=fr.length/\f=some .no/\G.fnl.isEmpty=false/\∃cs l d,j=some cs/\a=some (.ok l)/\P5 F C.np cs l=some (JT d)/\o=.rt d false:=by
 unfold dfrS at h;rw[n]at h;dsimp only at h;split at h
 ·rename_i z;obtain⟨m,e,k⟩:=z;obtain⟨cs,p,h⟩:=v9.mp h;obtain⟨r,i,h⟩:=v9.mp h;have g:f=some .no:=by
   unfold noB at e;split at e
   ·rfl
   ·cases e
  cases a with
  | none=>cases i
  | some a=>
   cases a with
   | ex c=>cases i;cases h
   | ok l=>
    have b:=i;obtain⟨d,_,_,_,_,rfl⟩:=tm b;cases h;exact⟨m,g,k,cs,l,d,p,rfl,b,rfl⟩
 ·cases h
theorem GF:SSs G F fu (.dfr i fr es::ms):=by
 intro q X E a0 w o g b h;have S:(ll q i fr a0 (u3 q es)&&ms.isEmpty)=true:=by unfold G1 at b;exact b
 rw[f7]at S;obtain⟨b,hms⟩:=S;have h:(match dfrS G F fr (evEs G F es w) (capD w fr) w[i]? with | some (.nx δ')=>evSs G F fu ms δ' | o=>o)=some o:=h;unfold ll at b;rw[f7,f7,g9]at b;obtain⟨⟨ht,e⟩,b⟩:=b;refine X2 b λ sa sb b=>Bt b λ n pr bd U x dp b=>?_
 simp only[f7,g9,F6,A9]at b;obtain⟨⟨⟨⟨⟨⟨rfl,rfl⟩,hi⟩,a6⟩,a3⟩,a2⟩,b⟩:=b;refine li b λ v rp b=>K6 b λ ef ea cp b=>?_
 simp only[f7,t8]at b;obtain⟨⟨Z,h2⟩,h3⟩:=b;refine J2 Z λ x np Z=>?_
 rw[g9]at Z;subst Z;cases ea with
 | nil=>cases h2
 | cons e0 er=>
  have ns:=Y7 h3;rw[F8,O5]at ns;obtain⟨C,hC,r⟩:=g.cos _ _ _ _ a6;obtain⟨a1,tx,N,_⟩:=mj r;cases hd:dfrS G F fr (evEs G F es w) (capD w fr) w[i]? with
  | none=>rw[hd]at h;cases h
  | some o'=>
   obtain⟨z1,z2,z3,cs,l,d,e1,e2,e3,rfl⟩:=GE hC hd;rw[hd]at h;cases h;obtain⟨_,⟨k,hr,_,a7⟩,wt⟩:=g.lms z3;obtain⟨c,P,k1,k2,k3,k4⟩:=wt ht;rw[show tagN q.sc=n7 from f8 e]at k3;have p:∀y∈U.names,y.2=NameKind.free->q.sc.lookup y.1=some .cell:=λ y m B=>by have z:=a2 y m;rw[f8 (by rw[B])]at z;exact g9.mp z
   obtain⟨c1,c2,c3⟩:=dJ g e;have D:=Fj (pos:=dp) (bd:=bd) (⟨k1,k2,k3,λ y m B=>(dJ g (p y m B)).1,k4 e⟩) a1 g.nd (by rw[g.N];exact hi) c1 c3 (.inl c2);have has:X.Ok->∀y∈U.names,y.2=NameKind.free->∃a,X.env.cells.lookup y.1=some a:=λ ok y m B=>ok.has y.1 (.inl (dJ g (p y m B)).1)
   have PC:PE X (.Call (.Name n7 np) (e0::er) [] cp) (λ J H Q=>∃f,(J[i]? = some (KP f)/\J4 H n7 (X.env.qual++n7) pr bd U (o5 X.env.cells U.names []) f)/\dE X.D E w (JT d) J H Q):=by
    refine tu (cs:=cs) (C:=C) (λ {ta} A=>tq (a7 C hC) hr r (λ ok=>Fi tx ok (has ok)) (λ I=>Dw I (has I.ok) λ y m B=>(dJ g (p y m B)).2.1) (λ {b0 J H H' s f} I sm ha=>⟨ha.2.mono sm,?_⟩) (.inl c1) z1.symm (λ j K hj=>?_) e1 A ns.1 ns.2) ((sndL es) g h3 e2) e3
    ·obtain⟨mm,hn',a4⟩:=I.loc;obtain⟨u,rv,lk⟩:=a4 i n7 _ (by rw[g.N];exact hi) ha.1 (.inr (.inl c1));obtain rfl:u=Value.ref f:=rv;rcases lk with⟨Y,_⟩ | ⟨_,cx,q2,q3⟩
     ·have Y:X.env.kindOf n7=some .local:=Y;rw[c1]at Y;cases Y
     ·exact⟨cx,dv (has I.ok) (B4 tx.slf) q2,q3⟩
    ·have hjl:j<fr.length:=(v4.mp hj).1;have M:=a3 K (J9 hj);have m:q.N[K]? = some (q.N.getD K ""):=by rw[k7 M,o8,k7 M];rfl
     have hq:((C.N.drop C.np).take C.nc)[j]? = some (q.N.getD K ""):=(by rw[←N,p5,hj];rfl);have L:C.N[C.np+j]? = some (q.N.getD K ""):=(by rw[aN JA,Z7]at hq;exact hq);refine⟨_,L,by rw[g.N];exact m,.inl ?_⟩;have a9:=tx.fre (C.np+j) _ JA JA L;exact(dJ g (p _ (B4 a9) rfl)).1
   refine(cK D (cK (fG (pos:=rp) PC) ai)).weak λ Dn J H ⟨H0,O,W,R,frr,fo,sm,kk⟩ f H' s1 hn df=>?_;have a5:i<J.length:=by rw[R.len];exact(v4.mp z2).1
   refine⟨f,⟨by rw[F5 a5],df⟩,O,W,(Lk).anyNo z2 _,λ v H2 s2 g2=>kk v H2 (sm.trans (Lu s2)) ?_⟩;have a8:Rep X.D (Ka H2) d v:=g2;exact(a8.mono (M5 bz):Rep X.D (L2.wo O H2) d v)
theorem K8(n:SS G F fu m)(p:SSs G F fu i)(l:GC m=false):SSs G F fu (m::i):=by
 intro k X E b δ o g f h;cases b with
 | nil=>
  exfalso;cases m<;>first | (cases l;done) | (unfold G1 at f;cases f)
 | cons st b=>
  have e:corS k m st=true/\G1 k i b=true:=(by cases m<;>first | (cases l;done) | (unfold G1 at f;rw[f7]at f;exact f));unfold evSs at h;split at h
  ·rename_i a q;exact Eb (n g e.1 q) (p g e.2 h)
  ·rename_i j;have A:=n g e.1 h;cases o with
   | nx a=>exact absurd h (j a)
   | rt d fr=>exact Ec A
   | ex c a=>exact Ed A
section
variable {G:Gs} {F:Nat->ge DV->Ji Ou} {fu:Nat}
mutual
theorem sndS:∀m:MS,SS G F fu m
 | .set _ _ _=>Go
 | .app _ _=>Gp
 | .ext _ _=>Gq
 | .seti _ _ _=>Gv
 | .exp _=>Gw
 | .ret _=>Gx
 | .iff _ a b=>GB (D5 a) (D5 b)
 | .fo _ _ body=>t_fo (D5 body)
 | .wh _ body=>t_wh (D5 body)
 | .sep _=>Gt
 | .dpp _ _ _=>Gu
 | .retd _=>Gr
 | .rse _ _=>Gy
 | .tryc body _ _ _=>Gz (D5 body)
 | .dfr _ _ _=>GA
theorem D5:∀ms:ge MS,SSs G F fu ms
 | []=>GD
 | .dfr _ _ _::ms=>GF
 | .set i o e::ms=>K8 (sndS (.set i o e)) (D5 ms) rfl
 | .app i o::ms=>K8 (sndS (.app i o)) (D5 ms) rfl
 | .ext i o::ms=>K8 (sndS (.ext i o)) (D5 ms) rfl
 | .seti i k o::ms=>K8 (sndS (.seti i k o)) (D5 ms) rfl
 | .exp e::ms=>K8 (sndS (.exp e)) (D5 ms) rfl
 | .ret e::ms=>K8 (sndS (.ret e)) (D5 ms) rfl
 | .iff c a b::ms=>K8 (sndS (.iff c a b)) (D5 ms) rfl
 | .fo t i b::ms=>K8 (sndS (.fo t i b)) (D5 ms) rfl
 | .wh c b::ms=>K8 (sndS (.wh c b)) (D5 ms) rfl
 | .retd i::ms=>K8 (sndS (.retd i)) (D5 ms) rfl
 | .sep i::ms=>K8 (sndS (.sep i)) (D5 ms) rfl
 | .dpp i k e::ms=>K8 (sndS (.dpp i k e)) (D5 ms) rfl
 | .rse c e::ms=>K8 (sndS (.rse c e)) (D5 ms) rfl
 | .tryc a b c d::ms=>K8 (sndS (.tryc a b c d)) (D5 ms) rfl
end
end
structure FunD(K:Lz)(x qual:Str)(st:Stmt)(f:Addr)(fd:FuncData):Prop where
 ex:∃(oc:Value) (od:Option Addr) (dV kV doc pm:Value) (an:Option Addr) (cdv ct:Value) (osl:Array (Option Value)),
  fd=PySem.W.fnOf x qual (P1 st) (G5 st) (u6 st) dV kV doc pm an cdv ct/\K.lookup f=some ⟨oc,od,.func fd,osl⟩/\PySem.W.codeIn K cdv qual=true
theorem FunD.okX{K:Ju}{st:Js}(F:FunD K x b st f fd)(S:FnScope N ps (u6 st))(len:∀d H Q E,g d H Q E->d.length=ps.length)
  (e:∀(c:Jj),fd.code=c->∀(A:Jr) (a:ge Env) (s:Jk) (H:Hp) (d:ge V) (Q:VK) (E:XK),Room k (A.deeper (envOfC b (u6 st) s.heap.objs.size f c))->g d H Q E ->
   ∃t,PSs (cxD P w K mg base N b (u6 st) f c A a s H E) (G5 st) t/\t {nx:=λ _ o=>Q .non o,rt:=Q} (start N d) H):FnOk P w K mg base (CXx P w base) (k+1) f fd ps g:=by
 obtain⟨oc,od,dV,kV,n,pm,an,c,ct,j,rfl,l,i⟩:=F.ex;exact yc l i S len λ A a s H d Q E m h=>e c rfl A a s H d Q E m h
structure MStands(K:Lz)(bl cl:List Str)(C:Addr)(d:FD)(x:Str)(fa:Addr)(fd:FuncData)(ps:List Str):Prop where
 me:Meth K C x fa
 bi:L9 K fd ps []
 np:d.np=ps.length
 ex:∃qual st N,FunD K x qual st fa fd/\FnScope N ps (u6 st)/\d.n=N.length/\G1 ⟨N,(u6 st).names,[],bl,cl,true,true,noCo⟩ d.body (G5 st)=true
noncomputable def fldS(sg:Sg)(f:Str)(s:Js)(q:Jn->Bool):Bool:=am s λ t v _=>X3 t λ o n _=>F1 o λ a=>n==f&&N9 sg 0 a&&q v
noncomputable def corI(sg:Sg)(b:ge Js):Bool:=in2 b λ s1 s2=>fldS sg "text" s1 (λ v=>F1 v λ x=>N9 sg 1 x)&&fldS sg "place" s2 (λ v=>U8 v==some (.int 0))
structure IStands(K:Lz)(C:Addr)(fa:Addr)(fd:FuncData)(ps:List Str):Prop where
 mk':Mk K C fa
 bi:L9 K fd ps []
 ps2:ps.length=2
 ex:∃qual st N,FunD K "__init__" qual st fa fd/\FnScope N ps (u6 st)/\N.length=2/\corI ⟨N,(u6 st).names,[],[],[],true,true,noCo⟩ (G5 st)=true
theorem RSt.start(m:n=N.length)(r:RepL D (JZ O) ds vs)(k:Hdn O H):RSt D H (L2.start N vs) (m7 n ds) O []:=by
 subst m;have c:∀(i:Nat) b,(m7 N.length ds)[i]? ≠ some (.own b):=λ i b h=>by
  unfold m7 at h;by_cases e:i<(ds.map Sv.val).length
  ·rw[O3 e,p5]at h;cases q:ds[i]? with
   | none=>rw[q]at h;cases h
   | some d=>rw[q]at h;cases h
  ·rw[Q4 JA,bQ]at h;split at h<;>cases h
 have g:∀(i:Nat) b,(m7 N.length ds)[i]? ≠ some (.od b):=λ i b h=>by
  unfold m7 at h;by_cases e:i<(ds.map Sv.val).length
  ·rw[O3 e,p5]at h;cases q:ds[i]? with
   | none=>rw[q]at h;cases h
   | some d=>rw[q]at h;cases h
  ·rw[Q4 JA,bQ]at h;split at h<;>cases h
 refine⟨λ i d h=>?_,λ i b h=>absurd h (c i b),λ i j a p d2 h=>absurd h (c i p),λ i d h=>absurd h (g i d),?_,⟨λ a f=>k.ne a (Kg f),Same.refl _,λ a f=>(nomatch f),λ a f=>(nomatch f),k⟩⟩
 ·unfold m7 at h;by_cases e:i<(ds.map Sv.val).length
  ·rw[O3 e,p5]at h;cases q:ds[i]? with
   | none=>rw[q]at h;cases h
   | some d'=>
    rw[q]at h;cases h;obtain⟨v,l,o⟩:=r.get q;refine⟨v,?_,by rw[E4];exact o⟩;unfold L2.start;rw[O3 (by rw[g6];exact(v4.mp l).1),p5,l];rfl
  ·rw[Q4 JA,bQ]at h;split at h<;>cases h
 ·unfold L2.start m7;rw[t5,t5,g6,g6,eD,eD,r.length]
noncomputable def cloB(o:Ji CloD)(fn bl cl:ge Str):Jw->ge Js->Jv->ge Str->Bool:=match o with
 | some C=>X5 C fn bl cl
 | none=>noCo
def dqB(x:Str)(sc:ge (Str×Jy)):Bool:=L6 (x ++ ".<locals>." ++ n7)==(sc.lookup n7==some .cell)
theorem GG(h:dqB x sc=true):tagQ x=(x ++ ".<locals>.")++tagN sc/\(sc.lookup n7=some .cell->L6 ((x ++ ".<locals>.")++n7)=true):=by
 unfold dqB at h;rw[g9]at h;unfold tagQ tagN;by_cases z:sc.lookup n7=some .cell
 ·have e:L6 (x ++ ".<locals>." ++ n7)=true:=by rw[h,z];rfl
  have a:L6 (x ++ ".<locals>." ++ "plan_of")=true:=e;rw[f8 z,f8 a];exact⟨rfl,λ _=>e⟩
 ·have e:L6 (x ++ ".<locals>." ++ n7)=false:=by rw[h];exact z8.mpr z
  rw[g7 z,g7 ((by have:L6 (x ++ ".<locals>." ++ "plan_of")=false:=e;rw[this];decide))];exact⟨rfl,λ w=>absurd w z⟩
structure Stands(K:Lz)(mg:Str->Option Value)(fn bl cl:List Str)(d:FD)(x:Str)(fa:Addr)(fd:FuncData)(ps:List Str):Prop where
 mg:mg x=some (JR fa)
 kp:PySem.W.keepIn K (JR fa)=true
 bi:L9 K fd ps []
 np:d.np=ps.length
 ex:∃qual st N,qual=x/\FunD K x qual st fa fd/\FnScope N ps (u6 st)/\d.n=N.length/\G1 ⟨N,(u6 st).names,fn,bl,cl,true,true,cloB d.clo fn bl cl⟩ d.body (G5 st)=true/\dqB x (u6 st).names=true
theorem GH(hd:T[f]? = some d)(e:d.np=n)(q:run G T fu k f ds=some o):ds.length=n:=by
 cases k with
 | zero=>cases q
 | succ k=>
  have b:(match T[f]? with | none=>if f=z7 then lamR _ ds else if f=A5 then cloR G _ ds else none | some c=>if ds.length=c.np then Ou.of (evSs G _ fu c.body _)else none)=some o:=q;rw[hd]at b;have a:(if ds.length=d.np then Ou.of (evSs G _ fu d.body _)else none)=some o:=b;split at a
  ·rename_i z;rw[z,e]
  ·cases a
theorem mq{K:Ju}(z:T.length=fn.length)(r:∀(i:Nat) d x,T[i]? = some d->fn[i]? = some x->∃b fd ps,Stands K mg fn bl cl d x b fd ps)
  (m:∀(i:Nat) d x b fd ps,T[i]? = some d->fn[i]? = some x->Stands K mg fn bl cl d x b fd ps->FnOk P w K mg base (CXx P w base) k b fd ps (spF ⟨K,mg⟩ ps.length (run G T fu k i))) (u:Room k A) (f:Nat) (y:Str) (n:fn[f]? = some y) :
  ∃p b fd ps,Room p A/\mg y=some (.ref b)/\PySem.W.keepIn K (.ref b)=true/\L9 K fd ps []/\(∀ds o,run G T fu k f ds=some o->ds.length=ps.length)/\FnOk P w K mg base (CXx P w base) p b fd ps (spF ⟨K,mg⟩ ps.length (run G T fu k f)):=by
 have v:f<T.length:=by rw[z];exact(v4.mp n).1
 obtain⟨l,c⟩:∃l,T[f]? = some l:=⟨_,k7 v⟩;obtain⟨h,g,e,j⟩:=r f l y c n;exact⟨k,h,g,e,u,j.mg,j.kp,j.bi,λ ds o q=>GH c j.np q,m f l y h g e c n j⟩
theorem GI{G:Gs}(h:o=none\/o=G.clo)(z:cloB o fn bl cl b bd sc a=true):∃C,G.clo=some C/\X5 C fn bl cl b bd sc a=true:=by
 cases o with
 | none=>cases z
 | some C=>exact⟨C,(h.elim (λ w=>nomatch w) id).symm,z⟩
theorem GJ{K:Ju}(hT:T.length=fn.length)(hs:Lo)(b8:∀x∈bl,mg x=none)(b5:XFacts K mg G cl)
  (a1:KJ) (a0:G.fnl=fn/\G.bll=bl/\G.cll=cl) (c0:T.length<=gb)
  (b4:∀(i:Nat) d x fa fd ps,T[i]? = some d->fn[i]? = some x->Stands K mg fn bl cl d x fa fd ps->FnOk P w K mg base (CXx P w base) k fa fd ps (spF ⟨K,mg⟩ ps.length (run G T fu k i))) (b3:Y3 P w K mg base fn bl cl k (run G T fu k z7)) (b2:∀C,G.clo=some C->aC P w K mg base C fn bl cl k (run G T fu k A5)):Y3 P w K mg base fn bl cl (k+1) (run G T fu (k+1) z7):=by
 intro A J s H us W Q E O f m cs F d hr e0 r hO m1 m2 m3 rp rl hF hq;have b9:T[z7]? = none:=Z5 (i7 c0 JB);have a2:(match T[z7]? with | none=>if z7=z7 then lamR (evE G (JX k)) (.lam m cs::F)else if z7=A5 then cloR G (evSs G (JX k) fu) (.lam m cs::F)else none | some fd=>if(DV.lam m cs::F).length=fd.np then Ou.of (evSs G (JX k) fu fd.body (m7 fd.n (.lam m cs::F)))else none)=some (.v d false):=hF;rw[b9]at a2;have j:=a2;rw[f8 rfl]at j;unfold lamR at j;dsimp only at j;split at j
 ·rename_i a5;obtain⟨n1,n2,n3,n4⟩:=a5;split at j
  ·rename_i d' b7;split at j
   ·rename_i nl;cases j;obtain⟨f',pr,bd,sc,q,a6,l,U,e1,lf,p,S,rc,b1,b0,a9⟩:=dh.mp rp;cases e1;have a8:=lf.mono x8;have a7:∀c∈l,∃o v,H c=some LL/\s.heap.get? c=some o/\o.data=.cell v:=λ c hc=>by obtain⟨o,v,Y,X⟩:=b0 c hc;have g:=(A6 Y).2;exact⟨o,v,g,(e0.hok c _ g).1,X⟩
    have C:CellsT l s.heap H:=⟨a7⟩;unfold aq at p;rw[f7]at p;have Z:W.length=F.length:=rl.length;have B:(m.N.take m.np).length=m.np:=by rw[E9];omega
    have b6:us.length=(m.N.take m.np).length:=by rw[←r.length,Z,B];exact n1
    have hlw:U.length=cs.length:=rc.length;have M:∀c∈l,∃o,H c=some (.frz o (.own c)):=λ c hc=>by obtain⟨o,_,g,_⟩:=a7 c hc;exact⟨o,g⟩
    have c1:Hdn O (L2.wo l H):=λ a ha=>by obtain⟨o,Y,X⟩:=hO a ha;refine⟨o,?_,X⟩;rw[i6 λ z=>by obtain⟨o',g⟩:=M a z;rw[Y]at g;cases g;cases X];exact Y
    refine Dp (ps:=m.N.take m.np) (ws:=U) (vs:=W) S C hr.ok e0 a8 (λ pm c' ctv=>BE p.1 b6) (by rw[Z,B];exact n1) r (by rw[B];exact b1) (λ i x v h1 h2=>?_) λ c'=>?_
    ·rw[B]at h1;obtain⟨c,o,u,Y,X,g3,g4⟩:=a9 i x v h1 h2;have g:=(A6 X).2;exact⟨c,u,Y,⟨o,(e0.hok c _ g).1,g3⟩,g4⟩
    ·have L:Room k (A.deeper (PySem.W.envX q sc s.heap.objs.size f (JR c') a6)):=hr.deeper _;have g4:Good ⟨m.N,sc.names,fn,bl,cl,false,false,noCo⟩ G (JX k) (S6 P w K mg base m.N q sc f (JR c') a6 A J s (JZ l)) E0s:=by
      refine⟨rfl,S.nd,λ y h=>?_,λ y h=>?_,λ y h=>?_,λ y h=>h,λ y h=>h,rfl,L.units,mq hT hs b4 L,b8,?_,a1,Ky,b5,Ky,(λ z=>⟨a0,⟨k,L,b3,b2⟩,λ w=>nomatch w⟩),(λ _ _ _ _ z=>nomatch z),Ky⟩
      ·unfold visB at h;simp only[D8,g9]at h;rcases h with(h | h) | h
       ·exact .inl h
       ·exact .inr (.inl h)
       ·exact .inr (.inr h)
      ·unfold gloB at h;rw[g9]at h;exact h
      ·unfold locB at h;simp only[D8,g9]at h;rcases h with h | h
       ·exact⟨.inl h,.inr h⟩
       ·exact absurd rfl (S.nocell _ (B4 h))
      ·intro c2 σ H s e s' I z;obtain⟨_,_,_,_,_,_,_,_,_,_,q⟩:=z;exact q.elim
     have pe:=(snd m.body).1 g4 ((by have:=p.2;rw[m1,m2,m3]at this;exact this)) b7;refine⟨_,pe,O,[],?_,λ v H' sm gt=>λ a4=>?_⟩
     ·have R:=RSt.start (D:=⟨K,mg⟩) (N:=m.N) (ds:=F++cs) (vs:=W++U) (n:=m.N.length) rfl ((U9 M n3 rl).append (U9 M n4 rc)) c1;have e1:m7 m.N.length (F++cs)=(F++cs).map Sv.val:=(by unfold m7;rw[t5,show m.N.length - (F.length+cs.length)=0 by omega];exact E4 _);have e2:L2.start m.N (W++U)=(W++U).map some:=(by unfold L2.start;rw[t5,show m.N.length - (W.length+U.length)=0 by omega];exact E4 _);rw[e1,e2]at R;exact R
     ·have a3:Rep ⟨K,mg⟩ (L2.wo (O++[]) H') d v:=gt;rw[E4]at a3;refine hq v _ (λ b o e=>?_) (a3.mono λ b o e=>?_)
      ·by_cases hb:b∈l
       ·rw[gP hb];exact e
       ·rw[S5 hb];exact sm _ _ (by rw[i6 hb];exact e)
      ·obtain⟨hb,e⟩:=A6 e;rw[i6 hb,S5 λ z=>by rw[a4 b z]at e;cases e];exact e
   ·cases j
  ·cases j
 ·cases j
theorem GK{K:Ju}(hT:T.length=fn.length)(hs:Lo)(d5:∀x∈bl,mg x=none)(c6:XFacts K mg G cl)
  (b1:KJ) (b0:G.fnl=fn/\G.bll=bl/\G.cll=cl) (d7:T.length<=gb)
  (c5:∀(i:Nat) d x fa fd ps,T[i]? = some d->fn[i]? = some x->Stands K mg fn bl cl d x fa fd ps->FnOk P w K mg base (CXx P w base) k fa fd ps (spF ⟨K,mg⟩ ps.length (run G T fu k i))) (c4:Y3 P w K mg base fn bl cl k (run G T fu k z7)) (a8:∀C,G.clo=some C->aC P w K mg base C fn bl cl k (run G T fu k A5)) (hC:G.clo=some C):aC P w K mg base C fn bl cl (k+1) (run G T fu (k+1) A5):=by
 intro A B s H us vs Q E O f cs ds d hr e0 r hO ca a5 rl hF hq;have d6:T[A5]? = none:=Z5 (i7 d7 JB);have b3:(match T[A5]? with | none=>if A5=z7 then lamR (evE G (JX k)) (ds++cs)else if A5=A5 then cloR G (evSs G (JX k) fu) (ds++cs)else none | some fd=>if(ds++cs).length=fd.np then Ou.of (evSs G (JX k) fu fd.body (m7 fd.n (ds++cs)))else none)=some (.v d false):=hF;rw[d6]at b3;have L:=b3;rw[g7 JB]at L;rw[f8 rfl]at L;unfold cloR at L;rw[hC]at L;have F:(if(ds++cs).length=C.np+C.nc/\DV.nolams (ds++cs)=true then(match evSs G (JX k) fu C.body (m7 C.N.length (ds++cs))with
  | some (.rt d false)=>if d.nolam then some (Ou.v d false)else none
  | _=>none)else none)=some (.v d false):=L
 split at F
 ·rename_i b7;split at F
  ·rename_i d' d3;split at F
   ·rename_i nl;cases F;obtain⟨q,pr,bd,sc,cap,cc,l,ws,c0,o0,df,a1,S,rc,a2,c3,c2,d1,⟨s1,s2,s3⟩,J⟩:=ca;obtain⟨d0,tx,d4,a6⟩:=mj a1;have a0:∀c∈l,∃o v,H c=some LL/\s.heap.get? c=some o/\o.data=.cell v:=λ c Z=>by obtain⟨o,v,g,g2⟩:=c3 c Z;exact⟨o,v,g,(e0.hok c _ g).1,g2⟩
    have Ct:CellsT l s.heap H:=⟨a0⟩;have a3:vs.length=ds.length:=rl.length;have W:(C.N.take C.np).length=C.np:=by rw[E9];have:=tx.len;omega
    have c7:us.length=(C.N.take C.np).length:=by rw[←r.length,a3,W];exact a5
    have Y:∀c∈l,∃o,H c=some (.frz o (.own c)):=λ c Z=>by obtain⟨o,_,g,_⟩:=a0 c Z;exact⟨o,g⟩
    have b2:Hdn O (L2.wo l H):=λ a ha=>by obtain⟨o,g1,g2⟩:=hO a ha;refine⟨o,?_,g2⟩;rw[i6 λ z=>by obtain⟨o',g⟩:=Y a z;rw[g1]at g;cases g;cases g2];exact g1
    have M:∀{a b:ge DV},DV.nolams (a++b)=true->DV.nolams a=true/\DV.nolams b=true:=λ {a b} h=>by
     induction a with
     | nil=>exact⟨rfl,h⟩
     | cons x a ih=>
      have h':(x.nolam&&DV.nolams (a++b))=true:=h;rw[f7]at h';obtain⟨i1,i2⟩:=ih h'.2;refine⟨?_,i2⟩;show(x.nolam&&DV.nolams a)=true;rw[h'.1,i1];rfl
    obtain⟨n3,n4⟩:=M b7.2;have nt:∀{b:Jl} {o:Obj} {u:HO},H b=some (.frz o u)->(∀v,o.data ≠ .cell v)->b∉l:=λ e hd z=>by obtain⟨o',v,g,_,d'⟩:=a0 _ z;rw[e]at g;cases g;exact hd v d'
    refine Dt (N:=C.N) (ps:=C.N.take C.np) (ws:=ws) (vs:=vs) (n:=C.N.length - C.np - C.nc) (by rw[a2];exact S) Ct hr.ok e0 df (λ b5 pm c' b6=>Fg d0 c7) (by rw[a3,W];exact a5) r (by rw[W,a2];have:=tx.len;omega) (λ i x v h1 h2=>?_) λ c' oc u T' h1 h2 h3=>?_
    ·rw[W]at h1;obtain⟨c,o,u,g1,g2,g3,g4⟩:=c2 i x v h1 h2;exact⟨c,u,g1,⟨o,(e0.hok c _ g2).1,g3⟩,g4⟩
    ·have U:Room k (A.deeper (PySem.W.envX q sc s.heap.objs.size f (JR c') cc)):=hr.deeper _;have a9:∀v,oc.data ≠ .cell v:=λ v z=>by obtain⟨o,vv,_,_,_,_,_,_,_,q1,_,q2,_⟩:=h3 s.heap (e0.hok c' _ h1).1;rw[(e0.hok c' _ h1).1]at q1;cases q1;rw[q2]at z;cases z
     have d9:J4 (JZ l) n7 q pr bd sc cc f:=by
      obtain⟨c1,b9,u1,b8,t1,b5,pm,b6,T1,y1,y2,y3,y4,y5,y6⟩:=df;refine⟨c1,b9,u1,b8,t1,b5,pm,b6,T1,?_,?_,y3,y4,?_,y6⟩
      ·rw[i6 (nt y1 λ v z=>by cases z)];exact y1
      ·rw[i6 (nt y2 λ v z=>by rw[y3]at z;cases z)];exact y2
      ·rw[i6 λ z=>by obtain⟨o',g⟩:=Y _ z;rw[y5]at g;cases g];exact y5
     have new:∀c∈l,base.get? c=none/\c∉frs (PySem.W.envX q sc s.heap.objs.size f (JR c') cc::B):=λ c Z=>by
      refine⟨(J c Z).1,λ z=>?_⟩;obtain⟨o,v,_,g,_⟩:=a0 c Z;have z':c∈s.heap.objs.size::frs B:=z;rcases h8.mp z' with w | w
      ·exact absurd (j9 g) (by rw[w];exact N3 _)
      ·exact(J c Z).2 w
     have LA:=Du (P:=P) (w:=w) (K:=K) (mg:=mg) (base:=base) (N:=C.N) (scope:=sc) (f:=f) (cl:=cc) (A:=A) (outer:=B) (sc:={sc with names:=[]}) Ct h1 a9 h2 h3 (λ y m=>absurd (show y∈([]:ge (Str×Jy))from m) JL);have g4:Good ⟨C.N,sc.names,fn,bl,cl,false,true,noCo⟩ G (JX k) (S6 P w K mg base C.N q sc f (JR c') cc A B s (JZ l)) E0s:=by
      refine⟨rfl,tx.nd,λ y m=>?_,λ y m=>?_,λ y m=>?_,λ y m=>m,λ y m=>m,rfl,U.units,mq hT hs c5 U,d5,?_,b1,(λ _=>PassesOwn.never),c6,Ky,(λ z=>⟨b0,⟨k,U,c4,a8⟩,λ w=>nomatch w⟩),(λ _ _ _ _ z=>nomatch z),λ _ _=>⟨⟨c',T',rfl,λ I=>⟨LA.hd I,LA.tab I⟩⟩,λ x a e=>new a (S.mem x a e),?_⟩⟩
      ·unfold visB at m;simp only[D8,g9]at m;rcases m with(m | m) | m
       ·exact .inl m
       ·exact .inr (.inl m)
       ·exact .inr (.inr m)
      ·unfold gloB at m;rw[g9]at m;exact m
      ·unfold locB at m;simp only[D8,g9]at m;rcases m with m | m
       ·exact⟨.inl m,.inr m⟩
       ·exact absurd rfl (tx.nocell _ (B4 m))
      ·intro a7 σ H s e s' I z;obtain⟨_,_,_,_,_,_,_,_,_,_,q⟩:=z;exact q.elim
      ·intro E δ e es pos p rs re np nc e4 c9 c8 h;unfold cR at h;rw[hC]at h;dsimp only at h;split at h
       ·rename_i z;obtain⟨rfl,rfl⟩:=z;obtain⟨e3,e1,h⟩:=v9.mp h;refine(tu (cs:=e3) (C:=C) (at_:=λ _ _ f'=>f'=f) (λ {ta} A=>tq (q:=q) (X:=S6 P w K mg base C.N q sc f (JR c') cc _ B s (JZ l)) (a8 C hC) U a1 (λ _=>⟨S,λ _ _ e=>e,d1⟩) (λ _ c Z=>new c Z) (λ {a7 σ H1 H2 s' f'} I sm ha=>?_) (.inr tx.slf) (by rw[List.length_range']) (λ j i' hj=>?_) e1 A c9 c8) e4 h).weak λ σ H Q z=>⟨f,rfl,z⟩
        ·subst ha;refine⟨d9.un I.base,c0,s1,o0,I.base.keep c0 o0 (e0.hok c0 _ s2).1 (X8 (S.mem _ _ s1)) (J c0 (S.mem _ _ s1)).2 (λ z=>absurd (show c0∈([]:ge Jl)from z) JL),s3⟩
        ·have d2:j<C.nc:=by have:=(v4.mp hj).1;rw[List.length_range']at this;exact this
         rw[List.getElem?_range' d2]at hj;cases hj;have a4:C.np+j<C.N.length:=by have:=tx.len;omega
         refine⟨C.N[C.np+j],k7 a4,?_,.inr (tx.fre _ _ JA JA (k7 a4))⟩;show C.N[C.np+1*j]? = _;rw[cF];exact k7 a4
       ·cases h
     refine⟨_,D5 C.body g4 a6 d3,L2.wo l H,O,[],?_,(λ a ha=>(nomatch ha)),b2.ne,Same.refl _,λ v H' sm gt=>λ b4=>?_⟩
     ·have R:=RSt.start (D:=⟨K,mg⟩) (N:=C.N) (ds:=ds++cs) (vs:=vs++ws) (n:=C.N.length) rfl ((U9 Y n3 rl).append (U9 Y n4 rc)) b2;have e2:L2.start C.N (vs++ws)=(vs++ws).map some++List.replicate (C.N.length - C.np - C.nc) none:=(by unfold L2.start;rw[t5,a3,a5,a2,Nat.sub_sub]);rw[e2]at R;exact R
     ·have d8:Rep ⟨K,mg⟩ (L2.wo O H') d v:=gt;refine hq v _ (λ b o e=>?_) (d8.mono λ b o e=>?_)
      ·by_cases hb:b∈l
       ·rw[gP hb];exact e
       ·rw[S5 hb];exact sm _ _ (by rw[i6 hb];exact e)
      ·obtain⟨hb,e⟩:=A6 e;rw[i6 hb,S5 λ z=>by rw[b4 b z]at e;cases e];exact e
   ·cases F
  ·cases F
 ·cases F
theorem tI{P:Jq}{w:Jp}{K:Ju}{mg:Str->Ji Jj}{base:Jm}{G:Gs}{T:ge FD}{fu:Nat}{fn bl cl:ge Str}(hT:T.length=fn.length)(hs:Lo)(hbl:∀x∈bl,mg x=none)(hxf:XFacts K mg G cl)
  (hcon:KJ)
  (hlm:G.fnl.isEmpty=false->(G.fnl=fn/\G.bll=bl/\G.cll=cl)/\T.length<=gb/\∀(i:Nat) (d:FD) (x qual:Str) (st:Js) (fa:Jl) (fd:Jt),T[i]? = some d->fn[i]? = some x->qual=x->FunD K x qual st fa fd->∃c P,fd.code=.ref c/\(∀h:Jm,K.In h->PySem.W.CodeHd h c P)/\(P,tagQ qual)∈x4 K) (hcl:∀d∈T,d.clo=none\/d.clo=G.clo) :
  ∀k,(∀(i:Nat) d x fa fd ps,T[i]? = some d->fn[i]? = some x->Stands K mg fn bl cl d x fa fd ps->FnOk P w K mg base (CXx P w base) k fa fd ps (spF ⟨K,mg⟩ ps.length (run G T fu k i)))/\(G.fnl.isEmpty=false->Y3 P w K mg base fn bl cl k (run G T fu k z7)/\∀C,G.clo=some C->aC P w K mg base C fn bl cl k (run G T fu k A5))
 | 0=>by
  refine⟨λ i d x fa fd ps h1 h2 S=>?_,λ _=>⟨(λ A outer s H us vs Q E O f m cs ds d _ _ _ _ _ _ _ _ _ hF _=>by cases hF),λ C _ A outer s H us vs Q E O f cs ds d _ _ _ _ _ _ _ hF _=>by cases hF⟩⟩;refine⟨λ vs H Q E h=>?_,λ A outer s H args us vs Q E hr he hb hv h=>?_⟩
  ·obtain⟨_,_,_,_,_,_,q,_⟩:=h;cases q
  ·obtain⟨_,_,_,_,_,_,q,_⟩:=h;cases q
 | k+1=>by
  have ih:=tI (P:=P) (w:=w) (base:=base) (fu:=fu) hT hs hbl hxf hcon hlm hcl k;refine⟨λ i d x fa fd ps h1 h2 S=>?_,λ z=>⟨GJ hT hs hbl hxf hcon (hlm z).1 (hlm z).2.1 ih.1 (ih.2 z).1 (ih.2 z).2,λ C hC=>GK hT hs hbl hxf hcon (hlm z).1 (hlm z).2.1 ih.1 (ih.2 z).1 (ih.2 z).2 hC⟩⟩;obtain⟨qual,st,N,hqx,F,FS,hn,hc,hdq⟩:=S.ex;refine F.okX FS (λ vs H Q E h=>?_) (λ cdv hcd A outer s H vs Q E hr h=>?_)
  ·obtain⟨O,ds,o,_,e1,e2,_⟩:=h;rw[e2.length,e1]
  ·obtain⟨O,ds,o,ho,e1,e2,e3,e4⟩:=h;have e3':(match T[i]? with | none=>if i=z7 then lamR (evE G (JX k)) ds else if i=A5 then cloR G (evSs G (JX k) fu) ds else none | some fd=>if ds.length=fd.np then Ou.of (evSs G (JX k) fu fd.body (m7 fd.n ds))else none)=some o:=e3;rw[h1]at e3';have e3'':(if ds.length=d.np then Ou.of (evSs G (JX k) fu d.body (m7 d.n ds))else none)=some o:=e3';rw[f8 (e1.trans S.np.symm)]at e3'';have g:Good ⟨N,(u6 st).names,fn,bl,cl,true,true,cloB d.clo fn bl cl⟩ G (JX k) (cxD P w K mg base N qual (u6 st) fa cdv A outer s H E) (λ _=>E):=by
    refine⟨rfl,FS.nd,λ y hy=>?_,λ y hy=>?_,λ y hy=>⟨?_,.inl rfl⟩,λ y hy=>hy,λ y hy=>hy,rfl,hr.units,mq hT hs ih.1 hr,hbl,zh.s,hcon,λ _=>PassesOwn.leaving,hxf,λ _=>⟨rfl,rfl,rfl,zo⟩,λ z=>⟨(hlm z).1,⟨k,hr,(ih.2 z).1,(ih.2 z).2⟩,λ _=>by
      obtain⟨c,P,q1,q2,q3⟩:=(hlm z).2.2 i d x qual st fa fd h1 h2 hqx F;subst hqx;obtain⟨t1,t2⟩:=GG hdq;rw[t1]at q3;exact⟨c,P,hcd.symm.trans q1,q2,q3,t2⟩⟩,(λ pr bd sc cap z=>GI (hcl d (J9 h1)) z),λ _ z=>nomatch z⟩
    ·unfold visB at hy;simp only[D8,g9]at hy;rcases hy with(hy | hy) | hy
     ·exact .inl hy
     ·exact .inr (.inl hy)
     ·exact .inr (.inr hy)
    ·unfold gloB at hy;rw[g9]at hy;exact hy
    ·unfold locB at hy;simp only[D8,g9]at hy;exact hy
   cases ho':evSs G (JX k) fu d.body (m7 d.n ds)with
   | none=>rw[ho']at e3'';cases e3''
   | some oo=>
    rw[ho']at e3'';refine⟨_,D5 d.body g hc ho',H,O,[],RSt.start hn e2 ho,(λ a ha=>(nomatch ha)),ho.ne,Same.refl H,?_⟩;cases oo with
    | nx δ=>cases e3'';exact λ σ' H' W R fr sm=>e4 .non H' sm (show Rep ⟨K,mg⟩ (L2.wo O H') .non .non by unfold Rep;rfl)
    | rt d fr=>cases e3'';exact λ v H' sm gt=>e4 v H' sm gt
    | ex c δ=>cases e3'';exact λ σ' H' W C hm R fr sm=>e4 H' C hm sm
noncomputable def okD(fn bl cl:ge Str)(d:FD)(N ps:ge Str)(st:Js):Bool:=
 (u6 st).kind == .function && !(u6 st).isCoroutine && !(u6 st).isGenerator&&O0 N&&(N.take ps.length==ps) &&
 ps.all (λ x=>(u6 st).names.lookup x==some .local||(u6 st).names.lookup x==some .cell)&&(u6 st).names.all (λ y=>!(y.2 == .free)) &&
 d.n==N.length&&d.np==ps.length&&G1 ⟨N,(u6 st).names,fn,bl,cl,true,true,cloB d.clo fn bl cl⟩ d.body (G5 st)
section
variable {P:Jq} {w:Jp} {K:Ju} {mg:Str->Ji Jj} {base h:Jm} {G:Gs} {T:ge FD} {fu:Nat} {fn bl cl:ge Str}
theorem GL{st:Js}{kV i:Jj}(X:K.In h)(E:h.Ns mainGlobals mg)(ok:okD fn bl cl d N ps st=true)
  (a:PySem.W.nsIn K mainGlobals x=some (KP f)) (l:K.lookup f=some ⟨o,n,.func (PySem.W.fnOf x x (P1 st) (G5 st) (u6 st) dV kV e pm j b i),g⟩)
  (c:PySem.W.codeIn K b x=true) (k:PySem.W.keepIn K (.ref f)=true)
  (p:L9 K (PySem.W.fnOf x x (P1 st) (G5 st) (u6 st) dV kV e pm j b i) ps [])
  (C:dqB x (u6 st).names=true:=by decide +kernel) :
  Stands K mg fn bl cl d x f (PySem.W.fnOf x x (P1 st) (G5 st) (u6 st) dV kV e pm j b i) ps:=by
 unfold okD at ok;simp only[f7,g9,t8,F6,D8,z8]at ok;obtain⟨⟨⟨⟨⟨⟨⟨⟨⟨B,A⟩,z⟩,y⟩,w⟩,v⟩,u⟩,r⟩,q⟩,m⟩:=ok;exact⟨PySem.W.mg_of X E a,k,p,q,x,st,N,rfl,⟨o,n,dV,kV,e,pm,j,b,i,g,rfl,l,c⟩,⟨B,A,z,bH y,w,v,u⟩,r,m,C⟩
theorem mr{st:Js}{kV g:Jj}(X:K.In h)(r:h.Ns mainGlobals mg)(ok:okD fn bl cl d N ps st=true)
  (a:PySem.W.nsIn K mainGlobals x=some (KP f)) (l:K.lookup f=some ⟨o,n,.func (PySem.W.fnOf x x (P1 st) (G5 st) (u6 st) .none kV e pm i b g),m⟩)
  (c:PySem.W.codeIn K b x=true) (k:PySem.W.keepIn K (.ref f)=true)
  (p:∀(kV e pm:Jj) (i:Ji Jl) (b g:Jj) (j:ge Jj),j.length=ps.length->bindArgs (PySem.W.fnOf x x (P1 st) (G5 st) (u6 st) .none kV e pm i b g) ⟨j,[]⟩=pure (ps.zip j)) (q:dqB x (u6 st).names=true:=by decide +kernel) :
  Stands K mg fn bl cl d x f (PySem.W.fnOf x x (P1 st) (G5 st) (u6 st) .none kV e pm i b g) ps:=
 GL X r ok a l c k (.all (p kV e pm i b g)) q
def HS(K:Ju)(mg:Str->Ji Jj)(fn bl cl:ge Str)(T:ge FD)(fs:ge Str):Prop:=∀(i:Nat) d x,T[i]? = some d->fs[i]? = some x->∃fa fd ps,Stands K mg fn bl cl d x fa fd ps
theorem GM:HS K mg fn bl cl [] fs:=λ i d x h=>by cases h
theorem t7(h:Stands K mg fn bl cl d x e fd ps)(t:HS K mg fn bl cl T fs):HS K mg fn bl cl (d::T) (x::fs):=λ i f c b a=>by
 cases i with
 | zero=>cases b;cases a;exact⟨_,_,_,h⟩
 | succ i=>exact t i f c b a
theorem GN:L2.wo [] H=H:=by
 funext b
 unfold L2.wo;simp
def HC(K:Ju)(mg:Str->Ji Jj)(c:ge (Str×DV)):Prop:=∀x d,c.lookup x=some d->∃u v,mg x=some u/\RelV v u/\∀H,Rep ⟨K,mg⟩ H d v
theorem GO:HC K mg []:=λ x d h=>by cases h
theorem tJ(h:∃u v,mg y=some u/\RelV v u/\∀H,Rep ⟨K,mg⟩ H d v)(t:HC K mg c):HC K mg ((y,d)::c):=λ x a q=>by
 rw[F0]at q;split at q
 ·rename_i e;cases q
  rwa [bg e]
 ·exact t x a q
def OneL(K:Ju)(mg:Str->Ji Jj)(G:Gs)(cl:ge Str)(l:ge (Str×ge Str)):Prop:=∀c,(l.lookup c).isSome=true->∃C,XOne K mg G cl c C
theorem GP:OneL K mg G cl []:=λ c h=>by cases h
theorem hW(h:∃C,XOne K mg G cl c C)(t:OneL K mg G cl l):OneL K mg G cl ((c,b)::l):=λ a q=>by
 rw[F0]at q;split at q
 ·rename_i e
  rwa [bg e]
 ·exact t a q
def AllL(mg:Str->Ji Jj)(l:ge Str):Prop:=∀t∈l,∃Ct,mg t=some (JR Ct)
theorem GQ:AllL mg []:=λ t h=>by cases h
theorem all_cons(h:∃b,mg t=some (.ref b))(r:AllL mg l):AllL mg (t::l):=λ a q=>by
 rcases h8.mp q with e | e
 ·rwa [e]
 ·exact r a e
def OwnL(K:Ju)(mg:Str->Ji Jj)(G:Gs)(c:Str)(C:Jl)(l:ge Str):Prop:=∀t∈l,∀Ct,mg t=some (JR Ct)->PySem.W.kitOne K (.ref C) (JR Ct)=some (P4 G c t)/\PySem.W.exmOne K (.ref C) (JR Ct)=some (P4 G c t)
theorem hY:OwnL K mg G c C []:=λ t h=>by cases h
theorem H9(m:mg t=some (JR Ct))(h:PySem.W.kitOne K (.ref C) (JR Ct)=some (P4 G c t)/\PySem.W.exmOne K (.ref C) (JR Ct)=some (P4 G c t))(r:OwnL K mg G c C l):OwnL K mg G c C (t::l):=λ d q a b=>by
 rcases h8.mp q with e | e
 ·subst e;cases m.symm.trans b;exact h
 ·exact r d e a b
noncomputable def spS(K:Ju):Sp:=λ vs H Q _=>∃(a:Jl) (ns:ge Int),vs=[.ref a]/\ns.length<=63/\SqS K H a (ns.map V.int)/\∀H',Q (.bl true) H'
theorem GR(hT:T.length=fn.length)(O:HS K mg fn bl cl T fn)(F:∀x∈bl,mg x=none)(y:XFacts K mg G cl)
  (l:KJ) (h1:T[i]? = some d) (h2:fn[i]? = some x) (S:Stands K mg fn bl cl d x m fd [p])
  (B:G.fnl.isEmpty=false->(G.fnl=fn/\G.bll=bl/\G.cll=cl)/\T.length<=gb/\∀(i:Nat) (d:FD) (x b:Str) (st:Js) (m:Jl) (fd:Jt),T[i]? = some d->fn[i]? = some x->b=x->FunD K x b st m fd->∃c P,fd.code=.ref c/\(∀h:Jm,K.In h->PySem.W.CodeHd h c P)/\(P,tagQ b)∈x4 K) (C:∀d∈T,d.clo=none\/d.clo=G.clo)
  (o:∀j:ge Int,j.length<=63->run G T fu k i [.scr j]=some (.v (.bl true) false)):FnOk P w K mg base CX0 k m fd [p] (spS K):=by
 refine⟨λ L H Q E h=>?_,λ A f s H n M L Q E R X Y hv h=>?_⟩
 ·obtain⟨a,j,rfl,_⟩:=h;rfl
 ·obtain⟨a,j,rfl,W,hS,U⟩:=h;refine N4 (((tI hT O F y l B C k).1 i d x m fd [p] h1 h2 S).run A f s H n M _ Q E0 R X Y hv ⟨[],[.scr j],_,(λ a Z=>(nomatch Z)),rfl,?_,o j W,λ v J _ g=>?_⟩) λ r N q=>?_
  ·refine RepL.one (X7.mpr ⟨a,rfl,?_⟩);rw[GN];exact hS
  ·have I:Rep ⟨K,mg⟩ (L2.wo [] J) _ v:=g;rw[au]at I;subst I;exact U J
  ·cases r with
   | error e=>
    obtain⟨_,_,_,_,_,_,_,_,_,_,z⟩:=(q:CXx P w base f H s E0 e N);exact z.elim
   | ok fl=>cases fl<;>first | exact False.elim q | exact q
end
theorem walkE{l:PySem.W.OpenLaw}{XP:(Str->Ji Jj)->Jm->Prop}{K:Params->Ju}(r:l.most=some 63)(g:d.params.defaults=[])(o:Room k callerA)
  (x:∀(w:Jp) (h:Jm),YP w h->(K w.params).In h) (e:∀(w:Jp) (h:Jm),YP w h->(∀p∈x4 (K w.params),(K w.params).lookup p.1=none/\h.get? p.1=some {cls:=.none,data:=.fields #[]} /\ isCodeTable h p.1)/\((x4 (K w.params)).map (·.1)).Nodup)
  (F:∀(w:Jp) (c:Str->Ji Jj) (j:Jl) (h:Jm),(K w.params).In h->h.Ns mainGlobals c->c d.name=some (.ref j) ->
   ∃i:Jt,(∀(s:Jk) (u:Jj),BindsTo s i ⟨[u],[]⟩ [(p,u)])/\∀b:Jm,(K w.params).In b->b.Ns mainGlobals c->FnOk l.prog w (K w.params) c b CX0 k j i [p] (spS (K w.params))) :
  PySem.W.WalkO q loose XP YP l.row.toRowW d [] (λ f m=>PySem.call f m):=
 L2.walk_of r JB g o x e F (λ _ _ a n v A y=>⟨a,n,rfl,v,SqS.of A y,λ _=>rfl⟩) λ _ _ _ _ _ z=>z
noncomputable def tK(K:Ju)(o:Obj)(c:Jl):Ji Jl:=match o.cls,o.data with
 | .type "code",.fields vs=>(match(vs[11]?:Ji Jj),(vs[18]?:Ji Jj),(vs[7]?:Ji Jj),(vs[9]?:Ji Jj),(vs[10]?:Ji Jj)with
  | some (.ref P),some (.str _ _),some (.int _ _),some (.bool _),some (.int _ _)=>if(c==P)=false/\(K.lookup P).isNone=true then some P else none
  | _,_,_,_,_=>none)
 | _,_=>none
def GS(K:Ju):Bool:=K.all λ p=>match p.2.data with
 | .func fd=>(match fd.code with
  | .ref c=>(match K.lookup c with | some o=>(tK K o c).isSome | none=>true)
  | _=>true)
 | _=>true
theorem dL{vs:Jo Jj}(h:vs[i]? = some v):vs.getD i .none=v:=by
 rw[aM,h];rfl
theorem GT{K:Ju}{st:Js}(R:GS K=true)(F:FunD K x f st W fd):∃c P,fd.code=.ref c/\(∀h:Jm,K.In h->PySem.W.CodeHd h c P)/\(P,tagQ f)∈x4 K:=by
 obtain⟨oc,od,dV,kV,Y,pm,an,w,ct,H,e,I,g⟩:=F.ex;have j:fd.code=w:=by rw[e]
 have q:=F6.mp R _ (cM I);dsimp only at q;unfold PySem.W.codeIn at g;split at g
 ·rename_i c;rw[j]at q;dsimp only at q;split at g
  ·rename_i cls Z y sl p;rw[p]at q;dsimp only at q;obtain⟨P,i⟩:=Z2.mp q;unfold tK at i;split at i
   ·rename_i B A S;have u:=(by have:=S;injection this);subst u;split at i
    ·rename_i P' k E U m b C l o O N M L;split at i
     ·rename_i d;cases i;split at g
      ·rename_i a n t r hv;have Q:=g9.mp g;subst Q;have J:y[1]? = some (.str n t):=by rw[←J7,hv];rfl
       refine⟨c,P,j,λ h X=>⟨_,y,k,E,U,m,b,C,l,X _ _ p,A,rfl,o,dL o,dL O,dL N,dL M,dL L,λ z=>?_⟩,?_⟩
       ·rw[z]at d;have:=d.1;simp at this
       ·unfold x4;refine aQ.mpr ⟨_,cM p,?_⟩;have v:=A;subst v;simp only[o,J,d.2,if_true]
      ·cases g
     ·cases i
    ·cases i
   ·cases i
  ·cases g
 ·cases g
theorem GU{K:Ju}(h:p∈x4 K):∃(c:Jl) (a:Obj) (vs:Jo Jj),(c,a)∈K/\a.cls=.type "code" /\ a.data=.fields vs/\vs[11]? = some (JR p.1)/\K.lookup p.1=none:=by
 unfold x4 at h;obtain⟨⟨c,a⟩,d,e⟩:=aQ.mp h;dsimp only at e;split at e
 ·rename_i vs g f;split at e
  ·rename_i P q t b k2;split at e
   ·rename_i z;cases e;exact⟨c,a,vs,d,g,f,b,nO.mp z⟩
   ·cases e
  ·cases e
 ·cases e
theorem GV{K:Ju}(f:(K.map (·.1)).Nodup)(h:(c,o)∈K):K.lookup c=some o:=by
 induction K with
 | nil=>cases h
 | cons y l g=>
  rw[A4]at f;have d:=N1.mp f;obtain⟨a,b⟩:=y;rw[F0];rcases h8.mp h with z | z
  ·cases z;rw[Q5]
  ·have:c≠a:=λ e=>d.1 (by rw[←e];exact i4.mpr ⟨_,z,rfl⟩);rw[z8.mpr this];exact g d.2 z
theorem htb_of{K T:Ju}(i:K.In h)(f:T.In h)(e:(K.map (·.1)).Nodup)(j:(x4 K).map (λ p=>T.lookup p.1)=(x4 K).map λ _=>some {cls:=.none,data:=.fields #[]}) :
  ∀p∈x4 K,K.lookup p.1=none/\h.get? p.1=some {cls:=.none,data:=.fields #[]} /\ isCodeTable h p.1:=λ p a=>by
 obtain⟨c,d,b,g,n,m,l,k⟩:=GU a;exact⟨k,f _ _ (List.map_inj_left.mp j p a),c,d,b,i _ _ (GV e g),n,m,l⟩
theorem in_app{K:Ju}(X:PySem.W.Frag.In (T++K) h)(f:(K.map (·.1)).all (λ a=>(T.lookup a).isNone)=true):K.In h/\T.In h:=by
 have c:∀(T K:Ju) a,(T++K).lookup a=(T.lookup a).or (K.lookup a):=λ T K a=>by
  induction T with
  | nil=>simp
  | cons y l d=>
   obtain⟨b,v⟩:=y;rw[List.cons_append,F0,F0];cases hb:a==b with
   | true=>rfl
   | false=>
    exact d
 refine⟨λ a o e=>X a o ?_,λ a o e=>X a o ?_⟩
 ·rw[c,nO.mp (F6.mp f a (i4.mpr ⟨_,cM e,rfl⟩)),e];rfl
 ·rw[c,e];rfl
end L2
end
noncomputable section
namespace k22
open PySem L2
noncomputable def tL:FD:={n:=3,np:=3,body:=[.ret (.and [.isi (.var 0) ["int"],.not (.isi (.var 0) ["bool"]),.chain .LtE .LtE (.var 1) (.var 0) (.var 2)])]}
noncomputable def tM:FD:={n:=1,np:=1,body:=[.ret (.bi .tuple [.comp (.bi .tuple [.comp (JQ 0 (.var 1)) (.one 0) (.var 1) [none,some 0]]) (.one 0) (.rng [.bi .len [.ix (.var 0) (.int 0)]]) [none,some 0]])]}
noncomputable def tN:FD:={n:=3,np:=3,body:=[.exp (.call 3 [.var 1,.bi .len [.var 0]]),.exp (.call 3 [.var 2,.bi .len [.ix (.var 0) (.int 0)]]),.ret (.call 5 [.var 0,.call 4 [.var 1],.call 4 [.var 2]])]}
def tO:FD:={n:=2,np:=2,body:=[.iff (.not (.call 0 [.var 0,.int 1,.bin .Sub (Lh (.var 1)) (.int 1)])) [.rse "NoCard" Le] []]}
noncomputable def mt:FD:={n:=1,np:=1,body:=[.ret (.compi (.var 0) (.one 0) (.rng [.meth .bitLength (.var 0) []]) (.bin .BitAnd (.bin .RShift (.var 1) (.var 0)) (.int 1)) [none,some 0])]}
noncomputable def tP:FD:={n:=3,np:=3,body:=[.ret (.bi .tuple [.comp (.bi .tuple [.comp (.ix (JQ 1 (.var 2)) (.var 0)) (.one 0) (.var 1) [none,some 2,some 0]]) (.one 0) (.var 1) [none,some 2,some 0]])]}
noncomputable def tQ:FD:={n:=1,np:=1,body:=[.ret (.comp (.idx (.var 1) (.var 0)) (.one 0) (.var 0) [none,some 0])]}
noncomputable def tR:FD:={n:=1,np:=1,body:=[.ret (.call 6 [.call 1 [.var 0]])]}
noncomputable def tS:FD:={n:=1,np:=1,body:=[.ret (.call 5 [.var 0,.bi .sset [.call 6 [.var 0]],.bi .sset [.call 7 [.var 0]]])]}
noncomputable def tU:FD:={n:=2,np:=1,body:=[.set 1 false (Lj 8 0),.ret (.and [.cmp .LtE (Km 1) (.glb "SMALL_LINES"),.cmp .LtE (Kf 1) (.glb "SMALL_LINES")])]}
def mu:FD:={n:=1,np:=1,body:=[.iff (.not (Lj 9 0)) [.rse "TooGreat" (.str "the table has more than five kinds of rows or of columns")] []]}
def mv:FD:={n:=3,np:=1,body:=[.set 1 true (.lst []),.fo (.one 2) (.var 0) [.ext 1 (.var 2)],.ret (.bi .sset [.var 1])]}
noncomputable def tV:FD:={n:=1,np:=1,body:=[.ret (.call 13 [.call 14 [.var 0]])]}
noncomputable def tW:FD:={n:=1,np:=1,body:=[.ret (.comp (.tup [.ix (.var 0) (.int 0),.ix (.var 0) (.int 1),.var 1]) (.many [0,1]) (.itm (.var 0)) [none,none])]}
noncomputable def tX:FD:={n:=1,np:=1,body:=[.ret (.call 16 [.var 0,.int 0,.glb "joined_bits"])]}
noncomputable def mw:FD:={n:=2,np:=2,body:=[.ret (.bin .Add (.int 1) (.bi .max [.var 0,.var 1]))]}
def GW:FD:={n:=8,np:=3,body:=[.exp (Lj 10 0),.set 3 false (Lj 8 0),.sep 4,.fo (.one 5) (.rng [.int 1,.bin .LShift (.int 1) (Km 3)]) [.fo (.one 6) (.rng [.int 1,.bin .LShift (.int 1) (Kf 3)]) [.iff (.cmp .Eq (.bi .len [.call 11 [.call 2 [.var 3,.var 5,.var 6]]]) (.int 1)) [.dpp 4 [.var 5,.var 6] (.var 1)] [.set 7 false (.call 17 [.var 5,.var 6]),.dpp 4 [.var 5,.var 6] (.bi .min [.comp (.callv 4 [("joined_bits",15)] [.dgp 5 (.var 2),.dgp 5 (.var 3)]) (.many [0,1,2,3]) (.var 7) [none,none,none,none,some 2,some 4]])]]],.retd 4]}
noncomputable def mx:FD:={n:=4,np:=2,body:=[.set 2 false (.comp (.tup [.str "row",.var 0,.tup [.bin .Sub (.var 1) (.var 0),.var 2],.tup [.var 0,.var 2]]) (.one 0) (Lj 18 0) [none,some 0,some 1]),.set 3 false (.comp (.tup [.str "column",.var 0,.tup [.var 1,.bin .Sub (.var 2) (.var 0)],.tup [.var 1,.var 0]]) (.one 0) (Lj 18 1) [none,some 0,some 1]),.ret (.bin .Add (.var 2) (.var 3))]}
noncomputable def my:FD:={n:=1,np:=1,body:=[.ret (.compi (.var 0) (.one 0) (.rng [.int 1,.var 0]) (.and [.cmp .Eq (.bin .BitAnd (.var 0) (.var 1)) (.var 0),.cmp .Lt (.var 0) (.bin .Sub (.var 1) (.var 0))]) [none,some 0])]}
noncomputable def tY:FD:={n:=1,np:=1,body:=[.ret (.ix (.ix (Lj 12 0) (.neg (.int 1))) (.int 2))]}
noncomputable def tZ:FD:={n:=1,np:=1,body:=[.ret (.call 21 [.var 0,.call 14 [.var 0],.glb "joined_bits"])]}
def clo:Ji CloD:=some ⟨["rows","columns","numbers","joined","rest","own","words","split","no","yes"],2,4,[.set 6 false (.call 11 [.call 2 [.var 4,.var 0,.var 1]]),.iff (.cmp .Eq (Km 6) (.int 1)) [.ret (.tup [.str "end",.ix (.var 6) (.int 0)])] [],.set 7 false (.mink (.call 17 [.var 0,.var 1]) ["way","joined","numbers"] 1 (.callv 1 [("joined_bits",15)] [.dix (.var 2) (JN 0 2),.dix (.var 2) (JN 0 3)]) [3,2]),.set 8 false (JN 7 2),.set 9 false (JN 7 3),.ret (.tup [.str "ask",.ix (.var 7) (.int 0),.call 23 [.ix (.var 7) (.int 1),.dix (.var 5) (JN 7 0)],.self 2 4 [.ix (.var 8) (.int 0),.ix (.var 8) (.int 1)],.self 2 4 [.ix (.var 9) (.int 0),.ix (.var 9) (.int 1)]])]⟩
def mz:FD:={n:=6,np:=3,clo:=clo,body:=[.set 3 false (Lj 8 0),.set 4 false (.dc2 "row" "column" (.call 22 [.call 6 [.var 0]]) (.call 22 [.call 7 [.var 0]])),.dfr 5 [1,2,3,4] [.bin .Sub (.bin .LShift (.int 1) (Km 3)) (.int 1),.bin .Sub (.bin .LShift (.int 1) (Kf 3)) (.int 1)]]}
noncomputable def mB:FD:={n:=1,np:=1,body:=[.ret (.comp (.bi .sum [.compi (Lh (.var 0)) (.many [0,1]) (.enu (.var 1)) (.cmp .Eq (.var 1) (.var 2)) [none,none,some 0]]) (.one 0) (.bi .sset [.var 0]) [none,some 0])]}
noncomputable def ua:FD:={n:=2,np:=2,body:=[.ret (.bi .sum [.comp (JQ 1 (.var 0)) (.one 0) (Lj 4 0) [none,some 1]])]}
noncomputable def GX:FD:={n:=1,np:=1,body:=[.ret (.and [.isi (.var 0) ["int"],.not (.isi (.var 0) ["bool"])])]}
noncomputable def ub:FD:={n:=2,np:=2,body:=[.iff (.cmp .Lt (.var 1) (Km 0)) [.ret (JQ 0 (.var 1))] [],.ret (.int 0)]}
def uc:FD:={n:=5,np:=2,body:=[.set 2 true (.lst []),.set 3 false (.bin .Add (.bin .Mod (.var 0) (Ke 2147483647)) (Ke 48271)),.fo (.one 4) (.rng [.var 1]) [.set 3 false (.bin .Mod (.bin .Add (.bin .Add (.bin .Mult (.var 3) (Ke 48271)) (.bin .Mult (.var 4) (.var 4))) (Ke 11)) (Ke 2147483647)),.app 2 (.bin .FloorDiv (.var 3) (.int 7))],.ret (.var 2)]}
def dM:FD:={n:=10,np:=3,body:=[.set 3 false (.ix (.lst [.int 4,.int 4,.int 4,.int 4,.int 4,.int 4,.int 4,.int 5]) (.bin .Mod (JN 2 0) (.int 8))),.set 4 false (.bin .Add (.int 1) (.bin .Mod (JN 2 1) (.var 3))),.set 5 false (.bin .Add (.int 1) (.bin .Mod (.ix (.var 2) (.int 2)) (.var 3))),.set 6 false (.ix (.lst [.int 2,.int 3,.int 10,.int 2]) (.bin .Mod (JN 2 3) (.int 4))),.set 7 true (.comp (.bin .Mod (.var 0) (.var 1)) (.one 0) (.call 26 [.call 25 [.var 0,.int 1],.bin .Mult (.var 4) (.var 5)]) [none,some 6]),.fo (.one 8) (.rng [.bi .min [.bin .Mult (.var 4) (.var 5),.bin .Sub (Km 0) (.var 1)]]) [.seti 7 (.var 8) (.bin .Mod (JQ 0 (.bin .Add (.var 1) (.var 8))) (.var 6))],.set 9 false (.comp (.sl (.var 1) (.bin .Mult (.var 0) (.var 2)) (.bin .Add (.bin .Mult (.var 0) (.var 2)) (.var 2))) (.one 0) (.rng [.var 4]) [none,some 7,some 5]),.iff (.cmp .Eq (.bin .Mod (JN 2 4) (.int 8)) (.int 1)) [.set 9 false (KG (.bi .int [.cmp .Eq (.var 1) (.var 0)]))] [],.iff (.cmp .Eq (.bin .Mod (JN 2 4) (.int 8)) (.int 2)) [.set 9 false (KG (.bi .int [.cmp .Lt (.var 1) (.var 0)]))] [],.iff (.cmp .Eq (.bin .Mod (JN 2 4) (.int 8)) (.int 3)) [.set 9 false (.comp (.comp (.bin .Mod (JN 1 5) (Ke 10)) (.one 0) (.rng [.var 1]) [none,some 2]) (.one 0) (.rng [.var 4]) [none,some 5,some 2])] [],.ret (.var 9)]}
def ud:FD:={n:=7,np:=2,body:=[.set 2 false (.call 26 [.call 25 [.var 0,.int 0],.int 24]),.set 3 false (.call 27 [.var 0,.var 1,.var 2]),.fo (.one 4) (.rng [.bin .Mod (JN 2 6) (.int 5)]) [.iff (.and [.cmp .Lt (Km 3) (.int 8),.cmp .Eq (.bin .Mod (JQ 2 (.bin .Add (.int 7) (.var 4))) (.int 2)) (.int 0)]) [.set 5 false (.bin .Mod (JQ 2 (.bin .Add (.int 12) (.var 4))) (.bin .Add (Km 3) (.int 1))),.set 3 false (.bin .Add (.bin .Add (.slt (.var 3) (.var 5)) (.lst [.ix (.var 3) (.bin .Mod (JQ 2 (.bin .Add (.int 17) (.var 4))) (Km 3))])) (.slf (.var 3) (.var 5)))] [.iff (.cmp .Lt (Kf 3) (.int 8)) [.set 5 false (.bin .Mod (JQ 2 (.bin .Add (.int 12) (.var 4))) (.bin .Add (Kf 3) (.int 1))),.set 6 false (.bin .Mod (JQ 2 (.bin .Add (.int 17) (.var 4))) (Kf 3)),.set 3 false Kv] []]],.ret (.bi .tuple [.comp (.bi .tuple [.var 0]) (.one 0) (.var 3) [none]])]}
noncomputable def bI:FD:={n:=3,np:=1,body:=[.set 1 false (.bin .Add (.int 6) (.bin .Mod (.var 0) (.int 3))),.set 2 false (.comp (.comp (.bin .Mod (.bin .RShift (.var 1) (.var 0)) (.int 2)) (.one 0) (.rng [.int 3]) [none,some 0]) (.one 0) (.rng [.var 1]) [none]),.iff (.cmp .Eq (.bin .Mod (.bin .FloorDiv (.var 0) (.int 3)) (.int 2)) (.int 0)) [.set 2 false (.comp (.comp (.bi .int [.cmp .Eq (.var 1) (.var 0)]) (.one 0) (.rng [.var 1]) [none,some 0]) (.one 0) (.rng [.var 1]) [none,some 1])] [],.iff (.cmp .Eq (.bin .Mod (.bin .FloorDiv (.var 0) (.int 6)) (.int 2)) (.int 1)) [.set 2 false (.comp (.comp (JQ 0 (.var 1)) (.one 0) (.var 1) [none,some 0]) (.one 0) (.rng [.bi .len [.ix (.var 2) (.int 0)]]) [none,some 2])] [],.ret (.bi .tuple [.comp (.bi .tuple [.var 0]) (.one 0) (.var 2) [none]])]}
noncomputable def GY:FD:={n:=4,np:=3,body:=[.wh (.cmp .Eq (.ix (.var 0) (.int 0)) (.str "ask")) [.set 3 false (.var 1),.iff (.cmp .Eq (JN 0 1) (.str "column")) [.set 3 false (.var 2)] [],.set 0 false (.ix (.var 0) (.bin .Add (.int 3) (.bin .BitAnd (.bin .RShift (JN 0 2) (.var 3)) (.int 1))))],.ret (JN 0 1)]}
noncomputable def dN:FD:={n:=4,np:=3,body:=[.iff (.or [.not (.isi (.var 0) ["tuple"]),.cmp .Lt (.var 1) (.int 0)]) [.ret KI] [],.iff (.cmp .Eq (Km 0) (.int 2)) [.ret (.and [.cmp .Eq (.ix (.var 0) (.int 0)) (.str "end"),.call 24 [.ix (.var 0) (.int 1)],.chain .LtE .LtE (.int 0) (JN 0 1) (.int 9)])] [],.iff (.or [.cmp .NotEq (Km 0) (.int 5),.cmp .NotEq (.ix (.var 0) (.int 0)) (.str "ask"),.cmp .NotIn (JN 0 1) (.tup [.str "row",.str "column"]),.not (.call 24 [.ix (.var 0) (.int 2)])]) [.ret KI] [],.set 3 false (Km 2),.iff (.cmp .Eq (JN 0 1) (.str "column")) [.set 3 false (Kf 2)] [],.iff (.or [.cmp .Lt (JN 0 2) (.int 1),.cmp .GtE (JN 0 2) (Lh (.var 3))]) [.ret KI] [],.ret (.and [.call 31 [.ix (.var 0) (.int 3),.bin .Sub (.var 1) (.int 1),.var 2],.call 31 [.ix (.var 0) (.int 4),.bin .Sub (.var 1) (.int 1),.var 2]])]}
noncomputable def GZ:FD:={n:=1,np:=1,body:=[.iff (.cmp .Eq (.ix (.var 0) (.int 0)) (.str "end")) [.ret (.int 0)] [],.ret (.bin .Add (.int 1) (.bi .max [.call 32 [.ix (.var 0) (.int 3)],.call 32 [.ix (.var 0) (.int 4)]]))]}
def ue:FD:={n:=4,np:=2,body:=[.fo (.one 2) (.rng [.bi .len [.var 1]]) [.fo (.one 3) (.rng [.bi .len [.ix (.var 1) (.int 0)]]) [.iff (.cmp .NotEq (.call 30 [.var 0,.var 2,.var 3]) (.ix (JQ 1 (.var 2)) (.var 3))) [.ret KI] []]],.ret (.bl true)]}
noncomputable def uf:FD:={n:=3,np:=1,body:=[.set 1 false (.non),.tryc [.exp (Lj 20 0)] "TalkError" 2 1,.iff (.or [.cmp .Is (.var 1) (.non),.not (.isx (.var 1) "TooGreat"),.not (.isx (.var 1) "ValueError")]) [.ret KI] [],.ret (.and [.not (.isx (.var 1) "NoTable"),.not (.isx (.var 1) "NoCard")])]}
noncomputable def hZ:FD:={n:=6,np:=1,body:=[.set 1 false (.call 28 [.var 0,.int 2]),.set 2 false (Lj 20 1),.set 3 false (Lj 19 1),.iff (.or [.not (.call 31 [.var 2,.int 12,.var 1]),.not (.call 34 [.var 2,.var 1]),.not (Lj 24 3)]) [.ret KI] [],.iff (.or [.cmp .NotEq (Lj 32 2) (.var 3),.cmp .NotEq (.cmp .Eq (.var 3) (.int 0)) (.cmp .Eq (JN 2 0) (.str "end"))]) [.ret KI] [],.set 4 false (.bi .tuple [.comp (.rev (.var 0)) (.one 0) (.rev (.var 1)) [none]]),.set 5 false (Lj 20 4),.iff (.or [.not (.call 31 [.var 5,.int 12,.var 4]),.not (.call 34 [.var 5,.var 4]),.cmp .NotEq (Lj 32 5) (.var 3)]) [.ret KI] [],.iff (.not (.call 35 [.call 29 [.call 25 [.var 0,.int 1]]])) [.ret KI] [],.ret (.and [.cmp .Eq (Lj 20 1) (.var 2),.cmp .Eq (Lj 19 4) (.var 3)])]}
def T:ge FD:=[tL,tM,tN,tO,mt,tP,tQ,tR,tS,tU,mu,mv,tV,tW,tX,mw,GW,mx,my,tY,tZ,mz,mB,ua,GX,ub,uc,dM,ud,bI,GY,dN,GZ,tL,ue,uf,hZ]
noncomputable def fnl:ge Str:="is_int" :: "flipped" :: "cut" :: "check_cards" :: "cards_in" :: "crossing" :: "row_kinds" :: "column_kinds" :: "trimmed" :: "is_small" :: "check_small" :: "words_in" :: "bits_paper" :: "paper" :: "bits_numbers" :: "joined_bits" :: "least_numbers" :: "splits" :: "halves" :: "least_bits" :: "least_plan" :: "plan_by" :: "sets_of_kinds" :: "widened" :: "_law_int" :: "_law_cell_at" :: "_law_stream" :: "_law_core" :: "_law_table" :: "_law_great" :: "_law_reached" :: "_law_is_plan" :: "_law_deep" :: "is_int" :: "_law_settles" :: "_law_refused" :: "law" :: []
noncomputable def bll:ge Str:="isinstance" :: "int" :: "bool" :: "tuple" :: "range" :: "len" :: "sorted" :: "set" :: "max" :: "min" :: "sum" :: "enumerate" :: "ValueError" :: []
noncomputable def cll:ge Str:="TalkError" :: "NoTable" :: "NoCard" :: "TooGreat" :: []
def G:Gs:={con:=[("SMALL_LINES",.int 5),("joined_bits",.fn "joined_bits")],cls:=[("TalkError",["ValueError","Exception","BaseException","object"]),("NoTable",["TalkError","ValueError","Exception","BaseException","object"]),("NoCard",["TalkError","ValueError","Exception","BaseException","object"]),("TooGreat",["TalkError","ValueError","Exception","BaseException","object"])],clo:=clo,fnl:=fnl,bll:=bll,cll:=cll}
end k22
namespace k22
open PySem L2
theorem mD:run G T fu (k+1) 24 [.int x]=some (.v (.bl true) false):=by
 rw[p7 rfl rfl];rfl
theorem mE(a:ge Int)(j:Nat):∃v:Int,run G T fu (k+1) 25 [.scr a,.int j]=some (.v (.int v) false):=by
 rw[p7 rfl rfl];unfold ub;have c:∀F,evE G F (.cmp .Lt (.var 1) (Km 0)) _=some _:=λ F=>b_lt (f6 rfl) (rfl:evE G F (Km 0) [.val (.scr a),.val (.int j)]=some _)
 by_cases h:j<a.length
 ·refine⟨a[j],t4 (gf (o6 ((c _).trans (by rw[C5 JA]))) (p8 (v3 (q5 (f6 rfl) (f6 rfl) ?_))))⟩;show((C6 a.length (j:Int)).bind λ j=>a[j]?).map DV.int=_;unfold C6;rw[f8 (E8 j),f8 JA,A8];show(a[j]?).map DV.int=_;rw[k7 h];rfl
 ·exact⟨0,t4 (v5 (o6 ((c _).trans (by rw[E3 JA]))) (p8 rfl))⟩
theorem Ha(xs:ge Int)(v:Int):xs.map DV.int++[.int v]=(xs++[v]).map DV.int:=by rw[C4];rfl
theorem aG{n:Nat}(h:JC e cl (.int n))(hn:n<=1000):r6 (JP (.rng [e]))=some (.ok (upTo 0 n) .fresh):=by
 show r6 (Rs.thn _ _)=_;rw[g8 h k9,cT];have hs:(G6 (n:Int)&&decide ((n:Int)<=(o4:Int)))=true:=by rw[f7,O8];refine⟨?_,ba (show(n:Int)<=1000 by omega) JB⟩;unfold G6;rw[f7,O8,O8];exact⟨ba JB (E8 n),iV (show(n:Int)<=1000 by omega) JB⟩
 show r6 ((if G6 (n:Int)&&decide ((n:Int)<=(o4:Int))then some (upTo 0 (n:Int).toNat)else none).map λ a=>.ok _ .fresh)=_;rw[f8 hs,A8];rfl
theorem Hb{j:Nat}(hj:j<1000):P3 (j:Int) (j:Int)=true:=by unfold P3;simp;omega
theorem m48(x:Int):P3 x 48271=true:=by unfold P3;simp
theorem bJ(h:JC e c (.lst ds)):evE G F (.bi .tuple [e]) δ=some (.ok (.tup ds) c.item):=by
 show Rs.thn _ _=_;rw[g8 h k9];rfl
theorem dO(h:JC e c (.lst ds)):evE G F (.bi .len [e]) δ=some (.ok (Ke ds.length) .strong):=by
 show Rs.thn _ _=_;rw[g8 h k9];rfl
theorem V0(h:JC e c (.tup ds)):evE G F (.bi .len [e]) δ=some (.ok (Ke ds.length) .strong):=by
 show Rs.thn _ _=_;rw[g8 h k9];rfl
noncomputable def iD(r:ge Int):ge DV:=r.map DV.int
def rL(rows:JW):DV:=.lst (rows.map λ r=>.lst (iD r))
def tT(rows:JW):DV:=.tup (rows.map λ r=>.tup (iD r))
def Rect(n m:Nat)(rows:JW):Prop:=rows.length=n/\∀r∈rows,r.length=m
noncomputable def col(rows:JW)(j:Nat):ge Int:=rows.map λ r=>r.getD j 0
def flip(m:Nat)(rows:JW):ge (ge Int):=(JY m).map (col rows)
theorem mF{j:Nat}(h:j<r.length):ixD (.tup (iD r)) (.int j)=some (.int (r.getD j 0)):=by
 have a:(j:Int)<((r.map DV.int).length:Int):=by rw[g6];exact_mod_cast h
 unfold iD;simp only[ixD,atD,C6,f8 (E8 j),f8 a,N0,A8,p5,k7 h,N2,o8,ce]
theorem ug{j:Nat}(h:j<r.length):ixD (Kx (iD r)) (.int j)=some (.int (r.getD j 0)):=by
 have a:(j:Int)<((r.map DV.int).length:Int):=by rw[g6];exact_mod_cast h
 unfold iD;simp only[ixD,atD,C6,f8 (E8 j),f8 a,N0,A8,p5,k7 h,N2,o8,ce]
noncomputable def sub(rows:JW)(I J:ge Nat):ge (ge Int):=I.map λ i=>J.map λ j=>(rows.getD i []).getD j 0
theorem aH{i:Nat}(h:i<rows.length):ixD Lq (.int i)=some (.tup (iD (rows.getD i []))):=by
 have a:(i:Int)<((rows.map λ r=>DV.tup (iD r)).length:Int):=by rw[g6];exact_mod_cast h
 simp only[tT,ixD,atD,C6,f8 (E8 i),f8 a,N0,A8,p5,k7 h,N2,o8,ce]
theorem J6{rows:ge (ge Int)}(h:i<rows.length):rows.getD i []∈rows:=by
 rw[o8,k7 h];exact P0 h
theorem uh(n:Nat):∀r:ge Int,DV.plains n (iD r)=true
 | []=>by unfold iD;simp[DV.plains]
 | a::r=>by have q:=uh n r;unfold iD at q ⊢;rw[A4];unfold DV.plains;rw[q];cases n<;>rfl
theorem Hc(hw:r6 (JP it)=some (.ok ds cl))(b:cl ≠ .weak)(hl:ds.length<=o4)
  (h:∀d∈ds,∃a c,tg.bind d (w4 fr δ)=some a/\evE G F elt a=some (.ok (f d) c)/\stro (f d) c=true):evE G F (.comp elt tg it fr) δ=some (.ok (Kx (ds.map f)) .fresh):=by
 show Ri.thn _ _=_;rw[hw,cU,g7 (by rintro(z | z);exact b z;omega),jZ (λ d hd=>?_)]
 ·rfl
 ·obtain⟨a,c,i,g,e⟩:=h d hd;rw[i,N0,g];show(if stro (f d) c then some (Rc.item (f d))else none)=_;rw[f8 e]
theorem Hd(h:JC e cl (.int i))(a:i<=1000)(b : -1000<=i):r6 (JP (.rng [e]))=some (.ok (upTo 0 i.toNat) .fresh):=by
 show r6 (Rs.thn _ _)=_;rw[g8 h k9,cT];have hs:(G6 i&&decide (i<=(o4:Int)))=true:=by rw[f7,O8];refine⟨?_,ba a JB⟩;unfold G6;rw[f7,O8,O8];exact⟨ba JB b,iV a JB⟩
 show r6 ((if G6 i&&decide _ then some _ else none).map λ ds=>.ok _ .fresh)=_;rw[f8 hs];rfl
noncomputable def V1(n m:Nat)(ws:ge Int):ge (ge Int):=(JY n).map λ j=>(ws.drop (j*m)).take m
theorem He(h:ws.length=n*m):Rect n m (V1 n m ws):=by
 unfold V1;refine⟨by rw[g6,B7],λ r a=>?_⟩;obtain⟨j,b,rfl⟩:=i4.mp a;rw[E9,aa,h];have:(j+1)*m<=n*m:=Nat.mul_le_mul_right m (q9.mp b);rw[fA,cF]at this;omega
theorem Hf(g:JC a c (.lst ds))(e:JC b c1 (.int l))(f:JC d i (.int h)):evE G F (.sl a b d) δ=some (.ok (Kx (cutD ds (some l) (some h))) (Cl.anew c c)):=by
 show Re.thn _ _=_;rw[g,B3];show Re.thn _ _=_;rw[e,B3];show Re.thn _ _=_;rw[f];rfl
theorem Hg{m:Nat}(h:ws.length=n*m)(b:j<n):cutD (iD ws) (some ((j:Int)*m)) (some ((j:Int)*m+m))=iD ((ws.drop (j*m)).take m):=by
 have d:((j:Int)*m)=((j*m:Nat):Int):=by push_cast;rfl
 have c:((j:Int)*m+m)=((j*m+m:Nat):Int):=by push_cast;rfl
 have a:=(by have:(j+1)*m<=n*m:=Nat.mul_le_mul_right m b;rw[fA,cF]at this;exact this);have len:(iD ws).length=n*m:=by unfold iD;rw[g6,h]
 unfold cutD slIx;rw[c,d];simp only[len];rw[g7 JA,g7 JA,A8,A8,cq a,cq JA,show j*m+m - j*m=m by omega];unfold iD;rw[←fv,←fw]
theorem mG(h:j<n):C6 n (j:Int)=some j:=by
 unfold C6;rw[f8 (E8 j),f8 JA,A8]
theorem ui{es:ge ME}(h:Li):evE G F (.bi .min es) δ=minD l:=by
 have e:evE G F (.bi .min es) δ=Rs.thn _ _:=rfl;rw[e,h];rfl
theorem bK(R:Ks):Rect m n (flip m rows):=by
 unfold flip;refine⟨by rw[g6,B7],λ r a=>?_⟩;obtain⟨j,hj,rfl⟩:=i4.mp a;unfold col;rw[g6,R.1]
theorem mH{i:Nat}(h:i<rows.length):ixD (rL rows) (.int i)=some (.lst (iD (rows.getD i []))):=by
 have a:(i:Int)<((rows.map λ r=>DV.lst (iD r)).length:Int):=by rw[g6];exact_mod_cast h
 simp only[rL,ixD,atD,C6,f8 (E8 i),f8 a,N0,A8,p5,k7 h,N2,o8,ce]
theorem Hh{es:ge ME}(h:Li)(a:l.length<=o4)(hs:stros l=true):evE G F (Kx es) δ=some (.ok (.lst (l.map (·.1))) .fresh):=by
 have e:evE G F (Kx es) δ=Rs.thn _ _:=rfl;rw[e,h,cT,f8 a,hs];rfl
noncomputable def nD(l:ge Nat):ge DV:=l.map λ (j:Nat)=>DV.int (j:Int)
theorem uj{c:Type}[BEq c][LawfulBEq c]{f:c->DV}(d:∀a b,deq (f a) (f b)=(a==b))(r:c):∀{l:ge c},r∈l->N5 (f r) (l.map f)=some (l.idxOf r)
 | a::l,g=>by
  rw[A4];unfold N5;rw[d,List.idxOf_cons];cases h:(a==r)with
  | true=>rfl
  | false=>
   have i:r∈l:=by
    rcases h8.mp g with e | e
    ·subst e;simp at h
    ·exact e
   rw[uj d r i];rfl
theorem uk:∀a b:ge Int,deqs (iD a) (iD b)=(a==b)
 | [],[]=>rfl
 | [],_::_=>rfl
 | _::_,[]=>rfl
 | x::a,y::b=>by have c:=uk a b;unfold iD at c ⊢;rw[A4,A4];unfold deqs;rw[c];unfold deq;rfl
theorem Hi(a b:ge Int):deq (.tup (iD a)) (.tup (iD b))=(a==b):=uk a b
theorem ul:∀{l:ge DV},(∀d∈l,d.plain n=true)->DV.plains n l=true
 | [],_=>by unfold DV.plains;rfl
 | d::r,h=>by unfold DV.plains;rw[h d (n9 ..),ul λ x a=>h x (n6 _ a)];rfl
theorem um(n:Nat)(a:ge Int):DV.plain (n+1) (.tup (iD a))=true:=uh n a
theorem uo(n:Nat)(a:Int):DV.plain n (.int a)=true:=by cases n<;>(unfold DV.plain;rfl)
theorem Hj(n:Nat)(rows:JW):DV.plains (n+1) (rows.map λ r=>.tup (iD r))=true:=ul λ d a=>by
 obtain⟨r,_,rfl⟩:=i4.mp a;exact um n r
theorem Hk{rows:ge (ge Int)}(h:r∈rows)(a:rows.length<=1000):idxD (.tup (rows.map λ r=>.tup (iD r))) (.tup (iD r))=some (.int (rows.idxOf r:Nat)):=by
 unfold idxD;dsimp;rw[um 59,Hj 59,C5 (by rw[g6];exact i7 a JB),uj Hi r h];rfl
theorem Hl(e:Kh a (.ok x cx))(hs:seqB x=true)(c:Kh b (.ok y cy))(h:idxD x y=some d):evE G F (.idx a b) δ=some (.ok d .strong):=by
 show Re.thn _ _=_;rw[e,B3,f8 hs,c,B3,h];rfl
theorem uq{b:Type}{h f:b->DV}:∀{l:ge b},(∀a∈l,g (h a)=some (.item (f a)))->x5 g (l.map h)=some (l.map f)
 | [],_=>rfl
 | a::r,q=>by rw[A4,A4];unfold x5;rw[q a (n9 ..)];show(match x5 g _ with | none=>none | some xs=>some _)=_;rw[uq λ x c=>q x (n6 _ c)]
theorem G2{e:Type}{l:ge e}{h f:e->DV}(hw:r6 (JP it)=some (.ok (l.map h) cl))(g:cl ≠ .weak)(hl:l.length<=o4)
  (q:∀a∈l,∃d c,tg.bind (h a) (w4 fr δ)=some d/\evE G F elt d=some (.ok (f a) c)/\stro (f a) c=true):evE G F (.comp elt tg it fr) δ=some (.ok (Kx (l.map f)) .fresh):=by
 show Ri.thn _ _=_;rw[hw,cU,g7 (by rintro(z | z);exact g z;rw[g6]at z;omega),uq (λ a i=>?_)]
 ·rfl
 ·obtain⟨d,c,m,k,j⟩:=q a i;rw[m,N0,k];show(if stro (f a) c then some (Rc.item (f a))else none)=_;rw[f8 j]
theorem ur{j:Nat}(b:rows.length<=1000)(w:r6 (evE G F (.var 1) [.val (Ke (j:Int)),.val d])=some (JT (rows.map h)))(c:∀r∈rows,ixD (h r) (.int j)=some (Ke (r.getD j 0))):evE G F (.comp (JQ 0 (.var 1)) (.one 0) (.var 1) [none,some 0]) [.val (.int j),.val d]=some (.ok (Kx (iD (col rows j))) .fresh):=by
 rw[G2 w JB (i7 b JB) λ r a=>⟨[.val (h r),.val _],.strong,rfl,q5 (f6 rfl) (f6 rfl) (c r a),rfl⟩];unfold iD col;rw[p9];rfl
theorem Hm(rows:JW)(m j:Nat)(b:∀r∈rows,r.length=m)(d:j<m)(c:rows.length<=1000):evE G F (.comp (JQ 0 (.var 1)) (.one 0) (.var 1) [none,some 0]) [.val (.int j),.val Lq]=some (.ok (Kx (iD (col rows j))) .fresh):=ur c rfl λ r a=>mF (by rw[b r a];exact d)
theorem Hn(rows:JW)(m j:Nat)(hm:∀r∈rows,r.length=m)(hj:j<m)(a:rows.length<=1000):evE G F (.comp (JQ 0 (.var 1)) (.one 0) (.var 1) [none,some 0]) [.val (.int j),.val (rL rows)]=some (.ok (Kx (iD (col rows j))) .fresh):=ur a rfl λ r hr=>ug Kz
theorem Ho{n:Nat}(h:JC e c (.int (n:Int)))(a:n<=1000):r6 (JP (.rng [e]))=some (.ok ((JY n).map λ (j:Nat)=>DV.int (j:Int)) .fresh):=by
 rw[aG h a];unfold L2.upTo
 congr 2
 apply L0;intro j _
 congr 1
 omega
theorem Hq(rows:JW)(n m:Nat)(R:Ks)(g:0<n)(d:n<=1000)(c:m<=1000):run G T fu (k+1) 1 [tT rows]=some (.v (tT JJ) false):=by
 rw[p7 rfl rfl];have e:0<rows.length:=by rw[R.1];exact g
 have f:=V0 (F:=run G T fu k) (δ:=m7 1 [tT rows]) (q5 (a:=.var 0) (b:=.int 0) (cx:=.strong) (f6 rfl) (i5 (i:=((0:Nat):Int))) (aH e));rw[show(iD (rows.getD 0 [])).length=m by unfold iD;rw[g6];exact R.2 _ (J6 e)]at f;have l:=G2 (tg:=.one 0) (fr:=[none,some 0]) (Ho f c) JB (by rw[B7];exact i7 c JB) λ j h=>
  ⟨[.val _,.val _],.strong,rfl,bJ (Hm rows m j R.2 (q9.mp h) (by rw[R.1];exact d)),rfl⟩
 unfold tM;refine t4 (p8 (v3 (cl:=.strong) ((bJ l).trans ?_)));unfold tT flip;rw[p9];rfl
theorem ut(rows:JW)(n m:Nat)(R:Ks)(I J:ge Nat)(o:∀i∈I,i<n)(h:∀j∈J,j<m)(d:I.length<=1000)(b:J.length<=1000):run G T fu (k+1) 5 [tT rows,.lst (nD I),.lst (nD J)]=some (.v (tT (sub rows I J)) false):=by
 rw[p7 rfl rfl];have p:=G2 (F:=run G T fu k) (δ:=m7 3 [tT rows,.lst (nD I),.lst (nD J)]) (l:=I) (f:=λ i=>.tup (iD (J.map λ j=>(rows.getD i []).getD j 0))) (elt:=.bi .tuple [.comp (.ix (JQ 1 (.var 2)) (.var 0)) (.one 0) (.var 1) [none,some 2,some 0]]) (tg:=.one 0) (it:=.var 1) (fr:=[none,some 2,some 0]) rfl JB (i7 d JB) λ i g=>by
  refine⟨[.val (Ke (i:Int)),.val (Kx (nD J)),.val Lq],.strong,rfl,bJ (c:=.fresh) ?_,rfl⟩;have a:i<rows.length:=by rw[R.1];exact o i g
  rw[G2 (l:=J) rfl JB (i7 b JB) λ j e=>⟨[.val (Ke (j:Int)),.val Lq,.val (Ke (i:Int))],.strong,rfl,q5 (q5 (cx:=.strong) (f6 rfl) (f6 rfl) (aH a)) (f6 rfl) (mF (by rw[R.2 _ (J6 a)];exact h j e)),rfl⟩];unfold iD;rw[p9];rfl
 unfold tP;refine t4 (p8 (v3 (cl:=.strong) ((bJ p).trans ?_)));unfold tT sub;rw[p9];rfl
noncomputable def kI(rows:JW):ge Int:=rows.map λ r=>((rows.idxOf r:Nat):Int)
theorem mI(rows:JW)(a:rows.length<=1000):run G T fu (k+1) 6 [tT rows]=some (.v (Kx (iD (kI rows))) true):=by
 rw[p7 rfl rfl];unfold tQ;have e:=G2 (F:=run G T fu k) (δ:=m7 1 [tT rows]) (elt:=.idx (.var 1) (.var 0)) (tg:=.one 0) (it:=.var 0) (fr:=[none,some 0]) rfl JB (i7 a JB) (λ r b=>⟨[.val (.tup (iD r)),.val Lq],.strong,rfl,Hl (f6 rfl) rfl (f6 rfl) (Hk b a),rfl⟩);have c:(rows.map λ r=>DV.int ((rows.idxOf r:Nat):Int))=iD (kI rows):=by unfold iD kI;rw[p9];rfl
 rw[c]at e;exact t4 (p8 (v3 e))
theorem uu(n:Nat):upTo 0 n=nD (List.range n):=by
 unfold L2.upTo nD;apply L0;intro j _;rw[Int.zero_add]
theorem mJ:∀{l:ge Int},y∈insI x l↔y=x\/y∈l
 | []=>by simp[insI]
 | z::l=>by
  unfold insI;split
  ·simp
  ·rw[h8,mJ,h8];constructor<;>(rintro(h | h | h)<;>simp[h])
theorem mK:∀{l:ge Int},y∈J0 l↔y∈l
 | []=>L5
 | z::l=>by unfold J0;rw[mJ,mK,h8]
theorem uv:∀{l a:ge Int},y∈l.foldl dk a↔y∈a\/y∈l
 | [],a=>by simp
 | z::l,a=>by
  rw[eY,uv,h8];unfold dk;split
  ·rename_i h;constructor
   ·rintro(q | q)
    ·exact .inl q
    ·exact .inr (.inr q)
   ·rintro(q | q | q)
    ·exact .inl q
    ·rw[q];exact .inl h
    ·exact .inr q
  ·rw[D7,u7,or_assoc]
theorem gj:∀{l σ:ge Int},(l.foldl dk σ).length<=σ.length+l.length
 | [],σ=>by simp
 | z::l,σ=>by
  rw[eY,x9];have:=gj (l:=l) (σ:=dk σ z);have h2:(dk σ z).length<=σ.length+1:=by unfold dk;split<;>simp
  omega
theorem ig:∀r:ge Int,ints? (iD r)=some r
 | []=>rfl
 | x::r=>by show(ints? (iD r)).map _=_;rw[ig r];rfl
theorem mL(h:evE G F e δ=some (.ok (Kx (iD r)) c))(hl:r.length<=60):evE G F (.bi .sset [e]) δ=some (.ok (Kx (iD (J0 (r.foldl dk [])))) .fresh):=by
 show Rs.thn _ _=_;rw[g8 h k9];show(match ints? (iD r)with
  | some a=>if a.length<4000/\(a.foldl dk []).length<64 then some _ else none
  | none=>none)=_
 rw[ig];have:=gj (l:=r) (σ:=[]);rw[jn]at this;exact f8 ⟨by omega,by omega⟩
theorem V2{F:Nat->ge DV->Ji Ou}{δ:ge Sv}{G:Gs}{a b:ME}{r:ge ME}{cx:Cl}{o:Ji Re}(ha:JC a cx (.bl true))(hb:evE G F (.and (b::r)) δ=o):evE G F (.and (a::b::r)) δ=o:=by
 have e:evE G F (.and (a::b::r)) δ=Re.thn (JP a) (λ x c=>andD x c (U5 G F (b::r) δ)):=rfl;have e2:evE G F (.and (b::r)) δ=U5 G F (b::r) δ:=rfl;rw[e,ha,B3,←e2,hb];rfl
theorem mM{F:Nat->ge DV->Ji Ou}{δ:ge Sv}{G:Gs}{a b:ME}{r:ge ME}{cx:Cl}(ha:JC a cx (.bl false)):evE G F (.and (a::b::r)) δ=some (.ok KI cx):=by
 have e:evE G F (.and (a::b::r)) δ=Re.thn (JP a) (λ x c=>andD x c (U5 G F (b::r) δ)):=rfl;rw[e,ha,B3];rfl
theorem aI{F:Nat->ge DV->Ji Ou}{δ:ge Sv}{G:Gs}{a:ME}{o:Ji Re}(ha:evE G F a δ=o):evE G F (.and [a]) δ=o:=by
 have e:evE G F (.and [a]) δ=evE G F a δ:=rfl;rw[e,ha]
theorem Hr(c:tg.bind d δ=some δ1)(b:body δ1=some (.nx a)):B9 tg body (d::r) δ=B9 tg body r a:=by
 show(match tg.bind d δ with | none=>none | some δ1=>match body δ1 with | some (.nx a)=>B9 tg body r a | o=>o)=_;rw[c];show(match body δ1 with | some (.nx a)=>B9 tg body r a | o=>o)=_;rw[b]
theorem uw:∀{a b:ge Int},a.Pairwise (· < ·)->b.Pairwise (· < ·)->(∀x,x∈a↔x∈b)->a=b
 | [],[],_,_,_=>rfl
 | [],y::b,_,_,h=>absurd ((h y).mpr (n9 ..)) JL
 | x::a,[],_,_,h=>absurd ((h x).mp (n9 ..)) JL
 | x::a,y::b,d,c,h=>by
  rw[L3]at d c;have e:x=y:=by
   rcases h8.mp ((h x).mp (n9 ..))with z | z
   ·exact z
   ·rcases h8.mp ((h y).mpr (n9 ..))with w | w
    ·exact w.symm
    ·have h1:=d.1 y w;have h2:=c.1 x z;omega
  subst e;rw[uw d.2 c.2 λ z=>?_];constructor
  ·intro q;rcases h8.mp ((h z).mp (n6 _ q))with w | w
   · exact absurd (d.1 _ q) JA
   ·exact w
  ·intro q;rcases h8.mp ((h z).mpr (n6 _ q))with w | w
   · exact absurd (c.1 _ q) JA
   ·exact w
theorem ux:∀{l:ge Int},l.Pairwise (· < ·)->x∉l->(insI x l).Pairwise (· < ·)
 | [],_,_=>by simp[insI]
 | y::l,h,b=>by
  rw[L3]at h;unfold insI;split
  ·rename_i q;rw[L3];refine⟨λ z a=>?_,L3.mpr h⟩;rcases h8.mp a with w | w
   ·rwa [w]
   ·have:=h.1 z w;omega
  ·rename_i q;rw[L3];refine⟨λ z a=>?_,ux h.2 λ w=>b (n6 _ w)⟩;rcases mJ.mp a with w | w
   ·subst w;have:z≠y:=λ e=>b Kz
    omega
   ·exact h.1 z w
theorem uy:∀{l:ge Int},l.Nodup->(J0 l).Pairwise (· < ·)
 | [],_=>List.Pairwise.nil
 | x::l,h=>by
  rw[N1]at h;exact ux (uy h.2) λ z=>h.1 (mK.mp z)
theorem uz:∀{l c:ge Int},c.Nodup->(l.foldl dk c).Nodup
 | [],_,h=>h
 | x::l,c,h=>by
  rw[eY];refine uz ?_;unfold dk;split
  ·exact h
  ·rename_i q;rw[List.nodup_append];refine⟨h,by simp,λ a f b d e=>?_⟩;rw[u7]at d;subst d e;exact q f
theorem uA{l:ge Int}(a:t.Pairwise (· < ·))(h:∀x,x∈l↔x∈t):J0 (l.foldl dk [])=t:=
 uw (uy (uz fh)) a λ x=>by rw[mK,uv,←h];simp
noncomputable def nI(l:ge Nat):ge Int:=l.map λ (j:Nat)=>(j:Int)
theorem mN(l:ge Nat):iD (nI l)=nD l:=by unfold iD nI nD;rw[p9];rfl
theorem uB(p:Nat->Bool)(n:Nat):(nI ((JY n).filter p)).Pairwise (· < ·):=by
 unfold nI;rw[List.pairwise_map];refine List.Pairwise.filter _ (jd ?_ iM);intro a b h;omega
theorem uC:x∈nI l↔∃j∈l,(j:Int)=x:=by unfold nI;rw[i4]
noncomputable def FI(rows:JW):ge Nat:=(JY rows.length).filter λ r=>rows.idxOf (rows.getD r [])==r
theorem ii{rows:ge (ge Int)}(h:r∈rows):rows.idxOf r<rows.length:=dY h
theorem ij{rows:ge (ge Int)}(h:r∈rows):rows.getD (rows.idxOf r) []=r:=by
 have a:=ii h;rw[o8,k7 a,ce];exact eR a
theorem uD(rows:JW):J0 ((kI rows).foldl dk [])=nI (FI rows):=by
 refine uA (uB _ _) λ x=>?_;rw[uC];unfold kI FI;rw[i4];constructor
 ·rintro⟨r,a,rfl⟩
  refine⟨rows.idxOf r,B8.mpr ⟨q9.mpr (ii a),?_⟩,rfl⟩;rw[ij a,g9]
 ·rintro⟨j,b,rfl⟩
  obtain⟨d,c⟩:=B8.mp b;exact⟨rows.getD j [],J6 (q9.mp d),by rw[g9.mp c]⟩
theorem Y8(h:i∈FI rows):i<rows.length:=q9.mp (B8.mp h).1
theorem mO(rows:JW):(JV).length<=rows.length:=by
 unfold FI;have:=eI (λ r=>rows.idxOf (rows.getD r [])==r) (JY rows.length)
 rwa [B7]at this
theorem Q2(h:0<rows.length):0<(JV).length:=by
 refine eC (B8.mpr ⟨q9.mpr h,?_⟩);cases rows with
 | nil=>cases h
 | cons r rs=>simp
theorem mP(rows:JW):(kI rows).length=rows.length:=by unfold kI;rw[g6]
theorem uE(rows:JW)(n m:Nat)(R:Ks)(c:0<n)(b:n<=1000)(a:m<=1000):run G T fu (k+2) 7 [tT rows]=some (.v (.lst (iD (kI JJ))) true):=by
 rw[p7 rfl rfl];unfold tR;exact t4 (p8 (v3 (k6 (g8 (k6 rfl rfl (Hq rows n m R c b a)) k9) rfl (mI _ (by rw[(bK R).1];exact a)))))
theorem mQ(rows:JW)(n m:Nat)(R:Ks)(g:0<n)(a:n<=60)(b:m<=60):run G T fu (k+3) 8 [tT rows]=some (.v (tT (sub rows JV (FI JJ))) false):=by
 rw[p7 rfl rfl];unfold tS;have c:=bK R;have f:=mL (F:=run G T fu (k+2)) (δ:=[.val Lq]) (e:=.call 6 [.var 0]) (k6 rfl rfl (mI rows (by rw[R.1];omega))) (by rw[mP,R.1];exact a);have d:=mL (F:=run G T fu (k+2)) (δ:=[.val Lq]) (e:=.call 7 [.var 0]) (k6 rfl rfl (uE rows n m R g JA JA)) (by rw[mP,c.1];exact b);rw[uD,mN]at f d;have p:=ut (fu:=fu) (k:=k+1) rows n m R JV (FI JJ) (λ i o=>by have:=Y8 o;rw[R.1]at this;exact this) (λ j h=>by have:=Y8 h;rw[c.1]at this;exact this) (by have:=mO rows;rw[R.1]at this;omega) (by have:=mO JJ;rw[c.1]at this;omega);exact t4 (p8 (v3 (k6 (l:=[(tT rows,.strong),(.lst (nD JV),.fresh),(.lst (nD (FI JJ)),.fresh)]) (g8 (f6 rfl) (g8 f (g8 d k9))) rfl p)))
theorem b_le(d:JC a cx (.int i))(c:JC b cy (.int j)):evE G F (.cmp .LtE a b) δ=some (.ok (.bl (decide (i<=j))) .strong):=G0 d c rfl
noncomputable def sm(a b:Nat):Bool:=decide (a<6)&&decide (b<6)
theorem Hs(h:0<I.length):∃r a,sub rows I J=r::a/\r.length=J.length:=by
 cases I with
 | nil=>cases h
 | cons i I=>exact⟨_,_,rfl,by simp⟩
theorem uF(rows:JW)(n m:Nat)(R:Ks)(o:0<n)(f:n<=60)(g:m<=60):run G T fu (k+4) 9 [tT rows]=some (.v (.bl (sm (JV).length (FI JJ).length)) false):=by
 rw[p7 rfl rfl];unfold tU;have v:=mQ (fu:=fu) (k:=k) rows n m R o f g;obtain⟨r,a,y,z⟩:=Hs (Q2 (by rw[R.1];exact o));have p:(sub rows JV (FI JJ)).length=(JV).length:=by unfold sub;rw[g6]
 rw[y]at v p;have x:evE G (JX (k+3)) (Km 1) [.val Lq,.val (tT (r::a))]=some (.ok (.int (JV).length) .strong):=by have t:=V0 (F:=run G T fu (k+3)) (δ:=[.val Lq,.val (tT (r::a))]) (e:=.var 1) (ds:=(r::a).map λ r=>.tup (iD r)) (c:=.strong) rfl;rw[g6,p]at t;exact t
 have w:evE G (JX (k+3)) (Kf 1) [.val Lq,.val (tT (r::a))]=some (.ok (.int (FI JJ).length) .strong):=(by have t:=V0 (F:=run G T fu (k+3)) (δ:=[.val Lq,.val (tT (r::a))]) (q5 (f6 (n:=1) (d:=tT (r::a)) rfl) (i5 (i:=0)) (aH (rows:=r::a) (i:=0) JL));rw[show(iD ((r::a).getD 0 [])).length=(FI JJ).length by unfold iD;rw[g6];exact z]at t;exact t);have u:∀h:ge Sv,evE G (JX (k+3)) (.glb "SMALL_LINES") h=some (.ok (.int 5) .strong):=λ h=>rfl;refine t4 (k8 (o9 (d:=tT (r::a)) (cl:=.strong) (k6 (l:=[(tT rows,.strong)]) rfl rfl v) rfl) (p8 (v3 (cl:=.strong) ?_)));have b:=b_le x (u _);have j:=b_le w (u _);have B:decide (((JV).length:Int)<=5)=decide ((JV).length<6):=by rw[ji];omega
 have A:decide (((FI JJ).length:Int)<=5)=decide ((FI JJ).length<6):=by rw[ji];omega
 rw[B]at b;rw[A]at j;unfold sm;cases q:decide ((JV).length<6)with
 | true=>rw[q]at b;exact V2 b (aI j)
 | false=>rw[q]at b;exact mM b
theorem uG{i:Type}{h f:i->DV}{p:i->Bool}:∀{l:ge i},(∀a∈l,g (h a)=some (if p a then .item (f a)else .skip))->x5 g (l.map h)=some ((l.filter p).map f)
 | [],_=>rfl
 | a::l,q=>by
  have d:=q a (n9 ..);have j:=uG (g:=g) (h:=h) (f:=f) (p:=p) (l:=l) λ b k=>q b (n6 _ k);cases e:p a with
  | true=>
   rw[e]at d;show(match g (h a)with | none=>none | some .skip=>x5 g _ | some (.item x)=>match x5 g (l.map h)with | none=>none | some c=>some (x::c))=_;rw[d,bR e,A4];show(match x5 g (l.map h)with | none=>none | some c=>some (f a::c))=_;rw[j]
  | false=>
   rw[e]at d;show(match g (h a)with | none=>none | some .skip=>x5 g (l.map h) | some (.item x)=>match x5 g (l.map h)with | none=>none | some c=>some (x::c))=_;rw[d,ej (by rw[e];simp)];exact j
theorem uH{d:Type}{l:ge d}{h f:d->DV}{p:d->Bool}(e:r6 (JP it)=some (.ok (l.map h) cl))(hc:cl ≠ .weak)(hl:l.length<=o4)
  (q:∀a∈l,∃b,tg.bind (h a) (w4 fr δ)=some b/\tstD (evE G F cd b)=some (.ok (p a))/\∃c,evE G F elt b=some (.ok (f a) c)/\stro (f a) c=true):evE G F (.compi elt tg it cd fr) δ=some (.ok (Kx ((l.filter p).map f)) .fresh):=by
 show Ri.thn _ _=_;rw[e,cU,g7 Kz,uG (λ a g=>?_)]
 ·rfl
 ·obtain⟨b,m,k,c,j,i⟩:=q a g;rw[m,N0,k,j];cases p a with
  | false=>rfl
  | true=>
   show(if stro (f a) c then some _ else none)=_;rw[f8 i];rfl
noncomputable def WI(rows:JW):ge Nat:=(JY 10).filter λ w=>rows.any λ r=>r.any λ x=>x==(w:Int)
theorem uI(rows:JW)(e:∀r∈rows,∀x∈r,0<=x/\x<=9):J0 (rows.flatten.foldl dk [])=nI (WI rows):=by
 refine uA (uB _ _) λ x=>?_;rw[uC,List.mem_flatten];unfold WI;constructor
 ·rintro⟨r,b,a⟩
  have:=e r b x a;refine⟨x.toNat,B8.mpr ⟨q9.mpr JA,V8.mpr ⟨r,b,V8.mpr ⟨x,a,?_⟩⟩⟩,by omega⟩;rw[g9];omega
 ·rintro⟨j,d,rfl⟩
  obtain⟨_,g⟩:=B8.mp d;obtain⟨r,b,f⟩:=V8.mp g;obtain⟨x,a,c⟩:=V8.mp f;rw[g9]at c;exact⟨r,b,by rw[←c];exact a⟩
theorem Hu(c:δ[i]? = some (.own (Kx ds)))(h:evE G F e δ=some (JT (.tup a)))(b:ds.length+a.length<=o4):evS G F fu (.ext i e) δ=some (.nx (δ.set i (.own (Kx (ds++a))))):=by
 show(match δ[i]? with | some (.own (.lst ds))=>Re.thnS δ _ _ | _=>none)=_;rw[c];show Re.thnS δ _ _=_;rw[h];show(if Cl.strong=.strong\/Cl.strong=.fresh then(if ds.length+a.length<=o4 then some (Out.nx _)else none)else none)=_;rw[f8 LI,f8 b]
theorem uJ(t:Sv)(j:m<=8):∀(rows:JW) (a:ge Int) (c:Sv),(∀r∈rows,r.length=m)->a.length+rows.length*m<=1000->∃e,B9 (.one 2) (λ b=>evSs G F fu [.ext 1 (.var 2)] b) (rows.map λ r=>.tup (iD r)) [t,.own (Kx (iD a)),c]=some (.nx [t,.own (Kx (iD (a++rows.flatten))),e])
 | [],a,c,_,_=>⟨c,by rw[List.flatten_nil,E4];rfl⟩
 | r::rows,a,c,h,k=>by
  have i:=h r (n9 ..);rw[x9,fA,cF]at k;obtain⟨e,g⟩:=uJ t j rows (a++r) _ (λ f d=>h f (n6 _ d)) (by rw[t5,i];omega);refine⟨e,?_⟩;rw[Z9,←T7,←g];refine Hr rfl (k8 (Hu rfl (f6 rfl) ?_) ?_)
  ·unfold iD;rw[g6,g6];exact i7 (show a.length+r.length<=1000 by omega) JB
  ·unfold iD;rw[C4];rfl
theorem uK(m:Nat):∀n,(List.replicate n m).sum=n*m
 | 0=>by simp
 | n+1=>by rw[V6,fx,uK m n,fA,cF,Nat.add_comm]
theorem uL:∀{l:ge Int},(insI x l).length=l.length+1
 | []=>rfl
 | z::l=>by unfold insI;split<;>simp[uL]
theorem uM:∀{l:ge Int},(J0 l).length=l.length
 | []=>rfl
 | z::l=>by unfold J0;rw[uL,uM,x9]
theorem uN(rows:JW)(n m:Nat)(R:Ks)(i:n<=8)(c:m<=8)(j:∀r∈rows,∀x∈r,0<=x/\x<=9):run G T fu (k+1) 11 [tT rows]=some (.v (Kx (nD (WI rows))) true):=by
 rw[p7 (fd:=mv) rfl rfl];unfold mv;have nm:n*m<=8*8:=js i c;obtain⟨p,e⟩:=uJ (fu:=fu) (.val Lq) c rows [] .no R.2 (by rw[R.1];simp;omega);rw[jk]at e;have o:∀x∈rows.flatten,0<=x/\x<=9:=λ x g=>by obtain⟨r,h,g⟩:=List.mem_flatten.mp g;exact j r h x g
 have a:(rows.flatten.foldl dk []).length<64/\rows.flatten.length<4000:=by
  have u:=uI rows j;have q:=uM (l:=rows.flatten.foldl dk []);rw[u]at q;have l2:(nI (WI rows)).length<=10:=(by unfold nI WI;rw[g6];exact i7 (eI _ _) JL);have l3:rows.flatten.length=n*m:=by
   rw[List.length_flatten];have:rows.map List.length=List.replicate n m:=by rw[List.eq_replicate_iff];refine⟨by rw[g6];exact R.1,λ b o=>?_⟩;obtain⟨r,h,rfl⟩:=i4.mp o;exact R.2 r h
   rw[this,uK]
  omega
 have s1:evE G (JX k) (.bi .sset [.var 1]) [.val Lq,.own (Kx (iD rows.flatten)),p]=some (.ok (Kx (nD (WI rows))) .fresh):=by
  show Rs.thn (evEs G (JX k) [.var 1] [.val Lq,.own (Kx (iD rows.flatten)),p]) (λ l=>fU l)=_;rw[g8 (pV (d:=.lst (iD rows.flatten)) rfl) k9];show(match ints? (iD rows.flatten)with
   | some f=>if f.length<4000/\(f.foldl dk []).length<64 then some (Re.ok (Kx ((J0 (f.foldl dk [])).map DV.int)) .fresh)else none
   | none=>none)=_
  rw[ig];show(if rows.flatten.length<4000/\(rows.flatten.foldl dk []).length<64 then some (Re.ok (Kx (iD (J0 (rows.flatten.foldl dk [])))) .fresh)else none)=_;rw[f8 ⟨a.2,a.1⟩,uI rows j,mN]
 exact t4 (k8 (kf rfl) (X1 (ds:=rows.map λ r=>.tup (iD r)) (cl:=.strong) rfl LI e (p8 (v3 s1))))
theorem uO:run G T fu (k+1) 0 [.int x,.int a,.int b]=some (.v (.bl (decide (a<=x)&&decide (x<=b))) false):=by
 rw[p7 rfl rfl];have e:evE G (JX k) (.chain .LtE .LtE (.var 1) (.var 0) (.var 2)) [.val (.int x),.val (.int a),.val (.int b)]=some (.ok (.bl (decide (a<=x)&&decide (x<=b))) .strong):=by show(match some (decide (a<=x))with | none=>none | some false=>some (Re.ok _ .strong) | some true=>(some _).map λ k=>.ok _ .strong)=_;cases decide (a<=x)<;>rfl
 exact t4 (p8 (v3 (V2 rfl (V2 rfl (aI e)))))
theorem uP(r o:Nat):Builtin.bitAnd r o=((r &&& o:Nat):Int):=by
 unfold Builtin.bitAnd;rw[C5 (E8 r),C5 (E8 o)];rfl
theorem uQ(o i:Nat):Builtin.bitAnd ((o:Int)/2^((i:Int).toNat)) 1=if o.testBit i then 1 else 0:=by
 have e:(o:Int)/2^((i:Int).toNat)=((o/2^i:Nat):Int):=(by rfl);rw[e,show(1:Int)=((1:Nat):Int)from rfl,uP,Nat.and_one_is_mod,Nat.testBit_eq_decide_div_mod_eq];have:o/2^i%2=0\/o/2^i%2=1:=by omega
 rcases this with h | h<;>rw[h]<;>rfl
noncomputable def cs(c:Nat):ge Nat:=(JY (c.log2+1)).filter c.testBit
theorem mR(c:Nat)(h0:0<c)(h:c<2^64):run G T fu (k+1) 4 [.int c]=some (.v (Kx (nD (cs c))) true):=by
 rw[p7 (fd:=mt) rfl rfl];have f:bp (c:Int)=((c.log2+1:Nat):Int):=by unfold bp;rw[g7 JA,Int.natAbs_natCast];push_cast;rfl
 have hl:c.log2<64:=(fz JA).mpr h;have a:=zP (G:=G) (F:=run G T fu k) (δ:=m7 1 [.int c]) (elt:=.var 0) (tg:=.one 0) (it:=.rng [.meth .bitLength (.var 0) []]) (fr:=[none,some 0]) (p:=λ d=>match d with | .int i=>c.testBit i.toNat | _=>false) (cl:=.fresh)
  (aG ((by rw[←f];rfl)) JA) JB (by unfold L2.upTo;rw[g6,B7];exact i7 (show c.log2+1<=64 by omega) JB) (λ d hd=>by
   obtain⟨j,hj,rfl⟩:=pT hd;rw[show(0:Int)+(j:Int)=j by omega];refine⟨[.val (.int j),.val (.int c)],rfl,?_,rfl⟩;have l:evE G (JX k) (.bin .RShift (.var 1) (.var 0)) [.val (.int j),.val (.int c)]=some (.ok (Ke ((c:Int)/2^((j:Int).toNat))) .strong):=K3 (f6 rfl) (f6 rfl) (show(if 0<=(j:Int)then some (Re.ok (Ke ((c:Int)/2^((j:Int).toNat))) Cl.strong)else none)=_ from f8 (E8 j));have g:evE G (JX k) (.bin .BitAnd (.bin .RShift (.var 1) (.var 0)) (.int 1)) [.val (.int j),.val (.int c)]=some (.ok (Ke (if c.testBit j then 1 else 0)) .strong):=K3 l i5 (by rw[←uQ];rfl);have b:∀t:Bool,tstD (some (Re.ok (DV.int (if t=true then 1 else 0)) Cl.strong))=some (Rt.ok t):=λ t=>by cases t<;>rfl
   rw[g];refine(b _).trans ?_;show _=some (Rt.ok (c.testBit (j:Int).toNat));rw[A8])
 have e:(upTo 0 (c.log2+1)).filter (λ d=>match d with | .int i=>c.testBit i.toNat | _=>false)=nD (cs c):=by
  unfold L2.upTo nD cs;rw[List.filter_map];have:((λ d=>match d with | DV.int i=>c.testBit i.toNat | _=>false) ∘ λ (i:Nat)=>DV.int (0+(i:Int)))=c.testBit:=by
   funext j
   show c.testBit ((0:Int)+(j:Int)).toNat=_;rw[show((0:Int)+(j:Int)).toNat=j by omega]
  rw[this];apply L0;intro j _;show DV.int _=DV.int _
  congr 1
  omega
 rw[e]at a;unfold mt;exact t4 (p8 (v3 a))
theorem mS{n:Nat}(hn:n<=1000)(h:JC e cl (.int n)):evE G F (.bin .Sub (Lh e) (.int 1)) δ=some (.ok (Ke (((2^n:Nat):Int) - 1)) .strong):=by
 refine bt (cx:=.strong) (K3 i5 h ?_) i5;show(if 0<=_/\_<=1000000/\(1:Int).natAbs<2^64 then some (Re.ok _ Cl.strong)else none)=_;rw[f8 ⟨E8 n,by omega,by decide⟩,A8,Int.one_mul]
 push_cast
 rfl
theorem uR{n:Nat}(g:n<=1000)(h:run G T fu (k+1) 0 [d,.int 1,.int (((2^n:Nat):Int) - 1)]=some (.v (.bl t) false)):run G T fu (k+2) 3 [d,.int n]=if t then some (.v .non false)else some (.x "NoCard"):=by
 rw[p7 rfl rfl];unfold tO;have c:=k6 (G:=G) (F:=run G T fu (k+1)) (δ:=m7 2 [d,.int n]) (f:=0) (es:=[.var 0,.int 1,.bin .Sub (Lh (.var 1)) (.int 1)]) (g8 (f6 rfl) (g8 i5 (g8 (mS g (f6 rfl)) k9))) rfl h;have q:=R7 c;cases t with
 | true=>exact ke (v5 (o6 q) rfl)
 | false=>
  have e:evSs G (JX (k+1)) fu [.iff (.not (.call 0 [.var 0,.int 1,.bin .Sub (Lh (.var 1)) (.int 1)])) [.rse "NoCard" Le] []] (m7 2 [d,.int n])=some (.ex "NoCard" (m7 2 [d,.int n])):=by
   have z:=cV (fu:=fu) (a:=[.rse "NoCard" Le]) (b:=[]) (o6 q);rw[f8 (show(!false)=true from rfl)]at z;have r:evSs G (JX (k+1)) fu [.rse "NoCard" Le] (m7 2 [d,.int n])=some (.ex "NoCard" (m7 2 [d,.int n])):=by rfl
   rw[r]at z;unfold evSs;rw[z]
  show Ou.of _=_;rw[e];rfl
theorem uS(h:c<2^n)(a:j∈cs c):j<n:=by
 unfold cs at a;rw[B8]at a;by_cases q:j<n
 ·exact q
 ·have z:=oy (r9 h (O6 JB (show n<=j by omega)));rw[z]at a;cases a.2
theorem uT(h0:0<c)(h:c<2^64):(cs c).length<=1000:=by
 have hl:=(fz JA).mpr h;unfold cs;exact i7 (eI _ _) (by rw[B7];omega)
theorem uU(rows:JW)(n m a b:Nat)(R:Ks)(hn:0<n)(f:n<=64)(h:m<=64)(v:0<a)(u:a<2^n)(p:0<b)(o:b<2^m):run G T fu (k+3) 2 [tT rows,.int a,.int b]=some (.v (tT (sub rows (cs a) (cs b))) false):=by
 rw[p7 rfl rfl];obtain⟨c,rest,rfl⟩:∃c rest,rows=c::rest:=by
  cases rows with
  | nil=>have:=R.1;simp at this;omega
  | cons a b=>exact⟨a,b,rfl⟩
 have r:a<2^64:=r9 u (O6 JB f);have l:b<2^64:=r9 o (O6 JB h);have z:=(by have q:=V0 (F:=run G T fu (k+2)) (δ:=m7 3 [tT (c::rest),.int a,.int b]) (e:=.var 0) rfl;rw[g6,R.1]at q;exact q);have w:=(by have e:evE G (JX (k+2)) (.ix (.var 0) (.int 0)) (m7 3 [tT (c::rest),.int a,.int b])=some (.ok (.tup (iD c)) .strong):=q5 (x:=tT (c::rest)) (y:=.int 0) (f6 rfl) i5 (aH (rows:=c::rest) (i:=0) JL);have q:=V0 e;rw[show(iD c).length=m by unfold iD;rw[g6,(R.2 c (n9 ..))]]at q;exact q);have E:=uR (fu:=fu) (k:=k) (d:=.int a) (n:=n) (t:=true) JA (by rw[uO,C5 JA,C5 JA];rfl);have C:=uR (fu:=fu) (k:=k) (d:=.int b) (n:=m) (t:=true) JA (by rw[uO,C5 JA,C5 JA];rfl);have g:=ut (fu:=fu) (k:=k+1) (c::rest) n m R (cs a) (cs b) (λ i B=>uS u B) (λ j A=>uS o A) (uT v r) (uT p l);unfold tN;exact t4 (k8 (kg (k6 (g8 (f6 rfl) (g8 z k9)) rfl E)) (k8 (kg (k6 (g8 (f6 rfl) (g8 w k9)) rfl C)) (p8 (v3 (k6 (g8 (f6 rfl) (g8 (k6 (g8 (f6 rfl) k9) rfl (mR a v r)) (g8 (k6 (g8 (f6 rfl) k9) rfl (mR b p l)) k9))) rfl g)))))
noncomputable def cd(n:Nat):Nat->ge Int
 | 0=>[]
 | l+1=>((n/2^l%2:Nat):Int)::cd n l
theorem Hv(h:JC e cl (.int i)):evE G F (.neg e) δ=some (.ok (Ke (-i)) .strong):=by
 show Re.thn _ _=_;rw[h];rfl
noncomputable def sd(s:Bool):DV:=if s then .str "row" else .str "column"
noncomputable def hd(l:ge Nat):DV:=match l with | []=>.non | c::_=>.int c
theorem ik{c:Type}{p q:c->Bool}:∀{l:ge c},(∀x∈l,p x=true->q x=true)->(l.filter p).length<=(l.filter q).length
 | [],_=>i8 _
 | a::l,h=>by
  have e:=ik λ x f=>h x (n6 _ f);cases b:p a with
  | false=>
   rw[ej (by rw[b];decide)];cases d:q a with
   | false=>rw[ej (by rw[d];decide)];exact e
   | true=>rw[bR d,x9];omega
  | true=>
   rw[bR b,bR (h a (n9 ..) b),x9,x9];omega
theorem uV{b:Type}{p q r:b->Bool}:∀{l:ge b},(∀x∈l,p x=true->q x=true\/r x=true)->(l.filter p).length<=(l.filter q).length+(l.filter r).length
 | [],_=>i8 _
 | a::l,h=>by
  have ih:=uV λ x c=>h x (n6 _ c);rw[aX,aX,aX];cases f:p a<;>cases e:q a<;>cases d:r a<;>simp only[if_true,if_false,x9,aS]<;>first | omega | exact absurd ((h a (n9 ..)) f) (by rw[e,d];simp)
theorem uW{b:Type}{p q:b->Bool}:∀{l:ge b},(l.filter p).length=(l.filter λ x=>p x&&q x).length+(l.filter λ x=>p x && !q x).length
 | []=>rfl
 | a::l=>by have ih:=uW (p:=p) (q:=q) (l:=l);rw[aX,aX,aX];cases ep:p a<;>cases eq:q a<;>simp<;>omega
theorem uX{g:Nat->Nat}(c:g 0=0)(a:∀t,t<10->g (t+1)<=g t+1):∀N n,N<=10->n<=g N->∃t,t<=N/\g t=n
 | 0,n,_,h=>⟨0,i8 _,by omega⟩
 | N+1,n,hN,h=>by
  by_cases q:n<=g N
  ·obtain⟨t,h1,b⟩:=uX c a N n JA q;exact⟨t,by omega,b⟩
  ·have:=a N JA;exact⟨N+1,i8 _,by omega⟩
theorem uY:∀t,t<10->((JY 10).filter λ w=>w==t).length<=1:=by decide
theorem G3(h:j∈cs c):c.testBit j=true:=(B8.mp h).2
theorem Y9(h:c.testBit j=true):j∈cs c:=by
 refine B8.mpr ⟨q9.mpr ?_,h⟩;have a:c≠0:=by intro z;rw[z,eX]at h;cases h
 have:=(Nat.le_log2 a).mpr (iJ h);omega
theorem tb5(hc:c<32)(h:c.testBit j=true):j<5:=by
 have h1:=iJ h;rcases W1 j 5 with z | z
 ·exact z
 ·have:2^5<=2^j:=O6 JB z;omega
def Sb(h C:Nat):Prop:=0<h/\h<C/\h &&& C=h
theorem im:∀C,C<32->∀h,h<32->h &&& C=h->∀j,j<5->(C - h).testBit j=(C.testBit j && !h.testBit j)/\(h.testBit j=true->C.testBit j=true):=by decide +kernel
theorem Sb.lt(s:Sb h C)(a:C<32):h<32:=cD s.2.1 a
theorem Hw(s:Sb h C)(a:C<32)(b:j∈cs h):j∈cs C:=Y9 ((im C a h (s.lt a) s.2.2 j (tb5 (s.lt a) (G3 b))).2 (G3 b))
theorem uZ(s:Sb h C)(b:C<32)(c:j∈cs (C - h)):j∈cs C/\j∉cs h:=by
 have a:=G3 c;have d:=tb5 JA a;rw[(im C b h (s.lt b) s.2.2 j d).1,f7]at a;refine⟨Y9 a.1,λ z=>?_⟩;rw[G3 z]at a;exact absurd a.2 JB
theorem Hx:∀R,R<32->2<=(cs R).length->∃h∈List.range 32,(0<h/\h<R/\h &&& R=h)/\2*(cs h).length<=(cs R).length+1/\2*(cs (R - h)).length<=(cs R).length+1:=by decide +kernel
theorem Hy:∀e d c b a:Bool,∃h∈List.range 32,h.testBit 0=e/\h.testBit 1=d/\h.testBit 2=c/\h.testBit 3=b/\h.testBit 4=a:=by decide +kernel
theorem vb(q:Nat->Bool):∃h,h<32/\∀j,j<5->h.testBit j=q j:=by
 obtain⟨h,b,g,f,e,d,c⟩:=Hy (q 0) (q 1) (q 2) (q 3) (q 4);refine⟨h,q9.mp b,λ j a=>?_⟩
 match j,a with
 | 0,_=>exact g
 | 1,_=>exact f
 | 2,_=>exact e
 | 3,_=>exact d
 | 4,_=>exact c
theorem vc:∀C,C<32->∀h,h<32->(∀j,j<5->h.testBit j=true->C.testBit j=true)->h &&& C=h/\h<=C:=by decide +kernel
theorem tb0(e:h.testBit j=true):0<h:=by
 rcases iT h with z | z
 ·rw[z,eX]at e;cases e
 ·exact z
theorem M8:∀c,c<32->0<c->0<(cs c).length:=by decide +kernel
abbrev Mx:=Nat->Nat->Int
def wp(f:Mx)(R C:Nat)(w:Nat):Bool:=(cs R).any λ i=>(cs C).any λ j=>f i j==(w:Int)
def wn(f:Mx)(R C:Nat):Nat:=((JY 10).filter (wp f R C)).length
theorem V3:wp f R C w=true↔∃i j,i∈cs R/\j∈cs C/\f i j=(w:Int):=by
 unfold wp;rw[V8];constructor
 ·rintro⟨i,b,h⟩
  obtain⟨j,a,h⟩:=V8.mp h;exact⟨i,j,b,a,g9.mp h⟩
 ·rintro⟨i,j,b,a,h⟩
  exact⟨i,b,V8.mpr ⟨j,a,g9.mpr h⟩⟩
theorem Hz(x:C<32)(K:(cs R).length=1)(h2:2<=wn f R C):∃h,Sb h C/\2*wn f R h<=wn f R C+1/\2*wn f R (C - h)<=wn f R C+1:=by
 obtain⟨i,hi⟩:∃i,cs R=[i]:=by
  match e:cs R,K with
  | [i],_=>exact⟨i,rfl⟩
 let g:Nat->Nat:=λ t=>((JY 10).filter λ w=>wp f R C w&&decide (w<t)).length
 have M:g 0=0:=(by show((JY 10).filter λ w=>wp f R C w&&decide (w<0)).length=0;rw[show(λ w=>wp f R C w&&decide (w<0))=λ _=>false from funext λ w=>by simp];simp);have L:∀t,t<10->g (t+1)<=g t+1:=λ t E=>by
  refine i7 (uV λ w _ h=>?_) (Nat.add_le_add_left (uY t E) _);rw[f7,A9]at h;by_cases z:w=t
  ·exact .inr (g9.mpr z)
  ·exact .inl (by rw[f7,A9];exact⟨h.1,by omega⟩)
 have gN:wn f R C<=g 10:=ik λ w k h=>by rw[f7,A9];exact⟨h,q9.mp k⟩
 obtain⟨t,_,E⟩:=uX M L 10 ((wn f R C+1)/2) (i8 _) JA;have sm:wn f R C=g t+((JY 10).filter λ w=>wp f R C w && !decide (w<t)).length:=uW;obtain⟨h,F,v⟩:=vb λ j=>C.testBit j&&decide (f i j<(t:Int))
 obtain⟨s1,H⟩:=vc C x h F λ j J e=>by rw[v j J,f7]at e;exact e.1
 have d:∀j,j∈cs h↔j∈cs C/\f i j<(t:Int):=λ j=>by
  constructor
  ·intro e;have l:=G3 e;rw[v j (tb5 F l),f7,A9]at l;exact⟨Y9 l.1,l.2⟩
  ·rintro⟨n,m⟩
   have l:=G3 n;exact Y9 (by rw[v j (tb5 x l),l,fq,A9];exact m)
 have ex:∀{p:Nat->Bool},0<((JY 10).filter λ w=>wp f R C w&&p w).length->∃w j,p w=true/\j∈cs C/\f i j=(w:Int):=λ {p} I=>by obtain⟨w,k⟩:=aL I;have k:=(B8.mp k).2;rw[f7]at k;obtain⟨B,j,a,b,c⟩:=V3.mp k.1;rw[hi,u7]at a;subst a;exact⟨w,j,k.2,b,c⟩
 have u:h<C:=by
  rcases W1 h C with z | z
  ·exact z
  ·exfalso;have e:h=C:=Nat.le_antisymm H z;obtain⟨w,j,n,m,y⟩:=ex (p:=λ w=>!decide (w<t)) JA;have:=((d j).mp (by rw[e];exact m)).2;rw[y]at this;rw[t8,oa]at n;omega
 have s:Sb h C:=⟨((by obtain⟨w,j,n,m,y⟩:=ex (by show 0<g t;omega);have:j∈cs h:=(d j).mpr ⟨m,by rw[y];have:=jc n;omega⟩;exact tb0 (G3 this))),u,s1⟩;refine⟨h,s,?_,?_⟩
 ·have:wn f R h<=g t:=ik λ w _ q=>by
   obtain⟨B,j,a,b,c⟩:=V3.mp q;have o:=a;rw[hi,u7]at o;subst o;obtain⟨r,A⟩:=(d j).mp b;rw[f7,A9];exact⟨V3.mpr ⟨_,j,a,r,c⟩,by rw[c]at A;omega⟩
  omega
 ·have:wn f R (C - h)<=((JY 10).filter λ w=>wp f R C w && !decide (w<t)).length:=ik λ w _ q=>by
   obtain⟨B,j,a,b,c⟩:=V3.mp q;have o:=a;rw[hi,u7]at o;subst o;obtain⟨r,A⟩:=uZ s x b;rw[f7,t8,oa];refine⟨V3.mpr ⟨_,j,a,r,c⟩,λ z=>A ((d j).mpr ⟨r,?_⟩)⟩;rw[c];omega
  omega
noncomputable def hv(R:Nat):ge Nat:=((JY (R - 1)).map (· + 1)).filter λ h=>h &&& R==h&&decide (h<R - h)
theorem HA:∀R,R<32->∀h,h<32->0<h->h<R->h &&& R=h->((hv R).contains h||((hv R).contains (R - h)&&decide (R - (R - h)=h)))=true:=by decide +kernel
theorem mT(R:Nat)(b:R<32)(h:Nat)(a:h<32)(s:Sb h R):h∈hv R\/(R - h∈hv R/\R - (R - h)=h):=by
 have:=HA R b h a s.1 s.2.1 s.2.2;rw[D8,f7,A9]at this;rcases this with z | z
 ·exact .inl (J8.mp z)
 ·exact .inr ⟨J8.mp z.1,z.2⟩
theorem Z0(q:h∈hv R):Sb h R/\h<R - h:=by
 obtain⟨c,a⟩:=B8.mp q;obtain⟨i,b,rfl⟩:=i4.mp c;rw[f7,g9,A9]at a;have:=q9.mp b;exact⟨⟨by omega,by omega,a.1⟩,a.2⟩
theorem HB(a:R<32)(c:C<32)(i:0<R)(C0:0<C)(g:2<=wn f R C):hv R≠[]\/hv C≠[]:=by
 have b:∀R,R<32->(∃h,Sb h R)->hv R≠[]:=λ R a ⟨h,s⟩ e=>by
  rcases mT R a h (s.lt a) s with z | z
  ·rw[e]at z;cases z
  ·rw[e]at z;cases z.1
 have rp:=M8 R a i;by_cases d:2<=(cs R).length
 ·obtain⟨h,_,s,_⟩:=Hx R a d;exact .inl (b R a ⟨h,s⟩)
 ·obtain⟨h,s,_⟩:=Hz c JA g;exact .inr (b C c ⟨h,s⟩)
end k22
end
noncomputable section
namespace k22
open PySem L2
variable {fu k:Nat} {F:Nat->ge DV->Ji Ou} {δ:ge Sv} {ds:ge DV} {cl:Cl} {N M:Nat} {R C:Nat}
theorem mU{n:Nat}(c:JC b cx (.int n))(hn:n<=1000):r6 (JP (.rng [.int 1,b]))=some (.ok (upTo 1 (n - 1)) .fresh):=by
 show r6 (Rs.thn (evEs G F [.int 1,b] δ) (λ l=>(rngD l).map λ a=>.ok (.lst a) .fresh))=_;rw[g8 i5 (g8 c k9),cT];have hs:(G6 1&&G6 (n:Int)&&decide ((n:Int) - 1<=(o4:Int)))=true:=by rw[f7,f7,O8];refine⟨⟨by decide,?_⟩,ba (show(n:Int) - 1<=1000 by omega) JB⟩;unfold G6;rw[f7,O8,O8];exact⟨ba JB (E8 n),iV (show(n:Int)<=1000 by omega) JB⟩
 show r6 ((if G6 1&&G6 (n:Int)&&decide ((n:Int) - 1<=(o4:Int))then some (upTo 1 ((n:Int) - 1).toNat)else none).map λ a=>.ok (.lst a) .fresh)=_;rw[f8 hs,show((n:Int) - 1).toNat=n - 1 by omega];rfl
theorem HD(n:Nat):upTo 1 n=((JY n).map (· + 1)).map λ (h:Nat)=>DV.int (h:Int):=by
 unfold L2.upTo;rw[p9];apply L0;intro j _;show DV.int _=DV.int _
 congr 1
 simp only[Function.comp];omega
theorem HE{i j:Nat}(d:JC a cx (.int i))(c:JC b cy (.int j)):evE G F (.bin .BitAnd a b) δ=some (.ok (Ke ((i &&& j:Nat):Int)) .strong):=K3 d c (by show some _=_;rw[uP])
theorem vd{i j:Nat}(d:JC a cx (.int i))(c:JC b cy (.int j)):evE G F (.cmp .Eq a b) δ=some (.ok (.bl (i==j)) .strong):=by
 rw[b_eq d c]
 congr 3
 rw[cr,g9,g9];omega
theorem ve(hR:R<32):run G T fu (k+1) 18 [.int R]=some (.v (Kx (nD (hv R))) true):=by
 rw[p7 (fd:=my) rfl rfl];unfold my;have w:=mU (F:=run G T fu k) (δ:=m7 1 [.int R]) (b:=.var 0) (n:=R) (f6 rfl) JA;rw[HD]at w;refine t4 (p8 (v3 (cl:=.fresh) (uH w JB (by rw[g6,B7];exact i7 (show R - 1<=1000 by omega) JB) λ h f=>?_)));refine⟨[.val (.int h),.val (.int R)],rfl,?_,.strong,f6 rfl,rfl⟩;obtain⟨i,e,rfl⟩:=i4.mp f;have:=q9.mp e;have c:=vd (F:=run G T fu k) (δ:=[.val (Ke ((i+1:Nat):Int)),.val (.int R)]) (HE (a:=.var 0) (b:=.var 1) (f6 rfl) (f6 rfl)) (f6 (n:=0) rfl);have d:=b_lt (G:=G) (F:=run G T fu k) (δ:=[.val (Ke ((i+1:Nat):Int)),.val (.int R)]) (f6 (n:=0) rfl) (bt (a:=.var 1) (b:=.var 0) (f6 rfl) (f6 rfl));have g:decide (((i+1:Nat):Int)<(R:Int) - ((i+1:Nat):Int))=decide (i+1<R - (i+1)):=by rw[ji];omega
 rw[g]at d;cases q:((i+1) &&& R==i+1)with
 | true=>
  rw[q]at c;rw[V2 c (aI d)];rfl
 | false=>
  rw[q]at c;rw[mM c];rfl
theorem ln4{l:ge a}(h:l.length<=4):l.length<=o4:=i7 h JB
abbrev Wy:=DV×Nat×(Nat×Nat)×(Nat×Nat)
noncomputable def wD(a:Wy):DV:=.tup [a.1,.int a.2.1,.tup [.int a.2.2.1.1,.int a.2.2.1.2],.tup [.int a.2.2.2.1,.int a.2.2.2.2]]
def wl(R C:Nat):ge Wy:=(hv R).map (λ h=>(.str "row",h,(R - h,C),(h,C)))++(hv C).map (λ h=>(.str "column",h,(R,C - h),(R,h)))
theorem bL(h:R<32):(hv R).length<=31:=by
 unfold hv;refine i7 (eI ..) ?_;rw[g6,B7];omega
theorem vf{b:Nat}(h:b<a):(a:Int) - (b:Int)=((a - b:Nat):Int):=by omega
theorem vg(d:R<32)(e:C<32):run G T fu (k+2) 17 [.int R,.int C]=some (.v (Kx ((wl R C).map wD)) true):=by
 rw[p7 (fd:=mx) rfl rfl];unfold mx;have q:=k6 (G:=G) (F:=run G T fu (k+1)) (δ:=m7 4 [.int R,.int C]) (f:=18) (es:=[.var 0]) (l:=[(LF R)]) rfl rfl (ve (k:=k) (fu:=fu) d);have p:=k6 (G:=G) (F:=run G T fu (k+1)) (δ:=[.val (.int R),.val (.int C),.val (Kx ((hv R).map λ h=>wD (.str "row",h,(R - h,C),(h,C)))),.no]) (f:=18) (es:=[.var 1]) (l:=[(LF C)]) rfl rfl (ve (k:=k) (fu:=fu) e);have m:r6 (evE G (JX (k+1)) (Lj 18 0) (m7 4 [.int R,.int C]))=some (.ok ((hv R).map λ (h:Nat)=>DV.int (h:Int)) .fresh):=by rw[q];rfl
 have g:r6 (evE G (JX (k+1)) (Lj 18 1) [.val (.int R),.val (.int C),.val (Kx ((hv R).map λ h=>wD (.str "row",h,(R - h,C),(h,C)))),.no])=some (.ok ((hv C).map λ (h:Nat)=>DV.int (h:Int)) .fresh):=by rw[p];rfl
 have o:=G2 (elt:=.tup [.str "row",.var 0,.tup [.bin .Sub (.var 1) (.var 0),.var 2],.tup [.var 0,.var 2]]) (tg:=.one 0) (fr:=[none,some 0,some 1]) m JB (i7 (bL d) JB) λ h c=>
  ⟨[.val (.int h),.val (.int R),.val (.int C)],.strong,rfl,by
   have s:=bt (G:=G) (F:=run G T fu (k+1)) (δ:=[.val (.int h),.val (.int R),.val (.int C)]) (a:=.var 1) (b:=.var 0) (i:=R) (j:=h) (f6 rfl) (f6 rfl);rw[vf (Z0 c).1.2.1]at s;exact U6 (g8 M2 (g8 (f6 rfl) (g8 (U6 (g8 s (g8 (f6 rfl) k9)) (ln4 JL) rfl) (g8 (U6 (g8 (f6 rfl) (g8 (f6 rfl) k9)) (ln4 JL) rfl) k9)))) (ln4 JL) rfl,rfl⟩
 have n:=G2 (elt:=.tup [.str "column",.var 0,.tup [.var 1,.bin .Sub (.var 2) (.var 0)],.tup [.var 1,.var 0]]) (tg:=.one 0) (fr:=[none,some 0,some 1]) g JB (i7 (bL e) JB) λ h c=>
  ⟨[.val (.int h),.val (.int R),.val (.int C)],.strong,rfl,by
   have s:=bt (G:=G) (F:=run G T fu (k+1)) (δ:=[.val (.int h),.val (.int R),.val (.int C)]) (a:=.var 2) (b:=.var 0) (i:=C) (j:=h) (f6 rfl) (f6 rfl);rw[vf (Z0 c).1.2.1]at s;exact U6 (g8 M2 (g8 (f6 rfl) (g8 (U6 (g8 (f6 rfl) (g8 s k9)) (ln4 JL) rfl) (g8 (U6 (g8 (f6 rfl) (g8 (f6 rfl) k9)) (ln4 JL) rfl) k9)))) (ln4 JL) rfl,rfl⟩
 refine t4 (k8 (o9 o rfl) (k8 (o9 n rfl) (p8 (v3 (cl:=.fresh) ?_))));refine(K3 (f6 rfl) (f6 rfl) (show binD .Add _ _ .strong .strong=some (.ok (Kx ((wl R C).map wD)) .fresh)from ?_));show(if((hv R).map λ h=>wD (.str "row",h,(R - h,C),(h,C))).length+((hv C).map λ h=>wD (.str "column",h,(R,C - h),(R,h))).length<=o4 then _ else none)=_;rw[f8]
 ·unfold wl;rw[C4,p9,p9];rfl
 ·rw[g6,g6];exact i7 (Nat.add_le_add (bL d) (bL e)) JB
theorem vh(a b:Nat):run G T fu (k+1) 15 [.int a,.int b]=some (.v (Ke ((1+max a b:Nat):Int)) false):=by
 rw[p7 rfl rfl];unfold mw;have m:evE G (JX k) (.bi .max [.var 0,.var 1]) (m7 2 [.int a,.int b])=some (.ok (Ke ((max a b:Nat):Int)) .strong):=by
  show some _=_
  congr 3
  by_cases h:(b:Int)>(a:Int)
  ·rw[f8 h];omega
  ·rw[g7 h];omega
 have s:=M1 (i5 (G:=G) (F:=run G T fu k) (i:=1)) m;rw[show(1:Int)+_=((1+max a b:Nat):Int) by omega]at s;exact t4 (p8 (v3 s))
abbrev Tb:=ge ((Nat×Nat)×Nat)
noncomputable def kk(p:Nat×Nat):DKey:=.t [.inl (p.1:Int),.inl (p.2:Int)]
def dC(L:Tb):DV:=.dct (L.map λ p=>kk p.1) (LM (p.2:Int))
def dD(L:Tb):DV:=.tup [dC L]
theorem vi(h:kk p=kk q):p=q:=by
 unfold kk at h;obtain⟨a,b⟩:=p;obtain⟨c,d⟩:=q;simp at h;obtain⟨f,e⟩:=h;rw[Int.ofNat.inj f,Int.ofNat.inj e]
theorem mV(q:Nat×Nat):∀L:Tb,E6 (kk q) (L.map λ p=>kk p.1) (LM (p.2:Int))=(L.lookup q).map λ z=>DV.int ((z:Nat):Int)
 | []=>rfl
 | (p,z)::L=>by
  show(if kk p=kk q then some (DV.int _)else E6 (kk q) _ _)=_;rw[F0];by_cases h:p=q
  ·rw[f8 (by rw[h]),h,Q5];rfl
  ·rw[g7 (λ e=>h (vi e)),mV q L,show(q==p)=false from z8.mpr (Ld h)]
theorem vj:∀{L:Tb},L.lookup q=none->kk q∉L.map λ p=>kk p.1
 | [],_,h=>by cases h
 | (p,z)::L,e,h=>by
  rw[F0]at e;split at e
  ·cases e
  ·rename_i a;rcases h8.mp h with w | w
   ·rw[vi w,Q5]at a;cases a
   ·exact vj e w
theorem vk{r c z:Nat}(b:δ[i]? = some (.od (dD L)))(h:evE G F e δ=some (.ok (.tup [.int r,.int c]) cx))(a:L.lookup (r,c)=some z):evE G F (.dgp i e) δ=some (.ok (.int z) .strong):=by
 have d:evE G F (.dgp i e) δ=(match δ[i]? with
  | some (.od (.tup [.dct ks vs]))=>Re.thn _ λ y _=>dgpD ks vs y
  | _=>none):=rfl
 rw[d,b];show Re.thn _ _=_;rw[h,B3];show(match E6 (kk (r,c)) _ (LM _)with | some (.int v)=>some _ | _=>none)=_;rw[mV,a];rfl
theorem vm{r c z:Nat}(m:δ[i]? = some (.od (dD L)))(h:JC e o (.int z))(k:JC a cx (.int r))(j:JC b cy (.int c))(f:L.lookup (r,c)=none)(g:L.length<100000):evS G F fu (.dpp i [a,b] e) δ=some (.nx (δ.set i (.od (dD (L++[((r,c),z)]))))):=by
 have n:evS G F fu (.dpp i [a,b] e) δ=(match δ[i]? with
  | some (.od (.tup [.dct kk vs]))=>Re.thnS δ _ λ d _=>Rs.thnS δ _ λ l=>(dppD i δ kk vs l d).map Out.nx
  | _=>none):=rfl
 rw[n,m];show Re.thnS δ _ _=_;rw[h];show Rs.thnS δ _ _=_;rw[g8 k (g8 j k9)];show((if(L.map λ p=>kk p.1).length<o4 then some (δ.set i (.od (.tup [.dct (putD (kk (r,c)) (.int z) (L.map λ p=>kk p.1) (LM (p.2:Int))).1 (putD (kk (r,c)) (.int z) (L.map λ p=>kk p.1) (LM (p.2:Int))).2])))else none).map Out.nx)=_;rw[f8 (by rw[g6];exact cD g JB)];unfold putD;rw[g7 (vj f)];unfold dD dC;rw[C4,C4];rfl
theorem vn(e:δ[i]? = some (.val (.fn x)))(a:xs.lookup x=some f)(c:Li)(b:Ko=true)(h:F f (l.map (·.1))=some (.v d false)):evE G F (.callv i xs es) δ=some (.ok d .strong):=by
 show fZ G F xs _ δ[i]? = _;rw[e,c];show(match xs.lookup x with
   | some f=>J1 F f l
   | none=>none)=_
 rw[a];show J1 F f l=_;unfold J1;rw[h,b];rfl
theorem mW:∀(r:ge Int) (m:Int),(minI m r=m\/minI m r∈r)/\minI m r<=m/\∀x∈r,minI m r<=x
 | [],m=>⟨.inl rfl,Int.le_refl _,λ x a=>nomatch a⟩
 | y::r,m=>by
  show(minI _ r=m\/minI _ r∈y::r)/\minI _ r<=m/\∀x∈y::r,minI _ r<=x;obtain⟨d,c,b⟩:=mW r (if y<m then y else m);by_cases q:y<m
  ·rw[f8 q]at d c b ⊢;refine⟨.inr ?_,by omega,λ x a=>?_⟩
   ·rcases d with z | z
    ·rw[z];exact n9 ..
    ·exact n6 _ z
   ·rcases h8.mp a with z | z
    ·rw[z];exact c
    ·exact b x z
  ·rw[g7 q]at d c b ⊢;refine⟨?_,c,λ x a=>?_⟩
   ·rcases d with z | z
    ·exact .inl z
    ·exact .inr (n6 _ z)
   ·rcases h8.mp a with z | z
    ·rw[z];omega
    ·exact b x z
theorem vo:∀l:ge Nat,ints? (nD l)=some (l.map λ (j:Nat)=>(j:Int))
 | []=>rfl
 | a::l=>by show(ints? (nD l)).map _=_;rw[vo l];rfl
theorem HF(h:evE G F e δ=some (.ok (Kx (nD l)) cl))(f:l≠[]):∃z∈l,(∀x∈l,z<=x)/\evE G F (.bi .min [e]) δ=some (.ok (Ke (z:Nat)) .strong):=by
 cases l with
 | nil=>exact absurd rfl f
 | cons a l=>
  obtain⟨i,g,c⟩:=mW _ a;have k:evE G F (.bi .min [e]) δ=some (.ok (Ke (minI a (l.map λ (j:Nat)=>(j:Int)))) .strong):=by rw[ui (g8 h k9)];show(match ints? (nD (a::l))with | some (n::r)=>some _ | _=>_)=_;rw[vo];rfl
  obtain⟨z,b,ez⟩:∃z∈a::l,minI a _=((z:Nat):Int):=by
   rcases i with q | q
   ·exact⟨a,n9 ..,q⟩
   ·obtain⟨z,b,q⟩:=i4.mp q;exact⟨z,n6 _ b,q.symm⟩
  refine⟨z,b,λ x d=>?_,by rw[k,ez]⟩;rw[ez]at g c;rcases h8.mp d with q | q
  ·rw[q];omega
  ·have:=c _ (i4.mpr ⟨x,q,rfl⟩);omega
end k22
end
noncomputable section
namespace k22
open PySem L2
variable {fu k:Nat} {F:Nat->ge DV->Ji Ou} {δ:ge Sv} {ds:ge DV} {cl:Cl} {R C a b:Nat} {rest:ge (ge Int)} {L:Tb}
def mf(rest:JW):Mx:=λ i j=>(rest.getD i []).getD j 0
theorem vq(rest:JW)(R C:Nat):WI (sub rest (cs R) (cs C))=(JY 10).filter (wp KU R C):=by
 unfold WI sub wp mf
 congr 1
 funext w
 rw[jz]
 congr 1
 funext i
 show((cs C).map λ j=>(rest.getD i []).getD j 0).any _=_;rw[jz];rfl
def W9(rest:JW):Prop:=∀r∈rest,∀x∈r,0<=x/\x<=9
theorem vt{r:ge Int}(h:j<r.length):r.getD j 0∈r:=by
 rw[o8,k7 h];exact P0 h
theorem bM(c:Rect a b rest)(e:W9 rest)(g:i<a)(f:j<b):0<=mf rest i j/\mf rest i j<=9:=by
 have d:=J6 (by rw[c.1];exact g);exact e _ d _ (vt (by rw[c.2 _ d];exact f))
theorem M9(a:c<2^n)(h:i∈cs c):i<n:=by
 exact(Nat.pow_lt_pow_iff_right (by decide:1<2)).mp (Z8 (iJ (G3 h)) a)
theorem p32(h:n<=5):2^n<=32:=O6 JB h
theorem cs5:∀c,c<32->(cs c).length<=5:=by decide +kernel
theorem vw(f:Rect a b rest)(e:W9 rest)(h:a<=5)(g:b<=5)(l:0<R)(k:R<2^a)(n:0<C)(m:C<2^b):0<wn KU R C:=by
 have pa:=p32 h;have pb:=p32 g;obtain⟨i,d⟩:=aL (M8 R JA l);obtain⟨j,c⟩:=aL (M8 C JA n);have q:=bM f e (M9 k d) (M9 m c);unfold wn;refine eC (a:=(mf rest i j).toNat) (B8.mpr ⟨q9.mpr JA,V3.mpr ⟨i,j,d,c,by omega⟩⟩)
theorem HG(e:Rect a b rest)(h:W9 rest)(A:0<a)(u:a<=5)(q:b<=5)(B:0<R)(f:R<2^a)(E:0<C)(g:C<2^b)(y:δ[3]? = some (.val (tT rest)))(w:δ[5]? = some (Kb R))(v:δ[6]? = some (Kb C)) :
  evE G (JX (k+3)) (.bi .len [.call 11 [.call 2 [.var 3,.var 5,.var 6]]]) δ=some (.ok (Ke (wn (mf rest) R C:Nat)) .strong):=by
 have pa:=p32 u;have pb:=p32 q;have m:Rect (cs R).length (cs C).length (sub rest (cs R) (cs C)):=(by refine⟨by unfold sub;rw[g6],λ r d=>?_⟩;obtain⟨i,_,rfl⟩:=i4.mp d;rw[g6]);have c:W9 (sub rest (cs R) (cs C)):=λ r d x n=>by obtain⟨i,p,rfl⟩:=i4.mp d;obtain⟨j,o,rfl⟩:=i4.mp n;exact bM e h (M9 f p) (M9 g o)
 have z:=k6 (G:=G) (g8 (f6 y) (g8 (f6 w) (g8 (f6 v) k9))) rfl (uU (fu:=fu) (k:=k) rest a b R C e A JA JA B f E g);have l:=dO (k6 (g8 z k9) rfl (uN _ _ _ m (i7 (cs5 R JA) JB) (i7 (cs5 C JA) JB) c));rw[vq]at l;unfold nD at l;rw[g6]at l;exact l
noncomputable def lnB:ge MS:=[.iff (.cmp .Eq (.bi .len [.call 11 [.call 2 [.var 3,.var 5,.var 6]]]) (.int 1)) [.dpp 4 [.var 5,.var 6] (.var 1)] [.set 7 false (.call 17 [.var 5,.var 6]),.dpp 4 [.var 5,.var 6] (.bi .min [.comp (.callv 4 [("joined_bits",15)] [.dgp 5 (.var 2),.dgp 5 (.var 3)]) (.many [0,1,2,3]) (.var 7) [none,none,none,none,some 2,some 4]])]]
def lnD(t:DV)(rest:JW)(L:Tb)(x y w:Sv):ge Sv:=[.val t,.val (.int 0),.val (.fn "joined_bits"),.val (tT rest),.od (dD L),x,y,w]
end k22
end
noncomputable section
namespace k22
open PySem L2
theorem io{n:Nat}(h:JC e cx (.int n))(hn:n<=1000):evE G F (Lh e) δ=some (.ok (Ke ((2^n:Nat):Int)) .strong):=K3 i5 h (by
 show(if 0<=_/\_<=1000000/\(1:Int).natAbs<2^64 then some (Re.ok _ .strong)else none)=_;rw[f8 ⟨by omega,by omega,by decide⟩,A8,Int.one_mul]
 congr 3)
def lnF:MS:=.fo (.one 6) (.rng [.int 1,.bin .LShift (.int 1) (Kf 3)]) lnB
theorem HH(h:noOt i δ=true):evS G F fu (.sep i) δ=some (.nx (δ.set i (.od (dD [])))):=by
 have a:evS G F fu (.sep i) δ=if noOt i δ then some (.nx _)else none:=rfl
 rw[a,f8 h];rfl
theorem HI(h:δ[i]? = some (.od (dD L))):evS G F fu (.retd i) δ=some (.rt (dC L) false):=by
 have a:evS G F fu (.retd i) δ=(match δ[i]? with
  | some (.od d)=>if isDc d then some (.rt _ false)else none
  | _=>none):=rfl
 rw[a,h];rfl
theorem HJ(rows:JW)(n m:Nat)(d:Ks)(e:0<n)(a:n<=60)(b:m<=60)(h1:(JV).length<=5)(h2:(FI JJ).length<=5):run G T fu (k+5) 10 [tT rows]=some (.v .non false):=by
 rw[p7 rfl rfl];unfold mu;have c:=k6 (G:=G) (δ:=m7 1 [tT rows]) (es:=[.var 0]) rfl rfl (uF (fu:=fu) (k:=k) rows n m d e a b);have s:sm (JV).length (FI JJ).length=true:=by unfold sm;rw[f7,A9,A9];omega
 rw[s]at c;have q:=R7 c;exact ke (v5 (o6 q) rfl)
def rst(m:Nat)(rows:JW):ge (ge Int):=sub rows JV (FI JJ)
theorem vy:∀L:Tb,kvp? (L.map λ p=>kk p.1) (LM (p.2:Int))=some (L.map λ p=>(((p.1.1:Int),(p.1.2:Int)),(p.2:Int)))
 | []=>rfl
 | p::L=>by show(kvp? _ _).map _=_;rw[vy L];rfl
noncomputable def tD(p:(Nat×Nat)×Nat):DV:=.tup [.int p.1.1,.int p.1.2,.int p.2]
theorem HK(L:Tb)(h:L≠[])(a:L.length<=100000):run G T fu (k+1) 13 [dC L]=some (.v (Kx (L.map tD)) true):=by
 rw[p7 rfl rfl];unfold tW;have w:r6 (evE G (JX k) (.itm (.var 0)) (m7 1 [dC L]))=some (.ok (L.map λ p=>.tup [.tup [.int p.1.1,.int p.1.2],.int p.2]) .strong):=by have b:evE G (JX k) (.itm (.var 0)) (m7 1 [dC L])=Re.thn (evE G (JX k) (.var 0) (m7 1 [dC L])) (λ x c=>itmD x c):=rfl;rw[b,f6 rfl,B3];show r6 (if Cl.strong=.strong/\(L.map λ p=>kk p.1).isEmpty=false then(kvp? (L.map λ p=>kk p.1) (LM (p.2:Int))).map (λ l=>.ok _ .strong)else none)=_;rw[f8 ⟨rfl,by cases L with | nil=>exact absurd rfl h | cons _ _=>rfl⟩,vy];show some _=_;rw[p9];rfl
 refine t4 (p8 (v3 (G2 w JB (i7 a JB) λ p hp=>?_)));refine⟨[.val _,.val _],.strong,rfl,?_,rfl⟩;exact U6 (g8 (q5 (cx:=.strong) (f6 rfl) (i5 (i:=0)) rfl) (g8 (q5 (cx:=.strong) (f6 rfl) (i5 (i:=1)) rfl) (g8 (f6 rfl) k9))) (ln4 JL) rfl
theorem HL(xs:ge DV)(x:DV):ixD (Kx (xs++[x])) (Ke (-1))=some x:=by
 show(C6 (xs++[x]).length (-1)).bind _=_;have e:C6 (xs++[x]).length (-1)=some xs.length:=by
  unfold C6;rw[g7 JB,f8 (by rw[t5];simp;omega)];rw[t5]
  congr 1
  simp;omega
 rw[e,N0,Q4 (i8 _),jA];rfl
theorem vz(c:Int)(n:Nat)(h:n<=1000):∃xs:ge Int,xs.length=n/\run G T fu (k+1) 26 [.int c,.int n]=some (.v (Kx (xs.map DV.int)) true):=by
 rw[p7 rfl rfl];obtain⟨l,q,xs,b,z,e,rfl⟩:=br (i:=4) (I:=λ j g=>∃(xs:ge Int) (b:Int) (z:Sv),xs.length=j/\g=[.val (.int c),.val (.int n),.own (Kx (xs.map DV.int)),.val (.int b),z])
  (body:=λ f=>evSs G (JX k) fu [.set 3 false (.bin .Mod (.bin .Add (.bin .Add (.bin .Mult (.var 3) (Ke 48271)) (.bin .Mult (.var 4) (.var 4))) (Ke 11)) (Ke 2147483647)),.app 2 (.bin .FloorDiv (.var 3) (.int 7))] f) n 0
  (λ j m g I=>by
   obtain⟨xs,b,z,e,rfl⟩:=I;rw[show(0:Int)+(j:Int)=j by omega];obtain⟨N,o⟩:∃N:Int,(b*48271+(j:Int)*j+11)%2147483647=N:=KD;obtain⟨D,p⟩:∃D:Int,N/7=D:=KD;refine⟨_,k8 (o9 (d:=.int N) (cl:=.strong) ?_ rfl) (k8 (zK (d:=.int D) (cl:=.strong) rfl ?_ rfl (by rw[g6,e];exact r9 (r9 m h) JB)) rfl),xs++[D],N,.val (.int j),by rw[t5,e];rfl,?_⟩
   ·rw[←o];exact E2 (M1 (M1 (bu (f6 rfl) i5 (m48 _)) (bu (f6 rfl) (f6 rfl) (Hb JA))) i5) i5 JB
   ·rw[←p];exact kh (f6 rfl) i5 JB
   ·rw[←Ha];rfl) ⟨[],_,.no,rfl,rfl⟩
 refine⟨xs,e,?_⟩;unfold uc;exact t4 (k8 (kf rfl) (k8 (o9 (M1 (E2 (f6 rfl) i5 JB) i5) rfl) (X1 (aG (n:=n) (f6 rfl) h) (.inr rfl) q (p8 rfl))))
variable {fu k:Nat} {F:Nat->ge DV->Ji Ou} {δ:ge Sv} {ds:ge DV} {cl:Cl} {n m:Nat} {f:Nat->Nat->Int} {d:DV}
def Look(d:DV)(n m:Nat)(f:Nat->Nat->Int):Prop:=∀i,i<n->∃x,ixD d (Ke (i:Int))=some x/\∀j,j<m->ixD x (Ke (j:Int))=some (Ke (f i j))
noncomputable def at2(rows:JW)(i j:Nat):Int:=(rows.getD i []).getD j 0
theorem HM(R:Ks)(h:i<n):(rows.getD i []).length=m:=R.2 _ (J6 (by rw[R.1];exact h))
theorem HN(R:Ks):Look Lq n m (at2 rows):=λ i a=>⟨_,aH (by rw[R.1];exact a),λ j b=>mF (by rw[HM R a];exact b)⟩
theorem HP{i j:Nat}(L:Look d n m f)(l:evE G F a δ=some (JT d))(k:JC b r (.int (i:Int)))(h:JC e q (.int (j:Int)))(g:i<n)(c:j<m):evE G F (.ix (.ix a b) e) δ=some (.ok (Ke (f i j)) .strong):=by
 obtain⟨x,p,o⟩:=L i g;exact q5 (q5 l k p) h (o j c)
theorem b_ne(d:JC a cx (.int i))(c:JC b cy (.int j)):evE G F (.cmp .NotEq a b) δ=some (.ok (.bl (i != j)) .strong):=G0 d c rfl
theorem HQ(ds:ge DV)(h:Nat):cutD ds (some (h:Int)) none=ds.drop h:=by
 unfold cutD slIx;dsimp only;rw[g7 JA,A8];by_cases q:h<=ds.length
 ·rw[cq q,eB Kz]
 ·rw[jj JA,jh,List.take_nil,List.drop_of_length_le JA]
theorem HR(ds:ge DV)(h:Nat):cutD ds none (some (h:Int))=ds.take h:=by
 unfold cutD slIx;dsimp only;rw[g7 JA,A8,cw,Nat.sub_zero];by_cases q:h<=ds.length
 ·rw[cq q]
 ·rw[jj JA,List.take_length,eB JA]
theorem vA{h:Nat}(e:JC a c (.lst ds))(d:JC b c1 (.int (h:Int))):evE G F (.slf a b) δ=some (.ok (Kx (ds.drop h)) (Cl.anew c c)):=by
 show Re.thn _ _=_;rw[e,B3];show Re.thn _ _=_;rw[d,B3,←HQ];rfl
theorem vB{h:Nat}(e:JC a c (.lst ds))(d:JC b c1 (.int (h:Int))):evE G F (.slt a b) δ=some (.ok (Kx (ds.take h)) (Cl.anew c c)):=by
 show Re.thn _ _=_;rw[e,B3];show Re.thn _ _=_;rw[d,B3,←HR];rfl
theorem ir(d:JC a cx (.lst x))(c:JC b cy (.lst y))(h:x.length+y.length<=1000):evE G F (.bin .Add a b) δ=some (.ok (Kx (x++y)) (Cl.anew cx cy)):=
 K3 d c (f8 (i7 h JB))
theorem b_ge(d:JC a cx (.int i))(c:JC b cy (.int j)):evE G F (.cmp .GtE a b) δ=some (.ok (.bl (decide (j<=i))) .strong):=G0 d c rfl
variable {fu k:Nat} {F:Nat->ge DV->Ji Ou} {δ:ge Sv} {ds:ge DV} {cl:Cl} {n m:Nat} {f:Nat->Nat->Int} {d:DV}
theorem bN{fu:Nat}{F:Nat->ge DV->Ji Ou}{δ:ge Sv}{G:Gs}{m:MS}{r:ge MS}{c:Str}{δ':ge Sv}(h:evS G F fu m δ=some (.ex c δ')):evSs G F fu (m::r) δ=some (.ex c δ'):=by
 unfold evSs;rw[h]
theorem iu{fu:Nat}{F:Nat->ge DV->Ji Ou}{δ:ge Sv}{G:Gs}{r:ge MS}{c:Str}{δ':ge Sv}(h:evSs G F fu r δ=some (.ex c δ')):Ou.of (evSs G F fu r δ)=some (.x c):=by rw[h];rfl
theorem HU{fu:Nat}{F:Nat->ge DV->Ji Ou}{δ:ge Sv}{G:Gs}{c:ME}{a b r:ge MS}{x:Str}{δ':ge Sv}(hc:tstD (JP c)=some (.ok true))(h:evSs G F fu a δ=some (.ex x δ')):evSs G F fu (.iff c a b::r) δ=some (.ex x δ'):=bN ((cV hc).trans h)
theorem iw{F:Nat->ge DV->Ji Ou}{δ:ge Sv}{G:Gs}{f:Nat}{es:ge ME}{l:ge (DV×Cl)}{c:Str}(ha:Li)(h:F f (l.map (·.1))=some (.x c)):evE G F (.call f es) δ=some (.ex c):=by
 show Rs.thn (evEs G F es δ) (λ l=>J1 F f l)=_;rw[ha];show J1 F f l=_;unfold J1;rw[h]
theorem vC{fu:Nat}{F:Nat->ge DV->Ji Ou}{δ:ge Sv}{G:Gs}{e:ME}{c:Str}(h:Kh e (.ex c)):evS G F fu (.exp e) δ=some (.ex c δ):=by
 show Re.thnS δ (JP e) (λ _ _=>some (.nx δ))=_;rw[h];rfl
theorem HV{fu:Nat}{F:Nat->ge DV->Ji Ou}{δ:ge Sv}{cl:Cl}{G:Gs}{c:Str}{e:ME}{d:DV}(hc:(G.cls.lookup c).isSome=true)(h:Kh e (.ok d cl)):evS G F fu (.rse c e) δ=some (.ex c δ):=by
 show(if(G.cls.lookup c).isSome=true then Re.thnS δ (JP e) (λ _ _=>some (.ex c δ))else none)=_;rw[f8 hc,h];rfl
variable {rows:ge (ge Int)}
theorem HW(R:Ks)(a:0<n)(n8:n<=8)(m8:m<=8):run G T fu (k+5) 10 [tT rows]=(if sm (JV).length (FI JJ).length then some (.v .non false)else some (.x "TooGreat")):=by
 rw[p7 rfl rfl];unfold mu;have c:=R7 (k6 (G:=G) (δ:=m7 1 [tT rows]) (es:=[.var 0]) rfl rfl (uF (fu:=fu) (k:=k) rows n m R a JA JA));cases h:sm (JV).length (FI _).length with
 | true=>
  rw[h]at c;rw[f8 rfl];exact ke (v5 (o6 c) rfl)
 | false=>
  rw[h]at c;rw[g7 B5];exact iu (HU (o6 c) (bN (HV (d:=.str "the table has more than five kinds of rows or of columns") (cl:=.strong) rfl rfl)))
theorem HY(rows:JW):(JV).Pairwise (· < ·):=by
 unfold FI;exact(iM).sublist iR
variable {fu k:Nat} {F:Nat->ge DV->Ji Ou} {δ:ge Sv} {ds:ge DV} {cl:Cl} {n m:Nat} {f:Nat->Nat->Int} {d:DV} {rows:ge (ge Int)}
theorem HZ(i:Nat)(rows:JW)(n m:Nat)(R:Ks)(g:0<n)(f:n<=8)(a:m<=8)(d:δ[i]? = some (.val (rL rows))):evE G F (.comp (.comp (JQ 0 (.var 1)) (.one 0) (.var 1) [none,some 0]) (.one 0) (.rng [.bi .len [.ix (.var i) (.int 0)]]) [none,some i]) δ=some (.ok (rL JJ) .fresh):=by
 have c:0<rows.length:=by rw[R.1];exact g
 have b:δ.getD i .no=.val (rL rows):=by rw[o8,d];rfl
 have e:=G2 (tg:=.one 0) (fr:=[none,some i]) ((by have t:=dO (q5 (f6 d) (i5 (F:=F) (i:=0)) (show ixD _ _=some (.lst _)from mH c));rw[show(iD _).length=m by unfold iD;rw[g6];exact R.2 _ (J6 c)]at t;rw[aG t JA,uu];rfl)) JB (by rw[B7];exact i7 a JB) λ j h=>by refine⟨[.val _,.val _],.fresh,?_,Hn rows m j R.2 (q9.mp h) (by rw[R.1];omega),rfl⟩;show some _=_;unfold w4;simp only[A4,jw,b];rfl
 rw[e];unfold rL flip;rw[p9];rfl
theorem iy{n:Nat}(h:JC e c (.int (n:Int)))(a:n<=1000):r6 (JP (.rng [e]))=some (.ok ((JY n).map λ (j:Nat)=>DV.int (j:Int)) .fresh):=by
 rw[aG h a,uu];rfl
theorem vD(h:j<m):(JJ).getD j []=col rows j:=by
 unfold flip;rw[o8,p5,eN h];rfl
theorem Q3:(JJ).length=m:=by unfold flip;rw[g6,B7]
variable {fu k:Nat} {F:Nat->ge DV->Ji Ou} {δ:ge Sv} {ds:ge DV} {cl:Cl} {n m:Nat} {f:Nat->Nat->Int} {d:DV} {rows:ge (ge Int)}
theorem Ia{i j:Nat}(d:JC a cx (.int (i:Int)))(c:JC b cy (.int (j:Int))):evE G F (.bi .max [a,b]) δ=some (.ok (Ke ((max i j:Nat):Int)) .strong):=by
 show Rs.thn _ _=_;rw[g8 d (g8 c k9)];show some _=_
 congr 3
 rw[Nat.max_def];split<;>split<;>omega
theorem iz{i j:Nat}(d:JC a cx (.int (i:Int)))(c:JC b cy (.int (j:Int))):evE G F (.cmp .Eq a b) δ=some (.ok (.bl (i==j)) .strong):=by
 have q:=b_eq d c;rw[show(_==_)=(i==j) by rw[cr,g9,g9];omega]at q;exact q
theorem add1{i:Nat}(h:JC e c (.int (i:Int))):evE G F (.bin .Add e (.int 1)) δ=some (.ok (Ke ((i+1:Nat):Int)) .strong):=by
 rw[show(((i+1:Nat)):Int)=_+1 by push_cast;rfl];exact M1 h i5
variable {fu k:Nat} {F:Nat->ge DV->Ji Ou} {δ:ge Sv} {ds:ge DV} {cl:Cl} {n m:Nat} {f:Nat->Nat->Int} {d:DV} {rows:ge (ge Int)}
theorem or_f{F:Nat->ge DV->Ji Ou}{δ:ge Sv}{G:Gs}{a b:ME}{r:ge ME}{cx:Cl}{o:Ji Re}(ha:JC a cx (.bl false))(hb:evE G F (.or (b::r)) δ=o):evE G F (.or (a::b::r)) δ=o:=by
 show Re.thn (JP a) (λ x c=>orD x c (JP (.or (b::r))))=o;rw[ha];exact hb
theorem or_1{F:Nat->ge DV->Ji Ou}{δ:ge Sv}{G:Gs}{a:ME}{o:Ji Re}(ha:evE G F a δ=o):evE G F (.or [a]) δ=o:=by
 exact ha
variable {fu k:Nat} {F:Nat->ge DV->Ji Ou} {δ:ge Sv} {ds:ge DV} {cl:Cl} {n m:Nat} {f:Nat->Nat->Int} {d:DV} {rows:ge (ge Int)}
def Few(L:JW):Prop:=∃S:ge (ge Int),S.length<=5/\∀r∈L,r∈S
theorem vE{b:Type}[BEq b][LawfulBEq b]:∀{l S:ge b},l.Nodup->(∀x∈l,x∈S)->l.length<=S.length
 | [],_,_,_=>E5 _
 | a::l,S,h,hs=>by
  obtain⟨g,f⟩:=N1.mp h;have c:=hs a (n9 ..);have q:=vE (S:=S.erase a) f λ x d=>(List.mem_erase_of_ne (λ e=>g Kz)).mpr (hs x (n6 _ d))
  rw[List.length_erase_of_mem c]at q;have:=eC c;rw[x9];omega
theorem S9(h:Few rows):(JV).length<=5:=by
 obtain⟨S,h1,k⟩:=h;have q:((JV).map λ r=>rows.getD r []).length<=S.length:=by
  refine vE ?_ λ x c=>?_
  ·rw[List.nodup_iff_pairwise_ne,List.pairwise_map];refine List.Pairwise.imp_of_mem (λ {a b} j g d=>?_) (HY rows);intro e;have l:=bg (B8.mp j).2;have e2:=bg (B8.mp g).2;rw[e]at l;omega
  ·obtain⟨i,f,rfl⟩:=i4.mp c;exact k _ (J6 (Y8 f))
 rw[g6]at q;omega
theorem vF(h:rows.length<=5):Few rows:=⟨rows,h,λ _ a=>a⟩
noncomputable def ins(a s:Nat)(l:ge Int):ge Int:=l.take a++[l.getD s 0]++l.drop a
theorem Ib:(ins a s l).length=l.length+1:=by
 unfold ins;rw[t5,t5,E9,aa,T6];omega
noncomputable def src(a s j:Nat):Nat:=if j<a then j else if j=a then s else j - 1
theorem oW(ha:a<=l.length):(ins a s l).getD j 0=l.getD (src a s j) 0:=by
 unfold ins src;simp only[o8];have lt:(l.take a).length=a:=by rw[E9];omega
 by_cases b:j<a
 ·rw[f8 b,O3 (by rw[t5,lt,T6];omega),O3 (by rw[lt];exact b),aN b]
 ·rw[g7 b];by_cases c:j=a
  ·rw[f8 c,O3 (by rw[t5,lt,T6];omega),Q4 (by rw[lt];omega),lt,c,jA];rfl
  ·rw[g7 c,Q4 (by rw[t5,lt,T6];omega),t5,lt,T6,Z7]
   congr 2
   omega
noncomputable def insR(a s:Nat)(rows:JW):ge (ge Int):=rows.take a++[rows.getD s []]++rows.drop a
structure Tk(n m:Nat)(rows:List (List Int)):Prop where
 n0:0<n
 n8:n<=8
 m0:0<m
 m8:m<=8
 R:Rect n m rows
 fr:Few rows
 fc:Few JJ
 w9:W9 rows
theorem Tk.row(t:Tk n m rows)(hn:n<8)(ha:a<=n)(d:s<n):Tk (n+1) m (insR a s rows):=by
 have c:∀r∈insR a s rows,r∈rows:=λ r b=>by
  unfold insR at b;rcases D7.mp b with q | q
  ·rcases D7.mp q with q | q
   ·exact eL q
   ·rw[u7.mp q];exact J6 (by rw[t.R.1];exact d)
  ·exact eK q
 refine⟨by omega,by omega,t.m0,t.m8,⟨?_,λ r b=>t.R.2 r (c r b)⟩,?_,?_,λ r b=>t.w9 r (c r b)⟩
 ·unfold insR;rw[t5,t5,E9,aa,T6,t.R.1];omega
 ·obtain⟨S,f,e⟩:=t.fr;exact⟨S,f,λ r b=>e r (c r b)⟩
 ·obtain⟨S,f,e⟩:=t.fc;refine⟨S.map (ins a s),by rw[g6];exact f,λ r b=>?_⟩;obtain⟨j,g,rfl⟩:=i4.mp b;refine i4.mpr ⟨col rows j,e _ (i4.mpr ⟨j,g,rfl⟩),?_⟩;unfold col ins insR;rw[C4,C4,fw,fv]
  congr 2
  rw[o8,p5,k7 (by rw[t.R.1];exact d),List.map_singleton,o8 (l:=rows),k7 (by rw[t.R.1];exact d)];rfl
theorem Tk.colm(t:Tk n m rows)(hm:m<8)(o:a<=m)(i:s<m):Tk n (m+1) (rows.map (ins a s)):=by
 refine⟨t.n0,t.n8,by omega,by omega,⟨by rw[g6,t.R.1],λ r c=>?_⟩,?_,?_,λ r c x h=>by
  obtain⟨d,b,rfl⟩:=i4.mp c;refine t.w9 d b x ?_;unfold ins at h;rcases D7.mp h with q | q
  ·rcases D7.mp q with q | q
   ·exact eL q
   ·rw[u7.mp q];exact vt (by rw[t.R.2 d b];exact i)
  ·exact eK q⟩
 ·obtain⟨d,b,rfl⟩:=i4.mp c;rw[Ib,t.R.2 d b]
 ·obtain⟨S,g,f⟩:=t.fr;refine⟨S.map (ins a s),by rw[g6];exact g,λ r c=>?_⟩;obtain⟨d,b,rfl⟩:=i4.mp c;exact i4.mpr ⟨d,f d b,rfl⟩
 ·obtain⟨S,g,f⟩:=t.fc;refine⟨S,g,λ r c=>?_⟩;obtain⟨j,l,rfl⟩:=i4.mp c;have k:=q9.mp l;have e:col (rows.map (ins a s)) j=col rows (src a s j):=by unfold col;rw[p9];apply L0;intro r c;exact oW (by rw[t.R.2 r c];exact o)
  rw[e];refine f _ (i4.mpr ⟨src a s j,q9.mpr ?_,rfl⟩);unfold src;split
  ·omega
  ·split<;>omega
theorem dP{F:Nat->ge DV->Ji Ou}{δ:ge Sv}{elt eo ei:ME}{fi fo:ge (Ji Nat)}{g:Nat->Nat->Int}(hn:evE G F eo δ=some (JT (.int (n:Int))))(n5:n<=8)(m5:m<=8)(ho:∀r,r<n->∃δ1,(Tg.one 0).bind (Ke (r:Int)) (w4 fo δ)=some δ1/\evE G F ei δ1=some (JT (.int (m:Int)))/\∀c,c<m->∃δ2,(Tg.one 0).bind (Ke (c:Int)) (w4 fi δ1)=some δ2/\evE G F elt δ2=some (JT (.int (g r c)))) :
  evE G F (.comp (.comp elt (.one 0) (.rng [ei]) fi) (.one 0) (.rng [eo]) fo) δ=some (.ok (rL ((JY n).map λ r=>(JY m).map (g r))) .fresh):=by
 have e:=G2 (l:=List.range n) (h:=λ (j:Nat)=>DV.int (j:Int)) (f:=λ r=>.lst (iD ((JY m).map (g r)))) (elt:=.comp elt (.one 0) (.rng [ei]) fi) (tg:=.one 0) (fr:=fo) (iy hn JA) JB (by rw[B7];exact i7 n5 JB) λ r hr=>by
  obtain⟨δ1,h1,h2,h3⟩:=ho r (q9.mp hr);refine⟨δ1,.fresh,h1,?_,rfl⟩;have q:=G2 (F:=F) (δ:=δ1) (l:=List.range m) (h:=λ (j:Nat)=>DV.int (j:Int)) (f:=λ c=>.int (g r c)) (elt:=elt) (tg:=.one 0) (fr:=fi) (iy h2 JA) JB (by rw[B7];exact i7 m5 JB) λ c hc=>by obtain⟨δ2,h4,h5⟩:=h3 c (q9.mp hc);exact⟨δ2,.strong,h4,h5,rfl⟩
  rw[q];unfold iD;rw[p9];rfl
 rw[e];unfold rL;rw[p9];rfl
theorem dQ(g:Nat->Nat->Int):Rect n m ((JY n).map λ r=>(JY m).map (g r)):=by
 refine⟨by rw[g6,B7],λ r a=>?_⟩;obtain⟨i,_,rfl⟩:=i4.mp a;rw[g6,B7]
theorem mX(h:JC e c (.bl b)):evE G F (.bi .int [e]) δ=some (.ok (Ke (if b then 1 else 0)) .strong):=by
 show Rs.thn _ _=_;rw[g8 h k9];rfl
theorem top4(x:Int):∃a:Int,0<a/\a<=10/\ixD (.lst [.int 2,.int 3,.int 10,.int 2]) (Ke (x%4))=some (.int a):=by
 have:x%4=0\/x%4=1\/x%4=2\/x%4=3:=by omega
 rcases this with h | h | h | h<;>rw[h]
 ·exact⟨2,by decide,by decide,rfl⟩
 ·exact⟨3,by decide,by decide,rfl⟩
 ·exact⟨10,by decide,by decide,rfl⟩
 ·exact⟨2,by decide,by decide,rfl⟩
theorem Ic(x:Int):∃a:Int,0<a/\a<=5/\ixD (.lst [.int 4,.int 4,.int 4,.int 4,.int 4,.int 4,.int 4,.int 5]) (Ke (x%8))=some (.int a):=by
 have:x%8=0\/x%8=1\/x%8=2\/x%8=3\/x%8=4\/x%8=5\/x%8=6\/x%8=7:=by omega
 rcases this with h | h | h | h | h | h | h | h<;>rw[h]
 ·exact Ls
 ·exact Ls
 ·exact Ls
 ·exact Ls
 ·exact Ls
 ·exact Ls
 ·exact Ls
 ·exact⟨5,by decide,by decide,rfl⟩
variable {fu k:Nat} {F:Nat->ge DV->Ji Ou} {δ:ge Sv} {ds:ge DV} {cl:Cl} {n m:Nat} {f:Nat->Nat->Int} {d:DV} {rows:ge (ge Int)}
theorem aJ{xs:ge Int}{i:Int}(c:0<=i)(h:i<xs.length):∃v,∀{F:Nat->ge DV->Ji Ou} {δ:ge Sv} {e:ME},evE G F e δ=some (JT (.lst (xs.map DV.int)))->evE G F (.ix e (.int i)) δ=some (.ok (.int v) .strong):=by
 obtain⟨v,a⟩:=pU c h;exact⟨v,λ b=>q5 b i5 a⟩
abbrev Sc(ns xs:ge Int)(mo:Int)(n m:Nat)(tp:Int)(x y z:Sv):ge Sv:=[.val (.scr ns),.val (.int 2),.val (Kx (xs.map DV.int)),.val (Ke mo),.val (.int n),.val (.int m),.val (Ke tp),x,y,z]
theorem mY{g:Nat->Nat->Int}(h:∀r c,0<=g r c/\g r c<=9):W9 ((JY n).map λ r=>(JY m).map (g r)):=λ r b x a=>by
 obtain⟨i,_,rfl⟩:=i4.mp b;obtain⟨j,_,rfl⟩:=i4.mp a;exact h i j
theorem Ie(h:∀x∈ws,0<=x/\x<=9):W9 (V1 n m ws):=λ r b x a=>by
 obtain⟨i,_,rfl⟩:=i4.mp b;exact h x (eK (eL a))
theorem Ig(l:ge Int)(hns:l.length<=63)(xs:ge Int)(w:xs.length=24):∃(n m:Nat) (rows:JW),0<n/\n<=5/\0<m/\m<=5/\Rect n m rows/\W9 rows/\run G T fu (k+2) 27 [.scr l,.int 2,.lst (xs.map DV.int)]=some (.v (rL rows) false):=by
 obtain⟨v1,c1⟩:=mE (fu:=fu) (k:=k) l 1;obtain⟨a0,h0⟩:=aJ (xs:=xs) (i:=0) JA (by rw[w];omega);obtain⟨R,h1⟩:=aJ (xs:=xs) (i:=1) JA (by rw[w];omega);obtain⟨Q,h2⟩:=aJ (xs:=xs) (i:=2) JA (by rw[w];omega);obtain⟨a3,P⟩:=aJ (xs:=xs) (i:=3) JA (by rw[w];omega);obtain⟨H,h4⟩:=aJ (xs:=xs) (i:=4) JA (by rw[w];omega);obtain⟨a5,h5⟩:=aJ (xs:=xs) (i:=5) JA (by rw[w];omega);obtain⟨u,B,mo5,Z⟩:=Ic a0;obtain⟨o,E,a7,N⟩:=top4 a3;have m9:∀x:Int,0<=x%o/\x%o<=9:=λ x=>⟨eZ x JA,by have:=eS x E;omega⟩
 have b1:=eZ R (b:=u) JA;have b2:=eS R (b:=u) B;have b3:=eZ Q (b:=u) JA;have b4:=eS Q (b:=u) B;obtain⟨n,hn⟩:∃n:Nat,1+R%u=(n:Int):=⟨(1+R%u).toNat,by omega⟩;obtain⟨m,hm⟩:∃m:Nat,1+Q%u=(m:Int):=⟨(1+Q%u).toNat,by omega⟩;have X:n<=5:=by omega
 have m5:m<=5:=by omega
 have nm:n*m<=25:=js X m5;obtain⟨A,L,U⟩:=vz (fu:=fu) (k:=k) v1 (n*m) JA;have K:P3 (n:Int) (m:Int)=true:=by unfold P3;simp;omega
 have cm:=zQ (G:=G) (F:=run G T fu (k+1)) (δ:=(Sc l xs u n m o .no .no .no)) (elt:=.bin .Mod (.var 0) (.var 1)) (tg:=.one 0) (it:=.call 26 [.call 25 [.var 0,.int 1],.bin .Mult (.var 4) (.var 5)]) (fr:=[none,some 6]) (f:=λ d=>match d with | .int x=>.int (x%o) | d=>d) (ds:=A.map DV.int) (cl:=.fresh)
  (by
   have q:=k6 (G:=G) (F:=run G T fu (k+1)) (δ:=(Sc l xs u n m o .no .no .no)) (f:=26) (g8 (k6 (f:=25) (g8 (f6 (n:=0) (d:=.scr l) rfl) (g8 (i5 (i:=1)) k9)) rfl c1) (g8 (bu (f6 (n:=4) (d:=.int n) rfl) (f6 (n:=5) (d:=.int m) rfl) K) k9)) rfl (by rw[show((n:Int)*(m:Int))=((n*m:Nat):Int) by push_cast;rfl];exact U);rw[q];rfl) JB (by rw[g6,L];exact i7 nm JB) (λ d hd=>by
   obtain⟨x,w,rfl⟩:=i4.mp hd;exact⟨[.val (.int x),.val (.int o)],rfl,E2 (f6 rfl) (f6 rfl) E⟩)
 rw[p9,show((λ d=>match d with | DV.int x=>DV.int (x%o) | d=>d) ∘ DV.int)=DV.int ∘ (λ x:Int=>x%o)from rfl,←p9]at cm;obtain⟨b,hb,hb1,hb2⟩:∃b:Int,(if(l.length:Int) - 2<(n:Int)*m then(l.length:Int) - 2 else(n:Int)*m)=b/\b<=((n*m:Nat):Int)/\b<=(l.length:Int) - 2:=by refine⟨_,rfl,?_,?_⟩<;>split<;>push_cast<;>omega
 have a6 : -1000<=b:=(by rw[←hb];have:(0:Int)<=(n:Int)*m:=Int.mul_nonneg (E8 n) (E8 m);split<;>omega);obtain⟨δ1,l1,p,z,M,C,rfl⟩:=br (i:=8) (I:=λ _ δ=>∃(p:ge Int) (z:Sv),p.length=n*m/\(∀x∈p,0<=x/\x<=9)/\δ=(Sc l xs u n m o (.own (Kx (p.map DV.int))) z .no))
  (body:=λ S=>evSs G (JX (k+1)) fu [.seti 7 (.var 8) (.bin .Mod (JQ 0 (.bin .Add (.var 1) (.var 8))) (.var 6))] S) b.toNat 0
  (λ j hj δ I=>by
   obtain⟨p,z,M,C,rfl⟩:=I;rw[show(0:Int)+(j:Int)=j by omega];have P:2+j<l.length:=by omega
   have hv:ixD (.scr l) (Ke (2+(j:Int)))=some (.int l[2+j]):=(by rw[show(2:Int)+(j:Int)=((2+j:Nat):Int) by push_cast;rfl];show((C6 l.length ((2+j:Nat):Int)).bind λ j=>l[j]?).map DV.int=_;rw[mG P,N0,k7 P];rfl);refine⟨_,k8 (zL (d:=.int (l[2+j]%o)) (cl:=.strong) (n:=j) (cx:=.strong) (j:=j) rfl (E2 (q5 (f6 rfl) (M1 (f6 rfl) (f6 rfl)) hv) (f6 rfl) E) (f6 rfl) rfl (mG (by rw[g6,M];omega))) rfl,p.set j (l[2+j]%o),.val (.int j),by rw[B1];exact M,λ x w=>(List.mem_or_eq_of_mem_set w).elim (C x) (λ e=>e▸m9 _),?_⟩;rw[List.map_set];rfl) ⟨A.map λ x=>x%o,.no,by rw[g6];exact L,λ x w=>by obtain⟨y,_,rfl⟩:=i4.mp w;exact m9 y,rfl⟩
 have em:evE G (JX (k+1)) (.bi .min [.bin .Mult (.var 4) (.var 5),.bin .Sub (Km 0) (.var 1)]) (Sc l xs u n m o (.own (Kx ((A.map λ x=>x%o).map DV.int))) .no .no)=some (.ok (.int b) .strong):=(by have e1:evE G (JX (k+1)) (Km 0) (Sc l xs u n m o (.own (Kx ((A.map λ x=>x%o).map DV.int))) .no .no)=some (.ok (Ke l.length) .strong):=rfl;rw[ui (g8 (bu (f6 (n:=4) (d:=.int n) rfl) (f6 (n:=5) (d:=.int m) rfl) K) (g8 (bt e1 (f6 (n:=1) (d:=.int 2) rfl)) k9)),←hb];rfl);have rt:=Hc (F:=run G T fu (k+1)) (δ:=(Sc l xs u n m o (.own (Kx (p.map DV.int))) z .no)) (elt:=.sl (.var 1) (.bin .Mult (.var 0) (.var 2)) (.bin .Add (.bin .Mult (.var 0) (.var 2)) (.var 2))) (tg:=.one 0) (it:=.rng [.var 4]) (fr:=[none,some 7,some 5]) (f:=λ d=>match d with | .int j=>.lst (iD ((p.drop (j.toNat*m)).take m)) | d=>d) (ds:=upTo 0 n) (cl:=.fresh)
  (aG (f6 rfl) JA) JB (by unfold L2.upTo;rw[g6,B7];exact i7 X JB) (λ d hd=>by
   obtain⟨j,hj,rfl⟩:=pT hd;rw[show(0:Int)+(j:Int)=j by omega];have J:P3 (j:Int) (m:Int)=true:=by unfold P3;simp;omega
   refine⟨[.val (.int j),.own (Kx (iD p)),.val (.int m)],.fresh,rfl,?_,rfl⟩;show _=some (Re.ok (Kx (iD ((p.drop ((j:Int).toNat*m)).take m))) .fresh);rw[A8,←Hg M hj];exact Hf (pV rfl) (bu (f6 rfl) (f6 rfl) J) (M1 (bu (f6 rfl) (f6 rfl) J) (f6 rfl)))
 have hf:(upTo 0 n).map (λ d=>match d with | .int j=>DV.lst (iD ((p.drop (j.toNat*m)).take m)) | d=>d)=(V1 n m p).map λ r=>.lst (iD r):=by unfold L2.upTo V1;rw[p9,p9];apply L0;intro j _;show DV.lst (iD ((p.drop (((0:Int)+(j:Int)).toNat*m)).take m))=_;rw[show((0:Int)+(j:Int)).toNat=j by omega];rfl
 rw[hf]at rt
 let D:DV->ge Sv:=λ r=>(Sc l xs u n m o (.own (Kx (p.map DV.int))) z (.val r))
 have g1:∀r,evE G (JX (k+1)) (KG (.bi .int [.cmp .Eq (.var 1) (.var 0)])) (D r)=some (.ok (rL ((JY n).map λ (r:Nat)=>(JY m).map λ (c:Nat)=>if((r:Int)==(c:Int))then(1:Int)else 0)) .fresh):=λ r=>
  dP (n:=n) (m:=m) (g:=λ (r c:Nat)=>if((r:Int)==(c:Int))then 1 else 0) (f6 rfl) JA JA λ r hr=>⟨[.val (Ke (r:Int)),.val (Ke (m:Int))],rfl,f6 rfl,λ c hc=>⟨[.val (Ke (c:Int)),.val (Ke (r:Int))],rfl,mX (b_eq (f6 rfl) (f6 rfl))⟩⟩
 have g2:∀r,evE G (JX (k+1)) (KG (.bi .int [.cmp .Lt (.var 1) (.var 0)])) (D r)=some (.ok (rL ((JY n).map λ (r:Nat)=>(JY m).map λ (c:Nat)=>if decide ((r:Int)<(c:Int))then(1:Int)else 0)) .fresh):=λ r=>
  dP (n:=n) (m:=m) (g:=λ (r c:Nat)=>if decide ((r:Int)<(c:Int))then 1 else 0) (f6 rfl) JA JA λ r hr=>⟨[.val (Ke (r:Int)),.val (Ke (m:Int))],rfl,f6 rfl,λ c hc=>⟨[.val (Ke (c:Int)),.val (Ke (r:Int))],rfl,mX (b_lt (f6 rfl) (f6 rfl))⟩⟩
 have g3:∀r,evE G (JX (k+1)) (.comp (.comp (.bin .Mod (JN 1 5) (Ke 10)) (.one 0) (.rng [.var 1]) [none,some 2]) (.one 0) (.rng [.var 4]) [none,some 5,some 2]) (D r)=some (.ok (rL ((JY n).map λ (_:Nat)=>(JY m).map λ (_:Nat)=>a5%10)) .fresh):=λ r=>
  dP (n:=n) (m:=m) (g:=λ (r c:Nat)=>a5%10) (f6 rfl) JA JA λ r hr=>⟨[.val (Ke (r:Int)),.val (Ke (m:Int)),.val (Kx (xs.map DV.int))],rfl,f6 rfl,λ c hc=>⟨[.val (Ke (c:Int)),.val (Kx (xs.map DV.int))],rfl,E2 (h5 (f6 rfl)) i5 JB⟩⟩
 have v:∀(r:DV) (j:Int),evE G (JX (k+1)) (.cmp .Eq (.bin .Mod (JN 2 4) (.int 8)) (.int j)) (D r)=some (.ok (.bl (H%8==j)) .strong):=λ r j=>b_eq (E2 (h4 (f6 rfl)) i5 JB) i5;obtain⟨rows,Rr,R9,tail⟩:∃rows,Rect n m rows/\W9 rows/\evSs G (run G T fu (k+1)) fu (dM.body.drop 7) (D (rL (V1 n m p)))=some (.rt (rL rows) false):=by
  unfold dM;simp only[eP,cw];by_cases O:H%8=1
  ·refine⟨_,dQ (λ (r c:Nat)=>if((r:Int)==(c:Int))then 1 else 0),mY λ r c=>by(split<;>decide),R6 (o6 (by rw[v,O];rfl)) (k8 (o9 (g1 _) rfl) rfl) (v5 (o6 (show _=some (Re.ok KI .strong)from by rw[show((D (rL (V1 n m p))).set 9 _)=D _ from rfl,v,O];rfl)) (v5 (o6 (show _=some (Re.ok KI .strong)from by rw[show((D (rL (V1 n m p))).set 9 _)=D _ from rfl,v,O];rfl)) (p8 rfl)))⟩
  ·have Y:(H%8==1)=false:=z8.mpr O;by_cases W:H%8=2
   ·refine⟨_,dQ (λ (r c:Nat)=>if decide ((r:Int)<(c:Int))then 1 else 0),mY λ r c=>by(split<;>decide),v5 (o6 (by rw[v,Y])) (R6 (o6 (by rw[v,W];rfl)) (k8 (o9 (g2 _) rfl) rfl) (v5 (o6 (show _=some (Re.ok KI .strong)from by rw[show((D (rL (V1 n m p))).set 9 _)=D _ from rfl,v,W];rfl)) (p8 rfl)))⟩
   ·have n2:(H%8==2)=false:=z8.mpr W;by_cases q3:H%8=3
    ·refine⟨_,dQ (λ (r c:Nat)=>a5%10),mY λ r c=>by omega,v5 (o6 (by rw[v,Y])) (v5 (o6 (by rw[v,n2])) (R6 (o6 (by rw[v,q3];rfl)) (k8 (o9 (g3 _) rfl) rfl) (p8 rfl)))⟩
    ·have n3:(H%8==3)=false:=z8.mpr q3;exact⟨_,He M,Ie C,v5 (o6 (by rw[v,Y])) (v5 (o6 (by rw[v,n2])) (v5 (o6 (by rw[v,n3])) (p8 rfl)))⟩
 refine⟨n,m,rows,by omega,X,by omega,m5,Rr,R9,?_⟩;rw[p7 (fd:=dM) rfl rfl];unfold dM at tail ⊢;simp only[eP,cw]at tail;exact t4 (k8 (o9 (d:=.int u) (cl:=.strong) (q5 (cx:=.fresh) (x:=.lst [.int 4,.int 4,.int 4,.int 4,.int 4,.int 4,.int 4,.int 5]) rfl (E2 (h0 (f6 rfl)) i5 JB) Z) rfl)
  (k8 (o9 (d:=.int n) (cl:=.strong) (by rw[←hn];exact M1 i5 (E2 (h1 (f6 rfl)) (f6 rfl) B)) rfl) (k8 (o9 (d:=.int m) (cl:=.strong) (by rw[←hm];exact M1 i5 (E2 (h2 (f6 rfl)) (f6 rfl) B)) rfl)
  (k8 (o9 (d:=.int o) (cl:=.strong) (q5 (cx:=.fresh) (x:=.lst [.int 2,.int 3,.int 10,.int 2]) rfl (E2 (P (f6 rfl)) i5 JB) N) rfl)
  (k8 (kf cm) (X1 (Hd em JA a6) (.inr rfl) l1 (k8 (o9 rt rfl) tail)))))))
variable {fu k:Nat} {F:Nat->ge DV->Ji Ou} {δ:ge Sv} {ds:ge DV} {cl:Cl} {n m:Nat} {f:Nat->Nat->Int} {d:DV} {rows:ge (ge Int)}
theorem mZ{xs:ge Int}{i:Int}(d:0<=i+j)(h:i+j<xs.length):∃v,∀{F:Nat->ge DV->Ji Ou} {δ:ge Sv},evE G F (.var 2) δ=some (JT (.lst (xs.map DV.int)))->evE G F (.var 4) δ=some (JT (.int (j:Int)))->evE G F (JQ 2 (.bin .Add (.int i) (.var 4))) δ=some (.ok (.int v) .strong):=by
 obtain⟨v,a⟩:=pU d h;exact⟨v,λ c b=>q5 c (M1 i5 b) a⟩
theorem dR(x:Int)(hn:0<n):∃a:Nat,x%(n:Int)=(a:Int)/\a<n:=by
 have q1:=eZ x (b:=(n:Int)) JA;have q2:=eS x (b:=(n:Int)) JA;exact⟨(x%(n:Int)).toNat,by omega,by omega⟩
theorem Ih(R:Ks)(b:0<n)(h:evE G F (.var 3) δ=some (JT (rL rows))):evE G F (Kf 3) δ=some (.ok (Ke (m:Int)) .strong):=by
 have a:0<rows.length:=by rw[R.1];exact b
 have t:=dO (q5 h (i5) (mH a));rw[show(iD _).length=m by unfold iD;rw[g6];exact R.2 _ (J6 a)]at t;exact t
theorem Ii(R:Ks)(h:evE G F (.var 3) δ=some (JT (rL rows))):evE G F (Km 3) δ=some (.ok (Ke (n:Int)) .strong):=by
 have q:=dO h;rw[g6,R.1]at q;exact q
abbrev S7(s p:DV)(xs:ge Int)(rows:JW)(j:Nat)(y z:Sv):ge Sv:=[.val s,.val p,.val (Kx (xs.map DV.int)),.val (rL rows),.val (Ke (j:Int)),y,z]
noncomputable def vG:ge MS:=[.iff (.and [.cmp .Lt (Km 3) (.int 8),.cmp .Eq (.bin .Mod (JQ 2 (.bin .Add (.int 7) (.var 4))) (.int 2)) (.int 0)]) [.set 5 false (.bin .Mod (JQ 2 (.bin .Add (.int 12) (.var 4))) (.bin .Add (Km 3) (.int 1))),.set 3 false (.bin .Add (.bin .Add (.slt (.var 3) (.var 5)) (.lst [.ix (.var 3) (.bin .Mod (JQ 2 (.bin .Add (.int 17) (.var 4))) (Km 3))])) (.slf (.var 3) (.var 5)))] [.iff (.cmp .Lt (Kf 3) (.int 8)) [.set 5 false (.bin .Mod (JQ 2 (.bin .Add (.int 12) (.var 4))) (.bin .Add (Kf 3) (.int 1))),.set 6 false (.bin .Mod (JQ 2 (.bin .Add (.int 17) (.var 4))) (Kf 3)),.set 3 false Kv] []]]
theorem lst1(h:Kh e (.ok d c))(hs:stro d c=true):evE G F (.lst [e]) δ=some (.ok (.lst [d]) .fresh):=Hh (g8 h k9) (show 1<=o4 by decide) (by unfold stros;simp[hs])
theorem Ij(K:xs.length=24)(hj:j<5){d:Sv}(t:Tk n m rows):∃W X g H E,Tk W X g/\evSs G F fu vG (S7 s p xs rows j e d)=some (.nx [.val s,.val p,.val (Kx (xs.map DV.int)),.val (rL g),.val (Ke (j:Int)),H,E]):=by
 obtain⟨S,Z⟩:=mZ (xs:=xs) (i:=7) (j:=j) JA (by rw[K];omega);obtain⟨u,A⟩:=mZ (xs:=xs) (i:=12) (j:=j) JA (by rw[K];omega);obtain⟨o,z⟩:=mZ (xs:=xs) (i:=17) (j:=j) JA (by rw[K];omega);have I:∀e d,evE G F (Km 3) (S7 s p xs rows j e d)=some (.ok (Ke (n:Int)) .strong):=λ e d=>Ii t.R (f6 rfl)
 have J:∀e d,evE G F (Kf 3) (S7 s p xs rows j e d)=some (.ok (Ke (m:Int)) .strong):=λ e d=>Ih t.R t.n0 (f6 rfl);have C:=b_lt (I e d) (i5 (i:=8));have U:=b_eq (E2 (Z (F:=F) (δ:=(S7 s p xs rows j e d)) (f6 rfl) (f6 rfl)) (i5 (i:=2)) JB) (i5 (i:=0));have B:=b_lt (J e d) (i5 (i:=8));unfold vG;have v:tstD (evE G F (.and [.cmp .Lt (Km 3) (.int 8),.cmp .Eq (.bin .Mod (JQ 2 (.bin .Add (.int 7) (.var 4))) (.int 2)) (.int 0)]) (S7 s p xs rows j e d))=some (.ok (decide ((n:Int)<8)&&(S%2==0))):=by
  cases hd:decide ((n:Int)<8)with
  | false=>rw[hd]at C;exact o6 (mM C)
  | true=>rw[hd]at C;exact o6 (V2 C (aI U))
 cases P:decide ((n:Int)<8)&&(S%2==0)with
 | true=>
  rw[P]at v;rw[f7,O8]at P;obtain⟨a,N,M⟩:=dR u (n:=n+1) JA;obtain⟨b,L,k⟩:=dR o t.n0;have Q:evE G F (.bin .Mod (JQ 2 (.bin .Add (.int 12) (.var 4))) (.bin .Add (Km 3) (.int 1))) (S7 s p xs rows j e d)=some (.ok (Ke (a:Int)) .strong):=by rw[←N];exact E2 (A (f6 rfl) (f6 rfl)) (add1 (I e d)) JA
  have R:evE G F (.bin .Add (.bin .Add (.slt (.var 3) (.var 5)) (.lst [.ix (.var 3) (.bin .Mod (JQ 2 (.bin .Add (.int 17) (.var 4))) (Km 3))])) (.slf (.var 3) (.var 5))) (S7 s p xs rows j (Kb (a:Int)) d)=some (.ok (rL (insR a b rows)) .fresh):=(by have ei:evE G F (.ix (.var 3) (.bin .Mod (JQ 2 (.bin .Add (.int 17) (.var 4))) (Km 3))) (S7 s p xs rows j (Kb (a:Int)) d)=some (.ok (Kx (iD (rows.getD b []))) .strong):=(by refine q5 (cx:=.strong) (y:=.int (b:Int)) (cy:=.strong) (f6 rfl) ?_ (mH (by rw[t.R.1];exact k));rw[←L];exact E2 (z (f6 rfl) (f6 rfl)) (I _ d) JA);have q:=ir (ir (vB (F:=F) (δ:=(S7 s p xs rows j (Kb (a:Int)) d)) (a:=.var 3) (b:=.var 5) (c:=.strong) (c1:=.strong) (ds:=rows.map λ r=>.lst (iD r)) (h:=a) (f6 rfl) (f6 rfl)) (lst1 ei rfl) (by rw[E9,g6,t.R.1];simp;have:=t.n8;omega)) (vA (F:=F) (δ:=(S7 s p xs rows j (Kb (a:Int)) d)) (a:=.var 3) (b:=.var 5) (c:=.strong) (c1:=.strong) (ds:=rows.map λ r=>.lst (iD r)) (h:=a) (f6 rfl) (f6 rfl)) (by rw[t5,E9,aa,g6,t.R.1];simp;have:=t.n8;omega);rw[q];unfold rL insR;rw[C4,C4,fw,fv];rfl);exact⟨_,_,_,_,_,t.row (a:=a) (s:=b) JA JA k,R6 v (k8 (o9 Q rfl) (k8 (o9 R rfl) rfl)) rfl⟩
 | false=>
  rw[P]at v;cases O:decide ((m:Int)<8)with
  | false=>
   rw[O]at B;exact⟨n,m,rows,e,d,t,gc v (v5 (o6 B) rfl) rfl⟩
  | true=>
   rw[O]at B;rw[O8]at O;obtain⟨a,N,M⟩:=dR u (n:=m+1) JA;obtain⟨b,L,k⟩:=dR o t.m0;have Q:evE G F (.bin .Mod (JQ 2 (.bin .Add (.int 12) (.var 4))) (.bin .Add (Kf 3) (.int 1))) (S7 s p xs rows j e d)=some (.ok (Ke (a:Int)) .strong):=by rw[←N];exact E2 (A (f6 rfl) (f6 rfl)) (add1 (J e d)) JA
   have R:evE G F Kv (S7 s p xs rows j (Kb (a:Int)) (Kb (b:Int)))=some (.ok (rL (rows.map (ins a b))) .fresh):=by
    have q:=G2 (F:=F) (δ:=(S7 s p xs rows j (Kb (a:Int)) (Kb (b:Int)))) (l:=rows) (h:=λ r=>.lst (iD r)) (f:=λ r=>.lst (iD (ins a b r))) (tg:=.one 0) (it:=.var 3) (fr:=[none,some 5,some 6]) (cl:=.strong) rfl JB (by rw[t.R.1];exact i7 t.n8 JB) λ r Y=>by
     refine⟨[.val (Kx (iD r)),.val (Ke (a:Int)),.val (Ke (b:Int))],.fresh,rfl,?_,rfl⟩;have x:=t.R.2 r Y;have w:(iD r).length=m:=by unfold iD;rw[g6,x]
     have q:=ir (ir (vB (F:=F) (δ:=[.val (Kx (iD r)),.val (Ke (a:Int)),.val (Ke (b:Int))]) (a:=.var 0) (b:=.var 1) (c:=.strong) (c1:=.strong) (ds:=iD r) (h:=a) (f6 rfl) (f6 rfl)) (lst1 (q5 (a:=.var 0) (b:=.var 2) (cx:=.strong) (f6 rfl) (f6 rfl) (ug (r:=r) (j:=b) (by rw[x];exact k))) rfl) (by rw[E9,w];simp;omega)) (vA (F:=F) (δ:=[.val (Kx (iD r)),.val (Ke (a:Int)),.val (Ke (b:Int))]) (a:=.var 0) (b:=.var 1) (c:=.strong) (c1:=.strong) (ds:=iD r) (h:=a) (f6 rfl) (f6 rfl)) (by rw[t5,E9,aa,w];simp;omega);rw[q];unfold ins iD;rw[C4,C4,fw,fv];rfl
    rw[q];unfold rL;rw[p9];rfl
   exact⟨_,_,_,_,_,t.colm (a:=a) (s:=b) JA JA k,gc v (R6 (o6 B) (k8 (o9 Q rfl) (k8 (o9 ((by rw[←L];exact E2 (z (f6 rfl) (f6 rfl)) (J _ d) JA)) rfl) (k8 (o9 R rfl) rfl))) rfl) rfl⟩
theorem ng(a:rows.length<=8)(h:r6 (JP e)=some (JT (rows.map λ r=>.lst (iD r)))):evE G F (.bi .tuple [.comp (.bi .tuple [.var 0]) (.one 0) e [none]]) δ=some (.ok Lq .strong):=
 bJ (G2 h JB (i7 a JB) λ r hr=>⟨[.val _],.strong,rfl,rfl,rfl⟩)
theorem Ik(b:ge Int)(v:b.length<=63):∃(n m:Nat) (rows:JW),Tk n m rows/\run G T fu (k+3) 28 [.scr b,.int 2]=some (.v Lq false):=by
 obtain⟨A,M⟩:=mE b 0;obtain⟨o,r,st⟩:=vz A 24 JB;obtain⟨n,m,rows,C,B,H,E,R,O,co⟩:=Ig (k:=k) b v o r;obtain⟨N,L⟩:=aJ (i:=6) JA (by rw[r];omega);obtain⟨y,u,K⟩:=dR N (n:=5) JB;obtain⟨z,J,p,q,a,l,h,f,c,rfl⟩:=br (i:=4) (I:=λ _ x=>∃n m rows l h f,Tk n m rows/\x=[.val (.scr b),.val (.int 2),.val (Kx (o.map DV.int)),.val (rL rows),l,h,f])
  y 0
  (λ j hj x I=>by
   obtain⟨n,m,rows,l,h,f,t,rfl⟩:=I;rw[show(0:Int)+(j:Int)=j by omega];obtain⟨p,q,a,g,d,c,e⟩:=Ij (F:=run G T fu (k+2)) (fu:=fu) r (j:=j) JA t;exact⟨_,e,p,q,a,_,g,d,c,rfl⟩) ⟨n,m,rows,.no,.no,.no,(⟨C,by omega,H,by omega,R,vF (by rw[R.1];exact B),vF (by rw[Q3];exact E),O⟩),rfl⟩
 refine⟨p,q,a,c,?_⟩;rw[p7 rfl rfl];unfold ud;have w:evE G (JX (k+2)) (.bin .Mod (JN 2 6) (.int 5)) [.val (.scr b),.val (.int 2),.val (Kx (o.map DV.int)),.val (rL rows),.no,.no,.no]=some (.ok (Ke (y:Int)) .strong):=by rw[←u];exact E2 (L (f6 rfl)) i5 JB
 exact t4 (k8 (o9 (k6 (fr:=true) (g8 (k6 (fr:=false) (g8 (f6 rfl) (g8 i5 k9)) rfl M) (g8 i5 k9)) rfl st) rfl)
  (k8 (o9 (k6 (fr:=false) (g8 (f6 rfl) (g8 (f6 rfl) (g8 (f6 rfl) k9))) rfl co) rfl) (X1 (aG w JA) (.inr rfl) J (p8 (v3 (ng (by rw[c.R.1];exact c.n8) rfl))))))
variable {fu k:Nat} {F:Nat->ge DV->Ji Ou} {δ:ge Sv} {ds:ge DV} {cl:Cl} {n m:Nat} {f:Nat->Nat->Int} {d:DV} {rows:ge (ge Int)}
theorem vH(e:JC a cx (.int i))(d:JC b cy (.int j))(c:0<=j):evE G F (.bin .RShift a b) δ=some (.ok (Ke (i/2^j.toNat)) .strong):=
 K3 e d (f8 c)
noncomputable def shl(n:Nat):ge (ge Int):=(JY n).map λ (r:Nat)=>(JY 3).map λ (c:Nat)=>(r:Int)/2^(c:Int).toNat%2
noncomputable def idn(n:Nat):ge (ge Int):=(JY n).map λ (r:Nat)=>(JY n).map λ (c:Nat)=>if((r:Int)==(c:Int))then(1:Int)else 0
theorem Il:∀N∈[6,7,8],(sm (FI (shl N)).length (FI (flip 3 (shl N))).length=false/\sm (FI (idn N)).length (FI (flip N (idn N))).length=false)/\(sm (FI (flip 3 (shl N))).length (FI (flip N (flip 3 (shl N)))).length=false/\sm (FI (flip N (idn N))).length (FI (flip N (flip N (idn N)))).length=false):=by decide +kernel
theorem Im(c:Int):∃(n m:Nat) (a:JW),3<=n/\n<=8/\3<=m/\m<=8/\Rect n m a/\sm (FI a).length (FI (flip m a)).length=false/\run G T fu (k+1) 29 [.int c]=some (.v (tT a) false):=by
 obtain⟨N,K,J,i⟩:∃N:Nat,6+c%3=(N:Int)/\6<=N/\N<=8:=⟨(6+c%3).toNat,by omega,by omega,by omega⟩;have x:=Il N Kz;have z:evE G (JX k) (.comp (.comp (.bin .Mod (.bin .RShift (.var 1) (.var 0)) (.int 2)) (.one 0) (.rng [.int 3]) [none,some 0]) (.one 0) (.rng [.var 1]) [none]) [.val (.int c),.val (Ke (N:Int)),.no]=some (.ok (rL (shl N)) .fresh):=
  dP (n:=N) (m:=3) (f6 rfl) i JB λ r H=>⟨[.val _],rfl,rfl,λ c I=>⟨[.val _,.val _],rfl,E2 (vH (f6 rfl) (f6 rfl) (E8 c)) i5 JB⟩⟩
 have F:∀v,evE G (JX k) (.comp (.comp (.bi .int [.cmp .Eq (.var 1) (.var 0)]) (.one 0) (.rng [.var 1]) [none,some 0]) (.one 0) (.rng [.var 1]) [none,some 1]) [.val (.int c),.val (Ke (N:Int)),.val v]=some (.ok (rL (idn N)) .fresh):=λ v=>
  dP (n:=N) (m:=N) (f6 rfl) i i λ r H=>⟨[.val _,.val _],rfl,f6 rfl,λ c I=>⟨[.val _,.val (Ke (r:Int))],rfl,mX (b_eq (f6 rfl) (f6 rfl))⟩⟩
 have E:∀v,evE G (JX k) (.cmp .Eq (.bin .Mod (.bin .FloorDiv (.var 0) (.int 3)) (.int 2)) (.int 0)) [.val (.int c),.val (Ke (N:Int)),.val v]=some (.ok (.bl (c/3%2==0)) .strong):=λ v=>b_eq (E2 (kh (f6 rfl) i5 JB) i5 JB) i5;have C:∀v,evE G (JX k) (.cmp .Eq (.bin .Mod (.bin .FloorDiv (.var 0) (.int 6)) (.int 2)) (.int 1)) [.val (.int c),.val (Ke (N:Int)),.val v]=some (.ok (.bl (c/6%2==1)) .strong):=λ v=>b_eq (E2 (kh (f6 rfl) i5 JB) i5 JB) i5;have A:evE G (JX k) (.bin .Add (.int 6) (.bin .Mod (.var 0) (.int 3))) (m7 3 [.int c])=some (.ok (Ke (N:Int)) .strong):=by rw[←K];exact M1 i5 (E2 (f6 rfl) i5 JB)
 have g:∀(n m:Nat) (a:JW),3<=n->n<=8->3<=m->m<=8->Rect n m a->sm (FI a).length (FI (flip m a)).length=false->sm (FI (flip m a)).length (FI (flip n (flip m a))).length=false ->
   ∃(y w:Nat) (f:JW),3<=y/\y<=8/\3<=w/\w<=8/\Rect y w f/\sm (FI f).length (FI (flip w f)).length=false/\evSs G (JX k) fu (bI.body.drop 3) _=some (.rt (tT f) false):=λ n m a u l p j R M L=>by
  unfold bI;simp only[eP,cw];have q:=C (rL a);cases h:c/6%2==1 with
  | true=>
   rw[h]at q;have B:=bK R;exact⟨m,n,flip m a,p,j,u,l,B,L,R6 (o6 q) (k8 (o9 (HZ 2 a n m R JA l j rfl) rfl) rfl) (p8 (v3 (ng (by rw[B.1];exact j) rfl)))⟩
  | false=>
   rw[h]at q;exact⟨n,m,a,u,l,p,j,R,M,v5 (o6 q) (p8 (v3 (ng (by rw[R.1];exact l) rfl)))⟩
 unfold bI at g;simp only[eP,cw]at g;have q:=E (rL (shl N));cases h:c/3%2==0 with
 | true=>
  rw[h]at q;obtain⟨n,m,a,u,l,p,j,R,b,e⟩:=g N N (idn N) JA i JA i (dQ _) x.1.2 x.2.2;refine⟨n,m,a,u,l,p,j,R,b,?_⟩;rw[p7 rfl rfl];unfold bI;exact t4 (k8 (o9 A rfl) (k8 (o9 z rfl) (R6 (o6 q) (k8 (o9 (F _) rfl) rfl) e)))
 | false=>
  rw[h]at q;obtain⟨n,m,a,u,l,p,j,R,b,e⟩:=g N 3 (shl N) JA i JA JA (dQ _) x.1.1 x.2.1;refine⟨n,m,a,u,l,p,j,R,b,?_⟩;rw[p7 rfl rfl];unfold bI;exact t4 (k8 (o9 A rfl) (k8 (o9 z rfl) (v5 (o6 q) e)))
theorem lenT(R:Ks)(h:evE G F e δ=some (JT (tT rows))):evE G F (.bi .len [e]) δ=some (.ok (Ke (n:Int)) .strong):=by
 have q:=V0 h;rw[g6,R.1]at q;exact q
theorem nh(R:Ks)(b:0<n)(h:evE G F e δ=some (JT (tT rows))):evE G F (.bi .len [.ix e (.int 0)]) δ=some (.ok (Ke (m:Int)) .strong):=by
 have a:0<rows.length:=by rw[R.1];exact b
 have t:=V0 (q5 h (i5) (aH a));rw[show(iD _).length=m by unfold iD;rw[g6];exact R.2 _ (J6 a)]at t;exact t
noncomputable def minN:ge Nat->Nat
 | []=>0
 | x::r=>if r.isEmpty then x else min x (minN r)
theorem ni:∀{l:ge Nat},l≠[]->minN l∈l/\∀x∈l,minN l<=x
 | [],h=>absurd rfl h
 | [x],_=>⟨by simp[minN],by simp[minN]⟩
 | x::y::r,_=>by
  obtain⟨c,b⟩:=ni (l:=y::r) JL;have e:minN (x::y::r)=min x _:=rfl;rw[e];refine⟨?_,λ z a=>?_⟩
  ·by_cases q:x<=minN (y::r)
   ·rw[cq q];exact n9
   ·rw[jj JA];exact n6 _ c
  ·rcases h8.mp a with q | q
   ·rw[q];exact Nat.min_le_left ..
   ·exact i7 (Nat.min_le_right ..) (b z q)
theorem vI(c:z∈l)(d:∀x∈l,z<=x):z=minN l:=by
 obtain⟨a,b⟩:=ni (l:=l) (by rintro rfl;cases c);exact Nat.le_antisymm (d _ a) (b _ c)
def stp(f:Mx)(V:Nat->Nat->Nat)(R C:Nat):Nat:=if wn f R C=1 then 0 else minN ((wl R C).map λ w=>1+max (V w.2.2.1.1 w.2.2.1.2) (V w.2.2.2.1 w.2.2.2.2))
def zZ(f:Mx):Nat->Nat->Nat->Nat
 | 0,_,_=>0
 | n+1,R,C=>stp f (zZ f n) R C
theorem vJ(h:w∈wl R C):(∃g,Sb g R/\g<R - g/\w.2.2=((R - g,C),(g,C)))\/∃g,Sb g C/\g<C - g/\w.2.2=((R,C - g),(R,g)):=by
 unfold wl at h;rcases D7.mp h with q | q
 ·obtain⟨g,a,rfl⟩:=i4.mp q;exact .inl ⟨g,(Z0 a).1,(Z0 a).2,rfl⟩
 ·obtain⟨g,a,rfl⟩:=i4.mp q;exact .inr ⟨g,(Z0 a).1,(Z0 a).2,rfl⟩
theorem Io(h:w∈wl R C):w.2.2.1.1+w.2.2.1.2<R+C/\w.2.2.2.1+w.2.2.2.2<R+C:=by
 rcases vJ h with⟨g,s,_,e⟩ | ⟨g,s,_,e⟩
 ·rw[e];have:=s.1;have:=s.2.1;dsimp only;omega
 ·rw[e];have:=s.1;have:=s.2.1;dsimp only;omega
theorem vK{V:Nat->Nat->Nat}(h:∀r c,r+c<R+C->V r c=W r c):stp f V R C=stp f W R C:=by
 unfold stp;split
 ·rfl
 ·congr 1
  apply L0;intro w d;obtain⟨a,b⟩:=Io d;rw[h _ _ a,h _ _ b]
theorem nj(f:Mx):∀(N n R C:Nat),n<=N->R+C<=n->zZ f n R C=zZ f (R+C) R C
 | 0,n,R,C,b,a=>by rw[show R+C=n by omega]
 | N+1,n,R,C,b,a=>by
  by_cases e:R+C=n
  ·rw[e]
  ·obtain⟨m,rfl⟩:∃m,n=m+1:=⟨n - 1,by omega⟩;cases hk:R+C with
   | zero=>
    obtain rfl:R=0:=by omega
    obtain rfl:C=0:=by omega
    show stp f _ 0 0=0;unfold stp;split
    ·rfl
    ·rfl
   | succ k=>
    show stp f _ R C=stp f _ R C;exact vK λ r c h=>by rw[nj f N m r c JA JA,nj f N k r c JA JA]
def V(f:Mx)(R C:Nat):Nat:=zZ f (R+C) R C
theorem V_eq(f:Mx)(h:0<R+C):V f R C=stp f (V f) R C:=by
 unfold V;cases hk:R+C with
 | zero=>omega
 | succ k=>
  show stp f _ R C=_;exact vK λ r c h=>nj f k k r c (i8 _) JA
noncomputable def r1(n:Nat):ge Nat:=(JY (n - 1)).map (· + 1)
theorem bO:j∈r1 n↔0<j/\j<n:=by
 unfold r1;rw[i4];constructor
 ·rintro⟨i,h,rfl⟩;have:=q9.mp h;omega
 ·rintro⟨h1,h2⟩;exact⟨j - 1,q9.mpr JA,by omega⟩
theorem vL(h:0<c):r1 (c+1)=r1 c++[c]:=by
 unfold r1;obtain⟨d,rfl⟩:∃d,c=d+1:=⟨c - 1,by omega⟩;rw[show d+1+1 - 1=d+1 by omega,show d+1 - 1=d by omega,jm,C4];rfl
def ps(b r c:Nat):ge (Nat×Nat):=(r1 r).flatMap (λ i=>(r1 (2^b)).map λ j=>(i,j))++(r1 c).map λ j=>(r,j)
theorem bP:q∈ps b r c↔(0<q.1/\q.1<r/\0<q.2/\q.2<2^b)\/(q.1=r/\0<q.2/\q.2<c):=by
 unfold ps;rw[D7,List.mem_flatMap,i4];constructor
 ·rintro(⟨i,h1,h2⟩ | ⟨j,h,rfl⟩)
  ·obtain⟨j,a,rfl⟩:=i4.mp h2;have:=bO.mp h1;have:=bO.mp a;exact .inl ⟨by omega,by omega,by omega,by omega⟩
  ·exact .inr ⟨rfl,bO.mp h⟩
 ·rintro(⟨h1,h2,a,h4⟩ | ⟨h1,h2,a⟩)
  ·exact .inl ⟨q.1,bO.mpr ⟨h1,h2⟩,i4.mpr ⟨q.2,bO.mpr ⟨a,h4⟩,rfl⟩⟩
  ·exact .inr ⟨q.2,bO.mpr ⟨h2,a⟩,by rw[←h1]⟩
theorem Iq(h:0<c):ps b r (c+1)=ps b r c++[(r,c)]:=by
 unfold ps;rw[vL h,C4,T7];rfl
theorem nk(h:0<r):ps b (r+1) 1=ps b r (2^b):=by
 unfold ps;rw[vL h,List.flatMap_append];show _++[]=_;rw[E4]
 congr 1
 simp
theorem Ir(b:Nat):ps b 1 1=[]:=rfl
theorem vM(n:Nat):(r1 n).length=n - 1:=by unfold r1;rw[g6,B7]
theorem nr(b:Nat):∀d,(ps b (d+1) 1).length=d*(2^b - 1)
 | 0=>by rw[Ir];simp
 | d+1=>by
  have e:ps b (d+1) (2^b)=ps b (d+1) 1++(r1 (2^b)).map λ j=>(d+1,j):=by unfold ps;rw[T7];rfl
  rw[nk JA,e,t5,g6,vM,nr b d,Nat.succ_mul]
def tbl(f:Mx)(b r c:Nat):Tb:=(ps b r c).map λ p=>(p,V f p.1 p.2)
theorem vN{V:Nat×Nat->Nat}:∀l:ge (Nat×Nat),(l.map λ p=>(p,V p)).lookup q=if q∈l then some (V q)else none
 | []=>rfl
 | p::l=>by
  rw[A4,F0];by_cases e:q=p
  ·subst e;simp
  ·rw[show(q==p)=false from z8.mpr e];show(l.map λ p=>_).lookup q=_;rw[vN l];simp[e]
theorem iA(q:Nat×Nat):(tbl f b r c).lookup q=if q∈ps b r c then some (V f q.1 q.2)else none:=vN _
theorem vO(f:Mx)(b r c:Nat):(tbl f b r c).length=(ps b r c).length:=g6 ..
theorem vP(a:b<=5)(R0:0<R)(hR:R<=32)(hC:C<=32):(ps b R C).length<=1000:=by
 have e:ps b R C=ps b R 1++(r1 C).map λ j=>(R,j):=by unfold ps;rw[T7];rfl
 obtain⟨d,rfl⟩:∃d,R=d+1:=⟨R - 1,by omega⟩;rw[e,t5,g6,vM,nr];have pb:=p32 a;have:d*(2^b - 1)<=31*31:=js JA JA;omega
theorem Iu(c:0<C)(a:C<2^b)(R0:0<R)(h:w∈wl R C):w.2.2.1∈ps b R C/\w.2.2.2∈ps b R C:=by
 rcases vJ h with⟨g,s,_,e⟩ | ⟨g,s,_,e⟩
 ·have:=s.1;have:=s.2.1;rw[e];exact⟨bP.mpr (.inl ⟨by dsimp only;omega,by dsimp only;omega,c,a⟩),bP.mpr (.inl ⟨by dsimp only;omega,by dsimp only;omega,c,a⟩)⟩
 ·have:=s.1;have:=s.2.1;rw[e];exact⟨bP.mpr (.inr ⟨rfl,by dsimp only;omega,by dsimp only;omega⟩),bP.mpr (.inr ⟨rfl,by dsimp only;omega,by dsimp only;omega⟩)⟩
def wv(f:Mx)(w:Wy):Nat:=1+max (V f w.2.2.1.1 w.2.2.1.2) (V f w.2.2.2.1 w.2.2.2.2)
theorem vQ(h:0<C):tbl f b R (C+1)=tbl f b R C++[((R,C),V f R C)]:=by
 unfold tbl;rw[Iq h,C4];rfl
theorem vR(d:R<32)(e:C<32)(h:0<R)(i:0<C)(g:2<=wn f R C):wl R C≠[]:=by
 intro a;unfold wl at a;obtain⟨c,b⟩:=List.append_eq_nil_iff.mp a;rcases HB d e h i g with q | q
 ·exact q (eQ.mp c)
 ·exact q (eQ.mp b)
theorem Iv{rest:ge (ge Int)}(t:DV)(x:Rect a b rest)(v:W9 rest)(S:0<a)(n:a<=5)(j:b<=5)(f:0<R)(B:R<2^a)(g:0<C)(u:C<2^b)(w:Sv) :
  ∃H,evSs G (JX (k+3)) fu lnB (lnD t rest (tbl KU b R C) (Kb R) (Kb C) w)=some (.nx (lnD t rest (tbl KU b R (C+1)) (Kb R) (Kb C) H)):=by
 have pa:=p32 n;have pb:=p32 j;have o:R<32:=by omega
 have p:C<32:=by omega
 have e:(tbl KU b R C).length<100000:=by rw[vO];have:=vP (b:=b) (R:=R) (C:=C) j f JA JA;omega
 have y:(tbl KU b R C).lookup (R,C)=none:=by
  rw[iA,g7 λ z=>?_];rcases bP.mp z with q | q
  ·have:=q.2.1;dsimp only at this;omega
  ·have:=q.2.2;dsimp only at this;omega
 have r:=HG (fu:=fu) (k:=k) (δ:=lnD t rest (tbl KU b R C) (Kb R) (Kb C) w) x v S n j f B g u rfl rfl rfl;have c:=vd r (i5 (i:=((1:Nat):Int)));have E:=vw x v n j f B g u;have d:=V_eq KU (R:=R) (C:=C) JA;unfold stp at d;rw[vQ g];by_cases m:wn KU R C=1
 ·rw[m]at c;rw[f8 m]at d;rw[d];exact⟨w,R6 (o6 c) (k8 (vm (z:=0) rfl (f6 rfl) (f6 rfl) (f6 rfl) y e) rfl) rfl⟩
 ·have I:(wn KU R C==1)=false:=z8.mpr m;rw[I]at c;rw[g7 m]at d;have P:2<=wn KU R C:=by omega
  have Q:=G2 (F:=run G T fu (k+3)) (δ:=lnD t rest (tbl KU b R C) (Kb R) (Kb C) (.val (Kx ((wl R C).map wD)))) (l:=wl R C) (h:=wD) (tg:=.many [0,1,2,3]) (it:=.var 7) (fr:=[none,none,none,none,some 2,some 4]) (cl:=.strong) rfl JB
   (by unfold wl;rw[t5,g6,g6];exact i7 (Nat.add_le_add (bL o) (bL p)) JB) λ w N=>by obtain⟨K,J⟩:=Iu g u f N;refine⟨[.val w.1,.val (Ke w.2.1),.val _,.val _,.val (.fn "joined_bits"),.od (dD (tbl KU b R C))],.strong,rfl,?_,rfl⟩;exact vn (F:=run G T fu (k+3)) (i:=4) (xs:=[("joined_bits",15)]) (es:=[.dgp 5 (.var 2),.dgp 5 (.var 3)]) rfl rfl (g8 (vk (L:=tbl KU b R C) rfl (f6 rfl) (by rw[iA,f8 K])) (g8 (vk (L:=tbl KU b R C) rfl (f6 rfl) (by rw[iA,f8 J])) k9)) rfl (vh (fu:=fu) (k:=k+2) _ _)
  have ne:(wl R C).map (wv KU)≠[]:=λ z=>vR o p f g P (eQ.mp z);obtain⟨z,M,O,A⟩:=HF ((by rw[Q];unfold nD;rw[p9];rfl)) ne;rw[vI M O,show minN ((wl R C).map (wv KU))=V KU R C from d.symm]at A;exact⟨_,gc (o6 c) (k8 (o9 (k6 rfl rfl (vg o p)) rfl) (k8 (vm (z:=V KU R C) rfl A (f6 rfl) (f6 rfl) y e) rfl)) rfl⟩
theorem Iw{rest:ge (ge Int)}(t:DV)(i:Rect a b rest)(g:W9 rest)(o:0<a)(m:a<=5)(l:b<=5)(q:0<R)(p:R<2^a)(y w:Sv) :
  ∃c,B9 (.one 6) (λ c=>evSs G (JX (k+3)) fu lnB c) (upTo 1 (2^b - 1)) (lnD t rest (tbl KU b R 1) (Kb R) y w)=some (.nx c)/\∃f d,c=lnD t rest (tbl KU b R (2^b - 1+1)) (Kb R) f d:=by
 refine br (I:=λ j c=>∃f d,c=lnD t rest (tbl KU b R (j+1)) _ f d) _ 1 (λ j hj δ h=>?_) ⟨y,w,rfl⟩;obtain⟨f,d,rfl⟩:=h;obtain⟨w2,e⟩:=Iv t i g o m l q p (C:=j+1) JA JA d;have n:(lnD t rest (tbl KU b R (j+1)) (Kb R) f d).set 6 (Kb (1+(j:Int)))=lnD t rest (tbl KU b R (j+1)) (Kb R) (Kb ((j+1:Nat):Int)) d:=by show lnD t rest _ (Kb R) _ d=_;rw[show(1:Int)+_=((j+1:Nat):Int) by omega]
 exact⟨_,by rw[n];exact e,_,_,rfl⟩
theorem Ix{rest:ge (ge Int)}(t:DV)(l:Rect a b rest)(r:W9 rest)(p:0<a)(u:a<=5)(o:b<=5)(x y w:Sv) :
  ∃c,B9 (.one 5) (λ c=>evSs G (JX (k+3)) fu [lnF] c) (upTo 1 (2^a - 1)) (lnD t rest [] x y w)=some (.nx c)/\∃g d f,c=lnD t rest (tbl KU b (2^a - 1+1) 1) g d f:=by
 have pb:=p32 o;have b1:=fe b;refine br (I:=λ j c=>∃g d f,c=lnD t rest (tbl KU b (j+1) 1) g d f) _ 1 (λ j hj δ h=>?_) ⟨x,y,w,rfl⟩;obtain⟨g,d,f,rfl⟩:=h;obtain⟨q,e,y2,w2,rfl⟩:=Iw t l r p u o (R:=j+1) JA JA d f;rw[show 2^b - 1+1=2^b by omega]at e;have z:(lnD t rest (tbl KU b (j+1) 1) g d f).set 5 (Kb (1+(j:Int)))=lnD t rest (tbl KU b (j+1) 1) (Kb ((j+1:Nat):Int)) d f:=(by show lnD t rest (tbl KU b (j+1) 1) (Kb (1+(j:Int))) d f=_;rw[show(1:Int)+(j:Int)=((j+1:Nat):Int) by omega]);have v:tbl KU b (j+1) (2^b)=tbl KU b (j+1+1) 1:=by unfold tbl;rw[nk JA]
 rw[v]at e;have m:0<rest.length:=by rw[l.1];exact p
 have n:=V0 (F:=run G T fu (k+3)) (δ:=lnD t rest (tbl KU b (j+1) 1) (Kb ((j+1:Nat):Int)) d f) (q5 (a:=.var 3) (b:=.int 0) (cx:=.strong) (f6 rfl) (i5 (i:=((0:Nat):Int))) (aH m));rw[show(iD (rest.getD 0 [])).length=b by unfold iD;rw[g6];exact l.2 _ (J6 m)]at n;exact⟨_,by rw[z];exact X1 (mU (io n JA) JA) (.inr rfl) e rfl,_,_,_,rfl⟩
def ft(m:Nat)(rows:JW):Tb:=tbl (mf KZ) (FI JJ).length (2^(JV).length) 1
theorem iB:Rect (JV).length (FI JJ).length (rst m rows):=by
 refine⟨by unfold rst sub;rw[g6],λ r a=>?_⟩;obtain⟨i,_,rfl⟩:=i4.mp a;rw[g6]
theorem nu(a:Ks)(b:W9 rows):W9 (rst m rows):=λ r d x c=>by
 obtain⟨i,f,rfl⟩:=i4.mp d;obtain⟨j,e,rfl⟩:=i4.mp c;have:=Y8 f;have:=Y8 e;rw[(bK a).1]at this;exact bM a b (by rw[←a.1];omega) this
theorem vS(rows:JW)(n m:Nat)(d:Ks)(l:W9 rows)(f:0<n)(b:n<=60)(c:m<=60)(g:(JV).length<=5)(i:(FI JJ).length<=5) :
  run G T fu (k+6) 16 [tT rows,.int 0,.fn "joined_bits"]=some (.v (dC (ft m rows)) false):=by
 have a:=iB (m:=m) (rows:=rows);obtain⟨j,e,x',y',w',rfl⟩:=Ix Lq a (nu d l) (Q2 (by rw[d.1];exact f)) g i .no .no .no;have a1:=fe (JV).length;rw[show 2^(JV).length - 1+1=2^(JV).length by omega]at e;have pa:=p32 g;rw[p7 rfl rfl];have h:=V0 (F:=run G T fu (k+5)) (δ:=lnD Lq KZ [] .no .no .no) (e:=.var 3) rfl;rw[g6,a.1]at h;show Ou.of _=_;exact t4 (k8 (kg (k6 rfl rfl (HJ rows n m d f b c g i))) (k8 (o9 (k6 rfl rfl (mQ rows n m d f b c)) rfl) (k8 (HH rfl) (X1 (mU (io h JA) JA) (.inr rfl) e (p8 (HI rfl))))))
theorem vT(d:0<(JV).length)(c:0<(FI JJ).length):∃L,ft m rows=L++[((2^(JV).length - 1,2^(FI JJ).length - 1),V (mf KZ) (2^(JV).length - 1) (2^(FI JJ).length - 1))]:=by
 unfold ft;generalize (JV).length=A at *;generalize (FI _).length=B at *;have a1:=i7 (by decide:2<=2^1) (O6 JB d);have b1:=i7 (by decide:2<=2^1) (O6 JB c);have e:=vQ (f:=mf KZ) (b:=B) (R:=2^A - 1) (C:=2^B - 1) JA;rw[show 2^B - 1+1=2^B by omega]at e;have a:tbl (mf KZ) B (2^A) 1=tbl (mf KZ) B (2^A - 1) (2^B):=by have:=nk (b:=B) (r:=2^A - 1) JA;rw[show 2^A - 1+1=2^A by omega]at this;unfold tbl;rw[this]
 exact⟨_,a.trans e⟩
theorem Iy(b:(JV).length<=5)(a:(FI JJ).length<=5):(ft m rows).length=(2^(JV).length - 1)*(2^(FI JJ).length - 1)/\(ft m rows).length<=1000:=by
 unfold ft;rw[vO];have c:=fe (JV).length;refine⟨?_,vP a c (p32 b) JA⟩;have:=nr (FI JJ).length (2^(JV).length - 1)
 rwa [show 2^(JV).length - 1+1=2^(JV).length by omega]at this
theorem Iz(rows:JW)(n m:Nat)(a:Ks)(j:W9 rows)(g:0<n)(b:n<=60)(l:0<m)(d:m<=60)(i:(JV).length<=5)(h:(FI JJ).length<=5) :
  run G T fu (k+8) 12 [tT rows]=some (.v (Kx ((ft m rows).map tD)) true):=by
 have e:=vS (fu:=fu) (k:=k) rows n m a j g b d i h;rw[p7 rfl rfl];unfold tV;have c:=k6 (G:=G) (F:=run G T fu (k+7)) (δ:=m7 1 [tT rows]) (f:=14) (es:=[.var 0]) rfl rfl ((by rw[p7 rfl rfl];unfold tX;exact t4 (p8 (v3 (k6 rfl rfl e)))));obtain⟨L,o⟩:=vT (m:=m) (Q2 (by rw[a.1];exact g)) (Q2 (by rw[(bK a).1];exact l));exact t4 (p8 (v3 (k6 (g8 c k9) rfl (HK _ (by rw[o];simp) (by have:=(Iy (m:=m) i h).2;omega)))))
theorem vU(rows:JW)(n m:Nat)(a:Ks)(h:W9 rows)(e:0<n)(b:n<=60)(f:0<m)(d:m<=60)(l:(JV).length<=5)(j:(FI JJ).length<=5) :
  run G T fu (k+9) 19 [tT rows]=some (.v (.int (V (mf KZ) (2^(JV).length - 1) (2^(FI JJ).length - 1):Nat)) false):=by
 have g:=Iz (fu:=fu) (k:=k) rows n m a h e b f d l j;obtain⟨L,o⟩:=vT (Q2 (by rw[a.1];exact e)) (Q2 (by rw[(bK a).1];exact f));rw[o]at g;rw[p7 rfl rfl];unfold tY;generalize 2^(JV).length - 1=A at *;generalize 2^(FI _).length - 1=B at *;have c:=k6 (G:=G) (δ:=m7 1 [tT rows]) (es:=[.var 0]) rfl rfl g;rw[C4]at c;exact t4 (p8 (v3 (cl:=.strong) (q5 (cx:=.strong) (q5 c (Hv (i5 (i:=1))) (HL _ _)) (i5 (i:=2)) rfl)))
theorem IA{R C:Nat}{f:Mx}(h9:∀i∈cs R,∀j∈cs C,0<=f i j/\f i j<=9){i0 j0:Nat}(hi0:i0∈cs R)(hj0:j0∈cs C):wn f R C=1↔∀i∈cs R,∀j∈cs C,f i j=f i0 j0:=by
 unfold wn;have inF:∀i∈cs R,∀j∈cs C,(f i j).toNat∈(JY 10).filter (wp f R C):=λ i hi j hj=>by have:=h9 i hi j hj;exact B8.mpr ⟨q9.mpr JA,V3.mpr ⟨i,j,hi,hj,by omega⟩⟩
 constructor
 ·intro h i hi j hj;obtain⟨w,hw⟩:=oz.mp h;have q1:=inF i hi j hj;have q2:=inF i0 hi0 j0 hj0;rw[hw]at q1 q2;have:=u7.mp q1;have:=u7.mp q2;have:=h9 i hi j hj;have:=h9 i0 hi0 j0 hj0;omega
 ·intro h;have b0:=h9 i0 hi0 j0 hj0;have e:(JY 10).filter (wp f R C)=(JY 10).filter λ w=>w==(f i0 j0).toNat:=by
   apply List.filter_congr;intro w _;rw[cr,V3,g9];constructor
   ·rintro⟨i,j,hi,hj,q⟩;have:=h i hi j hj;omega
   ·rintro rfl;exact⟨i0,j0,hi0,hj0,by omega⟩
  have q:=inF i0 hi0 j0 hj0;rw[e]at q ⊢;have:=uY (f i0 j0).toNat JA;have:=eC q;omega
inductive Pn where
 | fin (w:Int) | ask (s:Bool) (c:Nat) (n y:Pn)
def Pn.D:Pn->DV
 | .fin w=>.tup [.str "end",.int w]
 | .ask s c n y=>.tup [.str "ask",sd s,.int c,n.D,y.D]
noncomputable def Pn.deep:Pn->Nat
 | .fin _=>0
 | .ask _ _ n y=>1+max n.deep y.deep
noncomputable def Pn.rch:Pn->Nat->Nat->Int
 | .fin w,_,_=>w
 | .ask s c n y,i,j=>if c.testBit (if s then i else j)then y.rch i j else n.rch i j
theorem vV(R0:0<R)(a:wn f R C=1):V f R C=0:=by
 rw[V_eq f JA];exact f8 a
theorem iC(R0:0<R)(hw:w∈wl R C):V f R C<=1+max (V f w.2.2.1.1 w.2.2.1.2) (V f w.2.2.2.1 w.2.2.2.2):=by
 rw[V_eq f JA];unfold stp;split
 ·exact E5 _
 ·exact(ni (List.ne_nil_of_mem (i4.mpr ⟨w,hw,rfl⟩))).2 _ (i4.mpr ⟨w,hw,rfl⟩)
theorem IB(a:R<32)(s:Sb h R):V f R C<=1+max (V f (R - h) C) (V f h C):=by
 have b:=cD s.1 s.2.1;rcases mT R a h (s.lt a) s with q | ⟨q,e⟩
 ·exact iC b (D6 _ (i4.mpr ⟨h,q,rfl⟩))
 ·have:=iC (f:=f) (C:=C) b (D6 _ (i4.mpr ⟨R - h,q,rfl⟩));dsimp only at this;rw[e,Nat.max_comm]at this;exact this
theorem IC(b:0<R)(a:C<32)(s:Sb h C):V f R C<=1+max (V f R (C - h)) (V f R h):=by
 rcases mT C a h (s.lt a) s with q | ⟨q,e⟩
 ·exact iC b (x3 _ (i4.mpr ⟨h,q,rfl⟩))
 ·have:=iC (f:=f) b (x3 _ (i4.mpr ⟨C - h,q,rfl⟩));dsimp only at this;rw[e,Nat.max_comm]at this;exact this
theorem part(g:R<32)(q:Nat->Bool):(∀i∈cs R,q i=false)\/(∀i∈cs R,q i=true)\/∃h,Sb h R/\(∀i∈cs h,i∈cs R/\q i=true)/\∀i∈cs (R - h),i∈cs R/\q i=false:=by
 obtain⟨h,d,c⟩:=vb λ i=>q i&&R.testBit i
 by_cases z:∀i∈cs R,q i=false
 ·exact .inl z
 by_cases o:∀i∈cs R,q i=true
 ·exact .inr (.inl o)
 obtain⟨i,a,qi⟩:∃i∈cs R,q i=true:=by
  apply nP;intro w;exact z λ i a=>by
   cases e:q i with
   | false=>rfl
   | true=>exact absurd ⟨i,a,e⟩ w
 obtain⟨j,f,qj⟩:∃i∈cs R,q i=false:=by
  apply nP;intro w;exact o λ i a=>by
   cases e:q i with
   | true=>rfl
   | false=>exact absurd ⟨i,a,e⟩ w
 have n:∀{i},R.testBit i=true->i<5:=λ {i} e=>tb5 g e;have l:∀{i},h.testBit i=true->i<5:=λ {i} e=>tb5 d e;have sub:=vc R g h d λ j f e=>by rw[c j f,f7]at e;exact e.2
 have k:h.testBit i=true:=by rw[c i (n (G3 a)),qi,G3 a];rfl
 have b:h.testBit j=false:=by rw[c j (n (G3 f)),qj];rfl
 have s:Sb h R:=⟨tb0 k,Nat.lt_of_le_of_ne sub.2 (λ e=>by rw[e,G3 f]at b;cases b),sub.1⟩;refine .inr (.inr ⟨h,s,λ i a=>⟨Hw s g a,?_⟩,λ i a=>?_⟩)
 ·have e:=G3 a;rw[c i (l e),f7]at e;exact e.1
 ·obtain⟨m,p⟩:=uZ s g a;refine⟨m,?_⟩;cases e:q i with
  | false=>rfl
  | true=>exact absurd (Y9 (by rw[c i (n (G3 m)),e,G3 m];rfl)) p
theorem V_le{φ ψ:Nat->Nat}(u:∀i j,i<a->j<b->0<=f i j/\f i j<=9)(m:a<=5)(l:b<=5):∀(p:Pn) (R C:Nat),0<R->R<2^a->0<C->C<2^b->(∀i∈cs R,∀j∈cs C,p.rch (φ i) (ψ j)=f i j)->V f R C<=p.deep
 | .fin w,R,C,k,q,v,r,h=>by have I:=p32 m;have H:=p32 l;obtain⟨K,A⟩:=aL (M8 R JA k);obtain⟨J,x⟩:=aL (M8 C JA v);rw[vV k ((IA (λ i g j d=>u i j (M9 q g) (M9 r d)) A x).mpr λ i g j d=>by rw[←h i g j d,←h K A J x];rfl)];exact E5 _
 | .ask true c n y,R,C,k,q,v,r,h=>by
  have I:=p32 m;have o:∀i∈cs R,∀j∈cs C,(if c.testBit (φ i)then y.rch (φ i) (ψ j)else n.rch (φ i) (ψ j))=f i j:=h;show V f R C<=1+max n.deep y.deep;rcases part (R:=R) JA λ i=>c.testBit (φ i)with z | z | ⟨h',s,z1,z2⟩
  ·have:=V_le u m l n R C k q v r λ i g j d=>by
    have:=o i g j d;rw[show c.testBit (φ i)=false from z i g]at this;exact this
   omega
  ·have:=V_le u m l y R C k q v r λ i g j d=>by
    have:=o i g j d;rw[show c.testBit (φ i)=true from z i g]at this;exact this
   omega
  ·have e:=IB (f:=f) (C:=C) JA s;have s1:=s.1;have B:=s.2.1;have F:=V_le u m l n (R - h') C JA JA v r λ i g j d=>by have:=o i (z2 i g).1 j d;rw[show c.testBit (φ i)=false from(z2 i g).2]at this;exact this
   have E:=V_le u m l y h' C s.1 JA v r λ i g j d=>by have:=o i (z1 i g).1 j d;rw[show c.testBit (φ i)=true from(z1 i g).2]at this;exact this
   omega
 | .ask false c n y,R,C,k,q,v,r,h=>by
  have H:=p32 l;have o:∀i∈cs R,∀j∈cs C,(if c.testBit (ψ j)then y.rch (φ i) (ψ j)else n.rch (φ i) (ψ j))=f i j:=h;show V f R C<=1+max n.deep y.deep;rcases part (R:=C) JA λ i=>c.testBit (ψ i)with z | z | ⟨h',s,z1,z2⟩
  ·have:=V_le u m l n R C k q v r λ i g j d=>by
    have:=o i g j d;rw[show c.testBit (ψ j)=false from z j d]at this;exact this
   omega
  ·have:=V_le u m l y R C k q v r λ i g j d=>by
    have:=o i g j d;rw[show c.testBit (ψ j)=true from z j d]at this;exact this
   omega
  ·have e:=IC (f:=f) (R:=R) k JA s;have s1:=s.1;have B:=s.2.1;have F:=V_le u m l n R (C - h') k q JA JA λ i g j d=>by have:=o i g j (z2 j d).1;rw[show c.testBit (ψ j)=false from(z2 j d).2]at this;exact this
   have E:=V_le u m l y R h' k q s.1 JA λ i g j d=>by have:=o i g j (z1 j d).1;rw[show c.testBit (ψ j)=true from(z1 j d).2]at this;exact this
   omega
noncomputable def bs:Nat->(Nat->Bool)->Nat
 | 0,_=>0
 | n+1,q=>2^n*(if q n then 1 else 0)+bs n q
theorem nv(q:Nat->Bool):∀n,bs n q<2^n
 | 0=>Nat.zero_lt_one
 | n+1=>by have:=nv q n;show 2^n*_+bs n q<2^(n+1);rw[Nat.pow_succ];split<;>omega
theorem vW(q:Nat->Bool)(i:Nat):∀n,(bs n q).testBit i=(decide (i<n)&&q i)
 | 0=>by show Nat.testBit 0 i=_;rw[eX,E3 (cn i)];rfl
 | n+1=>by
  show(2^n*_+bs n q).testBit i=_;rw[Nat.testBit_two_pow_mul_add _ (nv q n)];split
  ·rename_i h;rw[vW q i n,C5 h,C5 JA]
  ·rename_i h;by_cases e:i=n
   ·subst e;rw[jA,C5 (O9 i)];cases q i<;>rfl
   ·rw[E3 JA];obtain⟨d,hd⟩:∃d,i - n=d+1:=⟨i - n - 1,by omega⟩;rw[hd];cases q n
    ·exact eX _
    ·show Nat.testBit 1 (d+1)=false;exact oy (by rw[Nat.pow_succ];have:=fe d;omega)
theorem iE:∀{n},(∀c,c<n->q c=a c)->bs n q=bs n a
 | 0,_=>rfl
 | n+1,h=>by show 2^n*_+bs n q=2^n*_+bs n a;rw[h n JA,iE λ c hc=>h c JA]
theorem vX:∀{n},(∀c,c<n->q c=true->a c=false)->bs n q+bs n a=bs n λ c=>q c||a c
 | 0,_=>rfl
 | n+1,h=>by
  show(2^n*_+bs n q)+(2^n*_+bs n a)=2^n*(if q n||a n then 1 else 0)+bs n λ c=>q c||a c
  rw[←(vX λ c hc=>h c JA)];have:=h n JA;cases d:q n<;>cases b:a n
  ·simp;
  ·simp;omega
  ·simp;omega
  ·rw[d]at this;rw[this rfl]at b;cases b
theorem vY:∀n,bs n (λ _=>false)=0
 | 0=>rfl
 | n+1=>by show 2^n*0+bs n _=0;rw[vY n,Nat.mul_zero]
theorem vZ(q:Nat->Bool):∀n,(((JY n).filter q).map λ c=>((2^c:Nat):Int)).sum=(bs n q:Nat)
 | 0=>rfl
 | n+1=>by
  rw[jm,List.filter_append,C4,List.sum_append,vZ q n];show _=((2^n*_+bs n q:Nat):Int);cases e:q n
  ·simp[e]
  ·simp[e];omega
noncomputable def kd(rows:JW)(c:Nat):Nat:=rows.idxOf (rows.getD c [])
def kx(rows:JW)(c:Nat):Nat:=(JV).idxOf (kd rows c)
section
variable {rows:ge (ge Int)} {i j n m h:Nat}
theorem wa(a:i<rows.length):kd rows i∈FI rows:=by
 unfold FI;have:=J6 a;refine B8.mpr ⟨q9.mpr (ii this),?_⟩;unfold kd;rw[ij this,Q5]
theorem Z1(a:i<rows.length):kx rows i<(JV).length:=dY (wa a)
theorem wb(a:i<rows.length):(JV).getD (kx rows i) 0=kd rows i:=by
 unfold kx;rw[o8,k7 (dY (wa a))];exact eR _
theorem wc(rows:JW):(JV).Nodup:=(iR).nodup List.nodup_range
theorem ID(hi:i<rows.length)(a:t<(JV).length):(kd rows i==(JV).getD t 0)=(kx rows i==t):=by
 rw[o8,k7 a];show(kd rows i==_[t])=_;rw[cr,g9,g9];constructor
 ·intro e;unfold kx;rw[e];exact nT (wc rows) t a
 ·intro e;subst e;exact(eR _).symm
def ks(rows:JW):ge Nat:=(JV).map λ t=>bs rows.length λ c=>kd rows c==t
theorem IE(a:t<(JV).length):(ks rows).getD t 0=bs rows.length λ c=>kx rows c==t:=by
 unfold ks;rw[o8,p5,k7 a];show bs rows.length _=_;refine iE λ c b=>?_
 have:=ID b a;rw[o8,k7 a]at this;exact this
theorem we:∀(L:ge Nat),L.Nodup->(∀t∈L,t<(JV).length)->(L.map λ t=>(ks rows).getD t 0).sum=bs rows.length λ c=>L.contains (kx rows c)
 | [],_,_=>(vY _).symm
 | t::L,d,b=>by
  have a:=N1.mp d;rw[A4,fx,we L a.2 λ t f=>b t (n6 _ f),IE (b t (n9 ..)),vX λ c g e=>?_]
  ·refine iE λ c g=>?_;rw[List.contains_cons]
  ·rw[g9]at e;rw[e];cases q:L.contains t with
   | false=>rfl
   | true=>exact absurd (J8.mp q) a.1
def wd(rows:JW)(h:Nat):Nat:=((cs h).map λ t=>(ks rows).getD t 0).sum
theorem wf(b:h<2^(JV).length):wd rows h=bs rows.length λ c=>h.testBit (kx rows c):=by
 unfold wd;rw[we (cs h) ((iR).nodup List.nodup_range) λ t a=>M9 b a];refine iE λ c hc=>?_
 rw[cr,J8];exact⟨G3,Y9⟩
theorem nw(b:h<2^(JV).length)(a:i<rows.length):(wd rows h).testBit i=h.testBit (kx rows i):=by
 rw[wf b,vW,C5 a,fq]
theorem wg(a:h<2^(JV).length):wd rows h<2^rows.length:=by
 rw[wf a];exact nv _ _
theorem wj(f:h<2^(JV).length)(g:0<h)(a:h<32):0<wd rows h:=by
 obtain⟨t,b⟩:=aL (M8 h a g);have d:=M9 f b;have c:=P0 d;refine tb0 (j:=JV[t]) ?_;rw[nw f (Y8 c)];have e:kd rows JV[t]=JV[t]:=g9.mp (B8.mp c).2;have:kx rows JV[t]=t:=by unfold kx;rw[e];exact nT (wc rows) t d
 rw[this];exact G3 b
theorem IF(h:Ks)(o:i<n)(f:j<m):mf KZ (kx rows i) (kx JJ j)=mf rows i j:=by
 have a:i<rows.length:=by rw[h.1];exact o
 have b:j<(JJ).length:=by rw[Q3];exact f
 have e:=Z1 a;have d:=Z1 b;have p:mf KZ (kx rows i) (kx JJ j)=mf rows ((JV).getD (kx rows i) 0) ((FI JJ).getD (kx JJ j) 0):=(by unfold mf rst sub;rw[o8 (i:=kx rows i),p5,k7 e];show(List.map _ _).getD _ 0=_;rw[o8,p5,k7 d,o8 (i:=kx rows i),k7 e,o8 (l:=FI JJ),k7 d];rfl);rw[p,wb a,wb b];have r1:rows.getD (kd rows i) []=rows.getD i []:=ij (J6 a);have g:(JJ).getD (kd JJ j) []=(JJ).getD j []:=ij (J6 b);have k:kd JJ j<m:=by have:=ii (J6 b);rw[Q3]at this;exact this
 rw[vD k,vD f]at g;have c:(col rows (kd JJ j)).getD i 0=(col rows j).getD i 0:=by rw[g]
 unfold col at c;rw[o8,o8,p5,p5,k7 a]at c;unfold mf;rw[r1,o8 (l:=rows),k7 a];exact c
end
theorem wk(h:evE G F e δ=some (.ok (Kx (iD r)) c)):evE G F (.bi .sum [e]) δ=some (.ok (Ke r.sum) .strong):=by
 show Rs.thn _ _=_;rw[g8 h k9];show(ints? (iD r)).map _=_;rw[ig];rfl
theorem wm:∀l:ge Nat,(l.map λ (j:Nat)=>(j:Int)).sum=((l.sum:Nat):Int)
 | []=>rfl
 | a::l=>by rw[A4,fx,fx,wm l];omega
theorem wq:∀(l:JW) (k:Nat),enuD k (l.map g)=(JY l.length).map λ c=>.tup [.int ((k+c:Nat):Int),g (l.getD c [])]
 | [],_=>rfl
 | a::l,k=>by
  rw[A4,x9,ol,A4,p9];show _::enuD (k+1) _=_;rw[wq l (k+1)]
  congr 1
  refine L0 λ c _=>?_;show DV.tup _=.tup _;rw[show k+1+c=k+(c+1) by omega];rfl
theorem wu(rows:JW)(b:rows.length<=8):run G T fu (k+1) 22 [.lst (iD (kI rows))]=some (.v (Kx (nD (ks rows))) true):=by
 rw[p7 (fd:=mB) rfl rfl];unfold mB;have a:=mL (F:=run G T fu k) (δ:=m7 1 [.lst (iD (kI rows))]) (e:=.var 0) (r:=kI rows) (f6 rfl) (by rw[mP];omega);rw[uD,mN]at a;have w:r6 (evE G (JX k) (.bi .sset [.var 0]) (m7 1 [.lst (iD (kI rows))]))=some (.ok ((JV).map λ (t:Nat)=>DV.int (t:Int)) .fresh):=by rw[a];rfl
 have o:=G2 (F:=run G T fu k) (elt:=.bi .sum [.compi (Lh (.var 0)) (.many [0,1]) (.enu (.var 1)) (.cmp .Eq (.var 1) (.var 2)) [none,none,some 0]]) (tg:=.one 0) (fr:=[none,some 0]) (l:=FI rows) (f:=λ t=>.int ((bs rows.length λ c=>kd rows c==t:Nat):Int)) w JB (i7 (mO rows) (i7 b JB)) (λ t ht=>⟨[.val (Ke (t:Int)),.val (Kx (iD (kI rows)))],.strong,rfl,?_,rfl⟩)
 ·have j:((JV).map λ t=>DV.int ((bs rows.length λ c=>kd rows c==t:Nat):Int))=nD (ks rows):=by unfold nD ks;rw[p9];rfl
  rw[j]at o;exact t4 (p8 (v3 o))
 ·have g:r6 (evE G (JX k) (.enu (.var 1)) [.val (Ke (t:Int)),.val (Kx (iD (kI rows)))])=some (.ok ((JY rows.length).map λ (c:Nat)=>DV.tup [.int (c:Int),.int ((kd rows c:Nat):Int)]) .strong):=by
   show some _=_;unfold iD kI;rw[p9,wq]
   congr 3
   funext c
   rw[jy];rfl
  have d:=uH (F:=run G T fu k) (p:=λ c=>kd rows c==t) (elt:=.bin .LShift (.int 1) (.var 0)) (tg:=.many [0,1]) (cd:=.cmp .Eq (.var 1) (.var 2)) (fr:=[none,none,some 0]) g JB (by rw[B7];exact i7 b JB) (λ c h=>⟨[.val (Ke (c:Int)),.val _,.val (Ke (t:Int))],rfl,o6 (iz (f6 rfl) (f6 rfl)),.strong,io (f6 rfl) (by have:=q9.mp h;omega),rfl⟩);have i:(((JY rows.length).filter λ c=>kd rows c==t).map λ c=>DV.int ((2^c:Nat):Int))=iD (((JY rows.length).filter λ c=>kd rows c==t).map λ c=>((2^c:Nat):Int)):=by unfold iD;rw[p9];rfl
  rw[i]at d;have:=wk d;rw[vZ]at this;exact this
theorem IG{i:Nat}(h:i<l.length):ixD (Kx (nD l)) (Ke (i:Int))=some (.int ((l.getD i 0:Nat):Int)):=by
 show(C6 (nD l).length _).bind _=_;unfold nD;rw[g6,mG h];show(List.map _ l)[i]? = _;rw[p5,k7 h,o8,k7 h];rfl
theorem ww{h:Nat}(d:0<h)(a:h<32)(c:h<2^S.length):run G T fu (k+2) 23 [.int (h:Int),.lst (nD S)]=some (.v (Ke ((((cs h).map λ t=>S.getD t 0).sum:Nat):Int)) false):=by
 rw[p7 rfl rfl];unfold ua;have g:=k6 (G:=G) (δ:=m7 2 [.int (h:Int),.lst (nD S)]) (f:=4) (es:=[.var 0]) rfl rfl (mR (fu:=fu) (k:=k) h d JA);have w:r6 (evE G (JX (k+1)) (Lj 4 0) (m7 2 [.int (h:Int),.lst (nD S)]))=some (.ok ((cs h).map λ (t:Nat)=>DV.int (t:Int)) .fresh):=by rw[g];rfl
 have o:=G2 (elt:=.ix (.var 1) (.var 0)) (tg:=.one 0) (fr:=[none,some 1]) (l:=cs h) w JB (i7 (cs5 h a) JB) (λ t b=>⟨[.val (Ke (t:Int)),.val (Kx (nD S))],.strong,rfl,q5 (cx:=.strong) (f6 rfl) (f6 rfl) (IG (M9 c b)),rfl⟩);have e:((cs h).map λ t=>DV.int ((S.getD t 0:Nat):Int))=iD (((cs h).map λ t=>S.getD t 0).map λ (j:Nat)=>(j:Int)):=by unfold iD;rw[p9,p9];rfl
 rw[e]at o;have:=wk o;rw[wm]at this;exact t4 (p8 (v3 this))
theorem IH(r:ge Int):DV.nolams (iD r)=true:=by
 induction r with
 | nil=>rfl
 | cons a r b=>exact b
theorem wy(r:ge Nat):DV.nolams (nD r)=true:=by
 induction r with
 | nil=>rfl
 | cons a r b=>exact b
theorem ny(rows:JW):(Lq).nolam=true:=by
 show DV.nolams _=true
 induction rows with
 | nil=>rfl
 | cons a r b=>
  show(DV.nolams (iD a)&&DV.nolams _)=true;rw[IH,b];rfl
theorem dU(L:Tb):(dC L).nolam=true:=by
 show DV.nolams _=true
 induction L with
 | nil=>rfl
 | cons a r b=>exact b
theorem aK:∀p:Pn,p.D.nolam=true
 | .fin w=>rfl
 | .ask s c n y=>by show((sd s).nolam&&(n.D.nolam&&(y.D.nolam&&true)))=true;rw[aK n,aK y];cases s<;>rfl
abbrev own(m:Nat)(rows:JW):DV:=.dct [.s "row",.s "column"] [.lst (nD (ks rows)),.lst (nD (ks JJ))]
abbrev caps(m:Nat)(rows:JW):ge DV:=[dC (ft m rows),.fn "joined_bits",tT KZ,own m rows]
theorem nz(m:Nat)(rows:JW):(own m rows).nolam=true:=by
 show(DV.nolams _&&(DV.nolams _&&true))=true;rw[wy,wy];rfl
theorem II(m:Nat)(rows:JW):DV.nolams (caps m rows)=true:=by
 show((dC _).nolam&&(true&&((tT _).nolam&&((own m rows).nolam&&true))))=true;rw[dU,ny,nz];rfl
def clB:ge MS:=match clo with | some C=>C.body | none=>[]
theorem wz(h:evSs G (JX k) fu clB (m7 10 (.int R :: .int C::caps m rows))=some (.rt d false))(hd:d.nolam=true):run G T fu (k+1) A5 (.int R :: .int C::caps m rows)=some (.v d false):=by
 show(if 6=2+4/\DV.nolams _=true then(match evSs G _ fu clB (m7 10 _)with
  | some (.rt d false)=>if d.nolam then some (Ou.v d false)else none
  | _=>none)else none)=_
 rw[f8 ⟨rfl,II m rows⟩,h];exact f8 hd
theorem wA{cs:ge DV}(c:capD δ [2,3,4,5]=some cs)(e:Li)(a:Ko=true)(b:l.length=2)(h:F A5 (l.map (·.1)++cs)=some (.v d false))(hd:d.nolam=true):evE G F (.self 2 4 es) δ=some (.ok d .strong):=by
 show(if 2=2/\4=4 then(capD δ [2,3,4,5]).bind λ cs=>Rs.thn _ λ l=>P5 F 2 cs l else none)=_;rw[f8 ⟨rfl,rfl⟩,c,e];show P5 F 2 cs l=_;unfold P5;rw[f8 ⟨a,b⟩,h];exact f8 hd
theorem IJ{cs:ge DV}{ks:ge Int}(g:Kh a (.ok (.lst ds) .fresh))(f:capD δ fr=some cs)(c:R5 F (.lam ⟨N,np,b,G.fnl,G.bll,G.cll⟩ cs) ds=some ks)(e:N6 ks=some i)(hd:ds[i]? = some d):evE G F (.mink a N np b fr) δ=some (.ok d .strong):=by
 show fY G F _ N np b _=_;rw[f,g];show((R5 F _ ds).bind λ ks=>(N6 ks).bind λ i=>ds[i]?.map λ d=>Re.ok d .strong)=_;rw[c];show((N6 ks).bind λ i=>ds[i]?.map λ d=>Re.ok d .strong)=_;rw[e];show(ds[i]?.map λ d=>Re.ok d .strong)=_;rw[hd];rfl
theorem IK{ks:ge Int}(h:ks≠[]):∃i,N6 ks=some i/\i<ks.length/\∀x∈ks,ks.getD i 0<=x:=by
 cases f:ks with
 | nil=>exact absurd f h
 | cons m r=>
  obtain⟨v,u,p⟩:=mW r m;have l:=v.elim (λ e=>by rw[e];exact n9 ..) λ e=>n6 _ e
  have c:=λ x k=>(h8.mp k).elim (λ e=>by rw[e];exact u) (p x);rw[←f]at l c ⊢;generalize minI m r=z at l c;have d:=dY l;have n:ks.getD (ks.idxOf z) 0=z:=by rw[o8,k7 d];exact eR d
  have w:∀j,j<ks.length->ks.getD j 0∈ks:=λ j b=>by rw[o8,k7 b];exact P0 b
  have ok:((JY ks.length).all λ j=>decide (ks.getD (ks.idxOf z) 0<=ks.getD j 0)&&(decide (ks.idxOf z<=j)||decide (ks.getD (ks.idxOf z) 0<ks.getD j 0)))=true:=by
   rw[F6];intro j b;have b:=q9.mp b;rw[f7,D8,A9,A9,A9,n];have a:=c _ (w j b);refine⟨a,?_⟩;rcases W1 j (ks.idxOf z)with q | q
   ·refine .inr (Int.lt_iff_le_and_ne.mpr ⟨a,λ e=>?_⟩);have:=List.not_of_lt_findIdx q;rw[o8,k7 b]at e;have y:z=ks[j]:=e;rw[←y,Q5]at this;cases this
   ·exact .inl q
  cases g:N6 ks with
  | none=>
   unfold N6 at g;have:=List.find?_eq_none.mp g _ (q9.mpr d);exact absurd ok this
  | some i=>
   unfold N6 at g;have o:=jp g;rw[F6]at o;refine⟨i,rfl,(q9.mp (iI g)),λ x k=>?_⟩;obtain⟨j,b,rfl⟩:=List.mem_iff_getElem.mp k;have:=o j (q9.mpr b);rw[f7,A9]at this;have e:=this.1;rw[o8 (i:=j),k7 b]at e;exact e
theorem wB{F:Nat->ge DV->Ji Ou}{m:DV}{α:Type}{h:α->DV}{g:α->Int}:∀{l:ge α},(∀a∈l,F z7 [m,h a]=some (.v (Ke (g a)) false))->R5 F m (l.map h)=some (l.map g)
 | [],_=>rfl
 | a::l,q=>by
  show(match F z7 [m,h a]with
   | some (.v (.int k) false)=>(R5 F m (l.map h)).map (k :: ·)
   | _=>none)=_
  rw[q a (n9 ..),wB λ b hb=>q b (n6 _ hb)];rfl
end k22
end
noncomputable section
namespace k22
open PySem L2
variable {fu k:Nat} {F:Nat->ge DV->Ji Ou} {δ:ge Sv} {ds:ge DV} {cl:Cl} {n m R C:Nat} {rows:ge (ge Int)}
theorem IL{m:LamD}{cs args:ge DV}{d:DV}(h1:args.length=m.np/\args.length+cs.length=m.N.length/\DV.nolams args=true/\DV.nolams cs=true)(h:evE G (JX k) m.body ((args++cs).map Sv.val)=some (JT d))(hd:d.nolam=true):run G T fu (k+1) z7 (.lam m cs::args)=some (.v d false):=by
 have e1:run G T fu (k+1) z7 (.lam m cs::args)=lamR (evE G (JX k)) (.lam m cs::args):=rfl;rw[e1];show(if args.length=m.np/\args.length+cs.length=m.N.length/\DV.nolams args=true/\DV.nolams cs=true then(match evE G (JX k) m.body ((args++cs).map Sv.val)with
  | some (.ok d .strong)=>if d.nolam then some (Ou.v d false)else none
  | _=>none)else none)=_
 rw[f8 h1,h];exact f8 hd
theorem wC{r c:Nat}(b:JC u cx (dC L))(h:evE G F e δ=some (.ok (.tup [.int r,.int c]) cy))(a:L.lookup (r,c)=some z):evE G F (.dix u e) δ=some (.ok (.int z) .strong):=by
 have d:evE G F (.dix u e) δ=Re.thn _ _:=rfl;rw[d,b,B3,h,B3];show(match E6 (kk (r,c)) _ (LM _)with
  | some (.int v)=>some _
  | _=>none)=_
 rw[mV,a];rfl
theorem IM(b:evE G F u δ=some (JT (.dct [.s "row",.s "column"] [d,a])))(h:JC e cy (sd s)):evE G F (.dix u e) δ=some (.ok (if s then d else a) .strong):=by
 have c:evE G F (.dix u e) δ=Re.thn _ _:=rfl;rw[c,b,B3,h,B3];cases s
 ·show(if DKey.s "row" = DKey.s "column" then some d else if DKey.s "column" = DKey.s "column" then some a else none).map (λ d=>Re.ok d .strong)=_;rw[g7 JB,f8 rfl];rfl
 ·show(if DKey.s "row" = DKey.s "row" then some d else if DKey.s "column" = DKey.s "row" then some a else none).map (λ d=>Re.ok d .strong)=_;rw[f8 rfl];rfl
theorem T3(h:δ[i]? = some (.val d))(hd:d.nolam=true)(b:capD δ r=some a):capD δ (i::r)=some (d::a):=by
 show(match δ[i]?,capD δ r with
  | some (.val d),some a=>if d.nolam then some (d::a)else none
  | _,_=>none)=_
 rw[h,b];exact f8 hd
theorem nA(h:w∈wl R C):(∃g,Sb g R/\w=(sd true,g,(R - g,C),(g,C)))\/∃g,Sb g C/\w=(sd false,g,(R,C - g),(R,g)):=by
 unfold wl at h;rcases D7.mp h with q | q
 ·obtain⟨g,a,rfl⟩:=i4.mp q;exact .inl ⟨g,(Z0 a).1,rfl⟩
 ·obtain⟨g,a,rfl⟩:=i4.mp q;exact .inr ⟨g,(Z0 a).1,rfl⟩
theorem wE:∀R,R<32->∀g,g<32->0<g/\g<R/\g &&& R=g->(cs g).length+(cs (R - g)).length=(cs R).length:=by decide +kernel
noncomputable def Pn.ok(n m:Nat):Pn->Prop
 | .fin w=>0<=w/\w<=9
 | .ask s c a b=>0<c/\c<2^(if s then n else m)/\a.ok n m/\b.ok n m
structure PlOk(n m:Nat)(rows:List (List Int))(R C:Nat)(p:Pn):Prop where
 deep:p.deep=V (mf KZ) R C
 few:p.deep+2<=(cs R).length+(cs C).length
 ok:p.ok n m
 to:∀i j,i<n->j<m->R.testBit (kx rows i)=true->C.testBit (kx JJ j)=true->p.rch i j=mf rows i j
theorem IN(rc:Rect n m a)(h1:(FI a).length<=5)(h2:(FI (flip m a)).length<=5)(h:0<R)(hR:R<2^(FI a).length)(j:0<C)(hC:C<2^(FI (flip m a)).length)(hw:w∈wl R C)(o:N.length=3) :
  run G T fu (k+3) z7 [.lam ⟨N,1,.callv 1 [("joined_bits",15)] [.dix (.var 2) (JN 0 2),.dix (.var 2) (JN 0 3)],G.fnl,G.bll,G.cll⟩ [.fn "joined_bits",dC (ft m a)],wD w]=some (.v (Ke ((wv (mf (rst m a)) w:Nat):Int)) false):=by
 have b:∀r c,0<r->r<=R->0<c->c<=C->(ft m a).lookup (r,c)=some _:=λ r c l r1 p c1=>by unfold ft;rw[iA,f8 (bP.mpr (.inl ⟨l,by dsimp only;omega,p,by dsimp only;omega⟩))]
 have d:(ft m a).lookup w.2.2.1=some (V (mf (rst m a)) w.2.2.1.1 w.2.2.1.2)/\(ft m a).lookup w.2.2.2=some (V (mf (rst m a)) w.2.2.2.1 w.2.2.2.2):=by
  rcases nA hw with⟨g,s,rfl⟩ | ⟨g,s,rfl⟩
  ·have:=s.1;have:=s.2.1;exact⟨b _ _ JA JA j JA,b _ _ s.1 JA j JA⟩
  ·have:=s.1;have:=s.2.1;exact⟨b _ _ h JA JA JA,b _ _ h JA s.1 JA⟩
 have nl:(wD w).nolam=true:=(by rcases nA hw with⟨g,s,rfl⟩ | ⟨g,s,rfl⟩<;>rfl);have e:∀F,evE G F (.var 0) (([wD w]++[.fn "joined_bits",dC (ft m a)]).map Sv.val)=some _:=λ F=>f6 rfl;refine IL ⟨rfl,o.symm,?_,?_⟩ (vn (i:=1) (f:=15) rfl rfl (g8 (wC (f6 rfl) (q5 (e _) i5 rfl) d.1) (g8 (wC (f6 rfl) (q5 (e _) i5 rfl) d.2) k9)) rfl (vh _ _)) rfl
 ·show((wD w).nolam&&true)=true;rw[nl];rfl
 ·show(true&&((dC (ft m a)).nolam&&true))=true;rw[dU];rfl
theorem wF(rc:Ks)(w9:W9 rows)(n0:0<n)(m0:0<m)(n8:n<=8)(m8:m<=8)(h1:(JV).length<=5)(h2:(FI JJ).length<=5) :
  ∀(N R C:Nat),(cs R).length+(cs C).length<=N->0<R->R<2^(JV).length->0<C->C<2^(FI JJ).length->∃p,PlOk n m rows R C p/\run G T fu (k+N+6) A5 (.int R :: .int C::caps m rows)=some (.v p.D false)
 | 0,R,C,hN,R0,hR,C0,hC=>by have:=M8 R (r9 hR (p32 h1)) R0;omega
 | N+1,R,C,hN,R0,hR,C0,hC=>by
  have pa:=p32 h1;have pb:=p32 h2;have r1:=M8 R JA R0;have c1':=M8 C JA C0;have rc':=iB (m:=m) (rows:=rows);have w9':=nu rc w9;have a0:0<(JV).length:=Q2 (by rw[rc.1];exact n0);have ih:=wF rc w9 n0 m0 n8 m8 h1 h2 N
  let F:=run G T fu (k+N+6)
  let D0:ge Sv:=m7 10 (.int R :: .int C::caps m rows)
  let f:=mf KZ
  have rs:Rect (cs R).length (cs C).length (sub KZ (cs R) (cs C)):=(by refine⟨by unfold sub;rw[g6],λ r hr=>?_⟩;obtain⟨i,_,rfl⟩:=i4.mp hr;rw[g6]);have w9s:W9 (sub KZ (cs R) (cs C)):=λ r hr x hx=>by obtain⟨i,hi,rfl⟩:=i4.mp hr;obtain⟨j,hj,rfl⟩:=i4.mp hx;exact bM rc' w9' (M9 hR hi) (M9 hC hj)
  have c1:=k6 (G:=G) (F:=F) (δ:=D0) (f:=2) (es:=[.var 4,.var 0,.var 1]) (l:=[(tT KZ,.strong),(LF R),(LF C)]) rfl rfl (uU (fu:=fu) (k:=k+N+3) KZ _ _ R C rc' a0 JA JA R0 hR C0 hC);have c2:=k6 (G:=G) (F:=F) (δ:=D0) (f:=11) (es:=[.call 2 [.var 4,.var 0,.var 1]]) (g8 c1 k9) rfl (uN (fu:=fu) (k:=k+N+5) _ _ _ rs (i7 (cs5 R JA) JB) (i7 (cs5 C JA) JB) w9s);rw[vq]at c2;obtain⟨ws,hws⟩:∃ws,(List.range 10).filter (wp f R C)=ws:=KD;have hwn:wn f R C=ws.length:=by rw[←hws];rfl
  rw[show(JY 10).filter (wp (mf KZ) R C)=ws from hws]at c2
  let D1:ge Sv:=D0.set 6 (.val (Kx (nD ws)))
  have st1:evS G F fu (.set 6 false (.call 11 [.call 2 [.var 4,.var 0,.var 1]])) D0=some (.nx D1):=o9 c2 rfl;have l1:=dO (F:=F) (δ:=D1) (e:=.var 6) (ds:=nD ws) (c:=.strong) (f6 rfl);unfold nD at l1;rw[g6,←hwn]at l1;have t1:=iz l1 (i5 (i:=1));by_cases h1w:wn f R C=1
  ·obtain⟨w,rfl⟩:=oz.mp (hwn.symm.trans h1w);refine⟨.fin w,⟨(vV R0 h1w).symm,by show 0+2<=_;omega,?_,λ i j hi hj hbi hbj=>?_⟩,wz (k:=k+N+6) ?_ (aK _)⟩
   ·have:w∈(JY 10).filter (wp f R C):=by rw[hws];exact u7.mpr rfl
    have:=q9.mp (B8.mp this).1;exact⟨by omega,by omega⟩
   ·have e:=IF rc hi hj;have b9:=bM rc' w9' (Z1 (rows:=rows) (i:=i) (by rw[rc.1];exact hi)) (Z1 (rows:=flip m rows) (i:=j) (by rw[Q3];exact hj));have hx:(mf KZ (kx rows i) (kx JJ j)).toNat∈(JY 10).filter (wp f R C):=B8.mpr ⟨q9.mpr JA,V3.mpr ⟨_,_,Y9 hbi,Y9 hbj,by show mf _ _ _=_;omega⟩⟩;rw[hws]at hx;have:=u7.mp hx;rw[←e];show(w:Int)=_;omega
   ·rw[show(wn f R C==1)=true by rw[h1w];rfl]at t1;have x0:evE G F (JN 6 0) D1=some (.ok (Ke (w:Int)) .strong):=q5 (cx:=.strong) (f6 (n:=6) (d:=.lst (nD [w])) rfl) i5 rfl;exact k8 st1 (gf (o6 t1) (p8 (v3 (U6 (g8 (M2 (x:="end")) (g8 x0 k9)) (show 2<=o4 by decide) rfl))))
  ·have hp:0<wn f R C:=vw rc' w9' h1 h2 R0 hR C0 hC;have hwl:=vR (f:=f) (R:=R) (C:=C) JA JA R0 C0 JA;rw[show(wn f R C==1)=false from z8.mpr h1w]at t1;have sp:=k6 (G:=G) (F:=F) (δ:=D1) (f:=17) (es:=[.var 0,.var 1]) (l:=[(LF R),(LF C)]) rfl rfl (vg (fu:=fu) (k:=k+N+4) (R:=R) (C:=C) JA JA);have cp:capD D1 [3,2]=some [.fn "joined_bits",dC (ft m rows)]:=T3 rfl rfl (T3 rfl (dU _) rfl);have hk:=wB (F:=F) (m:=.lam ⟨["way","joined","numbers"],1,.callv 1 [("joined_bits",15)] [.dix (.var 2) (JN 0 2),.dix (.var 2) (JN 0 3)],G.fnl,G.bll,G.cll⟩ [.fn "joined_bits",dC (ft m rows)]) (h:=wD) (g:=λ w=>((wv f w:Nat):Int)) (l:=wl R C) (λ w hw=>IN (k:=k+N+3) rc h1 h2 R0 hR C0 hC hw rfl);obtain⟨i,hi,hil,hmin⟩:=IK (ks:=(wl R C).map λ w=>((wv f w:Nat):Int)) (λ z=>hwl (eQ.mp z));rw[g6]at hil;obtain⟨w,hw⟩:∃w,(wl R C)[i]? = some w:=⟨_,k7 hil⟩;have hwm:=J9 hw;have mk:=IJ sp cp hk hi (by rw[p5,hw];rfl);have gi:((wl R C).map λ w=>((wv f w:Nat):Int)).getD i 0=((wv f w:Nat):Int):=by rw[o8,p5,hw];rfl
   rw[gi]at hmin;have hV:wv f w=V f R C:=by
    rw[V_eq f JA];unfold stp;rw[g7 h1w];refine vI (i4.mpr ⟨w,hwm,rfl⟩) λ x hx=>?_
    obtain⟨w',hw',rfl⟩:=i4.mp hx;have:=hmin _ (i4.mpr ⟨w',hw',rfl⟩);exact Int.ofNat_le.mp this
   let D2:ge Sv:=D1.set 7 (.val (wD w))
   let D3:ge Sv:=D2.set 8 (.val (.tup [.int w.2.2.1.1,.int w.2.2.1.2]))
   let D4:ge Sv:=D3.set 9 (.val (.tup [.int w.2.2.2.1,.int w.2.2.2.2]))
   have cp4:capD D4 [2,3,4,5]=some (caps m rows):=T3 rfl (dU _) (T3 rfl rfl (T3 rfl (ny _) (T3 rfl (nz _ _) rfl)));have fin:∀(s:Bool) (g c:Nat) (pn py:Pn),w.1=sd s->w.2.1=g->run G T fu (k+N+6) 23 [.int (g:Int),if s then .lst (nD (ks rows))else .lst (nD (ks JJ))]=some (.v (Ke (c:Int)) false) ->
     run G T fu (k+N+6) A5 (.int w.2.2.1.1 :: .int w.2.2.1.2::caps m rows)=some (.v pn.D false)->run G T fu (k+N+6) A5 (.int w.2.2.2.1 :: .int w.2.2.2.2::caps m rows)=some (.v py.D false)->run G T fu (k+(N+1)+6) A5 (.int R :: .int C::caps m rows)=some (.v (Pn.ask s c pn py).D false):=λ s g c pn py e1 e2 e3 e4 e5=>by
    refine wz (k:=k+N+6) ?_ (aK _);have v7:evE G F (.var 7) D4=some (.ok (wD w) .strong):=f6 rfl;have x0:evE G F (JN 7 0) D4=some (.ok (sd s) .strong):=q5 (cx:=.strong) v7 i5 (by rw[←e1];rfl);have x1:evE G F (JN 7 1) D4=some (.ok (Ke (g:Int)) .strong):=q5 (cx:=.strong) v7 i5 (by rw[←e2];rfl);have x2:=k6 (G:=G) (F:=F) (δ:=D4) (f:=23) (es:=[.ix (.var 7) (.int 1),.dix (.var 5) (JN 7 0)]) (g8 x1 (g8 (IM (s:=s) (u:=.var 5) (f6 rfl) x0) k9)) rfl e3;have y3:=wA (F:=F) (δ:=D4) (es:=[.ix (.var 8) (.int 0),.ix (.var 8) (.int 1)]) (l:=[(LF w.2.2.1.1),(LF w.2.2.1.2)]) cp4 rfl rfl rfl e4 (aK _);have y4:=wA (F:=F) (δ:=D4) (es:=[.ix (.var 9) (.int 0),.ix (.var 9) (.int 1)]) (l:=[(LF w.2.2.2.1),(LF w.2.2.2.2)]) cp4 rfl rfl rfl e5 (aK _);exact k8 st1 (v5 (o6 t1) (k8 (o9 mk rfl) (k8 (o9 (δ:=D2) (q5 (cx:=.strong) (f6 (n:=7) (d:=wD w) rfl) i5 rfl) rfl) (k8 (o9 (δ:=D3) (q5 (cx:=.strong) (f6 (n:=7) (d:=wD w) rfl) i5 rfl) rfl) (p8 (v3 (U6 (g8 (M2 (x:="ask")) (g8 x0 (g8 x2 (g8 y3 (g8 y4 k9))))) (show 5<=o4 by decide) rfl)))))))
   rcases nA hwm with⟨g,s,rfl⟩ | ⟨g,s,rfl⟩
   ·have s1:=s.1;have s2:=s.2.1;have two:=wE R JA g (s.lt JA) s;have g1:=M8 g (s.lt JA) s1;have g2:=M8 (R - g) JA JA;obtain⟨pn,okn,en⟩:=ih (R - g) C JA JA JA C0 hC;obtain⟨py,oky,ey⟩:=ih g C JA s1 JA C0 hC;have hgl:g<2^(JV).length:=by omega
    refine⟨.ask true (wd rows g) pn py,⟨?_,?_,⟨wj hgl s1 JA,by show _<2^n;rw[←rc.1];exact wg hgl,okn.ok,oky.ok⟩,λ i j hi hj hbi hbj=>?_⟩,fin true g _ pn py rfl rfl ?_ en ey⟩
    ·show 1+max pn.deep py.deep=V f R C;rw[okn.deep,oky.deep,←hV];rfl
    ·have a:=okn.few;have b:=oky.few;show 1+max pn.deep py.deep+2<=_;omega
    ·have hil:i<rows.length:=by rw[rc.1];exact hi
     have k5:kx rows i<5:=r9 (Z1 hil) h1;have bits:=(im R JA g (s.lt JA) s.2.2 (kx rows i) k5).1;show(if(wd rows g).testBit i then py.rch i j else pn.rch i j)=_;rw[nw hgl hil];cases e:g.testBit (kx rows i)with
     | true=>exact oky.to i j hi hj e hbj
     | false=>exact okn.to i j hi hj (by rw[bits,hbi,e];rfl) hbj
    ·exact ww s1 JA (by unfold ks;rw[g6];exact hgl)
   ·have s1:=s.1;have s2:=s.2.1;have two:=wE C JA g (s.lt JA) s;have g1:=M8 g (s.lt JA) s1;have g2:=M8 (C - g) JA JA;obtain⟨pn,okn,en⟩:=ih R (C - g) JA R0 hR JA JA;obtain⟨py,oky,ey⟩:=ih R g JA R0 hR s1 JA;have hgl:g<2^(FI JJ).length:=by omega
    refine⟨.ask false (wd JJ g) pn py,⟨?_,?_,⟨wj hgl s1 JA,by have:=wg hgl;rw[Q3]at this;exact this,okn.ok,oky.ok⟩,λ i j hi hj hbi hbj=>?_⟩,fin false g _ pn py rfl rfl ?_ en ey⟩
    ·show 1+max pn.deep py.deep=V f R C;rw[okn.deep,oky.deep,←hV];rfl
    ·have a:=okn.few;have b:=oky.few;show 1+max pn.deep py.deep+2<=_;omega
    ·have hjl:j<(JJ).length:=by rw[Q3];exact hj
     have k5:kx JJ j<5:=r9 (Z1 hjl) h2;have bits:=(im C JA g (s.lt JA) s.2.2 (kx JJ j) k5).1;show(if(wd JJ g).testBit j then py.rch i j else pn.rch i j)=_;rw[nw hgl hjl];cases e:g.testBit (kx JJ j)with
     | true=>exact oky.to i j hi hj hbi e
     | false=>exact okn.to i j hi hj hbi (by rw[bits,hbj,e];rfl)
    ·exact ww s1 JA (by unfold ks;rw[g6];exact hgl)
end k22
end
noncomputable section
namespace k22
open PySem L2
variable {fu k:Nat} {F:Nat->ge DV->Ji Ou} {δ:ge Sv} {ds:ge DV} {cl:Cl} {n m:Nat} {rows:ge (ge Int)}
theorem IP(h:Kh a (.ok d c))(g:Kh b (.ok e f))(j:stro d c=true)(i:stro e f=true):evE G F (.dc2 "row" "column" a b) δ=some (.ok (.dct [.s "row",.s "column"] [d,e]) .strong):=by
 show Re.thn _ _=_;rw[h,B3,g,B3];exact f8 ⟨j,i,by decide⟩
theorem IQ{cs:ge DV}(c:δ[5]? = some .no)(e:capD δ [1,2,3,4]=some cs)(f:Li)(a:Ko=true)(b:l.length=2)(h:F A5 (l.map (·.1)++cs)=some (.v d false))(hd:d.nolam=true):evS G F fu (.dfr 5 [1,2,3,4] es) δ=some (.rt d false):=by
 show dfrS G F _ _ _ δ[5]? = _;rw[f,e,c];show(P5 F 2 cs l).bind (λ r=>match r with
   | .ok d _=>some _
   | .ex _=>none)=_
 unfold P5;rw[f8 ⟨a,b⟩,h];show((if d.nolam then some (Re.ok d .strong)else none):Ji Re).bind _=_;rw[f8 hd];rfl
structure PlF(n m:Nat)(rows:List (List Int))(p:Pn):Prop where
 deep:p.deep=V (mf KZ) (2^(JV).length - 1) (2^(FI JJ).length - 1)
 few:p.deep<=8
 ok:p.ok n m
 to:∀i j,i<n->j<m->p.rch i j=mf rows i j
theorem wG(a:Ks)(z:W9 rows)(g:0<n)(E:0<m)(B:n<=8)(C:m<=8)(q:(JV).length<=5)(h:(FI JJ).length<=5):∃p,PlF n m rows p/\run G T fu (k+18) 20 [tT rows]=some (.v p.D false):=by
 have pa:=p32 q;have pb:=p32 h;have J:0<(JV).length:=Q2 (by rw[a.1];exact g);have q1:2<=2^(JV).length:=i7 (by decide:2<=2^1) (O6 JB J);have q2:2<=2^(FI JJ).length:=i7 (by decide:2<=2^1) (O6 JB (Q2 (by rw[Q3];exact E)));have l1:=cs5 (2^(JV).length - 1) JA;have l2:=cs5 (2^(FI JJ).length - 1) JA;obtain⟨p,ok,e⟩:=wF (fu:=fu) (k:=k) a z g E B C q h 10 (2^(JV).length - 1) (2^(FI JJ).length - 1) JA JA JA JA JA;refine⟨p,⟨ok.deep,by have:=ok.few;omega,ok.ok,λ i j I H=>ok.to i j I H ?_ ?_⟩,?_⟩
 ·rw[nH,C5 (Z1 (by rw[a.1];exact I))]
 ·rw[nH,C5 (Z1 (by rw[Q3];exact H))]
 have c:=iB (m:=m) (rows:=rows);have en:=vS (fu:=fu) (k:=k+10) rows n m a z g JA JA q h;have u:run G T fu (k+17) 21 [tT rows,dC (ft m rows),.fn "joined_bits"]=some (.v p.D false):=by
  rw[p7 (fd:=mz) rfl rfl];unfold mz
  let F:=run G T fu (k+16)
  let K:ge Sv:=m7 6 [tT rows,dC (ft m rows),.fn "joined_bits"]
  have Q:=k6 (G:=G) (F:=F) (δ:=K) (f:=8) (es:=[.var 0]) (l:=[(tT rows,.strong)]) rfl rfl (mQ (fu:=fu) (k:=k+13) rows n m a g JA JA)
  let b:ge Sv:=K.set 3 (.val (tT KZ))
  have N:=k6 (G:=G) (F:=F) (δ:=b) (f:=6) (es:=[.var 0]) (l:=[(tT rows,.strong)]) rfl rfl (mI (fu:=fu) (k:=k+15) rows (by rw[a.1];omega));have M:=k6 (G:=G) (F:=F) (δ:=b) (f:=7) (es:=[.var 0]) (l:=[(tT rows,.strong)]) rfl rfl (uE (fu:=fu) (k:=k+14) rows n m a g JA JA);have s1:=k6 (G:=G) (F:=F) (δ:=b) (f:=22) (g8 N k9) rfl (wu (fu:=fu) (k:=k+15) rows (by rw[a.1];exact B));have L:=k6 (G:=G) (F:=F) (δ:=b) (f:=22) (g8 M k9) rfl (wu (fu:=fu) (k:=k+15) JJ (by rw[Q3];exact C));have o:=IP s1 L rfl rfl
  let w:ge Sv:=b.set 4 (.val (own m rows))
  have P:capD w [1,2,3,4]=some (caps m rows):=T3 rfl (dU _) (T3 rfl rfl (T3 rfl (ny _) (T3 rfl (nz _ _) rfl)));have A:evE G F (.var 3) w=some (.ok (tT KZ) .strong):=f6 rfl;have y:=mS JA (lenT c A);have x:=mS JA (nh c J A);rw[show((2^(JV).length:Nat):Int) - 1=((2^(JV).length - 1:Nat):Int) by omega]at y;rw[show((2^(FI JJ).length:Nat):Int) - 1=((2^(FI JJ).length - 1:Nat):Int) by omega]at x;exact t4 (k8 (o9 Q rfl) (k8 (o9 (δ:=b) o rfl) (p8 (IQ (δ:=w) rfl P (g8 y (g8 x k9)) rfl rfl e (aK _)))))
 rw[p7 (fd:=tZ) rfl rfl];have v:=k6 (G:=G) (F:=run G T fu (k+17)) (δ:=m7 1 [tT rows]) (f:=14) (es:=[.var 0]) (l:=[(tT rows,.strong)]) rfl rfl ((by rw[p7 rfl rfl];exact t4 (p8 (v3 (k6 rfl rfl en)))));have O:evE G (JX (k+17)) (.glb "joined_bits") (m7 1 [tT rows])=some (.ok (.fn "joined_bits") .strong):=rfl;have r:=v3 (fu:=fu) (k6 (g8 (f6 (n:=0) (d:=tT rows) rfl) (g8 v (g8 O k9))) rfl u);rw[show frD p.D _=false by cases p<;>rfl]at r;exact t4 (p8 r)
theorem IR(h:Kh a (.ex c)):evEs G F (a::es) δ=some (.ex c):=by
 unfold evEs;rw[h]
theorem IS(h:Kh a (.ok d cx))(b:evEs G F es δ=some (.ex c)):evEs G F (a::es) δ=some (.ex c):=by
 unfold evEs;rw[h,b]
theorem IT(R:Ks)(l:0<n)(g:n<=8)(i:m<=8)(j:sm (JV).length (FI JJ).length=false):run G T fu (k+8) 20 [tT rows]=some (.x "TooGreat"):=by
 have c:=HW (fu:=fu) (k:=k) R l g i;rw[j,g7 B5]at c;have o:run G T fu (k+6) 16 [tT rows,.int 0,.fn "joined_bits"]=some (.x "TooGreat"):=(by rw[p7 rfl rfl];exact iu (bN (vC (iw (g8 (f6 rfl) k9) c))));have b:∀{F:Nat->ge DV->Ji Ou} {a:ge Sv} {e:ME} {c:Str},evE G F e a=some (.ex c)->evS G F fu (.ret e) a=some (.ex c a):=λ {F a e c} h=>by show Re.thnS a (evE G F e a) _=_;rw[h];rfl
 rw[p7 rfl rfl];have q:=iw (G:=G) (F:=run G T fu (k+7)) (δ:=m7 1 [tT rows]) (f:=14) (es:=[.var 0]) rfl ((by rw[p7 rfl rfl];exact iu (bN (b (iw rfl o)))));refine iu (bN (b ?_));show Rs.thn (evEs G (JX (k+7)) [.var 0,.call 14 [.var 0],.glb "joined_bits"] (m7 1 [tT rows])) _=_;have:evEs G (JX (k+7)) [.var 0,.call 14 [.var 0],.glb "joined_bits"] (m7 1 [tT rows])=some (.ex "TooGreat"):=(by exact IS (f6 (n:=0) (d:=tT rows) rfl) (IR q));rw[this];rfl
theorem IU(h:run G T fu k 20 [t]=some (.x "TooGreat")):run G T fu (k+1) 35 [t]=some (.v (.bl true) false):=by
 rw[p7 rfl rfl];unfold uf;have a:evS G (JX k) fu (.tryc [.exp (Lj 20 0)] "TalkError" 2 1) [.val t,.val .non,.no]=some (.nx [.val t,.val (.exc "TooGreat"),.no]):=by show tryD G "TalkError" 2 1 _=_;rw[(bN (vC (iw (g8 (f6 rfl) k9) h)))];rfl
 exact t4 (k8 (o9 rfl rfl) (k8 a (v5 (o6 (x:=false) (cl:=.strong) rfl) (p8 rfl))))
end k22
end
noncomputable section
namespace k22
open PySem L2
theorem q_ea:cmpD .Eq (.str "end") (.str "ask")=some false:=by decide +kernel
theorem q_aa:cmpD .Eq (.str "ask") (.str "ask")=some true:=by decide +kernel
theorem q_ee:cmpD .Eq (.str "end") (.str "end")=some true:=by decide +kernel
theorem q_ae:cmpD .Eq (.str "ask") (.str "end")=some false:=by decide +kernel
theorem wH(s:Bool):cmpD .Eq (sd s) (.str "column")=some (!s):=by cases s<;>decide +kernel
theorem q_in(s:Bool):cmpD .NotIn (sd s) (.tup [.str "row",.str "column"])=some false:=by cases s<;>decide +kernel
theorem q_na:cmpD .NotEq (.str "ask") (.str "ask")=some false:=by decide +kernel
theorem p0{p:Pn}(h:evE G F e δ=some (JT p.D)):evE G F (.ix e (.int 0)) δ=some (.ok (.str (match p with | .fin _=>"end" | .ask _ _ _ _=>"ask")) .strong):=q5 h i5 (by cases p<;>rfl)
theorem p1(h:evE G F e δ=some (.ok (Pn.ask s x p q).D .strong)):evE G F (.ix e (.int 1)) δ=some (.ok (sd s) .strong):=q5 h i5 rfl
theorem p2(h:evE G F e δ=some (.ok (Pn.ask s x p q).D .strong)):evE G F (.ix e (.int 2)) δ=some (.ok (Ke (x:Int)) .strong):=q5 h i5 rfl
theorem p3(h:evE G F e δ=some (.ok (Pn.ask s x p q).D .strong)):evE G F (.ix e (.int 3)) δ=some (.ok p.D .strong):=q5 h i5 rfl
theorem p4(h:evE G F e δ=some (.ok (Pn.ask s x p q).D .strong)):evE G F (.ix e (.int 4)) δ=some (.ok q.D .strong):=q5 h i5 rfl
noncomputable def rB:ge MS:=[.set 3 false (.var 1),.iff (.cmp .Eq (JN 0 1) (.str "column")) [.set 3 false (.var 2)] [],.set 0 false (.ix (.var 0) (.bin .Add (.int 3) (.bin .BitAnd (.bin .RShift (JN 0 2) (.var 3)) (.int 1))))]
theorem wI(i j:Nat):∀(p:Pn) (z:Nat) (x:Sv),p.deep<z->∃m,M0 (λ f=>tstD (evE G F (.cmp .Eq (.ix (.var 0) (.int 0)) (.str "ask")) f)) (λ f=>evSs G F fu rB f) z [.val p.D,.val (Ke (i:Int)),.val (Ke (j:Int)),x]=some (.nx [.val (Pn.fin (p.rch i j)).D,.val (Ke (i:Int)),.val (Ke (j:Int)),m])
 | p,0,x,h=>absurd h (cn _)
 | .fin w,z+1,x,_=>⟨x,zM (o6 (G0 (p0 (p:=.fin w) (f6 rfl)) M2 q_ea))⟩
 | .ask s c n y,z+1,x,h=>by
  have hd:1+max n.deep y.deep<z+1:=h;obtain⟨t,o⟩:∃t:Nat,t=(if s then i else j):=KD
  let D (u:Sv):ge Sv:=[.val (Pn.ask s c n y).D,.val (Ke (i:Int)),.val (Ke (j:Int)),u]
  have l:∀u,evE G F (.var 0) (D u)=some (.ok (Pn.ask s c n y).D .strong):=λ u=>f6 rfl;have a:evSs G F fu [.set 0 false (.ix (.var 0) (.bin .Add (.int 3) (.bin .BitAnd (.bin .RShift (JN 0 2) (.var 3)) (.int 1))))] (D (Kb (t:Int)))=some (.nx [.val (if c.testBit t then y else n).D,.val (Ke (i:Int)),.val (Ke (j:Int)),.val (Ke (t:Int))]):=by
   have r:=vH (p2 (l (Kb (t:Int)))) (f6 (n:=3) (d:=.int (t:Int)) rfl) (E8 t);have A:=M1 (i5 (i:=3)) ((by have:evE G F (.bin .BitAnd (.bin .RShift (JN 0 2) (.var 3)) (.int 1)) (D (Kb (t:Int)))=some (.ok (Ke (Builtin.bitAnd ((c:Int)/2^((t:Int).toNat)) 1)) .strong):=K3 r (i5) rfl;rw[uQ]at this;exact this));refine k8 (o9 (q5 (cx:=.strong) (l _) A ?_) ?_) rfl
   ·cases c.testBit t<;>rfl
   ·rfl
  have k:evSs G F fu rB (D x)=some (.nx [.val (if c.testBit t then y else n).D,.val (Ke (i:Int)),.val (Ke (j:Int)),.val (Ke (t:Int))]):=by
   have q:=o6 (G0 (p1 (l (Kb (i:Int)))) (M2 (x:="column")) (wH s));refine k8 (o9 (f6 (n:=1) (d:=.int (i:Int)) rfl) rfl) ?_;cases s with
   | true=>
    have g:t=i:=o;rw[g]at a ⊢;exact v5 q a
   | false=>
    have g:t=j:=o;rw[g]at a ⊢;exact R6 q (k8 (o9 (f6 (n:=2) (d:=.int (j:Int)) rfl) rfl) rfl) a
  obtain⟨m,v⟩:=wI i j (if c.testBit t then y else n) z (Kb (t:Int)) (by split<;>omega);refine⟨m,zN (o6 (G0 (p0 (p:=.ask s c n y) (l x)) M2 q_aa)) k (v.trans ?_)⟩;have e:(if c.testBit t then y else n).rch i j=(Pn.ask s c n y).rch i j:=by show _=(if c.testBit (if s then i else j)then y.rch i j else n.rch i j);rw[o];generalize (if s then i else j)=u;cases c.testBit u<;>rfl
  rw[e]
theorem IV{p:Pn}{i j:Nat}(h:p.deep<fu):run G T fu (k+1) 30 [p.D,.int (i:Int),.int (j:Int)]=some (.v (Ke (p.rch i j)) false):=by
 rw[p7 rfl rfl];obtain⟨x',e⟩:=wI i j p fu .no h;exact t4 (zO e (p8 (v3 (q5 (f6 rfl) i5 rfl))))
theorem iF:∀(p:Pn) (K:Nat),p.deep<K->run G T fu K 32 [p.D]=some (.v (Ke (p.deep:Nat)) false)
 | p,0,h=>absurd h (cn _)
 | .fin w,K+1,_=>by rw[p7 rfl rfl];exact t4 (gf (o6 (G0 (p0 (p:=.fin w) (f6 rfl)) M2 q_ee)) (p8 rfl))
 | .ask s c n y,K+1,h=>by have hd:1+max n.deep y.deep<K+1:=h;rw[p7 rfl rfl];have a:evE G (JX K) (.var 0) (m7 1 [(Pn.ask s c n y).D])=some (.ok (Pn.ask s c n y).D .strong):=f6 rfl;have e:=k6 (g8 (p3 a) k9) rfl (iF n K JA);have d:=k6 (g8 (p4 a) k9) rfl (iF y K JA);have b:=M1 (i5 (i:=1)) (Ia e d);rw[show(1:Int)+_=_ by show _=((1+max n.deep y.deep:Nat):Int);omega]at b;exact t4 (v5 (o6 (G0 (p0 (p:=.ask s c n y) a) M2 q_ae)) (p8 (v3 b)))
theorem iG(o:Ks)(B:0<n)(I:n<=8)(J:m<=8):∀(p:Pn) (K:Nat) (r:Int),p.deep+2<=K->(p.deep:Int)<=r->p.ok n m->run G T fu K 31 [p.D,.int r,tT rows]=some (.v (.bl true) false)
 | .fin w,0,r,h,_,_=>by have:(Pn.fin w).deep=0:=rfl;omega
 | .ask s c a b,0,r,h,_,_=>by omega
 | .fin w,1,r,h,_,_=>by have:(Pn.fin w).deep=0:=rfl;omega
 | .ask s c a b,1,r,h,_,_=>by have:(Pn.ask s c a b).deep=1+max a.deep b.deep:=rfl;omega
 | .fin w,K+2,r,_,L,ok=>by
  rw[p7 (fd:=dN) rfl rfl];unfold dN;have R:(0:Int)<=r:=L
  let D:ge Sv:=m7 4 [(Pn.fin w).D,.int r,tT rows]
  let F:=run G T fu (K+1)
  have e:evE G F (.var 0) D=some (.ok (Pn.fin w).D .strong):=f6 rfl;have P:evE G F (.or [.not (.isi (.var 0) ["tuple"]),.cmp .Lt (.var 1) (.int 0)]) D=some (.ok KI .strong):=(by refine or_f (cx:=.strong) rfl (or_1 ?_);rw[b_lt (f6 (n:=1) (d:=.int r) rfl) i5,E3 JA]);have E:evE G F (JN 0 1) D=some (.ok (.int w) .strong):=q5 (cx:=.strong) e i5 rfl;have S:evE G F (.chain .LtE .LtE (.int 0) (JN 0 1) (.int 9)) D=some (.ok (.bl true) .strong):=by
   show Re.thn (evE G F (.int 0) D) (λ x _=>Re.thn (evE G F (JN 0 1) D) λ y _=>match cmpD .LtE x y with
    | none=>none
    | some false=>some (JT (.bl false))
    | some true=>Re.thn (evE G F (.int 9) D) λ z _=>(cmpD .LtE y z).map λ k=>.ok (.bl k) .strong)=_
   rw[E];show(match some (decide ((0:Int)<=w))with
    | none=>none
    | some false=>some (Re.ok KI .strong)
    | some true=>(some (decide (w<=9))).map λ k=>.ok (.bl k) .strong)=_
   rw[C5 ok.1,C5 ok.2];rfl
  have C:=k6 (f:=24) (g8 E k9) rfl (mD (fu:=fu) (k:=K) (x:=w));exact t4 (v5 (o6 P) (gf (o6 (x:=true) (cl:=.strong) rfl) (p8 (v3 (V2 (G0 (p0 (p:=.fin w) e) M2 q_ee) (V2 C (aI S)))))))
 | .ask s c a b,K+2,r,hK,L,ok=>by
  rw[p7 (fd:=dN) rfl rfl];unfold dN;have hd:(Pn.ask s c a b).deep=1+max a.deep b.deep:=rfl;obtain⟨c0,X,A,v⟩:=ok
  let D (u:Sv):ge Sv:=[.val (Pn.ask s c a b).D,.val (.int r),.val Lq,u]
  let F:=run G T fu (K+1)
  have e:∀u,evE G F (.var 0) (D u)=some (.ok (Pn.ask s c a b).D .strong):=λ u=>f6 rfl;have l:∀u,evE G F (.var 2) (D u)=some (.ok Lq .strong):=λ u=>f6 rfl;have C:=k6 (f:=24) (g8 (p2 (e .no)) k9) rfl (mD (fu:=fu) (k:=K) (x:=(c:Int)));have O:evE G F (.or [.cmp .NotEq (Km 0) (.int 5),.cmp .NotEq (.ix (.var 0) (.int 0)) (.str "ask"),.cmp .NotIn (JN 0 1) (.tup [.str "row",.str "column"]),.not (.call 24 [.ix (.var 0) (.int 2)])]) (D .no)=some (.ok KI .strong):=
   or_f (cx:=.strong) rfl (or_f (G0 (p0 (p:=.ask s c a b) (e _)) M2 q_na) (or_f (G0 (p1 (e _)) rfl (q_in s)) (or_1 (R7 C))))
  obtain⟨N,q⟩:∃N:Nat,N=(if s then n else m):=KD;have N8:N<=8:=by rw[q];split<;>assumption
  rw[←q]at X;have rest:evSs G F fu [.iff (.or [.cmp .Lt (JN 0 2) (.int 1),.cmp .GtE (JN 0 2) (Lh (.var 3))]) [.ret KI] [],.ret (.and [.call 31 [.ix (.var 0) (.int 3),.bin .Sub (.var 1) (.int 1),.var 2],.call 31 [.ix (.var 0) (.int 4),.bin .Sub (.var 1) (.int 1),.var 2]])] (D (Kb (N:Int)))=some (.rt (.bl true) false):=by
   have M:evE G F (.or [.cmp .Lt (JN 0 2) (.int 1),.cmp .GtE (JN 0 2) (Lh (.var 3))]) (D (Kb (N:Int)))=some (.ok KI .strong):=by
    refine or_f (cx:=.strong) ?_ (or_1 ?_)
    ·rw[b_lt (p2 (e _)) i5,E3 JA]
    ·rw[b_ge (p2 (e _)) (io (f6 (n:=3) (d:=.int (N:Int)) rfl) JA),E3 JA]
   have r1:=bt (G:=G) (F:=F) (δ:=D (Kb (N:Int))) (f6 (n:=1) (d:=.int r) rfl) (i5 (i:=1));have W:=k6 (f:=31) (g8 (p3 (e (Kb (N:Int)))) (g8 r1 (g8 (l _) k9))) rfl (iG o B I J a (K+1) (r - 1) JA JA A);have U:=k6 (f:=31) (g8 (p4 (e (Kb (N:Int)))) (g8 r1 (g8 (l _) k9))) rfl (iG o B I J b (K+1) (r - 1) JA JA v);exact v5 (o6 M) (p8 (v3 (V2 W (aI U))))
  have Q:=o9 (fu:=fu) (i:=3) (lenT o (l .no)) rfl;have H:=o6 (G0 (p1 (e (Kb (n:Int)))) (M2 (x:="column")) (wH s));refine t4 (v5 (o6 ((by refine or_f rfl (or_1 ?_);rw[b_lt (f6 rfl) i5,E3 JA]))) (v5 (o6 (x:=false) (cl:=.strong) rfl) (v5 (o6 O) (k8 Q ?_))));cases s with
  | true=>
   have g:N=n:=q;rw[g]at rest;exact v5 H rest
  | false=>
   have g:N=m:=q;rw[g]at rest;exact R6 H (k8 (o9 (nh o B (l _)) rfl) rfl) rest
theorem wJ(q:Ks)(y:0<n)(n8:n<=8)(m8:m<=8){p:Pn}(h:p.deep<fu)(w:∀i j,i<n->j<m->p.rch i j=mf rows i j):run G T fu (k+2) 34 [p.D,tT rows]=some (.v (.bl true) false):=by
 rw[p7 rfl rfl];unfold ue
 let D (u v:Sv):ge Sv:=[.val p.D,.val Lq,u,v]
 let F:=run G T fu (k+1)
 have o:∀u v,evE G F (.var 1) (D u v)=some (.ok Lq .strong):=λ u v=>f6 rfl;refine t4 (zS (cl:=.fresh) (iy (lenT q (o .no .no)) JA) (.inr rfl) (jY (I:=λ a=>∃u v,a=D u v) (λ d hd a ⟨u,v,e⟩=>?_) KW) λ a ⟨u,v,e⟩=>by subst e;exact p8 rfl);subst e;obtain⟨i,g,rfl⟩:=i4.mp hd;have g:=q9.mp g;obtain⟨b,z,v',rfl⟩:=jY (I:=λ a=>∃v,a=D (Kb (i:Int)) v) (tg:=.one 3) (body:=λ b=>evSs G F fu [.iff (.cmp .NotEq (.call 30 [.var 0,.var 2,.var 3]) (.ix (JQ 1 (.var 2)) (.var 3))) [.ret KI] []] b) (ds:=(JY m).map λ (j:Nat)=>DV.int (j:Int)) (λ d hd a ⟨v,e⟩=>by
  subst e;obtain⟨j,c,rfl⟩:=i4.mp hd;have c:=q9.mp c;have x:=k6 (G:=G) (F:=F) (δ:=D (Kb (i:Int)) (Kb (j:Int))) (f:=30) (es:=[.var 0,.var 2,.var 3]) (l:=[(p.D,.strong),(LF (i:Int)),(LF (j:Int))]) rfl rfl (IV (k:=k) h);have r:=HP (F:=F) (δ:=D (Kb (i:Int)) (Kb (j:Int))) (HN q) (o _ _) (f6 (n:=2) (d:=.int (i:Int)) rfl) (f6 (n:=3) (d:=.int (j:Int)) rfl) g c;have ne:=b_ne x r;rw[show(p.rch i j != at2 rows i j)=false by rw[w i j g c];exact eV _]at ne;exact⟨_,D _ _,rfl,v5 (o6 ne) rfl,_,rfl⟩) ⟨v,rfl⟩
 exact⟨D (Kb (i:Int)) v,_,rfl,X1 (cl:=.fresh) (iy (nh q y (o _ _)) JA) (.inr rfl) z rfl,_,_,rfl⟩
end k22
end
noncomputable section
namespace k22
open PySem L2
variable {fu k:Nat} {F:Nat->ge DV->Ji Ou} {δ:ge Sv} {ds:ge DV} {cl:Cl} {n m:Nat} {rows:ge (ge Int)}
noncomputable def rv(rows:JW):ge (ge Int):=rows.reverse.map List.reverse
theorem IW:rv (rv rows)=rows:=by
 unfold rv;rw[←aW,List.reverse_reverse,p9];have:(List.reverse ∘ List.reverse:ge Int->ge Int)=id:=by funext x;simp
 rw[this,List.map_id]
theorem IX:(rv rows).length=rows.length:=by unfold rv;rw[g6,bX]
theorem IY(b:Ks):Rect n m (rv rows):=by
 refine⟨by rw[IX];exact b.1,λ r c=>?_⟩;obtain⟨r',a,rfl⟩:=i4.mp c;rw[bX];exact b.2 _ (V7.mp a)
theorem IZ(b:Ks)(hi:i<n)(hj:j<m):mf (rv rows) i j=mf rows (n - 1 - i) (m - 1 - j):=by
 have d:=b.1;have a:n - 1 - i<rows.length:=by omega
 unfold mf rv;rw[o8 (i:=i),p5,eG JA,d,o8 (l:=rows),k7 a];have c:=b.2 _ (P0 a);show(rows[n - 1 - i]).reverse.getD j 0=(rows[n - 1 - i]).getD _ 0;rw[o8,eG JA,c,o8]
theorem mi{g:ge Int->ge Int}{L L':ge (ge Int)}(h:Few L)(q:∀r∈L',∃s∈L,r=g s):Few L':=by
 obtain⟨S,h1,h2⟩:=h;refine⟨S.map g,by rw[g6];exact h1,λ r hr=>?_⟩;obtain⟨s,hs,rfl⟩:=q r hr;exact i4.mpr ⟨s,h2 s hs,rfl⟩
theorem Ja(b:Ks)(hj:j<m):col (rv rows) j=(col rows (m - 1 - j)).reverse:=by
 unfold col rv;rw[←aW,p9];refine L0 λ r a=>?_
 have a:=b.2 _ (V7.mp a);show r.reverse.getD j 0=r.getD _ 0;rw[o8,eG JA,a,o8]
theorem Jb(t:Tk n m rows):Tk n m (rv rows):=by
 refine⟨t.n0,t.n8,t.m0,t.m8,IY t.R,mi (g:=List.reverse) t.fr λ r a=>?_,mi (g:=List.reverse) t.fc λ r a=>?_,λ r a x d=>?_⟩
 ·obtain⟨s,b,rfl⟩:=i4.mp a;exact⟨s,V7.mp b,rfl⟩
 ·obtain⟨j,c,rfl⟩:=i4.mp a;have c:=q9.mp c;exact⟨col rows _,i4.mpr ⟨_,q9.mpr JA,rfl⟩,Ja t.R c⟩
 ·obtain⟨s,b,rfl⟩:=i4.mp a;exact t.w9 s (V7.mp b) x (V7.mp d)
theorem wK(h:JC e c (.tup ds)):evE G F (.rev e) δ=some (.ok (.tup ds.reverse) c.item):=by
 show Re.thn _ _=_;rw[h];rfl
theorem Jc(h:δ[i]? = some (.val Lq))(a:rows.length<=8):evE G F (.bi .tuple [.comp (.rev (.var 0)) (.one 0) (.rev (.var i)) [none]]) δ=some (.ok (tT (rv rows)) .strong):=by
 have w:r6 (JP (.rev (.var i)))=some (.ok (rows.reverse.map λ r=>DV.tup (iD r)) .strong):=(by rw[(wK (f6 h)),aW];rfl);have o:=G2 (F:=F) (elt:=.rev (.var 0)) (tg:=.one 0) (fr:=[none]) (f:=λ r=>DV.tup (iD r.reverse)) w JB (by rw[bX];exact i7 a JB) (λ r hr=>⟨[.val (.tup (iD r))],.strong,rfl,(wK (c:=.strong) (ds:=iD r) (f6 rfl)).trans (by unfold iD;rw[aW];rfl),rfl⟩);have t:=bJ o;have e:(rows.reverse.map λ r=>DV.tup (iD r.reverse))=(rv rows).map λ r=>DV.tup (iD r):=by unfold rv;rw[p9];rfl
 rw[e]at t;exact t
theorem Jd(k1:i<(JV).length)(k2:j<(FI JJ).length):mf KZ i j=mf rows JV[i] (FI JJ)[j]:=by
 unfold mf rst sub;rw[o8 (i:=i),p5,k7 k1];show(List.map _ _).getD _ 0=_;rw[o8,p5,k7 k2];rfl
theorem V_rv(t:Tk n m rows){p:Pn}(e:∀i j,i<n->j<m->p.rch i j=mf (rv rows) i j):V (mf KZ) (2^(JV).length - 1) (2^(FI JJ).length - 1)<=p.deep:=by
 have q1:=i7 (by decide:2<=2^1) (O6 JB (Q2 (by rw[t.R.1];exact t.n0)));have q2:2<=2^(FI JJ).length:=i7 (by decide:2<=2^1) (O6 JB (Q2 (by rw[Q3];exact t.m0)));refine V_le (φ:=λ i=>n - 1 - (JV).getD i 0) (ψ:=λ j=>m - 1 - (FI JJ).getD j 0) (λ i j d c=>bM (iB (m:=m) (rows:=rows)) (nu t.R t.w9) d c) (S9 t.fr) (S9 t.fc) p _ _ JA JA JA JA λ i d j c=>?_;have b:i<(JV).length:=M9 JA d;have a:j<(FI JJ).length:=M9 JA c;have f1:JV[i]<n:=by have:=Y8 (P0 b);rw[t.R.1]at this;exact this
 have f2:(FI JJ)[j]<m:=by have:=Y8 (P0 a);rw[Q3]at this;exact this
 have n0:=t.n0;have m0:=t.m0;rw[o8,k7 b,o8,k7 a];show p.rch (n - 1 - JV[i]) (m - 1 - (FI JJ)[j])=_;rw[e _ _ JA JA,IZ t.R JA JA,Jd b a]
 congr 1<;>omega
theorem nB(h:x.cps.all (· < 0x110000)=true)(N:Nat):DV.plain N (.str x)=true:=by cases N<;>(unfold DV.plain;exact h)
theorem Je(s:Bool)(N:Nat):DV.plain N (sd s)=true:=by cases s<;>exact nB KA N
theorem pl_P:∀(p:Pn) (N:Nat),p.deep<N->DV.plain N p.D=true
 | p,0,h=>absurd h (cn _)
 | .fin w,N+1,_=>by show(DV.plain N _&&(DV.plain N _&&true))=true;rw[uo,nB KA];rfl
 | .ask s c n y,N+1,h=>by have hd:1+max n.deep y.deep<N+1:=h;show(DV.plain N _&&(DV.plain N (sd s)&&(DV.plain N _&&(DV.plain N n.D&&(DV.plain N y.D&&true)))))=true;rw[uo,pl_P n N JA,pl_P y N JA,Je,nB KA];rfl
theorem nC:∀p:Pn,deq p.D p.D=true
 | .fin w=>by show(decide (("end" : Str) = "end")&&((w==w)&&true))=true;rw[Q5];decide +kernel
 | .ask s c n y=>by show(decide (("ask" : Str) = "ask")&&(deq (sd s) (sd s)&&((_==_)&&(deq n.D n.D&&(deq y.D y.D&&true)))))=true;rw[Q5,nC n,nC y];cases s<;>decide +kernel
theorem eq_P{p:Pn}(h:p.deep<=8):cmpD .Eq p.D p.D=some true:=by
 show(if(p.D.plain 60&&p.D.plain 60)=true then some (deq p.D p.D)else none)=_;rw[pl_P p 60 JA,nC];rfl
noncomputable def Pn.fi:Pn->Bool
 | .fin _=>true
 | _=>false
def Pn.hd:Pn->Str
 | .fin _=>"end"
 | _=>"ask"
theorem fi_z:∀p:Pn,cmpD .NotEq (.bl (p.deep==0)) (.bl p.fi)=some false
 | .fin w=>rfl
 | .ask s c a b=>by rw[show((Pn.ask s c a b).deep==0)=false from z8.mpr (by show 1+max a.deep b.deep≠0;omega)];rfl
theorem fi_h:∀p:Pn,cmpD .Eq (.str p.hd) (.str "end")=some p.fi
 | .fin w=>q_ee
 | .ask s c a b=>q_ae
theorem fi_x:∀p:Pn,ixD p.D (.int 0)=some (.str p.hd)
 | .fin w=>rfl
 | .ask s c a b=>rfl
theorem Jf(y:ge Int)(Y:y.length<=63):run G T 100 60 36 [.scr y]=some (.v (.bl true) false):=by
 obtain⟨n,m,g,t,e1⟩:=Ik (fu:=100) (k:=56) y Y;have o:=Jb t;have u:=t.n0;have z:=t.n8;have J:=t.m0;have A:=t.m8;obtain⟨p,ok,e2⟩:=wG (fu:=100) (k:=41) t.R t.w9 u J z A (S9 t.fr) (S9 t.fc);obtain⟨q,h,e5⟩:=wG (fu:=100) (k:=41) o.R o.w9 u J z A (S9 o.fr) (S9 o.fc);have e3:=vU (fu:=100) (k:=50) g n m t.R t.w9 u JA J JA (S9 t.fr) (S9 t.fc);have K:=vU (fu:=100) (k:=50) (rv g) n m o.R o.w9 u JA J JA (S9 o.fr) (S9 o.fc);rw[←ok.deep]at e3;rw[←h.deep]at K;have le1:p.deep<=q.deep:=by rw[ok.deep];exact V_rv t h.to
 have le2:q.deep<=p.deep:=by rw[h.deep];exact V_rv o (by rw[IW];exact ok.to)
 have H:q.deep=p.deep:=by omega
 rw[H]at K;have f1:=ok.few;have f2:=h.few;have ip:=iG (fu:=100) t.R u z A p 59 12 JA JA ok.ok;have iq:=iG (fu:=100) o.R u z A q 59 12 JA JA h.ok;have sp:=wJ (fu:=100) (k:=57) t.R u z A (p:=p) JA ok.to;have sq:=wJ (fu:=100) (k:=57) o.R u z A (p:=q) JA h.to;have dp:=iF (fu:=100) p 59 JA;have L:=iF (fu:=100) q 59 JA;rw[H]at L;obtain⟨v1,c1⟩:=mE (fu:=100) (k:=58) y 1;obtain⟨n',m',N,n3,W,m3,X,R',a0,e7⟩:=Im (fu:=100) (k:=58) v1;have rf:=IU (fu:=100) (k:=58) (IT (fu:=100) (k:=50) R' JA W X a0);rw[p7 (fd:=hZ) rfl rfl];unfold hZ
 let F:=run G T 100 59
 have I:=eq_P f1;have O:=fi_z p;have w:=fi_h p;have M:=fi_x p;obtain⟨fnp,Z⟩:∃b,p.fi=b:=KD;obtain⟨st0,E⟩:∃b,p.hd=b:=KD;rw[Z]at O w;rw[E]at w M;obtain⟨P,hP⟩:∃d,p.D=d:=KD;obtain⟨Q,hQ⟩:∃d,q.D=d:=KD;obtain⟨r,hV⟩:∃v,p.deep=v:=KD;rw[hP]at e2 ip sp dp I M;rw[hQ]at e5 iq sq L;rw[hV]at e3 K dp L O;have l8:g.length<=8:=by rw[t.R.1];exact z
 let D (a b c d e:Sv):ge Sv:=[.val (.scr y),a,b,c,d,e]
 have s1:=k6 (G:=G) (F:=F) (δ:=D .no .no .no .no .no) (f:=28) (es:=[.var 0,.int 2]) (l:=[(.scr y,.strong),(LF 2)]) rfl rfl e1;have s2:=k6 (G:=G) (F:=F) (δ:=D (.val (tT g)) .no .no .no .no) (f:=20) (es:=[.var 1]) (l:=[(tT g,.strong)]) rfl rfl e2;have s3:=k6 (G:=G) (F:=F) (δ:=D (.val (tT g)) (.val P) .no .no .no) (f:=19) (es:=[.var 1]) (l:=[(tT g,.strong)]) rfl rfl e3
 let C:=D (.val (tT g)) (.val P) (Kb (r:Nat)) .no .no
 have a1:=k6 (G:=G) (F:=F) (δ:=C) (f:=31) (es:=[.var 2,.int 12,.var 1]) (l:=[(P,.strong),(LF 12),(tT g,.strong)]) rfl rfl ip;have a2:=k6 (G:=G) (F:=F) (δ:=C) (f:=34) (es:=[.var 2,.var 1]) (l:=[(P,.strong),(tT g,.strong)]) rfl rfl sp;have a3:=k6 (G:=G) (F:=F) (δ:=C) (f:=24) (es:=[.var 3]) (l:=[(LF (r:Nat))]) rfl rfl (mD (fu:=100) (k:=58) (x:=(r:Nat)));have U:=or_f (R7 a1) (or_f (R7 a2) (or_1 (R7 a3)));have b1:=b_ne (k6 (G:=G) (F:=F) (δ:=C) (f:=32) (es:=[.var 2]) (l:=[(P,.strong)]) rfl rfl dp) (f6 (n:=3) (d:=.int (r:Nat)) rfl);rw[eV]at b1;have b2:evE G F (.cmp .NotEq (.cmp .Eq (.var 3) (.int 0)) (.cmp .Eq (JN 2 0) (.str "end"))) C=some (.ok KI .strong):=G0 (iz (j:=0) (f6 (n:=3) (d:=.int (r:Nat)) rfl) i5) (G0 (q5 (cx:=.strong) (f6 (n:=2) (d:=P) rfl) i5 M) M2 w) O;have S:=or_f b1 (or_1 b2);have s4:=Jc (F:=F) (δ:=C) (i:=1) (rows:=g) rfl l8;have s5:=k6 (G:=G) (F:=F) (δ:=D (.val (tT g)) (.val P) (Kb (r:Nat)) (.val (tT (rv g))) .no) (f:=20) (es:=[.var 4]) (l:=[(tT (rv g),.strong)]) rfl rfl e5
 let B:=D (.val (tT g)) (.val P) (Kb (r:Nat)) (.val (tT (rv g))) (.val Q)
 have a4:=k6 (G:=G) (F:=F) (δ:=B) (f:=31) (es:=[.var 5,.int 12,.var 4]) (l:=[(Q,.strong),(LF 12),(tT (rv g),.strong)]) rfl rfl iq;have a5:=k6 (G:=G) (F:=F) (δ:=B) (f:=34) (es:=[.var 5,.var 4]) (l:=[(Q,.strong),(tT (rv g),.strong)]) rfl rfl sq;have b3:=b_ne (k6 (G:=G) (F:=F) (δ:=B) (f:=32) (es:=[.var 5]) (l:=[(Q,.strong)]) rfl rfl L) (f6 (n:=3) (d:=.int (r:Nat)) rfl);rw[eV]at b3;have R:=or_f (R7 a4) (or_f (R7 a5) (or_1 b3));have g1:=k6 (G:=G) (F:=F) (δ:=B) (f:=25) (es:=[.var 0,.int 1]) (l:=[(.scr y,.strong),(LF 1)]) rfl rfl c1;have g2:=k6 (f:=29) (g8 g1 k9) rfl e7;have g3:=R7 (k6 (f:=35) (g8 g2 k9) rfl rf);have z1:=G0 (k6 (G:=G) (F:=F) (δ:=B) (f:=20) (es:=[.var 1]) (l:=[(tT g,.strong)]) rfl rfl e2) (f6 (n:=2) (d:=P) rfl) I;have z2:=iz (k6 (G:=G) (F:=F) (δ:=B) (f:=19) (es:=[.var 4]) (l:=[(tT (rv g),.strong)]) rfl rfl K) (f6 (n:=3) (d:=.int (r:Nat)) rfl);rw[Q5]at z2;have stP:stro P .strong=true:=rfl;exact t4 (k8 (o9 s1 rfl) (k8 (o9 s2 rfl) (k8 (o9 s3 rfl) (v5 (o6 U) (v5 (o6 S) (k8 (o9 s4 rfl) (k8 (o9 s5 rfl) (v5 (o6 R) (v5 (o6 g3) (p8 (v3 (V2 z1 (aI z2)))))))))))))
end k22
end
noncomputable section
namespace k22
open PySem PySem.W L2 PySem.Spec PyProof.Rows
theorem lnS(h:b.length=n+1):∃a r,b=a::r/\r.length=n:=by cases b with | nil=>cases h | cons a r=>exact⟨a,r,rfl,Nat.succ.inj h⟩
theorem ln0(h:a.length=0):a=[]:=Z3.mp h
theorem ln1{α:Type}{us:ge α}(h:us.length=1):∃a0,us=[a0]:=by obtain⟨_,_,rfl,h0⟩:=lnS h;obtain rfl:=ln0 h0;exact KD
theorem ln2{α:Type}{us:ge α}(h:us.length=2):∃a0 a1,us=[a0,a1]:=by obtain⟨_,_,rfl,h0⟩:=lnS h;obtain⟨_,_,rfl,h1⟩:=lnS h0;obtain rfl:=ln0 h1;exact KW
theorem ln3{α:Type}{us:ge α}(h:us.length=3):∃a0 a1 a2,us=[a0,a1,a2]:=by obtain⟨_,_,rfl,h0⟩:=lnS h;obtain⟨_,_,rfl,h1⟩:=lnS h0;obtain⟨_,_,rfl,h2⟩:=lnS h1;obtain rfl:=ln0 h2;exact⟨_,_,_,rfl⟩
def fn:ge Str:=fnl
def bl:ge Str:=bll
def cl:ge Str:=cll
theorem ok15:okD fn bl cl mw ["no","yes"] ["no","yes"] (top 24)=true:=by decide +kernel
theorem ok36:okD fn bl cl hZ ["_law_script","_law_table_here","_law_plan","_law_many","_law_other","_law_behind"] ["_law_script"] (top 47)=true:=by decide +kernel
abbrev ck(P:Params)(x:Str)(f:Jl)(i:Nat)(dV pm:Jj)(cd:Jl):Prop:=(nsIn (kK P) mainGlobals x,(kK P).lookup f,codeIn (kK P) (JR cd) x,keepIn (kK P) (.ref f))=(some (KP f),some (fo x i dV pm cd),true,true)
theorem ck4{P:Params}{x:Str}{f:Jl}{i:Nat}{dV pm:Jj}{cd:Jl}(q:ck P x f i dV pm cd):nsIn (kK P) mainGlobals x=some (KP f)/\(kK P).lookup f=some (fo x i dV pm cd)/\codeIn (kK P) (JR cd) x=true/\keepIn (kK P) (.ref f)=true:=by
 obtain⟨a,b⟩:=Prod.mk.inj q;obtain⟨b,c⟩:=Prod.mk.inj b;exact⟨a,b,Prod.mk.inj c⟩
theorem kN(P:Params):((kK P).map (·.1)).Nodup:=by rw[show(kK P).map (·.1)=kA by kernel_rfl];decide +kernel
theorem kM(P:Params):((x4 (kK P)).map (·.1)).Nodup:=by rw[show(x4 (kK P)).map (·.1)=[16,72,77,84,91,96,101,106,113,120,127,134,141,148,153,160,167,172,177,182,189,196,203,208,213,220,227,234,239,244,249,256,263,277,284,291] by kernel_rfl];decide +kernel
theorem zz(P:Params):bl.map (nsIn (kK P) mainGlobals)=bl.map λ _=>some none:=by kernel_rfl
abbrev pm0:Jj:=(.str "talkleast.checks" 187)
abbrev pm1:Jj:=Kw
abbrev pm2:Jj:=Lg
abbrev pm3:Jj:=(.str "talkleast.least" 397)
abbrev pm4:Jj:=JU
theorem sk{w:Jp}{h:Jm}{mg:Str->Ji Jj}{x:Str}(f:Jl)(i:Nat){d:FD}(pm:Jj)(N ps:ge Str)(X:(kK w.params).In h)(Ns:h.Ns mainGlobals mg)(ok:okD fn bl cl d N ps (top i)=true:=by decide +kernel)(q:ck w.params x f i .none pm (f - 1):=by kernel_rfl)(hb:∀(kV doc pm:Jj) (an:Ji Jl) (cdv ct:Jj) (us:ge Jj),us.length=ps.length->bindArgs (fnOf x x (P1 (top i)) (G5 (top i)) (u6 (top i)) .none kV doc pm an cdv ct) ⟨us,[]⟩=pure (ps.zip us):=by(intro _ _ _ _ _ _ us hl;first | (obtain⟨_,rfl⟩:=ln1 hl;rfl) | (obtain⟨_,_,rfl⟩:=ln2 hl;rfl) | (obtain⟨_,_,_,rfl⟩:=ln3 hl;rfl)))(dq:dqB x (u6 (top i)).names=true:=by decide +kernel):Stands (kK w.params) mg fn bl cl d x f (fnOf x x (P1 (top i)) (G5 (top i)) (u6 (top i)) .none .none .none pm none (JR (f - 1)) .none) ps:=by
 obtain⟨a,l,c,k⟩:=ck4 q;exact mr X Ns ok a l c k hb dq
open PySem.W
theorem all_mk{l:OpenLaw}{w:Jp}{h:Jm}{mg:Str->Ji Jj}{fa:Jl}(X:(kK w.params).In h)(Ns:h.Ns mainGlobals mg)(hfa:mg "law" = some (JR fa)):∃fd:Jt,(∀(s:Jk) (v:Jj),BindsTo s fd ⟨[v],[]⟩ [("_law_script",v)])/\∀base:Jm,(kK w.params).In base->base.Ns mainGlobals mg->FnOk l.prog w (kK w.params) mg base CX0 60 fa fd ["_law_script"] (spS (kK w.params)):=by
 obtain⟨a15,l15,c15,k15⟩:=ck4 (P:=w.params) (x:="joined_bits") (f:=165) (i:=24) (dV:=.none) (pm:=Lg) (cd:=164) LB;have S15:=mr X Ns ok15 a15 l15 c15 k15 λ _ _ _ _ _ _ us hl=>by obtain⟨_,_,rfl⟩:=ln2 hl;rfl
 obtain⟨a36,l36,c36,k36⟩:=ck4 (P:=w.params) (x:="law") (f:=294) (i:=47) (dV:=.none) (pm:=JU) (cd:=293) LB;have S36:=mr X Ns ok36 a36 l36 c36 k36 λ _ _ _ _ _ _ us hl=>by obtain⟨_,rfl⟩:=ln1 hl;rfl
 have e:=hfa.symm.trans (mg_of X Ns a36);cases e;have HX:XFacts (kK w.params) mg G cl:=by
  have xa0:nsIn (kK w.params) mainGlobals "TalkError" = some (some (JR 31)):=by kernel_rfl
  have xa1:nsIn (kK w.params) mainGlobals "NoTable" = some (some (JR 44)):=by kernel_rfl
  have xa2:nsIn (kK w.params) mainGlobals "NoCard" = some (some (JR 56)):=by kernel_rfl
  have xa3:nsIn (kK w.params) mainGlobals "TooGreat" = some (some (JR 68)):=by kernel_rfl
  refine⟨hW ⟨31,mg_of X Ns xa0,by constructor<;>kernel_rfl,Kt,(H9 (t:="TalkError") (Ct:=31) (mg_of X Ns xa0) ⟨by kernel_rfl,by kernel_rfl⟩ JM),by kernel_rfl⟩ (hW ⟨44,mg_of X Ns xa1,by constructor<;>kernel_rfl,Kt,(H9 (t:="TalkError") (Ct:=31) (mg_of X Ns xa0) ⟨by kernel_rfl,by kernel_rfl⟩ JM),by kernel_rfl⟩ (hW ⟨56,mg_of X Ns xa2,by constructor<;>kernel_rfl,Kt,(H9 (t:="TalkError") (Ct:=31) (mg_of X Ns xa0) ⟨by kernel_rfl,by kernel_rfl⟩ JM),by kernel_rfl⟩ (hW ⟨68,mg_of X Ns xa3,by constructor<;>kernel_rfl,Kt,(H9 (t:="TalkError") (Ct:=31) (mg_of X Ns xa0) ⟨by kernel_rfl,by kernel_rfl⟩ JM),by kernel_rfl⟩ (GP)))),all_cons ⟨_,mg_of X Ns xa0⟩ (all_cons ⟨_,mg_of X Ns xa1⟩ (all_cons ⟨_,mg_of X Ns xa2⟩ (all_cons ⟨_,mg_of X Ns xa3⟩ (GQ))))⟩
 have HC:∀x d,G.con.lookup x=some d->∃u v,mg x=some u/\RelV v u/\∀H,Rep ⟨kK w.params,mg⟩ H d v:=by
  intro x d h;have g0:nsIn (kK w.params) mainGlobals "SMALL_LINES" = some (some (.int 5 268)):=by kernel_rfl
  exact tJ ⟨_,.int _,mg_of X Ns g0,KD,λ H=>A2.mpr rfl⟩ (tJ ⟨_,.ref _,S15.mg,rfl,λ H=>lq.mpr ⟨_,rfl,S15.mg⟩⟩ (GO)) x d h
 have HSS:HS (kK w.params) mg fn bl cl T fn:=(t7 (sk 21 1 pm0 ["thing","least","most"] ["thing","least","most"] X Ns) (t7 (Lm 75 9 pm1) (t7 (sk 82 10 pm1 ["table","rows","columns"] ["table","rows","columns"] X Ns) (t7 (sk 89 11 pm1 ["cards","size"] ["cards","size"] X Ns) (t7 (sk 94 12 pm1 ["cards"] ["cards"] X Ns) (t7 (sk 99 13 pm1 ["table","rows","columns"] ["table","rows","columns"] X Ns) (t7 (Lm 104 14 pm1) (t7 (Lm 111 15 pm1) (t7 (Lm 118 16 pm1) (t7 (sk 125 17 pm1 ["table","rest"] ["table"] X Ns) (t7 (Lm 132 18 pm1) (t7 (sk 139 19 pm1 ["table","words","row"] ["table"] X Ns) (t7 (Lm 146 21 pm2) (t7 (sk 151 22 pm2 ["numbers"] ["numbers"] X Ns) (t7 (Lm 158 23 pm2) (t7 S15 (t7 (sk 170 25 pm2 ["table","ground","joined","rest","numbers","rows","columns","ways"] ["table","ground","joined"] X Ns) (t7 (sk 175 26 pm2 ["rows","columns","by_rows","by_columns"] ["rows","columns"] X Ns) (t7 (sk 180 27 pm2 ["cards"] ["cards"] X Ns) (t7 (Lm 187 29 pm3) (t7 (Lm 194 30 pm3) (t7 (sk 201 31 pm3 ["table","numbers","joined","rest","own","plan_of"] ["table","numbers","joined"] X Ns) (t7 (sk 206 32 pm3 ["kinds"] ["kinds"] X Ns) (t7 (sk 211 33 pm3 ["cards","sets"] ["cards","sets"] X Ns) (t7 (sk 218 35 pm4 ["_law_found"] ["_law_found"] X Ns) (t7 (sk 225 36 pm4 ["_law_script","_law_k"] ["_law_script","_law_k"] X Ns) (t7 (sk 232 37 pm4 ["_law_cell","_law_many","_law_found","_law_number","_law_k"] ["_law_cell","_law_many"] X Ns) (t7 (sk 237 38 pm4 ["_law_script","_law_start","_law_xs","_law_most","_law_many","_law_wide","_law_top","_law_words","_law_k","_law_rows"] ["_law_script","_law_start","_law_xs"] X Ns) (t7 (sk 242 39 pm4 ["_law_script","_law_start","_law_xs","_law_rows","_law_k","_law_at","_law_there"] ["_law_script","_law_start"] X Ns) (t7 (sk 247 40 pm4 ["_law_cell","_law_many","_law_rows"] ["_law_cell"] X Ns) (t7 (sk 254 41 pm4 ["_law_plan","_law_row","_law_column","_law_card"] ["_law_plan","_law_row","_law_column"] X Ns) (t7 (sk 261 42 pm4 ["_law_plan","_law_room","_law_table_here","_law_many"] ["_law_plan","_law_room","_law_table_here"] X Ns) (t7 (sk 268 43 pm4 ["_law_plan"] ["_law_plan"] X Ns) (t7 (sk 21 1 pm0 ["thing","least","most"] ["thing","least","most"] X Ns) (t7 (sk 282 45 pm4 ["_law_plan","_law_table_here","_law_r","_law_c"] ["_law_plan","_law_table_here"] X Ns) (t7 (sk 289 46 pm4 ["_law_table_here","_law_caught","error"] ["_law_table_here"] X Ns) (t7 S36 GM)))))))))))))))))))))))))))))))))))));refine⟨_,λ s v=>.of_eq rfl,λ base _ _=>GR (T:=T) (G:=G) (fu:=100) rfl HSS (λ x hx=>mg_none_of X Ns (List.map_inj_left.mp (zz _) x hx)) HX HC (i:=36) rfl rfl S36 (λ _=>⟨⟨rfl,rfl,rfl⟩,by decide,λ i d x qual st fa fd _ _ _ F=>GT (K:=kK w.params) LB F⟩) (by unfold T;repeat' (first | (refine List.forall_mem_cons.mpr ⟨?_,?_⟩) | exact Or.inl rfl | exact Or.inr rfl | exact λ _ h=>nomatch h)) Jf⟩
end k22
open PySem PySem.W PyProof.Rows
set_option maxRecDepth 100000 in
set_option maxHeartbeats 0 in
theorem PySem.Challenge.cw_talkleast_k22_least_plans_holds : PySem.Challenge.rw_talkleast_k22_least_plans.Holds := by
 refine holds_law LB λ said => ?_
 refine holds_open (q := k22.kQ) (loose := k22.kL) (Xt := λ s => xlAt k22.kQ [] s && recOk (RowW.records (OpenRow.toRowW (OpenLaw.row PySem.Challenge.rw_talkleast_k22_least_plans))) s) (XP := XL k22.kQ []) (Yf := (kHook k22.kAll k22.kB k22.kE).obs) (Ya := (kHook k22.kAll k22.kB k22.kE).val) (YP := (kHook k22.kAll k22.kB k22.kE).says) (N := 4028) k22.kLeft (kHook k22.kAll k22.kB k22.kE).of (kHook k22.kAll k22.kB k22.kE).keeps (λ s e => xl_of s (K0.mp e).1) XL.keeps (by rfl) (by rfl) (by rfl) (λ s e => recFacts_of (K0.mp e).2) (by rfl) said KA ⟨rfl, rfl, rfl, rfl, rfl, by decide +kernel⟩ ?hw ?hc
 case hw => w_witness2
 exact L2.walkE (l := PySem.Challenge.rw_talkleast_k22_least_plans) (k := 60) (p := "_law_script") rfl rfl ⟨rfl, by decide, by decide⟩ (λ w h Y => (L2.in_app (kIn_of Y) LB).1) (λ w h Y => ⟨L2.htb_of (T := k22.kT) (L2.in_app (kIn_of Y) LB).1 (L2.in_app (kIn_of Y) LB).2 (k22.kN _) LB, k22.kM _⟩) λ w mg fa h KX G hmg => k22.all_mk KX G hmg
end
